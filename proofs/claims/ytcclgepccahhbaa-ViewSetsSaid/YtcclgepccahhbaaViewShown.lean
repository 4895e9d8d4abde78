/- The example of chapter 12, at the head of each law; lists that are the same. -/
import Derived.Test.YtcclgepccahhbaaViewRefSet
import Derived.Test.YtcclgepccahhbaaRunFold
namespace Go.Proofs.Ytcclgepccahhbaa
set_option maxRecDepth 100000
open Go.RowKit Prm Vm
set_option linter.unusedVariables false
set_option linter.unusedSimpArgs false

theorem vshown_set1 : putW [] ⟨⟨#[97]⟩, ⟨#[]⟩, true⟩ = [⟨⟨#[97]⟩, ⟨#[]⟩, true⟩] := by decide
theorem vshown_set2 : putW [⟨⟨#[97]⟩, ⟨#[]⟩, true⟩] ⟨⟨#[98]⟩, ⟨#[50]⟩, false⟩ = [⟨⟨#[97]⟩, ⟨#[]⟩, true⟩, ⟨⟨#[98]⟩, ⟨#[50]⟩, false⟩] := by decide
theorem vshown_get : Vm.get [⟨⟨#[97]⟩, ⟨#[]⟩, true⟩] [⟨⟨#[97]⟩, ⟨#[49]⟩⟩] ⟨#[97]⟩ = (⟨#[]⟩, false) := by decide
theorem vshown_scan : range (apply [⟨⟨#[97]⟩, ⟨#[49]⟩⟩] [⟨⟨#[97]⟩, ⟨#[]⟩, true⟩, ⟨⟨#[98]⟩, ⟨#[50]⟩, false⟩]) ⟨#[]⟩ ⟨#[]⟩ 9 = [⟨⟨#[98]⟩, ⟨#[50]⟩⟩] := by decide

set_option maxHeartbeats 2000000 in
theorem vshown_any (w : World) : Calls Try.prog 10 #[] w fun e w' => e = .returned (.bool true) ∧ Q w w' := by
  have hB0 := Lib.hid (show In_ pairK (w.alloc (.cells #[.string ⟨#[97]⟩, .string ⟨#[49]⟩] 44)) (some ⟨w.heap.size, 0, none⟩) 1 1 [⟨⟨#[97]⟩, ⟨#[49]⟩⟩] from
    (OwnK.lit1 pairK w w.heap.size (Nat.le_refl _) ⟨⟨#[97]⟩, ⟨#[49]⟩⟩).in_ (by show 1 * 32 ≤ _; omega))
  have q0 := Lib.hid ((Q.refl w).alloc (.cells #[.string ⟨#[97]⟩, .string ⟨#[49]⟩] 44))
  go_enter Try.func10, Try.ntmps10
  go_upto_region 2 with (fail)
  generalize w.alloc (.cells #[.string ⟨#[97]⟩, .string ⟨#[49]⟩] 44) = W0 at hB0 q0 ⊢
  go_wp2_with fail
  refine (vset_any ⟨⟨#[97]⟩, ⟨#[]⟩, true⟩ none 0 0 [] _ (In_.none_ _ _) (by omega)).mono ?_
  rw [vshown_set1]
  rintro e w1 ⟨A1, c1, rfl, o1, q1⟩
  have I1 := Lib.hid (o1.in_ (by show 1 * 40 ≤ _; omega))
  have HB1 := Lib.hid (hB0.out.q q1)
  have Q1 := Lib.hid (q0.out.trans q1)
  clear o1 q1
  go_wp2_with fail
  refine (vget_any ⟨#[97]⟩ A1 (some ⟨w.heap.size, 0, none⟩) 1 c1 1 1 _ _ _ I1.out.lst I1.out.max HB1.out.lst HB1.out.max).mono ?_
  rw [vshown_get]
  rintro e w2 ⟨rfl, q2⟩
  have I2 := Lib.hid (I1.out.q q2)
  have HB2 := Lib.hid (HB1.out.q q2)
  have Q2 := Lib.hid (Q1.out.trans q2)
  clear q2
  go_wp2_with fail
  refine (vset_any ⟨⟨#[98]⟩, ⟨#[50]⟩, false⟩ A1 1 c1 _ _ I2.out (by omega)).mono ?_
  rw [vshown_set2]
  rintro e w3 ⟨A3, c3, rfl, o3, q3⟩
  have I3 := Lib.hid (o3.in_ (by show 2 * 40 ≤ _; omega))
  have HB3 := Lib.hid (HB2.out.q q3)
  have Q3 := Lib.hid (Q2.out.trans q3)
  clear o3 q3
  go_wp2_with fail
  refine (vscan_any ⟨#[]⟩ ⟨#[]⟩ 9 A3 (some ⟨w.heap.size, 0, none⟩) 2 c3 1 1 _ _ _ I3.out.lst HB3.out (by omega) (by omega)).mono ?_
  rw [vshown_scan]
  rintro e w4 ⟨A4, c4, rfl, o4, q4⟩
  obtain ⟨ad, rfl, hb, y0, y1⟩ := load_pair o4.lst (k := 0) (by simp) (by simp)
  have QQ := Lib.hid (Q3.out.trans q4)
  simp only [List.getElem_cons_zero, Nat.zero_mul] at y0 y1
  rw [show ad.add 0 = ad from rfl] at y0 y1
  clear q4 o4
  go_wp2
  go_ret
  exact ⟨rfl, QQ.out⟩

/-- a list is the same as itself. -/
theorem wsame (A B : Option Addr) (n c d : Nat) (l : List Wr) (w : World) (h1 : Lst writeK w A n l) (h2 : Lst writeK w B n l) (hn : n ≤ maxLen) :
    Calls Try.prog 11 #[.slice A n c, .slice B n d] w fun e w' => e = .returned (.bool true) ∧ Q w w' := by
  have := refWrites_any A B n c n d l l w h1 h2 hn hn
  rwa [show decide (l = l) = true from decide_eq_true rfl] at this
theorem psame (A B : Option Addr) (n c d : Nat) (l : List Pr) (w : World) (h1 : Lst pairK w A n l) (h2 : Lst pairK w B n l) (hn : n ≤ maxLen) :
    Calls Try.prog 20 #[.slice A n c, .slice B n d] w fun e w' => e = .returned (.bool true) ∧ Q w w' := by
  have := refSame_any A B n c n d l l w h1 h2 hn hn
  rwa [show decide (l = l) = true from decide_eq_true rfl] at this
end Go.Proofs.Ytcclgepccahhbaa
