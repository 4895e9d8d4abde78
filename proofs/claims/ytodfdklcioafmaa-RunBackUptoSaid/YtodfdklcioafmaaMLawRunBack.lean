/- For every row and cut: what was written is taken as it was; of a beginning of its bytes nothing is. Its second form: where what it reads is of bulk at most 1048576. -/
import Derived.Test.YtodfdklcioafmaaA7
import Derived.Test.YtodfdklcioafmaaA10
import Derived.Test.YtodfdklcioafmaaA2
namespace Go.Proofs.Ytodfdklcioafmaa.runBackUpto
set_option maxRecDepth 100000
open Go.ChangeShapes Go.WideShapes Go.ChangeAt Go.RowKit Prm
set_option linter.unusedVariables false

set_option maxHeartbeats 4000000 in
theorem walk (A : Option Addr) (n c : Nat) (l : List Pr) (cut : Int) (w : World) (hd : In_ pairK w A n c l) (hb : n * 32 ≤ 140737488351232) (hp : ∀ p ∈ l, PrIn p) (hc : -9223372036854775808 ≤ cut ∧ cut ≤ 9223372036854775807) (u0 : n ≤ 1048576) :
    Calls Try.prog 5 #[.slice A n c, .int .i64 cut] w fun e w' => e = .returned (.bool true) ∧ Q w w' := by
  have HD := Lib.hid hd
  have KB := Lib.hid (fun W (h : In_ pairK W A n c l) => bytes_any A n c l W h.lst (by omega))
  have hl := hd.len
  obtain ⟨hc0, hc1⟩ := hc
  clear hp hd
  cases hm : Rn.may l with
  | false =>
    rw [show Rn.bytesM l = ([], 1) by unfold Rn.bytesM; rw [hm]; rfl] at KB
    clear hm hl
    go_enter Try.func5, Try.ntmps5
    go_wp2_with fail
    refine (rshown_any _).mono ?_
    rintro e w1 ⟨rfl, q1⟩
    go_wp2_with fail
    refine (KB.out _ (HD.out.q q1)).mono ?_
    rintro e w2 ⟨rfl, q2⟩
    go_wp2_with fail
    go_ret
    exact ⟨rfl, q1.trans q2⟩
  | true =>
    rw [show Rn.bytesM l = (Rn.bytes l, 0) by unfold Rn.bytesM; rw [hm]; rfl] at KB
    have hbig := Rn.may_big hm
    have hbl := Rn.body_length l hbig (by unfold Dm.maxU; omega)
    have hbm : (Rn.body l).length ≤ Dm.maxU := by unfold Dm.maxU; omega
    have hsl := sld_length (Rn.body l) (by omega)
    have hlow : (Rn.body l).length ≤ (Rn.bytes l).length := by unfold Rn.bytes sld; rw [List.length_append, List.length_append]; omega
    have htk := fun most h => Rn.take_bytes l most hm hbm h
    have hct := fun k hk most => Rn.take_cut l most hbm k hk
    have hup : (Rn.bytes l).length ≤ 137483000000 := by unfold Rn.bytes; omega
    clear hbig hbl hbm hsl hm
    obtain ⟨F, hF, hFs, hFl⟩ := bytes_of (Rn.bytes l)
    simp only at KB
    rw [← hF] at KB
    rw [← hFs] at hup hlow
    rw [← hFl] at htk hct
    have HT := Lib.hid (show Rn.take F.data.toList F.size = (l, 0) from htk _ (by omega))
    have K2 := Lib.hid (fun W => by
      have h := rtake_any F W (by omega)
      rw [HT.out] at h
      exact h)
    have HCt := Lib.hid hct
    have HL := Lib.hid hl
    clear hF hFs hFl htk hct hlow hl HT
    by_cases c0 : cut < 0
    · go_enter Try.func5, Try.ntmps5
      go_wp2_with fail
      refine (rshown_any _).mono ?_
      rintro e w1 ⟨rfl, q1⟩
      go_wp2_with fail
      refine (KB.out _ (HD.out.q q1)).mono ?_
      rintro e w2 ⟨rfl, q2⟩
      go_wp2_with fail
      refine (K2.out _).mono ?_
      rintro e w3 ⟨A3, c3, rfl, o3, q3⟩
      have Q3 := Lib.hid ((q1.trans q2).trans q3)
      have O3 := Lib.hid o3
      have hln3 := Lib.hid (show l.length ≤ maxLen by have := HL.out; unfold maxLen; omega)
      clear q1 q2 q3 o3
      go_wp2_with fail
      refine (refSame_any A A3 n c l.length c3 l l _ (HD.out.lst.q Q3.out) O3.out.lst (by unfold maxLen; omega) hln3.out).mono ?_
      rw [show decide (l = l) = true from decide_eq_true rfl]
      rintro e w4 ⟨rfl, q4⟩
      have Q4 := Lib.hid (Q3.out.trans q4)
      clear q4
      go_wp2_with fail
      go_ret
      exact ⟨rfl, Q4.out⟩
    obtain ⟨k, rfl⟩ := Int.eq_ofNat_of_zero_le (show 0 ≤ cut by omega)
    clear c0 hc0
    by_cases c1 : F.size ≤ k
    · have c2 : ((F.size : Nat) : Int) ≤ (k : Int) := by omega
      go_enter Try.func5, Try.ntmps5
      go_wp2_with fail
      refine (rshown_any _).mono ?_
      rintro e w1 ⟨rfl, q1⟩
      go_wp2_with fail
      refine (KB.out _ (HD.out.q q1)).mono ?_
      rintro e w2 ⟨rfl, q2⟩
      go_wp2_with fail
      refine (K2.out _).mono ?_
      rintro e w3 ⟨A3, c3, rfl, o3, q3⟩
      have Q3 := Lib.hid ((q1.trans q2).trans q3)
      have O3 := Lib.hid o3
      have hln3 := Lib.hid (show l.length ≤ maxLen by have := HL.out; unfold maxLen; omega)
      clear q1 q2 q3 o3
      go_wp2_with fail
      refine (refSame_any A A3 n c l.length c3 l l _ (HD.out.lst.q Q3.out) O3.out.lst (by unfold maxLen; omega) hln3.out).mono ?_
      rw [show decide (l = l) = true from decide_eq_true rfl]
      rintro e w4 ⟨rfl, q4⟩
      have Q4 := Lib.hid (Q3.out.trans q4)
      clear q4
      go_wp2_with fail
      go_ret
      exact ⟨rfl, Q4.out⟩
    · have c2 : ¬ ((F.size : Nat) : Int) ≤ (k : Int) := by omega
      have c3 : (k : Int) ≤ (F.size : Int) := by omega
      have he := extract_list F 0 k
      rw [List.drop_zero] at he
      have K5 := Lib.hid (fun W => by
        have h := rtake_any (F.extract 0 k) W (by rw [ByteArray.size_extract]; omega)
        rw [he] at h
        rw [show (⟨(F.data.toList.take k).toArray⟩ : ByteArray).data.toList = F.data.toList.take k from rfl, HCt.out k (by rw [Rn.size_data]; omega)] at h
        exact h)
      have HE := Lib.hid he
      clear he
      go_enter Try.func5, Try.ntmps5
      go_wp2_with fail
      refine (rshown_any _).mono ?_
      rintro e w1 ⟨rfl, q1⟩
      go_wp2_with fail
      refine (KB.out _ (HD.out.q q1)).mono ?_
      rintro e w2 ⟨rfl, q2⟩
      go_wp2_with fail
      refine (K2.out _).mono ?_
      rintro e w3 ⟨A3, c3, rfl, o3, q3⟩
      have Q3 := Lib.hid ((q1.trans q2).trans q3)
      have O3 := Lib.hid o3
      have hln3 := Lib.hid (show l.length ≤ maxLen by have := HL.out; unfold maxLen; omega)
      clear q1 q2 q3 o3
      go_wp2_with fail
      refine (refSame_any A A3 n c l.length c3 l l _ (HD.out.lst.q Q3.out) O3.out.lst (by unfold maxLen; omega) hln3.out).mono ?_
      rw [show decide (l = l) = true from decide_eq_true rfl]
      rintro e w4 ⟨rfl, q4⟩
      have Q4 := Lib.hid (Q3.out.trans q4)
      clear q4
      go_wp2_with fail
      rw [HE.out]
      refine (K5.out _).mono ?_
      rintro e w5 ⟨A5, c5, rfl, o5, q5⟩
      go_wp2_with fail
      go_ret
      exact ⟨rfl, Q4.out.trans q5⟩

theorem opened (W : World) (args : Array Value) (hn : args.size = 2) (h : ∀ (j : Nat) t v, Try.f5.params[j]? = some t → args[j]? = some v → RdV W t v ∧ (true = true → RdU W t v.cells.toList)) :
    Calls Try.prog 5 args W fun e W' => e = .returned (.bool true) ∧ Q W W' := by
  obtain ⟨v0, v1, rfl⟩ := args2 hn
  rw [Try.params5] at h
  obtain ⟨A0, n0, c0, e0, r0⟩ := (h 0 31 v0 rfl rfl).1.slice Try.underlying31
  obtain ⟨B0, m0, d0, l, f0, hd0, hb0, hp0⟩ := open_pairs r0
  simp only [List.cons.injEq, Value.slice.injEq, and_true] at f0
  obtain ⟨rfl, rfl, rfl⟩ := f0
  obtain ⟨cut, e1, s1⟩ := (h 1 3 v1 rfl rfl).1.int Try.underlying3
  subst e0 e1
  have u0 := small_list hd0 (fun a ha => RdU.cap (w := W) (t := 31) (a := a) (len := n0) (cap := c0) (by subst ha; exact ((h 0 31 _ rfl rfl).2 rfl)) Try.underlying31)
  exact walk A0 n0 c0 l cut W hd0 hb0 hp0 (wf_i64 s1) u0

set_option maxRecDepth 100000 in
theorem lifted (os : Os) (started : os.Started) (H : Type) (enc : TypeId × Value → H) (F : Stop.Interp) :
    ReturnsInHanded {} Try.checked os 5 .any ((Rows.OpenSpec.upto Rows.runBackSpec).pre6 enc Try.prog Try.f5 Rows.runBackUptoRow.domain false) (((Rows.OpenSpec.upto Rows.runBackSpec).at F).post enc Try.prog Try.f5 false true false false) :=
  framedU (s := Rows.runBackSpec) 2 Try.func5 (by rw [Try.params5]; rfl) rfl (by kernel_rfl) (by kernel_rfl) (by kernel_rfl)
    (fun H ds h => by match ds, h with | [d0, d1], _ => exact ⟨rfl, rfl, rfl⟩)
    opened os started H enc F
    (OpenSpec.witness (enc := enc) (C := Try.checked) (s := Rows.OpenSpec.upto Rows.runBackSpec) (k := Rows.uptoSmall) rfl false ⟨#[], #[.slice none 0 0, .int .i64 0], []⟩ 8 (by kernel_rfl) (by kernel_rfl) (by kernel_rfl)
      (x := ([.nil, .lit (.int .i64 0)], [], [])) (by kernel_rfl) (by kernel_rfl) (by kernel_rfl))

theorem proved : Rows.RunBackUptoSaid :=
  OpenClaim.holds_of_cond 5 Try.f5 rfl rfl rfl rfl rfl rfl rfl ⟨rfl, rfl, rfl, rfl, rfl⟩ rfl rfl rfl rfl rfl (by kernel_rfl) Try.func5 (by kernel_rfl)
    (of_decide_eq_true (by kernel_rfl)) (by unfold Func.isWrapper; first | (rw [if_pos (by decide +kernel)]; kernel_rfl) | (rw [if_neg (by decide +kernel)]; exact ⟨rfl, rfl⟩))
    (fun os started H enc _ F => lifted os started H enc F)
end Go.Proofs.Ytodfdklcioafmaa.runBackUpto
