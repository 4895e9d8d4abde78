/- Contracts: the document's Less, Same, Heap. -/
import Derived.Test.YtbclamfpoigneaaAlK
namespace Go.Proofs.Ytbclamfpoigneaa
set_option maxRecDepth 100000
open Go.RowKit
set_option linter.unusedVariables false
set_option linter.unusedSimpArgs false
namespace Am

set_option maxHeartbeats 1000000 in
theorem rless_any (a b : Al) (w : World) : Calls Try.prog 22 #[alV a, alV b] w fun e w' => e = .returned (.bool (less a b)) ∧ Q w w' := by
  obtain ⟨x, y⟩ := a
  obtain ⟨u, v⟩ := b
  unfold alV less
  simp only
  by_cases h : x = u
  · subst h
    rw [if_pos rfl]
    go_enter Try.func22, Try.ntmps22
    go_wp2
    go_ret
    exact ⟨rfl, ((Q.refl w).alloc _).alloc _⟩
  · rw [if_neg h]
    have hn : ¬ (x : Int) = (u : Int) := by omega
    have hb : decide ((x : Int) < (u : Int)) = decide (x < u) := by rw [Bool.eq_iff_iff]; simp
    have HB := Lib.hid hb
    clear hb
    go_enter Try.func22, Try.ntmps22
    go_wp2
    go_ret
    refine ⟨?_, ((Q.refl w).alloc _).alloc _⟩
    rw [← HB.out]
    rfl

set_option maxHeartbeats 2000000 in
theorem rsame_al (A B : Option Addr) (n c m d : Nat) (a b : List Al) (w : World) (h1 : Lst alK w A n a) (h2 : Lst alK w B m b) (hn : n ≤ maxLen) :
    Calls Try.prog 9 #[.slice A n c, .slice B m d] w fun e w' => e = .returned (.bool (decide (a = b))) ∧ Q w w' := by
  unfold maxLen at hn
  by_cases hnm : n = m
  case neg =>
    have hf : decide (a = b) = false := decide_eq_false fun e => hnm (by rw [← h1.len, ← h2.len, e])
    have HF := Lib.hid hf
    have hi : ¬ (n : Int) = (m : Int) := by omega
    clear hf h1 h2 hnm
    go_enter Try.func9, Try.ntmps9
    go_wp2
    go_ret
    exact ⟨by rw [HF.out]; rfl, Q.refl _⟩
  subst hnm
  have H1 := Lib.hid h1
  have H2 := Lib.hid h2
  have L1 := Lib.hid h1.len
  have L2 := Lib.hid h2.len
  clear h1 h2
  go_enter Try.func9, Try.ntmps9
  go_wp2
  go_loopw [5] (fun i wr => ∃ k : Nat, k ≤ n ∧ i = .int .i64 (k : Nat) ∧ a.take k = b.take k ∧ Q w wr) (fun i _ => n - (intOf i).toNat)
  case atStart => exact ⟨0, Nat.zero_le _, rfl, rfl, Q.refl _⟩
  case round =>
    obtain ⟨k, hk, rfl, htk, hq⟩ := hrel
    have HT := Lib.hid htk
    have HQ := Lib.hid hq
    clear htk hq
    by_cases hlt : k < n
    case neg =>
      have e : n = k := by omega
      have hf : decide (a = b) = true := decide_eq_true (by
        have h := HT.out
        rw [List.take_of_length_le (by have := L1.out; omega), List.take_of_length_le (by have := L2.out; omega)] at h
        exact h)
      have HF := Lib.hid hf
      clear hf e
      go_wp2
      go_ret
      exact ⟨by rw [HF.out]; rfl, HQ.out⟩
    have ha : k < a.length := by have := L1.out; omega
    have hb : k < b.length := by have := L2.out; omega
    obtain ⟨x, hxA, hxb, x0, x1⟩ := load_al (H1.out.q HQ.out) hlt ha
    obtain ⟨y, hyB, hyb, y0, y1⟩ := load_al (H2.out.q HQ.out) hlt hb
    have HA := Lib.hid hxA
    have HB := Lib.hid hyB
    have hk2 : (k : Int) < (n : Int) := by omega
    have hal := al_eq a[k] b[k]
    have hal3 : decide (a[k] = b[k]) = (decide (((a[k]).at_ : Int) = ((b[k]).at_ : Int)) && decide ((a[k]).id = (b[k]).id)) := by
      rw [hal, show decide (((a[k]).at_ : Int) = ((b[k]).at_ : Int)) = decide ((a[k]).at_ = (b[k]).at_) from decide_eq_decide.2 Int.ofNat_inj]
    by_cases he : a[k] = b[k]
    · have hnx : a.take (k + 1) = b.take (k + 1) := by
        rw [List.take_add_one, List.take_add_one, HT.out, List.getElem?_eq_getElem ha, List.getElem?_eq_getElem hb, he]
      have HN := Lib.hid hnx
      rw [← he] at y0 y1
      clear he hnx hal hal3
      generalize a[k] = s at x0 x1 y0 y1
      subst hxA hyB
      clear HA HB ha hb
      go_wp2
      go_quiet (fail)
      all_goals
        go_wp2
        go_roundw
        case rel => exact ⟨k + 1, by omega, by first | rfl | simp | go_num, HN.out, by first | exact HQ.out | exact HQ.out.drew | exact HQ.out.drewN _⟩
        case measure => simp [intOf]; omega
    · have hf : decide (a = b) = false := decide_eq_false fun e => he (by subst e; rfl)
      have HF := Lib.hid hf
      rw [decide_eq_false he] at hal hal3
      have hal2 := hal.symm
      have hal4 := hal3.symm
      generalize a[k] = s at x0 x1 he hal hal2 hal3 hal4
      generalize b[k] = t at y0 y1 he hal hal2 hal3 hal4
      subst hxA hyB
      clear HA HB ha hb hf he hal hal3
      go_wp2
      go_quiet (fail)
      all_goals
        go_wp2
        go_ret
        exact ⟨by rw [HF.out]; rfl, by first | exact HQ.out | exact HQ.out.drew | exact HQ.out.drewN _⟩
theorem rsame_self (A B : Option Addr) (n c m d : Nat) (a : List Al) (w : World) (h1 : Lst alK w A n a) (h2 : Lst alK w B m a) (hn : n ≤ maxLen) :
    Calls Try.prog 9 #[.slice A n c, .slice B m d] w fun e w' => e = .returned (.bool true) ∧ Q w w' :=
  (rsame_al A B n c m d a a w h1 h2 hn).mono fun e w' ⟨h, q⟩ => ⟨by rw [h, decide_eq_true rfl], q⟩
end Am
end Go.Proofs.Ytbclamfpoigneaa
