/- The contract of the document's Ints: are two rows of numbers the same? -/
import Derived.Test.YtbclamfpoigneaaInts
namespace Go.Proofs.Ytbclamfpoigneaa
set_option maxRecDepth 100000
open Go.RowKit
set_option linter.unusedVariables false
set_option linter.unusedSimpArgs false

set_option maxHeartbeats 1000000 in
theorem rints_any (A B : Option Addr) (n c m d : Nat) (l l2 : List Int) (w : World) (h1 : Lst numK w A n l) (h2 : Lst numK w B m l2) (hn : n ≤ maxLen) (hm : m ≤ maxLen) :
    Calls Try.prog 16 #[.slice A n c, .slice B m d] w fun e w' => e = .returned (.bool (decide (l = l2))) ∧ Q w w' := by
  unfold maxLen at hn hm
  have H1 := Lib.hid h1
  have H2 := Lib.hid h2
  have L1 := Lib.hid h1.len
  have L2 := Lib.hid h2.len
  clear h1 h2
  by_cases hnm : n = m
  · subst hnm
    go_enter Try.func16, Try.ntmps16
    go_wp2
    go_loopw [5] (fun i wr => ∃ k : Nat, k ≤ n ∧ i = .int .i64 k ∧ Q w wr ∧ l.take k = l2.take k) (fun i _ => n - (intOf i).toNat)
    case atStart => exact ⟨0, Nat.zero_le _, rfl, Q.refl _, by simp⟩
    case round =>
      obtain ⟨k, hk, rfl, hq, ht⟩ := hrel
      have HT := Lib.hid ht
      clear ht
      by_cases hlt : k < n
      · have k1 : k < l.length := by have := L1.out; omega
        have k2 : k < l2.length := by have := L2.out; omega
        obtain ⟨ad, rfl, hb, c0⟩ := load_num (H1.out.q hq) hlt k1
        obtain ⟨ae, rfl, he, d0⟩ := load_num (H2.out.q hq) hlt k2
        have hne : (l[k] != l2[k]) = !decide (l[k] = l2[k]) := by by_cases h : l[k] = l2[k] <;> simp [h]
        have hkn : (k : Int) < (n : Int) := by omega
        by_cases heq : l[k] = l2[k]
        · have hd : decide (l[k] = l2[k]) = true := by simpa using heq
          rw [hd] at hne
          have HE := Lib.hid heq
          clear heq
          go_wp2
          go_quiet (fail)
          go_wp2
          go_roundw
          case rel => exact ⟨k + 1, by omega, by go_num, hq.drewN _, by rw [List.take_succ_eq_append_getElem k1, List.take_succ_eq_append_getElem k2, HT.out, HE.out]⟩
          case measure => simp [intOf]; omega
        · have hd : decide (l[k] = l2[k]) = false := by simpa using heq
          rw [hd] at hne
          have HE := Lib.hid heq
          clear heq
          go_wp2
          go_quiet (fail)
          go_wp2
          go_ret
          exact ⟨ret_bool (by symm; simp only [decide_eq_false_iff_not]; rintro rfl; exact HE.out rfl), hq.drewN _⟩
      · go_wp2
        go_ret
        exact ⟨ret_bool (by symm; simp only [decide_eq_true_eq]; have h1 := HT.out; rwa [List.take_of_length_le (by have := L1.out; omega), List.take_of_length_le (by have := L2.out; omega)] at h1), hq⟩
  · have hb : ((n : Int) != (m : Int)) = true := by simp; omega
    have HN := Lib.hid hnm
    clear hnm
    go_enter Try.func16, Try.ntmps16
    go_wp2
    go_ret
    exact ⟨ret_bool (by symm; simp only [decide_eq_false_iff_not]; rintro rfl; exact HN.out (L1.out.symm.trans L2.out)), Q.refl _⟩
end Go.Proofs.Ytbclamfpoigneaa
