/- Contracts: New, Arm, Same, in the program and in the document's answer. -/
import Derived.Test.YtpjadjbniddmgaaDiskSync
import Derived.Laws.StructEq
namespace Go.Proofs.Ytpjadjbniddmgaa
open Go.RowKit Dkm
set_option linter.unusedVariables false

instance : DecidableEq Fil := fun f g => decidable_of_iff (f.nm = g.nm ∧ f.sf = g.sf ∧ f.wt = g.wt) ⟨fun h => Fil.ext_ h.1 h.2.1 h.2.2, fun h => by subst h; exact ⟨rfl, rfl, rfl⟩⟩

theorem str_inj (a b : ByteArray) : (a.toList = b.toList) = (a = b) := by
  refine propext ⟨fun h => ?_, fun h => by rw [h]⟩
  have e := same_str a b
  rw [h] at e
  simpa using e

theorem neq_file (W : World) (f g : Fil) : (binOp .neq 29 f.val g.val).run Try.prog W = .ok (.bool (!decide (f = g))) W := by
  have u := Try.underlying9
  have hS : Try.prog.underlying 29 = some (.struct (Try.prog.fieldsOf 29)) := by kernel_rfl
  have hp : Try.prog.stoodInHeld 29 = false := by kernel_rfl
  have a3 := Try.isAgg9
  have z3 := Try.sizeOf9
  obtain ⟨a, b, c⟩ := f
  obtain ⟨a', b', c'⟩ := g
  rw [run_neq_struct, show (10000 : Nat) = 9999 + 1 from rfl, run_equalIn_agg W 9999 _ _ _ hS hp]
  simp only [Program.fieldsOf, Try.underlying29]
  go_simp
  simp only [str_inj]
  by_cases h1 : a = a' <;> by_cases h2 : b = b' <;> by_cases h3 : c = c' <;> simp [h1, h2, h3]

set_option maxHeartbeats 1000000 in
theorem new_neg (room : Int) (w : World) (h : room < 0) :
    Calls Try.prog 20 #[.int .i64 room] w fun e w' => e = .returned (.tuple #[dkv none 0 0 0 0 false, .int .i64 1]) ∧ Q w w' := by
  go_enter Try.func20, Try.ntmps20
  go_wp2
  exact bodyPost_ret (v := .tuple #[dkv none 0 0 0 0 false, .int .i64 1]) (by simp [results, Try.results20, go_sem]) rfl ⟨rfl, (Q.refl _).alloc _⟩
set_option maxHeartbeats 1000000 in
theorem new_any (room : Int) (w : World) (h : 0 ≤ room) :
    Calls Try.prog 20 #[.int .i64 room] w fun e w' => e = .returned (.tuple #[dkv none 0 0 room (-1) false, .int .i64 0]) ∧ Q w w' := by
  go_enter Try.func20, Try.ntmps20
  go_wp2
  exact bodyPost_ret (v := .tuple #[dkv none 0 0 room (-1) false, .int .i64 0]) (by simp [results, Try.results20, go_sem]) rfl ⟨rfl, (Q.refl _).alloc _⟩

set_option maxHeartbeats 1000000 in
theorem equal_any (A B : Option Addr) (n c m d : Nat) (l l2 : List Fil) (w : World) (h1 : Files w A n l) (h2 : Files w B m l2) (hn : n ≤ maxLen) (hm : m ≤ maxLen) :
    Calls Try.prog 45 #[.slice A n c, .slice B m d] w fun e w' => e = .returned (.bool (decide (l = l2))) ∧ Q w w' := by
  unfold maxLen at hn hm
  have H1 := Lib.hid h1
  have H2 := Lib.hid h2
  have L1 := Lib.hid h1.len
  have L2 := Lib.hid h2.len
  clear h1 h2
  by_cases hnm : n = m
  · subst hnm
    go_enter Try.func45, Try.ntmps45
    go_wp2
    go_loopw [13] (fun i wr => ∃ k : Nat, k ≤ n ∧ i = .int .i64 k ∧ Q w wr ∧ l.take k = l2.take k) (fun i _ => n - (intOf i).toNat)
    case atStart => exact ⟨0, Nat.zero_le _, rfl, Q.refl _, by simp⟩
    case round =>
      obtain ⟨k, hk, rfl, hq, ht⟩ := hrel
      have HT := Lib.hid ht
      clear ht
      by_cases hlt : k < n
      · have k1 : k < l.length := by have := L1.out; omega
        have k2 : k < l2.length := by have := L2.out; omega
        obtain ⟨ad, rfl, hb, c0, c1, c2⟩ := (H1.out.q hq).load hlt k1
        obtain ⟨ae, rfl, he, d0, d1, d2⟩ := (H2.out.q hq).load hlt k2
        have hne := fun W => neq_file W l[k] l2[k]
        by_cases heq : l[k] = l2[k]
        · have hd : decide (l[k] = l2[k]) = true := by simpa using heq
          have HE := Lib.hid heq
          clear heq
          go_wp2
          go_quiet (fail)
          go_wp2
          go_roundw
          case rel => exact ⟨k + 1, by omega, by go_num, hq.drewN _, by rw [List.take_succ_eq_append_getElem k1, List.take_succ_eq_append_getElem k2, HT.out, HE.out]⟩
          case measure => simp [intOf]; omega
        · have hd : decide (l[k] = l2[k]) = false := by simpa using heq
          have HE := Lib.hid heq
          clear heq
          go_wp2
          go_quiet (fail)
          go_wp2
          go_ret
          exact ⟨ret_bool (by symm; simp only [decide_eq_false_iff_not]; rintro rfl; exact HE.out rfl), hq.drewN _⟩
      · go_wp2
        go_ret
        exact ⟨ret_bool (by symm; simp only [decide_eq_true_eq]; have h1 := HT.out; rwa [List.take_of_length_le (by have := L1.out; omega), List.take_of_length_le (by have := L2.out; omega)] at h1), hq⟩
  · have n1 : ((n : Int) != (m : Int)) = true := by simp; omega
    have n2 : (n != m) = true := by simp; omega
    have n3 : (n == m) = false := by simp; omega
    have n4 : ((n : Int) == (m : Int)) = false := by simp; omega
    have n5 : ¬ (n : Int) = m := by omega
    have HN := Lib.hid hnm
    go_enter Try.func45, Try.ntmps45
    go_wp2
    go_ret
    exact ⟨ret_bool (by symm; simp only [decide_eq_false_iff_not]; rintro rfl; exact HN.out (L1.out.symm.trans L2.out)), Q.refl _⟩

/-- are two disks the same? -/
def sameD (a b : Dk) : Bool := decide (a.fs = b.fs ∧ a.room = b.room ∧ a.fuse = b.fuse ∧ a.off = b.off)

end Go.Proofs.Ytpjadjbniddmgaa
