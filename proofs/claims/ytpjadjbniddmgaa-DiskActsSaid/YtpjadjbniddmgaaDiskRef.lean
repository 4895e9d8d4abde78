/- Contracts: the document's New, Arm, Same, power, with, less. -/
import Derived.Test.YtpjadjbniddmgaaDiskRen2
namespace Go.Proofs.Ytpjadjbniddmgaa
open Go.RowKit Dkm
set_option linter.unusedVariables false

set_option maxHeartbeats 1000000 in
theorem ref_new_neg (room : Int) (w : World) (h : room < 0) :
    Calls Try.prog 21 #[.int .i64 room] w fun e w' => e = .returned (.tuple #[dkv none 0 0 0 0 false, .int .i64 1]) ∧ Q w w' := by
  go_enter Try.func21, Try.ntmps21
  go_wp2
  exact bodyPost_ret (v := .tuple #[dkv none 0 0 0 0 false, .int .i64 1]) (by simp [results, Try.results21, go_sem]) rfl ⟨rfl, (Q.refl _).alloc _⟩
set_option maxHeartbeats 1000000 in
theorem ref_new_any (room : Int) (w : World) (h : 0 ≤ room) :
    Calls Try.prog 21 #[.int .i64 room] w fun e w' => e = .returned (.tuple #[dkv none 0 0 room (-1) false, .int .i64 0]) ∧ Q w w' := by
  go_enter Try.func21, Try.ntmps21
  go_wp2
  exact bodyPost_ret (v := .tuple #[dkv none 0 0 room (-1) false, .int .i64 0]) (by simp [results, Try.results21, go_sem]) rfl ⟨rfl, (Q.refl _).alloc _⟩

theorem ref_arm (A : Option Addr) (n c : Nat) (room fuse : Int) (off : Bool) (fuse2 : Int) (w : World) :
    Calls Try.prog 30 #[dkv A n c room fuse off, .int .i64 fuse2] w fun e w' => e = .returned (dkv A n c room (max fuse2 (-1)) off) ∧ Q w w' := by
  by_cases h : fuse2 < 0
  · rw [show max fuse2 (-1) = -1 by omega]
    go_enter Try.func30, Try.ntmps30
    go_wp2
    exact bodyPost_ret (v := dkv A n c room (-1) off) (by simp [results, Try.results30, go_sem]) rfl ⟨rfl, ((Q.refl _).alloc _).alloc _⟩
  · rw [show max fuse2 (-1) = fuse2 by omega]
    go_enter Try.func30, Try.ntmps30
    go_wp2
    exact bodyPost_ret (v := dkv A n c room fuse2 off) (by simp [results, Try.results30, go_sem]) rfl ⟨rfl, ((Q.refl _).alloc _).alloc _⟩

theorem ref_power (A : Option Addr) (n c : Nat) (d : Dk) (w : World) (hfu : d.fuse ≤ 9223372036854775807) :
    Calls Try.prog 43 #[dkv A n c d.room d.fuse d.off] w fun e w' => e = .returned (.tuple #[dkv A n c (pow d).1.room (pow d).1.fuse (pow d).1.off, .bool (pow d).2]) ∧ Q w w' := by
  obtain ⟨l, room, fuse, off⟩ := d
  simp only at hfu ⊢
  rcases Int.lt_trichotomy fuse 0 with h | h | h
  · rw [pow_neg l room fuse off h]
    have b : (fuse == 0) = false := by simp; omega
    go_enter Try.func43, Try.ntmps43
    go_wp2
    exact bodyPost_ret (v := .tuple #[dkv A n c room fuse off, .bool true]) (by simp [results, Try.results43, go_sem]) rfl ⟨rfl, ((Q.refl _).alloc _).alloc _⟩
  · subst h
    rw [pow_zero l room off]
    go_enter Try.func43, Try.ntmps43
    go_wp2
    exact bodyPost_ret (v := .tuple #[dkv A n c room 0 true, .bool false]) (by simp [results, Try.results43, go_sem]) rfl ⟨rfl, ((Q.refl _).alloc _).alloc _⟩
  · rw [pow_pos l room fuse off h]
    have b : (fuse == 0) = false := by simp; omega
    go_enter Try.func43, Try.ntmps43
    go_wp2
    exact bodyPost_ret (v := .tuple #[dkv A n c room (fuse - 1) off, .bool true]) (by simp [results, Try.results43, go_sem]) rfl ⟨rfl, ((Q.refl _).alloc _).alloc _⟩

set_option maxHeartbeats 2000000 in
theorem ref_same_len (A B : Option Addr) (n c m c2 : Nat) (l l2 : List Fil) (room fuse : Int) (off : Bool) (w : World) (h1 : Files w A n l) (h2 : Files w B n l2) (hn : n ≤ maxLen) :
    Calls Try.prog 22 #[dkv A n c room fuse off, dkv B n c2 room fuse off] w fun e w' => e = .returned (.bool (decide (l = l2))) ∧ Q w w' := by
  unfold maxLen at hn
  have H1 := Lib.hid h1
  have H2 := Lib.hid h2
  have L1 := Lib.hid h1.len
  have L2 := Lib.hid h2.len
  clear h1 h2
  have X := Lib.hid (And.intro (Bx.new w [.slice A n c, .int .i64 room, .int .i64 fuse, .bool off] 24) (Bx.new (w.alloc (.cells #[.slice A n c, .int .i64 room, .int .i64 fuse, .bool off] 24)) [.slice B n c2, .int .i64 room, .int .i64 fuse, .bool off] 24))
  rw [World.size_alloc] at X
  go_enter Try.func22, Try.ntmps22
  go_wp2
  have Y := Lib.hid (And.intro (X.out.1.alloc (.cells #[.slice B n c2, .int .i64 room, .int .i64 fuse, .bool off] 24)) (And.intro X.out.2 (((Q.refl w).alloc (.cells #[.slice A n c, .int .i64 room, .int .i64 fuse, .bool off] 24)).alloc (.cells #[.slice B n c2, .int .i64 room, .int .i64 fuse, .bool off] 24))))
  clear X
  generalize ((w.alloc (.cells #[.slice A n c, .int .i64 room, .int .i64 fuse, .bool off] 24)).alloc (.cells #[.slice B n c2, .int .i64 room, .int .i64 fuse, .bool off] 24)) = W at Y ⊢
  go_loopw [5] (fun i wr => ∃ k : Nat, k ≤ n ∧ i = .int .i64 k ∧ Q W wr ∧ l.take k = l2.take k) (fun i _ => n - (intOf i).toNat)
  case atStart => exact ⟨0, Nat.zero_le _, rfl, Q.refl _, by simp⟩
  case round =>
    obtain ⟨k, hk, rfl, hq, ht⟩ := hrel
    have HT := Lib.hid ht
    have HQ := Lib.hid hq
    clear ht hq
    obtain ⟨⟨e0, e1, e2, e3⟩, _⟩ := (Y.out.1.q HQ.out).get4
    obtain ⟨⟨g0, g1, g2, g3⟩, _⟩ := (Y.out.2.1.q HQ.out).get4
    by_cases hlt : k < n
    · have k1 : k < l.length := by have := L1.out; omega
      have k2 : k < l2.length := by have := L2.out; omega
      obtain ⟨ad, rfl, hb, c0, c1, c3⟩ := (H1.out.q (Y.out.2.2.trans HQ.out)).load hlt k1
      obtain ⟨ae, rfl, he, d0, d1, d2⟩ := (H2.out.q (Y.out.2.2.trans HQ.out)).load hlt k2
      have q4 : (k : Int) < (n : Int) := by omega
      have q5 : 0 ≤ (k : Int) := by omega
      have hne := fun W => neq_file W l[k] l2[k]
      by_cases heq : l[k] = l2[k]
      · have hd : decide (l[k] = l2[k]) = true := by simpa using heq
        have HE := Lib.hid heq
        clear heq
        go_wp2
        go_quiet (fail)
        go_wp2
        exact ⟨⟨k + 1, by omega, by go_num, HQ.out.drewN _, by rw [List.take_succ_eq_append_getElem k1, List.take_succ_eq_append_getElem k2, HT.out, HE.out]⟩, by simp [intOf]; omega⟩
      · have hd : decide (l[k] = l2[k]) = false := by simpa using heq
        have HE := Lib.hid heq
        clear heq
        go_wp2
        go_quiet (fail)
        go_wp2
        go_ret
        exact ⟨ret_bool (by symm; simp only [decide_eq_false_iff_not]; rintro rfl; exact HE.out rfl), Y.out.2.2.trans (HQ.out.drewN _)⟩
    · go_wp2
      go_ret
      exact ⟨ret_bool (by symm; simp only [decide_eq_true_eq]; have h1 := HT.out; rwa [List.take_of_length_le (by have := L1.out; omega), List.take_of_length_le (by have := L2.out; omega)] at h1), Y.out.2.2.trans HQ.out⟩
end Go.Proofs.Ytpjadjbniddmgaa
