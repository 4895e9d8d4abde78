/- Contracts of package sum's Of and of the document's own. -/
import Derived.Test.YtbkiladofijljaaBase
import Derived.Test.YtbkiladofijljaaSumMath
import Derived.Laws.BitsLemmas
namespace Go.Proofs.Ytbkiladofijljaa
open Go.RowKit

theorem or_halves (a b : Int) (h0 : 0 ≤ a) (h1 : a < 65536) (h2 : 0 ≤ b) (h3 : b < 65536) : bits BinOp.or IntKind.u64 (b * 65536) a % 4294967296 = b * 65536 + a := by
  have e : bits BinOp.or IntKind.u64 (b * 65536) a = b * 65536 + a := by
    refine bits_join .u64 40 (by decide) (fun n p q => IntWalk.u64_in n ⟨p, by omega⟩) 16 (b * 65536) a ?_ ?_ ?_ ?_ ?_ ?_ <;> omega
  rw [e]; omega

set_option maxHeartbeats 400000 in
theorem whole_any (a b : Int) (w : World) (h0 : 0 ≤ a) (h1 : a < 65536) (h2 : 0 ≤ b) (h3 : b < 65536) :
    Calls Try.prog 22 #[.agg #[.int .u64 a, .int .u64 b]] w fun e w' => e = .returned (.int .u32 (b * 65536 + a)) ∧ Q w w' := by
  go_enter Try.func22, Try.ntmps22
  go_wp2
  go_ret
  exact ⟨ret_int (or_halves a b h0 h1 h2 h3), (Q.refl _).alloc _⟩

theorem take_snoc (s : ByteArray) (k : Nat) (h : k < s.size) : s.data.toList.take (k + 1) = s.data.toList.take k ++ [s[k]] := by
  rw [List.take_succ_eq_append_getElem (by simpa using h)]; rfl
theorem take_all (s : ByteArray) (k : Nat) (h : s.size ≤ k) : s.data.toList.take k = s.data.toList := List.take_of_length_le (by simpa using h)

set_option maxHeartbeats 400000 in
theorem refOf_any (s : ByteArray) (w : World) (hs : s.size ≤ maxLen) :
    Calls Try.prog 14 #[.string s] w fun e w' => e = .returned (.int .u32 (Sm.adler s.data.toList)) ∧ Q w w' := by
  unfold maxLen at hs
  go_enter Try.func14, Try.ntmps14
  go_wp2
  go_loop [3, 4, 5] (fun a b i => ∃ k : Nat, k ≤ s.size ∧ i = .int .i64 k ∧ a = .int .i64 (Sm.lo (s.data.toList.take k)) ∧ b = .int .i64 (Sm.hi (s.data.toList.take k))) (fun _ _ i => s.size - (intOf i).toNat)
  case atStart => exact ⟨0, Nat.zero_le _, rfl, rfl, rfl⟩
  case round =>
    obtain ⟨k, hk, rfl, rfl, rfl⟩ := hrel
    have r1 := Sm.lo_range (s.data.toList.take k)
    have r2 := Sm.hi_range (s.data.toList.take k)
    by_cases hlt : k < s.size
    · have hts := take_snoc s k hlt
      have e1 := Sm.lo_snoc (s.data.toList.take k) s[k]
      have e2 := Sm.hi_snoc (s.data.toList.take k) s[k]
      rw [← hts] at e1 e2
      have H1 := Lib.hid e1
      have H2 := Lib.hid e2
      clear e1 e2 hts
      generalize Sm.lo (s.data.toList.take k) = A at *
      generalize Sm.hi (s.data.toList.take k) = B at *
      have hb := s[k].toNat_lt
      go_wp2
      go_round
      case rel => exact ⟨k + 1, by omega, by go_num, by rw [H1.out], by rw [H2.out]; congr 1; omega⟩
      case measure => simp [intOf]; omega
    · have hall := take_all s k (by omega)
      have hf : Sm.adler s.data.toList = Sm.hi s.data.toList * 65536 + Sm.lo s.data.toList := rfl
      rw [hall] at r1 r2 ⊢
      have Hf := Lib.hid hf
      clear hf hall
      go_wp2
      go_ret
      exact ⟨ret_int (by rw [Hf.out]; omega), Q.refl _⟩

set_option maxHeartbeats 400000 in
theorem add_any (c a b : Int) (w : World) (h0 : 0 ≤ a) (h1 : a < 65521) (h2 : 0 ≤ b) (h3 : b < 65521) (h4 : 0 ≤ c) (h5 : c < 256) :
    Calls Try.prog 21 #[.int .u8 c, .pointer (some ⟨w.heap.size, 0, none⟩)] (w.alloc (.cells #[.int .u64 a, .int .u64 b] 44)) fun e w' => e = .returned (.tuple #[]) ∧ w.alloc (.cells #[.int .u64 ((a + c) % 65521), .int .u64 ((b + (a + c)) % 65521)] 44) = w' := by
  go_enter Try.func21, Try.ntmps21
  go_wp2
  go_end0
  exact ⟨rfl, rfl⟩

set_option maxHeartbeats 400000 in
theorem of_any (s : ByteArray) (w : World) (hs : s.size ≤ maxLen) :
    Calls Try.prog 13 #[.string s] w fun e w' => e = .returned (.int .u32 (Sm.adler s.data.toList)) ∧ Q w w' := by
  unfold maxLen at hs
  go_enter Try.func13, Try.ntmps13
  go_wp2
  go_loopw [10] (fun i wr => ∃ k : Nat, k ≤ s.size ∧ i = .int .i64 k ∧ w.alloc (.cells #[.int .u64 (Sm.lo (s.data.toList.take k)), .int .u64 (Sm.hi (s.data.toList.take k))] 44) = wr) (fun i _ => s.size - (intOf i).toNat)
  case atStart => exact ⟨0, Nat.zero_le _, rfl, rfl⟩
  case round =>
    obtain ⟨k, hk, rfl, rfl⟩ := hrel
    have r1 := Sm.lo_range (s.data.toList.take k)
    have r2 := Sm.hi_range (s.data.toList.take k)
    by_cases hlt : k < s.size
    · have hts := take_snoc s k hlt
      have e1 := Sm.lo_snoc (s.data.toList.take k) s[k]
      have e2 := Sm.hi_snoc (s.data.toList.take k) s[k]
      rw [← hts] at e1 e2
      have H1 := Lib.hid e1
      have H2 := Lib.hid e2
      clear e1 e2 hts
      generalize Sm.lo (s.data.toList.take k) = A at *
      generalize Sm.hi (s.data.toList.take k) = B at *
      have hb := s[k].toNat_lt
      go_wp2_with (go_at_call 21; refine (add_any _ _ _ _ (by omega) (by omega) (by omega) (by omega) (by omega) (by omega)).mono ?_; rintro e w' ⟨rfl, rfl⟩)
      go_roundw
      case rel => exact ⟨k + 1, by omega, by go_num, by rw [H1.out, H2.out]⟩
      case measure => simp [intOf]; omega
    · have hall := take_all s k (by omega)
      rw [hall] at r1 r2 ⊢
      clear hall
      have hf : Sm.adler s.data.toList = Sm.hi s.data.toList * 65536 + Sm.lo s.data.toList := rfl
      have Hf := Lib.hid hf
      clear hf
      go_wp2_with (go_at_call 22; refine (whole_any _ _ _ (by omega) (by omega) (by omega) (by omega)).mono ?_; rintro e w' ⟨rfl, hq⟩)
      go_ret
      exact ⟨ret_int (by rw [Hf.out]), ((Q.refl _).alloc _).trans hq⟩
end Go.Proofs.Ytbkiladofijljaa
