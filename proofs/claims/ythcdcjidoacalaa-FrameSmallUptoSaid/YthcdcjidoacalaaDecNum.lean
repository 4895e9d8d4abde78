/- Contracts of package dec's Num and of the document's own. -/
import Derived.Test.YthcdcjidoacalaaBytes
import Derived.Test.YthcdcjidoacalaaDecMath
namespace Go.Proofs.Ythcdcjidoacalaa
set_option maxRecDepth 100000
open Go.RowKit
set_option linter.unusedVariables false

theorem slice21 (W : World) (b j : Nat) (h0 : 1 ≤ j) (h1 : j ≤ 20) :
    (Instr.sliceAt 63 (.pointer (some ⟨b, 0, none⟩)) (some (.int .i64 ((j : Int) - 1))) none none).run Try.prog W = .ok (.slice (some ⟨b, j - 1, none⟩) (22 - j) (22 - j)) W := by
  have hl : Try.prog.arrayLen 63 = 21 := by kernel_rfl
  have he : Try.prog.elem 63 = 5 := by kernel_rfl
  have hs : (sizeOf 5).run Try.prog W = .ok 1 W := by kernel_rfl
  rw [run_sliceAt_array_l W 63 _ (by rw [hl, he]; exact Try.underlying63) .i64 _ (by omega) (by rw [hl]; omega), he, hs, hl]
  have e : ((j : Int) - 1).toNat = j - 1 := by omega
  simp only [Result.andThen, slicedAt, e]
  rw [if_neg (by omega), show 21 - (j - 1) = 22 - j from by omega]
  unfold Addr.add
  by_cases hz : (j - 1) * 1 = 0
  · rw [if_pos hz, show j - 1 = 0 from by omega]
  · rw [if_neg hz]; simp

/-- the row behind a store of one figure more. -/
theorem row_more (cs : Array Value) (j m : Nat) (t : List UInt8) (h1 : 1 ≤ j) (h2 : j ≤ 20) (h3 : cs.size = 21) (h4 : t.length = 21 - j)
    (h8 : ∀ k (h : k < t.length), cs[j + k]? = some (.int .u8 (t[k].toNat : Int))) :
    ∀ k (h : k < (Dm.digit (m % 10) :: t).length), (cs.setIfInBounds (j - 1) (.int .u8 (48 + (m : Int) % 10)))[j - 1 + k]? = some (.int .u8 ((Dm.digit (m % 10) :: t)[k].toNat : Int)) := by
  intro k h
  cases k with
  | zero =>
    have e : ((Dm.digit (m % 10)).toNat : Int) = 48 + (m : Int) % 10 := by rw [Dm.digit_toNat _ (by omega)]; omega
    simp only [Nat.add_zero, List.getElem_cons_zero, e]
    rw [Array.getElem?_setIfInBounds_self_of_lt (by omega)]
  | succ k =>
    simp only [List.getElem_cons_succ]
    rw [Array.getElem?_setIfInBounds_ne (by omega), ← h8 k (by simpa using h)]
    congr 1; omega

set_option maxHeartbeats 400000 in
theorem num_nat (v : Nat) (w : World) (h0 : v < 18446744073709551616) :
    Calls Try.prog 23 #[.int .u64 v] w fun e w' => e = .returned (.string ⟨(Dm.num v).toArray⟩) ∧ Q w w' := by
  go_enter Try.func23, Try.ntmps23
  go_wp2
  go_loopw [0, 4] (fun u i wr => ∃ (m j : Nat) (t : List UInt8) (cs : Array Value), u = .int .u64 m ∧ i = .int .i64 j ∧ w.alloc (.cells cs 63) = wr ∧ 1 ≤ j ∧ j ≤ 20 ∧ cs.size = 21 ∧ t.length = 21 - j ∧ m < 10 ^ j ∧ m < 18446744073709551616 ∧ Dm.num v = Dm.dg m ++ t ∧ ∀ k (h : k < t.length), cs[j + k]? = some (.int .u8 (t[k].toNat : Int))) (fun u _ _ => (intOf u).toNat)
  case atStart => exact ⟨v, 20, [59], _, rfl, rfl, rfl, by omega, by omega, rfl, rfl, by omega, h0, rfl, by intro k h; simp at h; subst h; rfl⟩
  case round =>
    obtain ⟨m, j, t, cs, rfl, rfl, rfl, h1, h2, h3, h4, h5, h6, h7, h8⟩ := hrel
    have hr := row_more cs j m t h1 h2 h3 h4 h8
    obtain ⟨x, hx⟩ : ∃ x, cs[j - 1]? = some x := ⟨_, Array.getElem?_eq_getElem (by omega)⟩
    have hsl := fun W : World => slice21 W w.heap.size j h1 h2
    have hsp := Dm.dg_split m
    have H3 := Lib.hid h3
    have H4 := Lib.hid h4
    have H5 := Lib.hid h5
    have H7 := Lib.hid h7
    have HR := Lib.hid hr
    have HS := Lib.hid hsp
    clear h3 h4 h5 h7 h8 hr hsp
    by_cases hz : m / 10 = 0
    · have hb : ((m : Int) / 10 == 0) = true := by simp; omega
      have hcv := conv_row (w.alloc (.cells (cs.setIfInBounds (j - 1) (.int .u8 (48 + (m : Int) % 10))) 63)) w.heap.size (j - 1) (22 - j) (22 - j) (Dm.digit (m % 10) :: t) (by simp [H4.out]; omega) (by
        intro k h
        rw [← HR.out k h]
        exact Blk.cell_new _ _ _ _)
      have hfin : Dm.num v = Dm.digit (m % 10) :: t := by rw [H7.out, HS.out, hz]; simp [Dm.dgz_zero]
      rw [← hfin] at hcv
      have HF := Lib.hid hfin
      have HZ := Lib.hid hz
      clear hfin hz
      go_wp2
      go_ret
      exact ⟨rfl, (Q.refl _).alloc _⟩
    · have hb : ((m : Int) / 10 == 0) = false := by simp; omega
      have HZ := Lib.hid hz
      clear hz
      go_wp2
      have h5 := H5.out
      have hz := HZ.out
      obtain ⟨j, rfl⟩ : ∃ j', j = j' + 1 := ⟨j - 1, by omega⟩
      rw [Nat.pow_succ] at h5
      have hj : 1 ≤ j := by
        rcases Nat.eq_zero_or_pos j with e | e
        · subst e; simp at h5; omega
        · exact e
      go_roundw
      case rel => exact ⟨m / 10, j, Dm.digit (m % 10) :: t, _, by go_num, by go_num, rfl, hj, by omega, by simpa using H3.out, by simp [H4.out]; omega, by omega, by omega, by rw [H7.out, HS.out, Dm.dgz_pos _ hz]; simp, HR.out⟩
      case measure => simp [intOf]; omega

theorem conv_one (W : World) (m : Nat) : (convert 62 9 (.slice (some ⟨W.heap.size, 0, none⟩) 1 1)).run Try.prog (W.alloc (.cells #[.int .u8 (48 + (m : Int) % 10)] 5)) = .ok (.string ⟨[Dm.digit (m % 10)].toArray⟩) (W.alloc (.cells #[.int .u8 (48 + (m : Int) % 10)] 5)) := by
  refine conv_row _ _ _ _ _ [Dm.digit (m % 10)] rfl (fun k h => ?_)
  have hk : k = 0 := by simpa using h
  subst hk
  have e : ((Dm.digit (m % 10)).toNat : Int) = 48 + (m : Int) % 10 := by rw [Dm.digit_toNat _ (by omega)]; omega
  rw [Nat.add_zero, Blk.cell_new]
  simp only [List.getElem_cons_zero, e]
  rfl

set_option maxHeartbeats 400000 in
theorem refNum_nat (v : Nat) (w : World) (h0 : v < 18446744073709551616) :
    Calls Try.prog 24 #[.int .u64 v] w fun e w' => e = .returned (.string ⟨(Dm.num v).toArray⟩) ∧ Q w w' := by
  have hcv := conv_one
  go_enter Try.func24, Try.ntmps24
  go_wp2
  go_loopw [0, 3] (fun u s wr => ∃ (m : Nat) (t : List UInt8), u = .int .u64 m ∧ s = .string ⟨t.toArray⟩ ∧ Q w wr ∧ m < 18446744073709551616 ∧ Dm.num v = Dm.dgz m ++ t) (fun u _ _ => (intOf u).toNat)
  case atStart => exact ⟨v / 10, [Dm.digit (v % 10), 59], by go_num, rfl, (Q.refl _).alloc _, by omega, by unfold Dm.num; rw [Dm.dg_split]; simp⟩
  case round =>
    obtain ⟨m, t, rfl, rfl, hq, h1, h2⟩ := hrel
    have hsp := Dm.dg_split m
    have hl : t.length ≤ 21 := by
      have a := Dm.num_length v h0
      rw [h2, List.length_append] at a; omega
    have HS := Lib.hid hsp
    have H2 := Lib.hid h2
    clear hsp h2
    by_cases hz : 0 < m
    · go_wp2
      go_roundw
      case rel => exact ⟨m / 10, Dm.digit (m % 10) :: t, by go_num, str_eq (app_lists _ _), hq.alloc _, by omega, by rw [H2.out, Dm.dgz_pos _ (by omega), HS.out]; simp⟩
      case measure => simp [intOf]; omega
    · have e : m = 0 := by omega
      subst e
      have hf : Dm.num v = t := by rw [H2.out]; rfl
      have HF := Lib.hid hf
      clear hf
      go_wp2
      go_ret
      exact ⟨by rw [HF.out]; rfl, hq⟩

/-- as the walks ask for them. -/
theorem num_any (a : Int) (w : World) (h0 : 0 ≤ a) (h1 : a < 18446744073709551616) :
    Calls Try.prog 23 #[.int .u64 a] w fun e w' => e = .returned (.string ⟨(Dm.num a.toNat).toArray⟩) ∧ Q w w' := by
  obtain ⟨n, rfl⟩ := Int.eq_ofNat_of_zero_le h0
  exact num_nat n w (by omega)
theorem refNum_any (a : Int) (w : World) (h0 : 0 ≤ a) (h1 : a < 18446744073709551616) :
    Calls Try.prog 24 #[.int .u64 a] w fun e w' => e = .returned (.string ⟨(Dm.num a.toNat).toArray⟩) ∧ Q w w' := by
  obtain ⟨n, rfl⟩ := Int.eq_ofNat_of_zero_le h0
  exact refNum_nat n w (by omega)

set_option maxHeartbeats 400000 in
theorem text_any (s : ByteArray) (w : World) (hs : s.size ≤ 4611686018427387904) :
    Calls Try.prog 17 #[.string s] w fun e w' => e = .returned (.string ⟨(Dm.num s.size ++ s.data.toList).toArray⟩) ∧ Q w w' := by
  have hn := Dm.num_length s.size (by omega)
  go_enter Try.func17, Try.ntmps17
  go_wp2_with fail
  refine (num_any _ _ (by omega) (by omega)).mono ?_
  rintro e w1 ⟨rfl, q1⟩
  go_wp2_with fail
  go_ret
  exact ⟨ret_str (app_list _ _), q1⟩

set_option maxHeartbeats 400000 in
theorem refText_any (s : ByteArray) (w : World) (hs : s.size ≤ 4611686018427387904) :
    Calls Try.prog 18 #[.string s] w fun e w' => e = .returned (.string ⟨(Dm.num s.size ++ s.data.toList).toArray⟩) ∧ Q w w' := by
  have hn := Dm.num_length s.size (by omega)
  go_enter Try.func18, Try.ntmps18
  go_wp2_with fail
  refine (refNum_any _ _ (by omega) (by omega)).mono ?_
  rintro e w1 ⟨rfl, q1⟩
  go_wp2_with fail
  go_ret
  exact ⟨ret_str (app_list _ _), q1⟩
end Go.Proofs.Ythcdcjidoacalaa
