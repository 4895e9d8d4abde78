/- DecNum, SumShown, DecTakeMath, DecTake, DecTakeNum, SumOpen, RunMath: merged. -/
import Derived.Test.YtodfdklcioafmaaA7
import Derived.Test.YtodfdklcioafmaaA2
/- Contracts of package dec's Num and of the document's own. -/
namespace Go.Proofs.Ytodfdklcioafmaa
set_option maxRecDepth 100000
open Go.RowKit
set_option linter.unusedVariables false

theorem slice21 (W : World) (b j : Nat) (h0 : 1 ≤ j) (h1 : j ≤ 20) :
    (Instr.sliceAt 120 (.pointer (some ⟨b, 0, none⟩)) (some (.int .i64 ((j : Int) - 1))) none none).run Try.prog W = .ok (.slice (some ⟨b, j - 1, none⟩) (22 - j) (22 - j)) W := by
  have hl : Try.prog.arrayLen 120 = 21 := by kernel_rfl
  have he : Try.prog.elem 120 = 5 := by kernel_rfl
  have hs : (sizeOf 5).run Try.prog W = .ok 1 W := by kernel_rfl
  rw [run_sliceAt_array_l W 120 _ (by rw [hl, he]; exact Try.underlying120) .i64 _ (by omega) (by rw [hl]; omega), he, hs, hl]
  have e : ((j : Int) - 1).toNat = j - 1 := by omega
  simp only [Result.andThen, slicedAt, e]
  rw [if_neg (by omega), show 21 - (j - 1) = 22 - j from by omega]
  unfold Addr.add
  by_cases hz : (j - 1) * 1 = 0
  · rw [if_pos hz, show j - 1 = 0 from by omega]
  · rw [if_neg hz]; simp

/-- the row behind a store of one figure more. -/
theorem row_more (cs : Array Value) (j m : Nat) (t : List UInt8) (h1 : 1 ≤ j) (h2 : j ≤ 20) (h3 : cs.size = 21) (h4 : t.length = 21 - j)
    (h8 : ∀ k (h : k < t.length), cs[j + k]? = some (.int .u8 (t[k].toNat : Int))) :
    ∀ k (h : k < (Dm.digit (m % 10) :: t).length), (cs.setIfInBounds (j - 1) (.int .u8 (48 + (m : Int) % 10)))[j - 1 + k]? = some (.int .u8 ((Dm.digit (m % 10) :: t)[k].toNat : Int)) := by
  intro k h
  cases k with
  | zero =>
    have e : ((Dm.digit (m % 10)).toNat : Int) = 48 + (m : Int) % 10 := by rw [Dm.digit_toNat _ (by omega)]; omega
    simp only [Nat.add_zero, List.getElem_cons_zero, e]
    rw [Array.getElem?_setIfInBounds_self_of_lt (by omega)]
  | succ k =>
    simp only [List.getElem_cons_succ]
    rw [Array.getElem?_setIfInBounds_ne (by omega), ← h8 k (by simpa using h)]
    congr 1; omega

set_option maxHeartbeats 400000 in
theorem num_nat (v : Nat) (w : World) (h0 : v < 18446744073709551616) :
    Calls Try.prog 48 #[.int .u64 v] w fun e w' => e = .returned (.string ⟨(Dm.num v).toArray⟩) ∧ Q w w' := by
  go_enter Try.func48, Try.ntmps48
  go_wp2
  go_loopw [0, 4] (fun u i wr => ∃ (m j : Nat) (t : List UInt8) (cs : Array Value), u = .int .u64 m ∧ i = .int .i64 j ∧ w.alloc (.cells cs 120) = wr ∧ 1 ≤ j ∧ j ≤ 20 ∧ cs.size = 21 ∧ t.length = 21 - j ∧ m < 10 ^ j ∧ m < 18446744073709551616 ∧ Dm.num v = Dm.dg m ++ t ∧ ∀ k (h : k < t.length), cs[j + k]? = some (.int .u8 (t[k].toNat : Int))) (fun u _ _ => (intOf u).toNat)
  case atStart => exact ⟨v, 20, [59], _, rfl, rfl, rfl, by omega, by omega, rfl, rfl, by omega, h0, rfl, by intro k h; simp at h; subst h; rfl⟩
  case round =>
    obtain ⟨m, j, t, cs, rfl, rfl, rfl, h1, h2, h3, h4, h5, h6, h7, h8⟩ := hrel
    have hr := row_more cs j m t h1 h2 h3 h4 h8
    obtain ⟨x, hx⟩ : ∃ x, cs[j - 1]? = some x := ⟨_, Array.getElem?_eq_getElem (by omega)⟩
    have hsl := fun W : World => slice21 W w.heap.size j h1 h2
    have hsp := Dm.dg_split m
    have H3 := Lib.hid h3
    have H4 := Lib.hid h4
    have H5 := Lib.hid h5
    have H7 := Lib.hid h7
    have HR := Lib.hid hr
    have HS := Lib.hid hsp
    clear h3 h4 h5 h7 h8 hr hsp
    by_cases hz : m / 10 = 0
    · have hb : ((m : Int) / 10 == 0) = true := by simp; omega
      have hcv := conv_row (w.alloc (.cells (cs.setIfInBounds (j - 1) (.int .u8 (48 + (m : Int) % 10))) 120)) w.heap.size (j - 1) (22 - j) (22 - j) (Dm.digit (m % 10) :: t) (by simp [H4.out]; omega) (by
        intro k h
        rw [← HR.out k h]
        exact Blk.cell_new _ _ _ _)
      have hfin : Dm.num v = Dm.digit (m % 10) :: t := by rw [H7.out, HS.out, hz]; simp [Dm.dgz_zero]
      rw [← hfin] at hcv
      have HF := Lib.hid hfin
      have HZ := Lib.hid hz
      clear hfin hz
      go_wp2
      go_ret
      exact ⟨rfl, (Q.refl _).alloc _⟩
    · have hb : ((m : Int) / 10 == 0) = false := by simp; omega
      have HZ := Lib.hid hz
      clear hz
      go_wp2
      have h5 := H5.out
      have hz := HZ.out
      obtain ⟨j, rfl⟩ : ∃ j', j = j' + 1 := ⟨j - 1, by omega⟩
      rw [Nat.pow_succ] at h5
      have hj : 1 ≤ j := by
        rcases Nat.eq_zero_or_pos j with e | e
        · subst e; simp at h5; omega
        · exact e
      go_roundw
      case rel => exact ⟨m / 10, j, Dm.digit (m % 10) :: t, _, by go_num, by go_num, rfl, hj, by omega, by simpa using H3.out, by simp [H4.out]; omega, by omega, by omega, by rw [H7.out, HS.out, Dm.dgz_pos _ hz]; simp, HR.out⟩
      case measure => simp [intOf]; omega

theorem conv_one (W : World) (m : Nat) : (convert 77 9 (.slice (some ⟨W.heap.size, 0, none⟩) 1 1)).run Try.prog (W.alloc (.cells #[.int .u8 (48 + (m : Int) % 10)] 5)) = .ok (.string ⟨[Dm.digit (m % 10)].toArray⟩) (W.alloc (.cells #[.int .u8 (48 + (m : Int) % 10)] 5)) := by
  refine conv_row _ _ _ _ _ [Dm.digit (m % 10)] rfl (fun k h => ?_)
  have hk : k = 0 := by simpa using h
  subst hk
  have e : ((Dm.digit (m % 10)).toNat : Int) = 48 + (m : Int) % 10 := by rw [Dm.digit_toNat _ (by omega)]; omega
  rw [Nat.add_zero, Blk.cell_new]
  simp only [List.getElem_cons_zero, e]
  rfl

/-- as the walks ask for them. -/
theorem num_any (a : Int) (w : World) (h0 : 0 ≤ a) (h1 : a < 18446744073709551616) :
    Calls Try.prog 48 #[.int .u64 a] w fun e w' => e = .returned (.string ⟨(Dm.num a.toNat).toArray⟩) ∧ Q w w' := by
  obtain ⟨n, rfl⟩ := Int.eq_ofNat_of_zero_le h0
  exact num_nat n w (by omega)
set_option maxHeartbeats 400000 in
theorem text_any (s : ByteArray) (w : World) (hs : s.size ≤ 4611686018427387904) :
    Calls Try.prog 49 #[.string s] w fun e w' => e = .returned (.string ⟨(Dm.num s.size ++ s.data.toList).toArray⟩) ∧ Q w w' := by
  have hn := Dm.num_length s.size (by omega)
  go_enter Try.func49, Try.ntmps49
  go_wp2_with fail
  refine (num_any _ _ (by omega) (by omega)).mono ?_
  rintro e w1 ⟨rfl, q1⟩
  go_wp2_with fail
  go_ret
  exact ⟨ret_str (app_list _ _), q1⟩

end Go.Proofs.Ytodfdklcioafmaa

/- Contracts of Seal, the document's own, and the examples. -/
namespace Go.Proofs.Ytodfdklcioafmaa
set_option maxRecDepth 100000
open Go.RowKit
set_option linter.unusedVariables false

/-- a text with its sum. -/
def sld (l : List UInt8) : List UInt8 := Dm.num l.length ++ l ++ Dm.num (Sm.adler l).toNat
theorem sld_length (l : List UInt8) (h : l.length ≤ 4611686018427387904) : (sld l).length ≤ l.length + 42 := by
  have h1 := Dm.num_length l.length (by omega)
  have h2 := Sm.adler_range l
  have h3 := Dm.num_length (Sm.adler l).toNat (by omega)
  unfold sld; simp only [List.length_append]; omega

set_option maxHeartbeats 400000 in
theorem seal_any (s : ByteArray) (w : World) (hs : s.size ≤ 4611686018427387800) :
    Calls Try.prog 50 #[.string s] w fun e w' => e = .returned (.string ⟨(sld s.data.toList).toArray⟩) ∧ Q w w' := by
  have h2 := Sm.adler_range s.data.toList
  have h1 := Dm.num_length s.size (by omega)
  have h3 := Dm.num_length (Sm.adler s.data.toList).toNat (by omega)
  go_enter Try.func50, Try.ntmps50
  go_wp2_with fail
  refine (text_any _ _ (by omega)).mono ?_
  rintro e w1 ⟨rfl, q1⟩
  go_wp2_with fail
  refine (of_any _ _ (by unfold maxLen; omega)).mono ?_
  rintro e w2 ⟨rfl, q2⟩
  go_wp2_with fail
  refine (num_any _ _ (by omega) (by omega)).mono ?_
  rintro e w3 ⟨rfl, q3⟩
  go_wp2_with fail
  go_ret
  exact ⟨ret_str (by unfold sld; rw [size_list]; exact app_lists _ _), q1.trans (q2.trans q3)⟩

theorem ex_nil : Sm.adler [] = 1 := by decide
theorem ex_a : Sm.adler [97] = 6422626 := by decide
theorem ex_sld : sld [97] = [49, 59, 97, 54, 52, 50, 50, 54, 50, 54, 59] := by
  unfold sld Dm.num
  rw [ex_a]
  have e1 : Dm.dg 1 = [49] := by rw [Dm.dg]; rfl
  have f0 : Dm.dg 6 = [54] := by rw [Dm.dg]; rfl
  have f1 : Dm.dg 64 = [54, 52] := by rw [Dm.dg, if_neg (by omega), show 64 / 10 = 6 from rfl, f0]; rfl
  have f2 : Dm.dg 642 = [54, 52, 50] := by rw [Dm.dg, if_neg (by omega), show 642 / 10 = 64 from rfl, f1]; rfl
  have f3 : Dm.dg 6422 = [54, 52, 50, 50] := by rw [Dm.dg, if_neg (by omega), show 6422 / 10 = 642 from rfl, f2]; rfl
  have f4 : Dm.dg 64226 = [54, 52, 50, 50, 54] := by rw [Dm.dg, if_neg (by omega), show 64226 / 10 = 6422 from rfl, f3]; rfl
  have f5 : Dm.dg 642262 = [54, 52, 50, 50, 54, 50] := by rw [Dm.dg, if_neg (by omega), show 642262 / 10 = 64226 from rfl, f4]; rfl
  have f6 : Dm.dg 6422626 = [54, 52, 50, 50, 54, 50, 54] := by rw [Dm.dg, if_neg (by omega), show 6422626 / 10 = 642262 from rfl, f5]; rfl
  rw [show (6422626 : Int).toNat = 6422626 from rfl, f6, show ([97] : List UInt8).length = 1 from rfl, e1]; rfl

theorem of_empty (w : World) : Calls Try.prog 82 #[.string ⟨#[]⟩] w fun e w' => e = .returned (.int .u32 1) ∧ Q w w' := of_any ⟨#[]⟩ w (by decide)
theorem of_a (w : World) : Calls Try.prog 82 #[.string ⟨#[97]⟩] w fun e w' => e = .returned (.int .u32 6422626) ∧ Q w w' := by
  have h := of_any ⟨#[97]⟩ w (by decide)
  rw [show (⟨#[97]⟩ : ByteArray).data.toList = [97] from rfl, ex_a] at h
  exact h
theorem seal_a (w : World) : Calls Try.prog 50 #[.string ⟨#[97]⟩] w fun e w' => e = .returned (.string ⟨#[49, 59, 97, 54, 52, 50, 50, 54, 50, 54, 59]⟩) ∧ Q w w' := by
  have h := seal_any ⟨#[97]⟩ w (by decide)
  rw [show (⟨#[97]⟩ : ByteArray).data.toList = [97] from rfl, ex_sld] at h
  exact h

end Go.Proofs.Ytodfdklcioafmaa

/- Plain mathematics of package dec: what is taken. Nothing of the program. -/
namespace Go.Proofs.Ytodfdklcioafmaa.Dm
set_option maxRecDepth 100000

/-! ### Taking a number -/
def maxU : Nat := 18446744073709551615
theorem maxU_eq : maxU = 18446744073709551615 := rfl
/-- the figures at the beginning of a text, and what stands behind them. -/
def figs (l : List UInt8) : List UInt8 := l.takeWhile isD
def rest (l : List UInt8) : List UInt8 := l.dropWhile isD
/-- figures that no number's bytes begin with. -/
def bad (l : List UInt8) : Bool := (decide (1 < (figs l).length) && l.head? == some 48) || decide (maxU < val (figs l))
/-- what is taken: the number, what stands behind it, and the errno. -/
def tnum (l : List UInt8) : Nat × List UInt8 × Nat :=
  if bad l = true then (0, [], 3)
  else if rest l = [] then (0, [], 2)
  else if (rest l).head? ≠ some 59 ∨ figs l = [] then (0, [], 3)
  else (val (figs l), (rest l).tail, 0)

theorem figs_rest (l : List UInt8) : figs l ++ rest l = l := List.takeWhile_append_dropWhile
theorem figs_len (l : List UInt8) : (figs l).length ≤ l.length := by
  have := congrArg List.length (figs_rest l)
  rw [List.length_append] at this; omega
theorem rest_eq (l : List UInt8) : rest l = l.drop (figs l).length := by
  have h := List.drop_left (l₁ := figs l) (l₂ := rest l)
  rw [figs_rest] at h; exact h.symm
theorem figs_eq (l : List UInt8) : figs l = l.take (figs l).length := by
  have h := List.take_left (l₁ := figs l) (l₂ := rest l)
  rw [figs_rest] at h; exact h.symm
theorem figs_all (l : List UInt8) : ∀ c ∈ figs l, isD c = true := List.all_eq_true.1 List.all_takeWhile

/-- how far the figures go: n of them, and then the end or another byte. -/
theorem figs_of (l : List UInt8) (n : Nat) (h1 : n ≤ l.length) (h2 : ∀ i (h : i < n), isD (l[i]'(by omega)) = true) (h3 : n = l.length ∨ ∃ h : n < l.length, isD l[n] = false) :
    figs l = l.take n := by
  induction l generalizing n with
  | nil => simp [figs]
  | cons c l ih =>
    cases n with
    | zero =>
      rcases h3 with h3 | ⟨_, h3⟩
      · simp at h3
      · simp at h3; simp [figs, h3]
    | succ n =>
      have hc : isD c = true := h2 0 (by omega)
      have := ih n (by simpa using h1) (fun i h => by have := h2 (i + 1) (by omega); simpa using this) (by
        rcases h3 with h3 | ⟨a, h3⟩
        · left; simpa using h3
        · right; exact ⟨by simpa using a, by simpa using h3⟩)
      unfold figs at this ⊢
      rw [List.takeWhile_cons, if_pos hc, this]; simp

theorem val_foldl (l : List UInt8) : ∀ a : Nat, l.foldl (fun v c => 10 * v + dv c) a = a * 10 ^ l.length + val l := by
  induction l with
  | nil => intro a; simp [val]
  | cons c l ih =>
    intro a
    simp only [List.foldl_cons, val, List.length_cons]
    rw [ih, ih (10 * 0 + dv c), Nat.pow_succ]
    grind
theorem val_append (a b : List UInt8) : val (a ++ b) = val a * 10 ^ b.length + val b := by
  show (a ++ b).foldl _ 0 = _
  rw [List.foldl_append, val_foldl]; rfl
theorem val_le_append (a b : List UInt8) : val a ≤ val (a ++ b) := by
  rw [val_append]
  have h1 : 1 ≤ 10 ^ b.length := Nat.pow_pos (by omega)
  have h2 : val a * 1 ≤ val a * 10 ^ b.length := Nat.mul_le_mul_left _ h1
  omega
theorem val_cons (c : UInt8) (l : List UInt8) : val (c :: l) = dv c * 10 ^ l.length + val l := by
  show l.foldl _ (10 * 0 + dv c) = _
  rw [val_foldl]; simp
/-- figures that don't begin with nought, and are more than twenty, tell a number that is too great. -/
theorem val_big (l : List UInt8) (c : UInt8) (r : List UInt8) (e : l = c :: r) (hc : isD c = true) (h0 : c.toNat ≠ 48) (hl : 20 < l.length) : maxU < val l := by
  subst e
  rw [val_cons]
  have h1 : 1 ≤ dv c := by rw [isD_iff] at hc; unfold dv; omega
  have h2 : 10 ^ 20 ≤ 10 ^ r.length := Nat.pow_le_pow_right (by omega) (by simp at hl; omega)
  have h3 : 1 * 10 ^ r.length ≤ dv c * 10 ^ r.length := Nat.mul_le_mul_right _ h1
  unfold maxU
  omega

/-! ### Taking a text -/
def ttext (l : List UInt8) (most : Int) : List UInt8 × List UInt8 × Nat :=
  if (tnum l).2.2 ≠ 0 then ([], [], (tnum l).2.2)
  else if most < 0 ∨ most < ((tnum l).1 : Int) then ([], [], 4)
  else if (tnum l).2.1.length < (tnum l).1 then ([], [], 2)
  else ((tnum l).2.1.take (tnum l).1, (tnum l).2.1.drop (tnum l).1, 0)

theorem tnum_len (l : List UInt8) : (tnum l).2.1.length ≤ l.length := by
  have h := congrArg List.length (figs_rest l)
  rw [List.length_append] at h
  unfold tnum
  split
  · simp
  · split
    · simp
    · split
      · simp
      · simp; omega
theorem tnum_le (l : List UInt8) : (tnum l).1 ≤ maxU := by
  unfold tnum
  split
  · simp
  · rename_i hb
    split
    · simp
    · split
      · simp
      · simp only [bad, Bool.or_eq_true, Bool.and_eq_true, decide_eq_true_eq, not_or] at hb
        simp only; omega
theorem tnum_err (l : List UInt8) : (tnum l).2.2 = 0 ∨ (tnum l).2.2 = 2 ∨ (tnum l).2.2 = 3 := by
  unfold tnum
  split
  · simp
  · split
    · simp
    · split <;> simp

/-! ### What was written is taken -/
theorem figs_num (v : Nat) (r : List UInt8) : figs (num v ++ r) = dg v ∧ rest (num v ++ r) = 59 :: r := by
  have h59 : isD 59 = false := by decide
  have e : num v ++ r = dg v ++ 59 :: r := by simp [num]
  have h1 : figs (num v ++ r) = dg v := by
    rw [e]; unfold figs
    rw [List.takeWhile_append_of_pos (all_dg v)]
    simp [h59]
  refine ⟨h1, ?_⟩
  rw [rest_eq, h1, e]; simp
theorem head_num (v : Nat) (h : 1 < (dg v).length) : ∀ r, (dg v ++ r).head? ≠ some 48 := by
  intro r
  have hv : 10 ≤ v := by
    rcases Nat.lt_or_ge v 10 with a | a
    · rw [dg, if_pos a] at h; simp at h
    · exact a
  cases hd : dg v with
  | nil => exact absurd hd (dg_ne v)
  | cons c t =>
    have := head_dg v hv c t hd
    simp
    intro e; subst e; exact this (by decide)
theorem tnum_num (v : Nat) (r : List UInt8) (hv : v ≤ maxU) : tnum (num v ++ r) = (v, r, 0) := by
  obtain ⟨h1, h2⟩ := figs_num v r
  have hb : bad (num v ++ r) = false := by
    unfold bad
    rw [h1, val_dg]
    by_cases hl : 1 < (dg v).length
    · have := head_num v hl (59 :: r)
      rw [show num v ++ r = dg v ++ 59 :: r from by simp [num], beq_eq_false_iff_ne.2 this]
      simp; omega
    · rw [decide_eq_false hl]; simp; omega
  unfold tnum
  rw [hb, h1, h2, val_dg]
  simp [dg_ne v]
/-- no beginning of it is. -/
theorem tnum_cut (v : Nat) (hv : v ≤ maxU) (k : Nat) (hk : k < (num v).length) : tnum ((num v).take k) = (0, [], 2) := by
  have hk' : k ≤ (dg v).length := by simp [num] at hk; omega
  have e : (num v).take k = (dg v).take k := by
    unfold num; rw [List.take_append_of_le_length hk']
  rw [e]
  have hall : ∀ c ∈ (dg v).take k, isD c = true := fun c hc => all_dg v c (List.mem_of_mem_take hc)
  have h1 : figs ((dg v).take k) = (dg v).take k := by
    have := figs_of ((dg v).take k) ((dg v).take k).length (Nat.le_refl _) (fun i h => hall _ (List.getElem_mem _)) (.inl rfl)
    rw [this, List.take_length]
  have h2 : rest ((dg v).take k) = [] := by rw [rest_eq, h1]; simp
  have hb : bad ((dg v).take k) = false := by
    unfold bad
    rw [h1]
    have hle : val ((dg v).take k) ≤ v := by
      have := val_le_append ((dg v).take k) ((dg v).drop k)
      rw [List.take_append_drop, val_dg] at this; exact this
    have hd : decide (maxU < val ((dg v).take k)) = false := by simp; omega
    rw [hd, Bool.or_false]
    by_cases hl : 1 < ((dg v).take k).length
    · have hl' : 1 < (dg v).length := by rw [List.length_take] at hl; omega
      have := head_num v hl' []
      rw [List.append_nil] at this
      have e2 : ((dg v).take k).head? = (dg v).head? := by
        cases hd2 : dg v with
        | nil => simp
        | cons c t => cases k with
          | zero => simp at hl
          | succ k => simp
      rw [e2, beq_eq_false_iff_ne.2 this, Bool.and_false]
    · rw [decide_eq_false hl, Bool.false_and]
  unfold tnum
  rw [hb, h2]; simp

theorem ttext_text (s r : List UInt8) (most : Int) (h : s.length ≤ maxU) (hm : (s.length : Int) ≤ most) : ttext (num s.length ++ (s ++ r)) most = (s, r, 0) := by
  unfold ttext
  rw [tnum_num _ _ h]
  simp only [List.length_append]
  rw [if_neg (by simp), if_neg (by omega), if_neg (by omega)]
  simp
theorem ttext_big (s r : List UInt8) (most : Int) (h : s.length ≤ maxU) (hm : most < (s.length : Int)) : ttext (num s.length ++ (s ++ r)) most = ([], [], 4) := by
  unfold ttext
  rw [tnum_num _ _ h]
  rw [if_neg (by simp), if_pos (.inr hm)]
theorem ttext_cut (s : List UInt8) (most : Int) (h : s.length ≤ maxU) (hm : (s.length : Int) ≤ most) (k : Nat) (hk : k < (num s.length ++ s).length) : ttext ((num s.length ++ s).take k) most = ([], [], 2) := by
  rcases Nat.lt_or_ge k (num s.length).length with a | a
  · rw [List.take_append_of_le_length (by omega)]
    unfold ttext
    rw [tnum_cut _ h k a]
    simp
  · rw [List.take_append, List.take_of_length_le a]
    unfold ttext
    rw [tnum_num _ _ h]
    rw [List.length_append] at hk
    rw [if_neg (by simp), if_neg (by simp; omega), if_pos (by simp only [List.length_take]; omega)]

/-- figures that stand there are among the figures. -/
theorem figs_ge (l : List UInt8) (m : Nat) (h1 : m ≤ l.length) (h2 : ∀ i (h : i < m), isD (l[i]'(by omega)) = true) : ∃ t, figs l = l.take m ++ t := by
  have hall : ∀ c ∈ l.take m, isD c = true := by
    intro c hc
    obtain ⟨i, hi, rfl⟩ := List.mem_iff_getElem.1 hc
    rw [List.length_take] at hi
    rw [List.getElem_take]
    exact h2 i (by omega)
  refine ⟨(l.drop m).takeWhile isD, ?_⟩
  unfold figs
  conv => lhs; rw [← List.take_append_drop m l]
  rw [List.takeWhile_append_of_pos hall]
theorem bad_zero (l : List UInt8) (k : Nat) (h0 : 0 < k) (h1 : k < l.length) (h2 : ∀ i (h : i < k + 1), isD (l[i]'(by omega)) = true) (h3 : l.head? = some 48) : bad l = true := by
  obtain ⟨t, ht⟩ := figs_ge l (k + 1) h1 h2
  have hl : 1 < (figs l).length := by rw [ht, List.length_append, List.length_take]; omega
  unfold bad; rw [decide_eq_true hl, h3]; rfl
theorem bad_big (l : List UInt8) (k : Nat) (h1 : k < l.length) (h2 : ∀ i (h : i < k + 1), isD (l[i]'(by omega)) = true) (h3 : maxU < val (l.take (k + 1))) : bad l = true := by
  obtain ⟨t, ht⟩ := figs_ge l (k + 1) h1 h2
  have hv : maxU < val (figs l) := by rw [ht]; exact Nat.lt_of_lt_of_le h3 (val_le_append _ _)
  unfold bad; rw [decide_eq_true hv, Bool.or_true]
theorem bad_not (l : List UInt8) (k : Nat) (e : figs l = l.take k) (hk : k ≤ l.length) (h1 : 1 < k → l.head? ≠ some 48) (h2 : val (l.take k) ≤ maxU) : bad l = false := by
  unfold bad
  rw [e, decide_eq_false (show ¬ maxU < val (l.take k) by omega), Bool.or_false, List.length_take, Nat.min_eq_left hk]
  by_cases h : 1 < k
  · rw [beq_eq_false_iff_ne.2 (h1 h), Bool.and_false]
  · rw [decide_eq_false h, Bool.false_and]
end Go.Proofs.Ytodfdklcioafmaa.Dm

/- Contracts of package dec's TakeNum, TakeText and of the document's own. -/
namespace Go.Proofs.Ytodfdklcioafmaa
set_option maxRecDepth 100000
open Go.RowKit
set_option linter.unusedVariables false

theorem take_snoc' (s : ByteArray) (k : Nat) (h : k < s.size) : s.data.toList.take (k + 1) = s.data.toList.take k ++ [s[k]] := by
  rw [List.take_succ_eq_append_getElem (by simpa using h)]; rfl
theorem get_list (s : ByteArray) (k : Nat) (h : k < s.data.toList.length) : s.data.toList[k] = s[k]'(by rw [← size_list]; exact h) := rfl
theorem head_list (s : ByteArray) (h : 0 < s.size) : s.data.toList.head? = some s[0] := by
  rw [List.head?_eq_getElem?, List.getElem?_eq_getElem (by rw [size_list]; exact h)]; rfl

def figV (l : List UInt8) : Value := if Dm.bad l = true then .tuple #[.int .u64 0, .int .i64 0, .bool false] else .tuple #[.int .u64 (Dm.val (Dm.figs l)), .int .i64 ((Dm.figs l).length : Int), .bool true]

theorem figV_end (l : List UInt8) (k : Nat) (hk : k ≤ l.length) (hd : ∀ i (h : i < k) (h' : i < l.length), Dm.isD l[i] = true) (h3 : k = l.length ∨ ∃ h : k < l.length, Dm.isD l[k] = false)
    (hv : Dm.val (l.take k) ≤ Dm.maxU) (hz : 1 < k → l.head? ≠ some 48) : figV l = .tuple #[.int .u64 (Dm.val (l.take k)), .int .i64 (k : Int), .bool true] := by
  have e := Dm.figs_of l k hk (fun i h => hd i h (by omega)) h3
  have hb := Dm.bad_not l k e hk hz hv
  unfold figV
  rw [hb, e, if_neg (by simp), List.length_take, Nat.min_eq_left hk]
theorem figV_bad (l : List UInt8) (h : Dm.bad l = true) : figV l = .tuple #[.int .u64 0, .int .i64 0, .bool false] := by unfold figV; rw [if_pos h]

set_option maxHeartbeats 400000 in
theorem figures_any (s : ByteArray) (w : World) (hs : s.size ≤ maxLen) :
    Calls Try.prog 109 #[.string s] w fun e w' => e = .returned (figV s.data.toList) ∧ w = w' := by
  unfold maxLen at hs
  go_enter Try.func109, Try.ntmps109
  go_wp2
  go_step3
  go_wp2
  go_step3
  go_wp2
  go_loop [2, 3] (fun v n => ∃ k : Nat, k ≤ s.size ∧ n = .int .i64 k ∧ v = .int .u64 (Dm.val (s.data.toList.take k)) ∧ Dm.val (s.data.toList.take k) ≤ Dm.maxU ∧ (∀ i (h : i < k) (h' : i < s.data.toList.length), Dm.isD s.data.toList[i] = true) ∧ (1 < k → s.data.toList.head? ≠ some 48)) (fun _ n => s.size - (intOf n).toNat)
  case atStart => exact ⟨0, Nat.zero_le _, rfl, rfl, Nat.zero_le _, fun i h => absurd h (by omega), fun h => absurd h (by omega)⟩
  case round =>
    obtain ⟨k, hk, rfl, rfl, hv, hd, hz⟩ := hrel
    have HD := Lib.hid hd
    have HZ := Lib.hid hz
    clear hd hz
    have hv' : Dm.val (s.data.toList.take k) ≤ 18446744073709551615 := hv
    by_cases hlt : k < s.size
    · have hts := take_snoc' s k hlt
      have e1 := Dm.val_snoc (s.data.toList.take k) s[k]
      rw [← hts] at e1
      have H1 := Lib.hid e1
      clear e1 hts hv
      generalize hA : Dm.val (s.data.toList.take k) = A at *
      have HA := Lib.hid hA
      clear hA
      have hkl : k < s.data.toList.length := by rw [size_list]; exact hlt
      by_cases c0 : s[k].toNat < 48
      · have hfin := figV_end s.data.toList k (by omega) HD.out (.inr ⟨hkl, by rw [get_list]; unfold Dm.isD; rw [decide_eq_false (show ¬ 48 ≤ s[k].toNat by omega)]; rfl⟩) (by rw [HA.out]; exact hv') HZ.out
        rw [HA.out] at hfin
        have HF := Lib.hid hfin
        clear hfin
        go_wp2
        rw [HF.out]
        go_ret3
        exact ⟨rfl, rfl⟩
      have c0' : 48 ≤ s[k].toNat := by omega
      clear c0
      by_cases c1 : 57 < s[k].toNat
      · have hfin := figV_end s.data.toList k (by omega) HD.out (.inr ⟨hkl, by rw [get_list]; unfold Dm.isD; rw [decide_eq_false (show ¬ s[k].toNat ≤ 57 by omega), Bool.and_false]⟩) (by rw [HA.out]; exact hv') HZ.out
        rw [HA.out] at hfin
        have HF := Lib.hid hfin
        clear hfin
        go_wp2
        rw [HF.out]
        go_ret3
        exact ⟨rfl, rfl⟩
      have c1' : s[k].toNat ≤ 57 := by omega
      clear c1
      have hd' : ∀ i (h : i < k + 1) (h' : i < s.data.toList.length), Dm.isD s.data.toList[i] = true := by
        intro i h h'
        rcases Nat.lt_or_ge i k with a | a
        · exact HD.out i a h'
        · obtain rfl : i = k := by omega
          rw [get_list, Dm.isD_iff]; omega
      have HD' := Lib.hid hd'
      clear hd'
      by_cases c2 : 0 < k ∧ s[0].toNat = 48
      · obtain ⟨c2, c3⟩ := c2
        have hfin := figV_bad s.data.toList (Dm.bad_zero s.data.toList k c2 hkl (fun i h => HD'.out i h (by omega)) (by rw [head_list s (by omega)]; congr 1; exact UInt8.toNat_inj.1 c3))
        have HF := Lib.hid hfin
        have hb : ((s[0].toNat : Int) == 48) = true := by simp; omega
        clear hfin c3
        go_wp2
        (try rw [Exit.noGoto_ret])
        go_ret3
        exact ⟨by rw [HF.out]; rfl, rfl⟩
      have hdv : Dm.dv s[k] = s[k].toNat - 48 := rfl
      have HDV := Lib.hid hdv
      clear hdv
      have C2 := Lib.hid c2
      clear c2
      by_cases c4 : 18446744073709551615 < 10 * A + (s[k].toNat - 48)
      · have hfin := figV_bad s.data.toList (Dm.bad_big s.data.toList k hkl (fun i h => HD'.out i h (by omega)) (by rw [H1.out, HDV.out]; exact c4))
        have HF := Lib.hid hfin
        clear hfin
        have c4' : (18446744073709551615 - ((s[k].toNat : Int) - 48)) / 10 < (A : Int) := by omega
        clear c4
        by_cases c5 : k = 0
        · subst c5
          go_wp2
          (try rw [Exit.noGoto_ret])
          go_ret3
          exact ⟨by rw [HF.out]; rfl, rfl⟩
        · have c5' : 0 < k := by omega
          have hb : ((s[0].toNat : Int) == 48) = false := by
            have := C2.out
            simp; omega
          clear c5
          go_wp2
          (try rw [Exit.noGoto_ret])
          go_ret3
          exact ⟨by rw [HF.out]; rfl, rfl⟩
      have c4' : (A : Int) ≤ (18446744073709551615 - ((s[k].toNat : Int) - 48)) / 10 := by omega
      have c6 : (A : Int) * 10 + ((s[k].toNat : Int) - 48) ≤ 18446744073709551615 := by omega
      have hnew : ((10 * A + (s[k].toNat - 48) : Nat) : Int) = (A : Int) * 10 + ((s[k].toNat : Int) - 48) := by omega
      have HN := Lib.hid hnew
      have C4 := Lib.hid c4
      clear c4 hnew
      by_cases c5 : k = 0
      · subst c5
        go_wp2
        go_round
        case rel => exact ⟨0 + 1, by omega, by go_num, by rw [H1.out, HDV.out, HN.out], by rw [H1.out, HDV.out]; have := C4.out; unfold Dm.maxU; omega, HD'.out, fun h => absurd h (by omega)⟩
        case measure => simp [intOf]; omega
      · have c5' : 0 < k := by omega
        have hb : ((s[0].toNat : Int) == 48) = false := by
          have := C2.out
          simp; omega
        clear c5
        have hh : 1 < k + 1 → s.data.toList.head? ≠ some 48 := by
          intro _ e
          rw [head_list s (by omega)] at e
          injection e with e
          have := C2.out
          rw [e] at this
          exact this ⟨c5', by decide⟩
        have HH := Lib.hid hh
        clear hh
        go_wp2
        go_round
        case rel => exact ⟨k + 1, by omega, by go_num, by rw [H1.out, HDV.out, HN.out], by rw [H1.out, HDV.out]; have := C4.out; unfold Dm.maxU; omega, HD'.out, HH.out⟩
        case measure => simp [intOf]; omega
    · have hfin := figV_end s.data.toList k (by rw [size_list]; exact hk) HD.out (.inl (by rw [size_list]; omega)) hv HZ.out
      have HF := Lib.hid hfin
      clear hfin
      generalize Dm.val (s.data.toList.take k) = A at *
      go_wp2
      rw [HF.out]
      go_ret3
      exact ⟨rfl, rfl⟩
end Go.Proofs.Ytodfdklcioafmaa

/- Contracts of package dec's TakeNum, above, TakeText. -/
namespace Go.Proofs.Ytodfdklcioafmaa
set_option maxRecDepth 100000
open Go.RowKit
set_option linter.unusedVariables false

theorem extract_list (s : ByteArray) (a b : Nat) : s.extract a b = ⟨((s.data.toList.take b).drop a).toArray⟩ := by
  apply ByteArray.ext
  rw [ByteArray.data_extract]
  apply Array.ext'
  simp [List.extract_eq_take_drop, List.drop_take]

def tnR (r : Nat × List UInt8 × Nat) : Value := .tuple #[.int .u64 (r.1 : Int), .string ⟨r.2.1.toArray⟩, .int .i64 (r.2.2 : Int)]

set_option maxHeartbeats 400000 in
theorem takeNum_any (s : ByteArray) (w : World) (hs : s.size ≤ maxLen) :
    Calls Try.prog 84 #[.string s] w fun e w' => e = .returned (tnR (Dm.tnum s.data.toList)) ∧ Q w w' := by
  by_cases hb : Dm.bad s.data.toList = true
  · have hf := figV_bad _ hb
    have ht : Dm.tnum s.data.toList = (0, [], 3) := by unfold Dm.tnum; rw [if_pos hb]
    have HF := Lib.hid hf
    have HT := Lib.hid ht
    clear hf ht hb
    go_enter Try.func84, Try.ntmps84
    go_wp2_with fail
    refine (figures_any _ _ hs).mono ?_
    rintro e w1 ⟨rfl, rfl⟩
    rw [HF.out]
    go_wp2_with fail
    go_ret3
    exact ⟨by rw [HT.out]; rfl, Q.refl _⟩
  have hf : figV s.data.toList = .tuple #[.int .u64 (Dm.val (Dm.figs s.data.toList)), .int .i64 ((Dm.figs s.data.toList).length : Int), .bool true] := by unfold figV; rw [if_neg hb]
  have hle : (Dm.figs s.data.toList).length ≤ s.size := by have := Dm.figs_len s.data.toList; rw [size_list] at this; exact this
  have hrest := Dm.rest_eq s.data.toList
  have htn : Dm.tnum s.data.toList = if Dm.rest s.data.toList = [] then (0, [], 2) else if (Dm.rest s.data.toList).head? ≠ some 59 ∨ Dm.figs s.data.toList = [] then (0, [], 3) else (Dm.val (Dm.figs s.data.toList), (Dm.rest s.data.toList).tail, 0) := by
    unfold Dm.tnum; rw [if_neg hb]
  have HF := Lib.hid hf
  have HR := Lib.hid hrest
  have HT := Lib.hid htn
  have hnil : Dm.figs s.data.toList = [] ↔ (Dm.figs s.data.toList).length = 0 := List.length_eq_zero_iff.symm
  have HNIL := Lib.hid hnil
  have hval : Dm.val (Dm.figs s.data.toList) ≤ 18446744073709551615 := by
    have : Dm.bad s.data.toList = false := by simpa using hb
    unfold Dm.bad at this
    simp only [Bool.or_eq_false_iff, decide_eq_false_iff_not] at this
    have h2 := this.2
    unfold Dm.maxU at h2; omega
  clear hf hrest htn hb hnil
  generalize hN : (Dm.figs s.data.toList).length = n at *
  generalize hV : Dm.val (Dm.figs s.data.toList) = v at *
  unfold maxLen at hs
  by_cases c0 : n = s.size
  · have ht : Dm.tnum s.data.toList = (0, [], 2) := by
      rw [HT.out, if_pos (by rw [HR.out]; exact List.drop_of_length_le (by rw [size_list]; omega))]
    have HT2 := Lib.hid ht
    have hbeq : ((n : Int) == (s.size : Int)) = true := by simp; omega
    clear hN hV c0 ht
    go_enter Try.func84, Try.ntmps84
    go_wp2_with fail
    refine (figures_any _ _ (by unfold maxLen; omega)).mono ?_
    rintro e w1 ⟨rfl, rfl⟩
    rw [HF.out]
    go_wp2_with fail
    go_ret3
    exact ⟨by rw [HT2.out]; rfl, Q.refl _⟩
  have hlt : n < s.size := by omega
  have hbeq : ((n : Int) == (s.size : Int)) = false := by simp; omega
  have hrs : Dm.rest s.data.toList = s[n] :: s.data.toList.drop (n + 1) := by
    rw [HR.out, List.drop_eq_getElem_cons (by rw [size_list]; exact hlt)]; rfl
  have HRS := Lib.hid hrs
  clear hN hV c0 hrs
  by_cases c1 : s[n].toNat = 59
  · have h59 : s[n] = 59 := UInt8.toNat_inj.1 (by rw [c1]; rfl)
    have hne : ((s[n].toNat : Int) != 59) = false := by simp; omega
    clear c1
    by_cases c2 : n = 0
    · have ht : Dm.tnum s.data.toList = (0, [], 3) := by
        rw [HT.out, HRS.out, if_neg (by simp), if_pos (.inr (HNIL.out.2 c2))]
      have HT2 := Lib.hid ht
      have h0 : ((n : Int) == 0) = true := by simp; omega
      clear ht c2 h59
      go_enter Try.func84, Try.ntmps84
      go_wp2_with fail
      refine (figures_any _ _ (by unfold maxLen; omega)).mono ?_
      rintro e w1 ⟨rfl, rfl⟩
      rw [HF.out]
      go_wp2_with fail
      go_ret3
      exact ⟨by rw [HT2.out]; rfl, Q.refl _⟩
    · have ht : Dm.tnum s.data.toList = (v, s.data.toList.drop (n + 1), 0) := by
        rw [HT.out, HRS.out, if_neg (by simp), if_neg (by rw [h59]; simp; exact fun e => c2 (HNIL.out.1 e))]; rfl
      have HT2 := Lib.hid ht
      have h0 : ((n : Int) == 0) = false := by simp; omega
      have he := extract_list s (n + 1) s.size
      rw [List.take_of_length_le (by rw [size_list]; omega)] at he
      have HE := Lib.hid he
      have e1 : IntKind.i64.wrap ((n : Int) + 1) = (n : Int) + 1 := IntWalk.i64_in _ (by omega)
      have e2 : 0 ≤ (n : Int) + 1 := by omega
      have e3 : ((n : Int) + 1).toNat = n + 1 := by omega
      have e4 : (n : Int) + 1 ≤ (s.size : Int) := by omega
      clear ht c2 h59 he
      go_enter Try.func84, Try.ntmps84
      go_wp2_with fail
      refine (figures_any _ _ (by unfold maxLen; omega)).mono ?_
      rintro e w1 ⟨rfl, rfl⟩
      rw [HF.out]
      go_wp2_with fail
      go_quiet (fail)
      go_wp2_with fail
      go_ret3
      refine ⟨?_, (Q.refl _).drewN _⟩
      rw [HT2.out]; unfold tnR
      simp only [← HE.out]; rfl
  · have h59 : s[n] ≠ 59 := fun e => c1 (by rw [e]; rfl)
    have ht : Dm.tnum s.data.toList = (0, [], 3) := by
      rw [HT.out, HRS.out, if_neg (by simp), if_pos (.inl (by simpa using h59))]
    have hne : ((s[n].toNat : Int) != 59) = true := by simp; omega
    have HT2 := Lib.hid ht
    clear ht c1 h59
    go_enter Try.func84, Try.ntmps84
    go_wp2_with fail
    refine (figures_any _ _ (by unfold maxLen; omega)).mono ?_
    rintro e w1 ⟨rfl, rfl⟩
    rw [HF.out]
    go_wp2_with fail
    go_ret3
    exact ⟨by rw [HT2.out]; rfl, Q.refl _⟩

set_option maxHeartbeats 400000 in
theorem above_yes (v b : Int) (w : World) (h0 : 0 ≤ v) (h1 : v ≤ 18446744073709551615) (h2 : -9223372036854775808 ≤ b) (h3 : b ≤ 9223372036854775807) (h : b < 0 ∨ b < v) :
    Calls Try.prog 108 #[.int .u64 v, .int .i64 b] w fun e w' => e = .returned (.bool true) ∧ w = w' := by
  by_cases c : b < 0
  · have d : decide (b < 0) = true := by simpa using c
    clear h
    go_enter Try.func108, Try.ntmps108
    go_wp2
    go_ret
    exact ⟨rfl, rfl⟩
  · have c' : 0 ≤ b := by omega
    have d : decide (b < 0) = false := by simpa using c'
    have e : b < v := by omega
    have d2 : decide (b < v) = true := by simpa using e
    clear h c
    go_enter Try.func108, Try.ntmps108
    go_wp2
    go_ret
    exact ⟨rfl, rfl⟩
set_option maxHeartbeats 400000 in
theorem above_no (v b : Int) (w : World) (h0 : 0 ≤ v) (h1 : v ≤ 18446744073709551615) (h2 : 0 ≤ b) (h3 : b ≤ 9223372036854775807) (h : v ≤ b) :
    Calls Try.prog 108 #[.int .u64 v, .int .i64 b] w fun e w' => e = .returned (.bool false) ∧ w = w' := by
  have d : decide (b < 0) = false := by simpa using h2
  have d2 : decide (b < v) = false := by simpa using h
  go_enter Try.func108, Try.ntmps108
  go_wp2
  go_ret
  exact ⟨rfl, rfl⟩

def ttR (r : List UInt8 × List UInt8 × Nat) : Value := .tuple #[.string ⟨r.1.toArray⟩, .string ⟨r.2.1.toArray⟩, .int .i64 (r.2.2 : Int)]

set_option maxHeartbeats 400000 in
theorem takeText_any (s : ByteArray) (most : Int) (w : World) (hs : s.size ≤ maxLen) (hm0 : -9223372036854775808 ≤ most) (hm1 : most ≤ 9223372036854775807) :
    Calls Try.prog 83 #[.string s, .int .i64 most] w fun e w' => e = .returned (ttR (Dm.ttext s.data.toList most)) ∧ Q w w' := by
  have hlen := Dm.tnum_len s.data.toList
  have hle := Dm.tnum_le s.data.toList
  have hcall := takeNum_any s w hs
  have htx : Dm.ttext s.data.toList most = if (Dm.tnum s.data.toList).2.2 ≠ 0 then ([], [], (Dm.tnum s.data.toList).2.2) else if most < 0 ∨ most < ((Dm.tnum s.data.toList).1 : Int) then ([], [], 4) else if (Dm.tnum s.data.toList).2.1.length < (Dm.tnum s.data.toList).1 then ([], [], 2)
    else ((Dm.tnum s.data.toList).2.1.take (Dm.tnum s.data.toList).1, (Dm.tnum s.data.toList).2.1.drop (Dm.tnum s.data.toList).1, 0) := rfl
  have herr := Dm.tnum_err s.data.toList
  generalize Dm.tnum s.data.toList = x at *
  obtain ⟨n, r, er⟩ := x
  obtain ⟨R, hR⟩ : ∃ R : ByteArray, R = ⟨r.toArray⟩ := ⟨_, rfl⟩
  have hsz : R.size = r.length := by rw [hR]; show r.toArray.size = _; simp
  have hl : R.data.toList = r := by rw [hR]
  unfold tnR at hcall
  simp only at hlen hle hcall htx herr
  rw [← hR] at hcall
  have hRle : R.size ≤ s.size := by rw [hsz]; rw [size_list] at hlen; exact hlen
  unfold maxLen at hs
  unfold Dm.maxU at hle
  have HC := Lib.hid hcall
  have HT := Lib.hid htx
  have HSZ := Lib.hid hsz
  have HL := Lib.hid hl
  clear hcall htx hsz hl hR hlen
  by_cases c0 : er = 0
  · subst c0
    clear herr
    by_cases c1 : most < 0 ∨ most < (n : Int)
    · have ht : Dm.ttext s.data.toList most = ([], [], 4) := by rw [HT.out, if_neg (by simp), if_pos c1]
      have HT2 := Lib.hid ht
      have C1 := Lib.hid c1
      clear ht c1
      go_enter Try.func83, Try.ntmps83
      go_wp2_with fail
      refine HC.out.mono ?_
      rintro e w1 ⟨rfl, q1⟩
      go_wp2_with fail
      refine (above_yes _ _ _ (by omega) (by omega) hm0 hm1 C1.out).mono ?_
      rintro e w2 ⟨rfl, rfl⟩
      go_wp2_with fail
      go_ret3
      exact ⟨by rw [HT2.out]; rfl, q1⟩
    have c1' : 0 ≤ most := by omega
    have c1'' : (n : Int) ≤ most := by omega
    by_cases c2 : R.size < n
    · have ht : Dm.ttext s.data.toList most = ([], [], 2) := by rw [HT.out, if_neg (by simp), if_neg c1, if_pos (by rw [← HSZ.out]; exact c2)]
      have HT2 := Lib.hid ht
      clear ht c1
      go_enter Try.func83, Try.ntmps83
      go_wp2_with fail
      refine HC.out.mono ?_
      rintro e w1 ⟨rfl, q1⟩
      go_wp2_with fail
      refine (above_no _ _ _ (by omega) (by omega) c1' hm1 c1'').mono ?_
      rintro e w2 ⟨rfl, rfl⟩
      go_wp2_with fail
      refine (above_yes _ _ _ (by omega) (by omega) (by omega) (by omega) (by omega)).mono ?_
      rintro e w2 ⟨rfl, rfl⟩
      go_wp2_with fail
      go_ret3
      exact ⟨by rw [HT2.out]; rfl, q1⟩
    have c2' : n ≤ R.size := by omega
    have ht : Dm.ttext s.data.toList most = (r.take n, r.drop n, 0) := by rw [HT.out, if_neg (by simp), if_neg c1, if_neg (by rw [← HSZ.out]; exact c2)]
    have he1 := extract_list R 0 n
    have he2 := extract_list R n R.size
    rw [List.take_of_length_le (by rw [size_list]; omega), HL.out] at he2
    rw [HL.out, List.drop_zero] at he1
    have HT2 := Lib.hid ht
    have HE1 := Lib.hid he1
    have HE2 := Lib.hid he2
    have e4 : (n : Int) ≤ (R.size : Int) := by omega
    clear ht c1 c2 he1 he2
    go_enter Try.func83, Try.ntmps83
    go_wp2_with fail
    refine HC.out.mono ?_
    rintro e w1 ⟨rfl, q1⟩
    go_wp2_with fail
    refine (above_no _ _ _ (by omega) (by omega) c1' hm1 c1'').mono ?_
    rintro e w2 ⟨rfl, rfl⟩
    go_wp2_with fail
    refine (above_no _ _ _ (by omega) (by omega) (by omega) (by omega) (by omega)).mono ?_
    rintro e w2 ⟨rfl, rfl⟩
    go_wp2_with fail
    go_quiet (fail)
    go_wp2_with fail
    go_ret3
    refine ⟨?_, q1.drewN _⟩
    rw [HT2.out]; unfold ttR
    simp only [← HE1.out, ← HE2.out]; rfl
  · have ht : Dm.ttext s.data.toList most = ([], [], er) := by rw [HT.out, if_pos c0]
    have HT2 := Lib.hid ht
    have hne : ((er : Int) != 0) = true := by simp; omega
    clear ht c0 herr
    go_enter Try.func83, Try.ntmps83
    go_wp2_with fail
    refine HC.out.mono ?_
    rintro e w1 ⟨rfl, q1⟩
    go_wp2_with fail
    go_ret3
    exact ⟨by rw [HT2.out]; rfl, q1⟩
end Go.Proofs.Ytodfdklcioafmaa

/- The contract of sum.Open. -/
namespace Go.Proofs.Ytodfdklcioafmaa
set_option maxRecDepth 100000
open Go.RowKit
set_option linter.unusedVariables false

def topen2 (s : List UInt8) (x : Nat × List UInt8 × Nat) : List UInt8 × List UInt8 × Nat :=
  if x.2.2 ≠ 0 then ([], [], x.2.2) else if (x.1 : Int) ≠ Sm.adler s then ([], [], 10) else (s, x.2.1, 0)
def topen1 (x : List UInt8 × List UInt8 × Nat) : List UInt8 × List UInt8 × Nat :=
  if x.2.2 ≠ 0 then ([], [], x.2.2) else topen2 x.1 (Dm.tnum x.2.1)
/-- what is opened: the text, what stands behind it, the errno. -/
def topen (l : List UInt8) (most : Int) : List UInt8 × List UInt8 × Nat := topen1 (Dm.ttext l most)

theorem ttext_len (l : List UInt8) (most : Int) : (Dm.ttext l most).1.length ≤ l.length ∧ (Dm.ttext l most).2.1.length ≤ l.length := by
  have h := Dm.tnum_len l
  unfold Dm.ttext
  split
  · simp
  · split
    · simp
    · split
      · simp
      · simp; omega
theorem ttext_err (l : List UInt8) (most : Int) : (Dm.ttext l most).2.2 ≤ 4 := by
  have h := Dm.tnum_err l
  unfold Dm.ttext
  split
  · simp only; omega
  · split
    · simp
    · split <;> simp

/-- a list of bytes as a text. -/
theorem bytes_of (r : List UInt8) : ∃ R : ByteArray, R = ⟨r.toArray⟩ ∧ R.size = r.length ∧ R.data.toList = r := ⟨_, rfl, by show r.toArray.size = _; simp, rfl⟩

set_option maxHeartbeats 400000 in
theorem sopen_any (f : ByteArray) (most : Int) (w : World) (hs : f.size ≤ maxLen) (hm0 : -9223372036854775808 ≤ most) (hm1 : most ≤ 9223372036854775807) :
    Calls Try.prog 52 #[.string f, .int .i64 most] w fun e w' => e = .returned (ttR (topen f.data.toList most)) ∧ Q w w' := by
  have hcall := takeText_any f most w hs hm0 hm1
  have hlen := ttext_len f.data.toList most
  have herr := ttext_err f.data.toList most
  rw [size_list] at hlen
  have htx : topen f.data.toList most = topen1 (Dm.ttext f.data.toList most) := rfl
  generalize topen f.data.toList most = out at *
  subst htx
  generalize Dm.ttext f.data.toList most = x at *
  obtain ⟨t, r, er⟩ := x
  obtain ⟨S, hS, hSs, hSl⟩ := bytes_of t
  obtain ⟨R, hR, hRs, hRl⟩ := bytes_of r
  unfold ttR at hcall
  simp only at hlen hcall herr
  rw [← hS, ← hR] at hcall
  rw [← hSs, ← hRs] at hlen
  obtain ⟨hl1, hl2⟩ := hlen
  have HC := Lib.hid hcall
  have HSL := Lib.hid hSl
  have HRL := Lib.hid hRl
  have HS := Lib.hid hS
  clear hcall hSl hRl hS hR hSs hRs
  by_cases c0 : er = 0
  · subst c0
    clear herr
    have ho : topen1 (t, r, 0) = topen2 t (Dm.tnum r) := by unfold topen1; rw [if_neg (by simp)]
    rw [ho]
    have hcall2 := fun W => takeNum_any R W (Nat.le_trans hl2 hs)
    have hle := Dm.tnum_le r
    have hlen := Dm.tnum_len r
    have herr := Dm.tnum_err r
    rw [HRL.out] at hcall2
    generalize Dm.tnum r = y at *
    obtain ⟨v, r2, er2⟩ := y
    obtain ⟨R2, hR2, hR2s, hR2l⟩ := bytes_of r2
    unfold tnR at hcall2
    simp only at hle hlen herr hcall2
    rw [← hR2] at hcall2
    have HR2 := Lib.hid hR2
    have HC2 := Lib.hid hcall2
    clear ho hcall2 hR2 hR2s hR2l hlen
    unfold Dm.maxU at hle
    by_cases c1 : er2 = 0
    · subst c1
      clear herr
      have hof := fun W => of_any S W (Nat.le_trans hl1 hs)
      rw [HSL.out] at hof
      have hr := Sm.adler_range t
      have HOF := Lib.hid hof
      clear hof
      unfold maxLen at hs
      by_cases c2 : (v : Int) = Sm.adler t
      · have hfin : topen2 t (v, r2, 0) = (t, r2, 0) := by unfold topen2; rw [if_neg (by simp), if_neg (by simpa using c2)]
        have hbn : ((v : Int) != Sm.adler t) = false := by simpa using c2
        have HF := Lib.hid hfin
        clear hfin c2
        generalize Sm.adler t = ad at *
        go_enter Try.func52, Try.ntmps52
        go_wp2_with fail
        refine HC.out.mono ?_
        rintro e w1 ⟨rfl, q1⟩
        go_wp2_with fail
        refine (HC2.out _).mono ?_
        rintro e w2 ⟨rfl, q2⟩
        go_wp2_with fail
        refine (HOF.out _).mono ?_
        rintro e w3 ⟨rfl, q3⟩
        go_wp2_with fail
        go_ret3
        refine ⟨?_, q1.trans (q2.trans q3)⟩
        rw [HF.out]; unfold ttR
        simp only [← HR2.out, ← HS.out]; rfl
      · have hfin : topen2 t (v, r2, 0) = ([], [], 10) := by unfold topen2; rw [if_neg (by simp), if_pos (by simpa using c2)]
        have hbn : ((v : Int) != Sm.adler t) = true := by simpa using c2
        have HF := Lib.hid hfin
        clear hfin c2
        generalize Sm.adler t = ad at *
        go_enter Try.func52, Try.ntmps52
        go_wp2_with fail
        refine HC.out.mono ?_
        rintro e w1 ⟨rfl, q1⟩
        go_wp2_with fail
        refine (HC2.out _).mono ?_
        rintro e w2 ⟨rfl, q2⟩
        go_wp2_with fail
        refine (HOF.out _).mono ?_
        rintro e w3 ⟨rfl, q3⟩
        go_wp2_with fail
        go_ret3
        exact ⟨by rw [HF.out]; rfl, q1.trans (q2.trans q3)⟩
    · have hfin : topen2 t (v, r2, er2) = ([], [], er2) := by unfold topen2; rw [if_pos c1]
      have hne : ((er2 : Int) != 0) = true := by simp; omega
      have HF := Lib.hid hfin
      clear hfin c1 herr
      go_enter Try.func52, Try.ntmps52
      go_wp2_with fail
      refine HC.out.mono ?_
      rintro e w1 ⟨rfl, q1⟩
      go_wp2_with fail
      refine (HC2.out _).mono ?_
      rintro e w2 ⟨rfl, q2⟩
      go_wp2_with fail
      go_ret3
      exact ⟨by rw [HF.out]; rfl, q1.trans q2⟩
  · have ho : topen1 (t, r, er) = ([], [], er) := by unfold topen1; rw [if_pos c0]
    have hne : ((er : Int) != 0) = true := by simp; omega
    have HF := Lib.hid ho
    clear ho c0 herr
    go_enter Try.func52, Try.ntmps52
    go_wp2_with fail
    refine HC.out.mono ?_
    rintro e w1 ⟨rfl, q1⟩
    go_wp2_with fail
    go_ret3
    exact ⟨by rw [HF.out]; rfl, q1⟩

/-! ### What was sealed is opened -/
theorem adler_maxU (l : List UInt8) : (Sm.adler l).toNat ≤ Dm.maxU := by have := Sm.adler_range l; unfold Dm.maxU; omega
theorem topen_sld (s more : List UInt8) (most : Int) (h : s.length ≤ Dm.maxU) (hm : (s.length : Int) ≤ most) : topen (sld s ++ more) most = (s, more, 0) := by
  have e : sld s ++ more = Dm.num s.length ++ (s ++ (Dm.num (Sm.adler s).toNat ++ more)) := by simp [sld]
  have hr := Sm.adler_range s
  unfold topen
  rw [e, Dm.ttext_text s _ most h hm]
  unfold topen1
  rw [if_neg (by simp)]
  simp only
  rw [Dm.tnum_num _ _ (adler_maxU s)]
  unfold topen2
  rw [if_neg (by simp), if_neg (by simp only [ne_eq, Decidable.not_not]; omega)]
theorem topen_big (s : List UInt8) (most : Int) (h : s.length ≤ Dm.maxU) (hm : most < (s.length : Int)) : topen (sld s) most = ([], [], 4) := by
  have e : sld s = Dm.num s.length ++ (s ++ Dm.num (Sm.adler s).toNat) := by simp [sld]
  unfold topen
  rw [e, Dm.ttext_big s _ most h hm]
  unfold topen1
  rw [if_pos (by simp)]
theorem topen_cut (s : List UInt8) (most : Int) (h : s.length ≤ Dm.maxU) (hm : (s.length : Int) ≤ most) (k : Nat) (hk : k < (sld s).length) : topen ((sld s).take k) most = ([], [], 2) := by
  unfold topen
  rcases Nat.lt_or_ge k (Dm.num s.length ++ s).length with a | a
  · have e : (sld s).take k = (Dm.num s.length ++ s).take k := by
      unfold sld; rw [List.take_append_of_le_length (by omega)]
    rw [e, Dm.ttext_cut s most h hm k a]
    unfold topen1
    rw [if_pos (by simp)]
  · have e : (sld s).take k = Dm.num s.length ++ (s ++ (Dm.num (Sm.adler s).toNat).take (k - (Dm.num s.length ++ s).length)) := by
      unfold sld; rw [List.take_append, List.take_of_length_le a]; simp
    rw [e, Dm.ttext_text s _ most h hm]
    unfold topen1
    rw [if_neg (by simp)]
    simp only
    have hk2 : k - (Dm.num s.length ++ s).length < (Dm.num (Sm.adler s).toNat).length := by
      unfold sld at hk; rw [List.length_append] at hk; omega
    rw [Dm.tnum_cut _ (adler_maxU s) _ hk2]
    unfold topen2
    rw [if_pos (by simp)]
end Go.Proofs.Ytodfdklcioafmaa

/- The mathematics of package run: a row's bytes, and the row of bytes. -/
namespace Go.Proofs.Ytodfdklcioafmaa
set_option maxRecDepth 100000
open Prm
set_option linter.unusedVariables false
set_option linter.unusedSimpArgs false
namespace Rn

def big (p : Pr) : Bool := decide (65536 < p.key.size) || decide (65536 < p.val.size)
def may (l : List Pr) : Bool := right l && !l.any big
def ptx (s : ByteArray) : List UInt8 := Dm.num s.data.toList.length ++ s.data.toList
def one (p : Pr) : List UInt8 := ptx p.key ++ ptx p.val
def flat : List Pr → List UInt8
  | [] => []
  | p :: l => one p ++ flat l
def body (l : List Pr) : List UInt8 := Dm.num l.length ++ flat l
def bytes (l : List Pr) : List UInt8 := sld (body l)
/-- n pairs, taken off r, behind those of acc. -/
def tkp : Nat → List UInt8 → List Pr → List Pr × List UInt8 × Nat
  | 0, r, acc => (acc, r, 0)
  | n + 1, r, acc =>
    if (Dm.ttext r 65536).2.2 ≠ 0 then (acc, [], (Dm.ttext r 65536).2.2)
    else if (Dm.ttext (Dm.ttext r 65536).2.1 65536).2.2 ≠ 0 then (acc, [], (Dm.ttext (Dm.ttext r 65536).2.1 65536).2.2)
    else tkp n (Dm.ttext (Dm.ttext r 65536).2.1 65536).2.1 (acc ++ [⟨⟨(Dm.ttext r 65536).1.toArray⟩, ⟨(Dm.ttext (Dm.ttext r 65536).2.1 65536).1.toArray⟩⟩])
def tkps (s : List UInt8) : List Pr × List UInt8 × Nat :=
  if (Dm.tnum s).2.2 ≠ 0 then ([], [], (Dm.tnum s).2.2) else tkp (Dm.tnum s).1 (Dm.tnum s).2.1 []
def tk2 (x : List Pr × List UInt8 × Nat) : List Pr × Nat := if x.2.2 ≠ 0 ∨ x.2.1 ≠ [] ∨ may x.1 = false then ([], 3) else (x.1, 0)
def tk1 (x : List UInt8 × List UInt8 × Nat) : List Pr × Nat := if x.2.2 ≠ 0 ∨ x.2.1 ≠ [] then ([], 3) else tk2 (tkps x.1)
/-- the row of bytes, and the errno. -/
def take (s : List UInt8) (most : Int) : List Pr × Nat := tk1 (topen s most)

theorem may_big {l : List Pr} (h : may l = true) : ∀ p ∈ l, p.key.size ≤ 65536 ∧ p.val.size ≤ 65536 := by
  intro p hp
  unfold may at h
  simp only [Bool.and_eq_true, Bool.not_eq_true', List.any_eq_false] at h
  have := h.2 p hp
  simp only [big, Bool.or_eq_true, decide_eq_true_eq, not_or] at this
  omega
theorem may_right {l : List Pr} (h : may l = true) : right l = true := by
  unfold may at h
  simp only [Bool.and_eq_true] at h
  exact h.1

theorem flat_app (l m : List Pr) : flat (l ++ m) = flat l ++ flat m := by
  induction l with
  | nil => rfl
  | cons p l ih => simp [flat, ih]
theorem flat_snoc (l : List Pr) {k : Nat} (hk : k < l.length) : flat (l.take (k + 1)) = flat (l.take k) ++ one l[k] := by
  rw [List.take_succ_eq_append_getElem hk, flat_app]; simp [flat]

theorem size_data (s : ByteArray) : s.data.toList.length = s.size := by simp
theorem mk_data (s : ByteArray) : (⟨s.data.toList.toArray⟩ : ByteArray) = s := by simp

theorem ttext_ptx (s : ByteArray) (r : List UInt8) (h : s.size ≤ 65536) : Dm.ttext (ptx s ++ r) 65536 = (s.data.toList, r, 0) := by
  unfold ptx
  rw [List.append_assoc]
  exact Dm.ttext_text _ r 65536 (by rw [size_data]; unfold Dm.maxU; omega) (by rw [size_data]; omega)

/-- What was told is taken. -/
theorem tkp_flat : ∀ (l : List Pr) (r : List UInt8) (acc : List Pr), (∀ p ∈ l, p.key.size ≤ 65536 ∧ p.val.size ≤ 65536) → tkp l.length (flat l ++ r) acc = (acc ++ l, r, 0)
  | [], r, acc, _ => by simp [tkp, flat]
  | p :: l, r, acc, h => by
    have hp := h p (by simp)
    have e1 : flat (p :: l) ++ r = ptx p.key ++ (ptx p.val ++ (flat l ++ r)) := by simp [flat, one]
    rw [List.length_cons, tkp, e1, ttext_ptx _ _ hp.1]
    simp only [ne_eq, not_true_eq_false, if_false]
    rw [ttext_ptx _ _ hp.2]
    simp only [ne_eq, not_true_eq_false, if_false]
    rw [mk_data, mk_data, tkp_flat l r _ (fun q hq => h q (by simp [hq]))]
    simp
theorem tkps_body (l : List Pr) (h : ∀ p ∈ l, p.key.size ≤ 65536 ∧ p.val.size ≤ 65536) (hl : l.length ≤ Dm.maxU) : tkps (body l) = (l, [], 0) := by
  unfold tkps body
  rw [Dm.tnum_num _ _ hl]
  simp only [ne_eq, not_true_eq_false, if_false]
  have := tkp_flat l [] [] h
  simpa using this
theorem take_bytes (l : List Pr) (most : Int) (h : may l = true) (hl : (body l).length ≤ Dm.maxU) (hm : ((body l).length : Int) ≤ most) : take (bytes l) most = (l, 0) := by
  have hn : l.length ≤ Dm.maxU := by
    have h1 : l.length ≤ (flat l).length := by
      clear h hl hm
      induction l with
      | nil => simp
      | cons p l ih =>
        simp only [flat, one, ptx, List.length_append, List.length_cons]
        have := Dm.dg_pos p.key.data.toList.length
        simp only [Dm.num, List.length_append, List.length_singleton]
        omega
    unfold body at hl; rw [List.length_append] at hl; omega
  unfold take bytes
  have e := topen_sld (body l) [] most hl hm
  rw [List.append_nil] at e
  rw [e, tk1]
  simp only [ne_eq, not_true_eq_false, or_self, if_false]
  rw [tkps_body l (may_big h) hn, tk2]
  simp [h]

/-- Of a beginning of what was sealed nothing is opened. -/
theorem ttext_cut_any (s : List UInt8) (most : Int) (h : s.length ≤ Dm.maxU) (k : Nat) (hk : k < (Dm.num s.length ++ s).length) : (Dm.ttext ((Dm.num s.length ++ s).take k) most).2.2 ≠ 0 := by
  by_cases hm : (s.length : Int) ≤ most
  · rw [Dm.ttext_cut s most h hm k hk]; simp
  · rcases Nat.lt_or_ge k (Dm.num s.length).length with a | a
    · have e : (Dm.num s.length ++ s).take k = (Dm.num s.length).take k := by rw [List.take_append_of_le_length (by omega)]
      unfold Dm.ttext
      rw [e, Dm.tnum_cut _ h k a, if_pos (by simp)]
      simp
    · have e : (Dm.num s.length ++ s).take k = Dm.num s.length ++ s.take (k - (Dm.num s.length).length) := by
        rw [List.take_append, List.take_of_length_le a]
      unfold Dm.ttext
      rw [e, Dm.tnum_num _ _ h, if_neg (by simp), if_pos (by simp only; omega)]
      simp
theorem topen_cut_any (s : List UInt8) (most : Int) (h : s.length ≤ Dm.maxU) (k : Nat) (hk : k < (sld s).length) : (topen ((sld s).take k) most).2.2 ≠ 0 := by
  by_cases hm : (s.length : Int) ≤ most
  · rw [topen_cut s most h hm k hk]; simp
  · unfold topen
    rcases Nat.lt_or_ge k (Dm.num s.length ++ s).length with a | a
    · have e : (sld s).take k = (Dm.num s.length ++ s).take k := by
        unfold sld; rw [List.take_append_of_le_length (by omega)]
      rw [e]
      have := ttext_cut_any s most h k a
      unfold topen1
      rw [if_pos this]
      exact this
    · have e : (sld s).take k = Dm.num s.length ++ (s ++ (Dm.num (Sm.adler s).toNat).take (k - (Dm.num s.length ++ s).length)) := by
        unfold sld; rw [List.take_append, List.take_of_length_le a]; simp
      rw [e, Dm.ttext_big s _ most h (by omega)]
      unfold topen1
      rw [if_pos (by simp)]
      simp
theorem take_cut (l : List Pr) (most : Int) (hl : (body l).length ≤ Dm.maxU) (k : Nat) (hk : k < (bytes l).length) : take ((bytes l).take k) most = ([], 3) := by
  unfold take tk1
  rw [if_pos (.inl (topen_cut_any _ most hl k hk))]

/-- Which bound is told makes no odds, if it is as great as the text. -/
theorem ttext_most (l : List UInt8) (m1 m2 : Int) (h1 : (l.length : Int) ≤ m1) (h2 : (l.length : Int) ≤ m2) :
    Dm.ttext l m1 = Dm.ttext l m2 ∨ ((Dm.ttext l m1).2.2 ≠ 0 ∧ (Dm.ttext l m2).2.2 ≠ 0) := by
  have hlen := Dm.tnum_len l
  by_cases hs : (Dm.tnum l).2.1.length < (Dm.tnum l).1
  · right
    unfold Dm.ttext
    constructor <;> · split
                      · assumption
                      · split
                        · simp
                        · simp
  · left
    unfold Dm.ttext
    by_cases h0 : (Dm.tnum l).2.2 ≠ 0
    · rw [if_pos h0, if_pos h0]
    · have a1 : ¬ (m1 < 0 ∨ m1 < ((Dm.tnum l).1 : Int)) := by omega
      have a2 : ¬ (m2 < 0 ∨ m2 < ((Dm.tnum l).1 : Int)) := by omega
      rw [if_neg h0, if_neg h0, if_neg a1, if_neg a2]
theorem take_most (s : List UInt8) (m1 m2 : Int) (h1 : (s.length : Int) ≤ m1) (h2 : (s.length : Int) ≤ m2) : take s m1 = take s m2 := by
  unfold take topen
  rcases ttext_most s m1 m2 h1 h2 with e | ⟨a, b⟩
  · rw [e]
  · unfold topen1 tk1
    rw [if_pos a, if_pos b, if_pos (.inl a), if_pos (.inl b)]

/-- How much a text takes at least. -/
theorem tnum_takes (l : List UInt8) (h : (Dm.tnum l).2.2 = 0) : (Dm.tnum l).2.1.length + 2 ≤ l.length := by
  have hl := congrArg List.length (Dm.figs_rest l)
  rw [List.length_append] at hl
  unfold Dm.tnum at h ⊢
  split at h
  · simp at h
  · rename_i hb
    split at h
    · simp at h
    · rename_i hr
      split at h
      · simp at h
      · rename_i hf
        rw [if_neg hb, if_neg hr, if_neg hf]
        simp only [not_or] at hf
        have h1 : 1 ≤ (Dm.figs l).length := by
          cases hh : Dm.figs l with
          | nil => exact absurd hh hf.2
          | cons a b => simp
        have h2 : 1 ≤ (Dm.rest l).length := by
          cases hh : Dm.rest l with
          | nil => exact absurd hh hr
          | cons a b => simp
        simp only [List.length_tail]
        omega
theorem ttext_takes (l : List UInt8) (most : Int) (h : (Dm.ttext l most).2.2 = 0) : (Dm.ttext l most).2.1.length + 2 ≤ l.length := by
  unfold Dm.ttext at h ⊢
  split at h
  · rename_i h0; simp only at h; exact absurd h h0
  · rename_i h0
    split at h
    · simp at h
    · rename_i h1
      split at h
      · simp at h
      · rename_i h2
        rw [if_neg h0, if_neg h1, if_neg h2]
        have := tnum_takes l (by simpa using h0)
        simp only [List.length_drop]
        omega
theorem body_length (l : List Pr) (h : ∀ p ∈ l, p.key.size ≤ 65536 ∧ p.val.size ≤ 65536) (hl : l.length ≤ Dm.maxU) : (body l).length ≤ 21 + l.length * 131114 := by
  have hf : ∀ m : List Pr, (∀ p ∈ m, p.key.size ≤ 65536 ∧ p.val.size ≤ 65536) → (flat m).length ≤ m.length * 131114 := by
    intro m
    induction m with
    | nil => intro _; simp [flat]
    | cons p m ih =>
      intro hm
      have h1 := hm p (by simp)
      have h2 := ih fun q hq => hm q (by simp [hq])
      have h3 := Dm.num_length p.key.size (by omega)
      have h4 := Dm.num_length p.val.size (by omega)
      simp only [flat, one, ptx, List.length_append, List.length_cons, size_data, Nat.add_mul]
      omega
  have := hf l h
  have h2 := Dm.num_length l.length (by unfold Dm.maxU at hl; omega)
  unfold body
  rw [List.length_append]
  omega
end Rn
end Go.Proofs.Ytodfdklcioafmaa
