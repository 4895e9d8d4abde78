/- The mathematics of package batch: which batches may be, their bytes, the batch of bytes, what a batch makes of a state, a state as pairs. -/
import Derived.Test.YthcdcjidoacalaaRunMath
namespace Go.Proofs.Ythcdcjidoacalaa
set_option maxRecDepth 100000
open Prm
set_option linter.unusedVariables false
set_option linter.unusedSimpArgs false
namespace Bm

structure Bt where
  kind : Int
  tok : ByteArray
  ws : List Wr
deriving DecidableEq
structure Sta where
  data : List Pr
  toks : List Pr
deriving DecidableEq

def wrong (w : Wr) : Bool := decide (w.key.size < 1) || decide (32 < w.key.size) || decide ((if w.del then 0 else 64) < w.val.size)
def keys (l : List Wr) : List Pr := l.map fun w => ⟨w.key, ⟨#[]⟩⟩
def rise (l : List Wr) : Bool := right (keys l)
def may (b : Bt) : Bool :=
  if b.tok.size < 1 ∨ 16 < b.tok.size then false
  else if b.kind = 1 then decide (b.ws.length ≤ 24) && rise b.ws && !b.ws.any wrong
  else if b.kind = 2 then decide (b.ws.length = 0)
  else false

theorem may_tok {b : Bt} (h : may b = true) : 1 ≤ b.tok.size ∧ b.tok.size ≤ 16 := by
  unfold may at h
  split at h
  · cases h
  · omega
theorem may_kind {b : Bt} (h : may b = true) : b.kind = 1 ∨ b.kind = 2 := by
  unfold may at h
  split at h
  · cases h
  · split at h
    · left; assumption
    · split at h
      · right; assumption
      · cases h
theorem may_len {b : Bt} (h : may b = true) : b.ws.length ≤ 24 := by
  unfold may at h
  split at h
  · cases h
  · split at h
    · simp only [Bool.and_eq_true, decide_eq_true_eq] at h; exact h.1.1
    · split at h
      · simp only [decide_eq_true_eq] at h; omega
      · cases h
theorem may_ok {b : Bt} (h : may b = true) : rise b.ws = true ∧ ∀ w ∈ b.ws, wrong w = false := by
  unfold may at h
  split at h
  · cases h
  · split at h
    · simp only [Bool.and_eq_true, Bool.not_eq_true', List.any_eq_false] at h
      exact ⟨h.1.2, fun w hw => by simpa using h.2 w hw⟩
    · split at h
      · simp only [decide_eq_true_eq] at h
        have e := List.eq_nil_of_length_eq_zero h
        rw [e]
        exact ⟨rfl, by simp⟩
      · cases h
theorem wrong_iff {x : Wr} : wrong x = true ↔ (x.key.size < 1 ∨ 32 < x.key.size ∨ (if x.del then 0 else 64) < x.val.size) := by
  unfold wrong
  simp only [Bool.or_eq_true, decide_eq_true_eq, or_assoc]
theorem wrong_t {x : Wr} (h : x.key.size < 1 ∨ 32 < x.key.size ∨ (if x.del then 0 else 64) < x.val.size) : wrong x = true := wrong_iff.2 h
theorem wrong_f {x : Wr} (h : ¬(x.key.size < 1 ∨ 32 < x.key.size ∨ (if x.del then 0 else 64) < x.val.size)) : wrong x = false := by
  cases e : wrong x with
  | false => rfl
  | true => exact absurd (wrong_iff.1 e) h
theorem wrong_not {w : Wr} (h : wrong w = false) : 1 ≤ w.key.size ∧ w.key.size ≤ 32 ∧ w.val.size ≤ 64 ∧ (w.del = true → w.val.size = 0) := by
  unfold wrong at h
  simp only [Bool.or_eq_false_iff, decide_eq_false_iff_not] at h
  obtain ⟨⟨a, b⟩, c⟩ := h
  refine ⟨by omega, by omega, ?_, fun hd => ?_⟩
  · split at c <;> omega
  · rw [if_pos hd] at c; omega

/-- bytes. -/
def del (w : Wr) : Nat := if w.del then 1 else 0
def one (w : Wr) : List UInt8 := Dm.num (del w) ++ Rn.ptx w.key ++ Rn.ptx w.val
def flat : List Wr → List UInt8
  | [] => []
  | w :: l => one w ++ flat l
def head (b : Bt) : List UInt8 := Dm.num b.kind.toNat ++ Rn.ptx b.tok ++ Dm.num b.ws.length
def bytes (b : Bt) : List UInt8 := head b ++ flat b.ws
def bytesM (b : Bt) : List UInt8 × Int := if may b then (bytes b, 0) else ([], 1)
theorem flat_app (l m : List Wr) : flat (l ++ m) = flat l ++ flat m := by
  induction l with
  | nil => rfl
  | cons p l ih => simp [flat, ih]
theorem flat_snoc (l : List Wr) {k : Nat} (hk : k < l.length) : flat (l.take (k + 1)) = flat (l.take k) ++ one l[k] := by
  rw [List.take_succ_eq_append_getElem hk, flat_app]; simp [flat]
theorem ptx_len (s : ByteArray) (h : s.size ≤ 1000) : (Rn.ptx s).length ≤ 21 + s.size := by
  unfold Rn.ptx
  rw [List.length_append, Rn.size_data]
  have := Dm.num_length s.size (by omega)
  omega
theorem one_len (w : Wr) (h : wrong w = false) : (one w).length ≤ 159 := by
  obtain ⟨a, b, c, _⟩ := wrong_not h
  have h1 := ptx_len w.key (by omega)
  have h2 := ptx_len w.val (by omega)
  have h3 := Dm.num_length (del w) (by unfold del; split <;> omega)
  unfold one
  rw [List.length_append, List.length_append]
  omega
theorem flat_len : ∀ (l : List Wr), (∀ w ∈ l, wrong w = false) → (flat l).length ≤ l.length * 159
  | [], _ => by simp [flat]
  | w :: l, h => by
    have h1 := one_len w (h w (by simp))
    have h2 := flat_len l fun q hq => h q (by simp [hq])
    simp only [flat, List.length_append, List.length_cons, Nat.add_mul]
    omega
theorem head_len {b : Bt} (h : may b = true) : (head b).length ≤ 79 := by
  have h1 := ptx_len b.tok (by have := (may_tok h).2; omega)
  have h2 := Dm.num_length b.kind.toNat (by have := may_kind h; omega)
  have h3 := Dm.num_length b.ws.length (by have := may_len h; omega)
  have := (may_tok h).2
  unfold head
  rw [List.length_append, List.length_append]
  omega
theorem bytes_len {b : Bt} (h : may b = true) : (bytes b).length ≤ 4000 := by
  have h1 := head_len h
  have h2 := flat_len b.ws (may_ok h).2
  have h3 := may_len h
  have h4 : b.ws.length * 159 ≤ 24 * 159 := Nat.mul_le_mul_right _ h3
  unfold bytes
  rw [List.length_append]
  omega

/-- what is taken: a number, a text, a write, writes, a batch; what is left, and whether all was right. -/
abbrev Hs := List UInt8 × Bool
def tkN (most : Nat) (x : Hs) : Nat × Hs := if (Dm.tnum x.1).2.2 ≠ 0 ∨ most < (Dm.tnum x.1).1 then (0, (Dm.tnum x.1).2.1, false) else ((Dm.tnum x.1).1, (Dm.tnum x.1).2.1, x.2)
def tkT (most : Int) (x : Hs) : List UInt8 × Hs := ((Dm.ttext x.1 most).1, (Dm.ttext x.1 most).2.1, x.2 && decide ((Dm.ttext x.1 most).2.2 = 0))
def tkW (x : Hs) : Wr × Hs :=
  (⟨⟨(tkT 32 (tkN 1 x).2).1.toArray⟩, ⟨(tkT 64 (tkT 32 (tkN 1 x).2).2).1.toArray⟩, decide ((tkN 1 x).1 = 1)⟩, (tkT 64 (tkT 32 (tkN 1 x).2).2).2)
def tkWs : Nat → List Wr → Hs → List Wr × Hs
  | 0, acc, x => (acc, x)
  | n + 1, acc, x => tkWs n (acc ++ [(tkW x).1]) (tkW x).2
def tkH (x : Hs) : Nat × List UInt8 × Nat × Hs := ((tkN 2 x).1, (tkT 16 (tkN 2 x).2).1, (tkN 24 (tkT 16 (tkN 2 x).2).2).1, (tkN 24 (tkT 16 (tkN 2 x).2).2).2)
def tkB (x : Hs) : Bt × Hs :=
  (⟨((tkH x).1 : Nat), ⟨(tkH x).2.1.toArray⟩, (tkWs (tkH x).2.2.1 [] (tkH x).2.2.2).1⟩, (tkWs (tkH x).2.2.1 [] (tkH x).2.2.2).2)
def fin (x : Bt × Hs) : Bt × Nat := if x.2.2 = true ∧ x.2.1 = [] ∧ may x.1 = true then (x.1, 0) else (⟨0, ⟨#[]⟩, []⟩, 3)
/-- the batch of bytes, and the errno. -/
def take (s : List UInt8) : Bt × Nat := fin (tkB (s, true))

theorem fin_bad {x : Bt × Hs} (h : x.2.2 = false) : fin x = (⟨0, ⟨#[]⟩, []⟩, 3) := by unfold fin; rw [if_neg (by rw [h]; simp)]

/-- what was wrong once stays so. -/
theorem tkN_no (m : Nat) (l : List UInt8) : (tkN m (l, false)).2.2 = false := by unfold tkN; split <;> rfl
theorem tkT_no (m : Int) (l : List UInt8) : (tkT m (l, false)).2.2 = false := by unfold tkT; rfl
theorem tkN_no' {m : Nat} {x : Hs} (h : x.2 = false) : (tkN m x).2.2 = false := by obtain ⟨a, b⟩ := x; cases h; exact tkN_no m a
theorem tkT_no' {m : Int} {x : Hs} (h : x.2 = false) : (tkT m x).2.2 = false := by obtain ⟨a, b⟩ := x; cases h; exact tkT_no m a
theorem tkW_no {x : Hs} (h : x.2 = false) : (tkW x).2.2 = false := tkT_no' (tkT_no' (tkN_no' h))
theorem tkWs_no : ∀ (n : Nat) (acc : List Wr) {x : Hs}, x.2 = false → (tkWs n acc x).2.2 = false
  | 0, _, _, h => h
  | n + 1, acc, x, h => tkWs_no n _ (tkW_no h)

/-- bytes behind all make no odds. -/
theorem figs_more (l m : List UInt8) (h : Dm.rest l ≠ []) : Dm.figs (l ++ m) = Dm.figs l ∧ Dm.rest (l ++ m) = Dm.rest l ++ m := by
  have h1 := Dm.figs_rest l
  have hd : ∃ c r, Dm.rest l = c :: r ∧ Dm.isD c = false := by
    cases hr : Dm.rest l with
    | nil => exact absurd hr h
    | cons c r =>
      refine ⟨c, r, rfl, ?_⟩
      have := List.head?_dropWhile_not Dm.isD l
      unfold Dm.rest at hr
      rw [hr] at this
      simpa using this
  obtain ⟨c, r, hr, hc⟩ := hd
  have e : l ++ m = Dm.figs l ++ (c :: (r ++ m)) := by rw [← List.cons_append, ← hr, ← List.append_assoc, h1]
  have e1 : Dm.figs (l ++ m) = Dm.figs l := by
    rw [e]; show List.takeWhile _ _ = _
    rw [List.takeWhile_append_of_pos (Dm.figs_all l), List.takeWhile_cons, hc]; simp
  refine ⟨e1, ?_⟩
  have h2 := Dm.figs_rest (l ++ m)
  rw [e1, e] at h2
  have := List.append_cancel_left h2
  rw [← e] at this
  rw [this, hr]; rfl
theorem head_app {l m : List UInt8} (h : l ≠ []) : (l ++ m).head? = l.head? := by
  cases l with
  | nil => exact absurd rfl h
  | cons a l => rfl
theorem tnum_more (l m : List UInt8) (h : (Dm.tnum l).2.2 = 0) : Dm.tnum (l ++ m) = ((Dm.tnum l).1, (Dm.tnum l).2.1 ++ m, 0) := by
  unfold Dm.tnum at h ⊢
  by_cases h1 : Dm.bad l = true
  · rw [if_pos h1] at h; simp at h
  · rw [if_neg h1] at h ⊢
    by_cases h2 : Dm.rest l = []
    · rw [if_pos h2] at h; simp at h
    · rw [if_neg h2] at h ⊢
      by_cases h3 : (Dm.rest l).head? ≠ some 59 ∨ Dm.figs l = []
      · rw [if_pos h3] at h; simp at h
      · rw [if_neg h3]
        obtain ⟨e1, e2⟩ := figs_more l m h2
        have hl : l ≠ [] := by rintro rfl; exact h2 rfl
        have eb : Dm.bad (l ++ m) = Dm.bad l := by
          unfold Dm.bad
          rw [e1, head_app hl]
        rw [eb, if_neg h1, e1, e2, if_neg (by simp [h2]), if_neg]
        · rw [List.tail_append_of_ne_nil h2]
        · rw [head_app h2]; exact h3
theorem ttext_more (l m : List UInt8) (most : Int) (h : (Dm.ttext l most).2.2 = 0) : Dm.ttext (l ++ m) most = ((Dm.ttext l most).1, (Dm.ttext l most).2.1 ++ m, 0) := by
  unfold Dm.ttext at h ⊢
  by_cases h1 : (Dm.tnum l).2.2 ≠ 0
  · rw [if_pos h1] at h; exact absurd h h1
  · have h1' : (Dm.tnum l).2.2 = 0 := by simpa using h1
    have e := tnum_more l m h1'
    rw [if_neg h1] at h ⊢
    rw [e]
    simp only [ne_eq, not_true_eq_false, if_false] at h ⊢
    split at h
    · simp at h
    · rename_i h2
      split at h
      · simp at h
      · rename_i h3
        rw [if_neg h2, if_neg (by rw [List.length_append]; omega), if_neg h2, if_neg h3]
        simp only [List.take_append_of_le_length (Nat.le_of_not_lt h3), List.drop_append_of_le_length (Nat.le_of_not_lt h3)]
theorem tkN_more {n : Nat} {x : Hs} (m : List UInt8) (h : (tkN n x).2.2 = true) : tkN n (x.1 ++ m, x.2) = ((tkN n x).1, (tkN n x).2.1 ++ m, (tkN n x).2.2) := by
  unfold tkN at h ⊢
  split at h
  · cases h
  · rename_i h1
    rw [if_neg h1]
    simp only [not_or, ne_eq, Decidable.not_not] at h1
    have e := tnum_more x.1 m h1.1
    simp only [e]
    rw [if_neg (by simp; omega)]
theorem tkT_more {n : Int} {x : Hs} (m : List UInt8) (h : (tkT n x).2.2 = true) : tkT n (x.1 ++ m, x.2) = ((tkT n x).1, (tkT n x).2.1 ++ m, (tkT n x).2.2) := by
  unfold tkT at h ⊢
  simp only [Bool.and_eq_true, decide_eq_true_eq] at h
  have e := ttext_more x.1 m n h.2
  simp only [e, h.2]
theorem tkN_was {n : Nat} {x : Hs} (h : (tkN n x).2.2 = true) : x.2 = true := by
  cases hx : x.2 with
  | true => rfl
  | false => rw [tkN_no' hx] at h; cases h
theorem tkT_was {n : Int} {x : Hs} (h : (tkT n x).2.2 = true) : x.2 = true := by
  cases hx : x.2 with
  | true => rfl
  | false => rw [tkT_no' hx] at h; cases h
theorem tkW_was {x : Hs} (h : (tkW x).2.2 = true) : x.2 = true := by
  cases hx : x.2 with
  | true => rfl
  | false => rw [tkW_no hx] at h; cases h
theorem tkWs_was {n : Nat} {acc : List Wr} {x : Hs} (h : (tkWs n acc x).2.2 = true) : x.2 = true := by
  cases hx : x.2 with
  | true => rfl
  | false => rw [tkWs_no n acc hx] at h; cases h
theorem tkW_more {x : Hs} (m : List UInt8) (h : (tkW x).2.2 = true) : tkW (x.1 ++ m, x.2) = ((tkW x).1, (tkW x).2.1 ++ m, (tkW x).2.2) := by
  have h3 : (tkT 64 (tkT 32 (tkN 1 x).2).2).2.2 = true := h
  have h2 := tkT_was h3
  have h1 := tkT_was h2
  have e1 := tkN_more m h1
  have e2 := tkT_more m h2
  have e3 := tkT_more m h3
  unfold tkW
  rw [e1]; dsimp only
  rw [e2]; dsimp only
  rw [e3]
theorem tkWs_more : ∀ (n : Nat) (acc : List Wr) {x : Hs} (m : List UInt8), (tkWs n acc x).2.2 = true → tkWs n acc (x.1 ++ m, x.2) = ((tkWs n acc x).1, (tkWs n acc x).2.1 ++ m, (tkWs n acc x).2.2)
  | 0, _, _, _, _ => rfl
  | n + 1, acc, x, m, h => by
    have h1 : (tkW x).2.2 = true := tkWs_was (n := n) h
    show tkWs n (acc ++ [(tkW (x.1 ++ m, x.2)).1]) (tkW (x.1 ++ m, x.2)).2 = _
    rw [tkW_more m h1]
    exact tkWs_more n _ m h
theorem tkB_more {x : Hs} (m : List UInt8) (h : (tkB x).2.2 = true) : tkB (x.1 ++ m, x.2) = ((tkB x).1, (tkB x).2.1 ++ m, (tkB x).2.2) := by
  unfold tkB at h
  dsimp only at h
  have h4 := h
  have h3 := tkWs_was h4
  unfold tkH at h3
  dsimp only at h3
  have h2 := tkN_was h3
  have h1 := tkT_was h2
  have e1 := tkN_more m h1
  have e2 := tkT_more m h2
  have e3 := tkN_more m h3
  have e4 := tkWs_more _ _ m h4
  have eh : tkH (x.1 ++ m, x.2) = ((tkH x).1, (tkH x).2.1, (tkH x).2.2.1, ((tkH x).2.2.2.1 ++ m, (tkH x).2.2.2.2)) := by
    unfold tkH
    rw [e1]; dsimp only
    rw [e2]; dsimp only
    rw [e3]
  unfold tkB
  rw [eh]; dsimp only
  rw [e4]

/-- What was told is taken. -/
theorem tkN_num {v most : Nat} (r : List UInt8) (o : Bool) (h : v ≤ most) (hm : most ≤ 1000) : tkN most (Dm.num v ++ r, o) = (v, r, o) := by
  unfold tkN
  rw [Dm.tnum_num v r (by unfold Dm.maxU; omega)]
  rw [if_neg (by simp; omega)]
theorem tkT_ptx {s : ByteArray} {most : Int} (r : List UInt8) (o : Bool) (h : (s.size : Int) ≤ most) (hm : most ≤ 1000) : tkT most (Rn.ptx s ++ r, o) = (s.data.toList, r, o) := by
  unfold tkT Rn.ptx
  simp only [List.append_assoc]
  rw [Dm.ttext_text _ r most (by rw [Rn.size_data]; unfold Dm.maxU; omega) (by rw [Rn.size_data]; exact h)]
  simp
theorem tkW_one {w : Wr} (r : List UInt8) (o : Bool) (h : wrong w = false) : tkW (one w ++ r, o) = (w, r, o) := by
  obtain ⟨a, b, c, _⟩ := wrong_not h
  have e1 : tkN 1 (one w ++ r, o) = (del w, Rn.ptx w.key ++ (Rn.ptx w.val ++ r), o) := by
    unfold one
    rw [List.append_assoc, List.append_assoc]
    exact tkN_num _ _ (by unfold del; split <;> omega) (by omega)
  have e2 := tkT_ptx (s := w.key) (most := 32) (Rn.ptx w.val ++ r) o (by omega) (by omega)
  have e3 := tkT_ptx (s := w.val) (most := 64) r o (by omega) (by omega)
  unfold tkW
  rw [e1]; dsimp only
  rw [e2]; dsimp only
  rw [e3]; dsimp only
  rw [Rn.mk_data, Rn.mk_data]
  have : decide (del w = 1) = w.del := by unfold del; cases w.del <;> rfl
  rw [this]
theorem tkWs_flat : ∀ (l acc : List Wr) (r : List UInt8) (o : Bool), (∀ w ∈ l, wrong w = false) → tkWs l.length acc (flat l ++ r, o) = (acc ++ l, r, o)
  | [], acc, r, o, _ => by simp [tkWs, flat]
  | w :: l, acc, r, o, h => by
    rw [List.length_cons, tkWs, flat, List.append_assoc, tkW_one _ _ (h w (by simp))]
    dsimp only
    rw [tkWs_flat l _ r o fun q hq => h q (by simp [hq])]
    simp
theorem tkB_bytes {b : Bt} (r : List UInt8) (o : Bool) (h : may b = true) : tkB (bytes b ++ r, o) = (b, r, o) := by
  have ht := may_tok h
  have hk := may_kind h
  have hl := may_len h
  have e1 : tkN 2 (bytes b ++ r, o) = (b.kind.toNat, Rn.ptx b.tok ++ (Dm.num b.ws.length ++ (flat b.ws ++ r)), o) := by
    unfold bytes head
    rw [List.append_assoc, List.append_assoc, List.append_assoc]
    exact tkN_num _ _ (by omega) (by omega)
  have e2 := tkT_ptx (s := b.tok) (most := 16) (Dm.num b.ws.length ++ (flat b.ws ++ r)) o (by omega) (by omega)
  have e3 := tkN_num (v := b.ws.length) (most := 24) (flat b.ws ++ r) o hl (by omega)
  have e4 := tkWs_flat b.ws [] r o (may_ok h).2
  have eh : tkH (bytes b ++ r, o) = (b.kind.toNat, b.tok.data.toList, b.ws.length, (flat b.ws ++ r, o)) := by
    unfold tkH
    rw [e1]; dsimp only
    rw [e2]; dsimp only
    rw [e3]
  unfold tkB
  rw [eh]; dsimp only
  rw [e4, Rn.mk_data, List.nil_append]
  have : ((b.kind.toNat : Nat) : Int) = b.kind := by omega
  rw [this]
theorem take_bytes {b : Bt} (h : may b = true) : take (bytes b) = (b, 0) := by
  have := tkB_bytes [] true h
  rw [List.append_nil] at this
  unfold take fin
  rw [this]
  simp [h]
theorem take_more {b : Bt} (c : UInt8) (h : may b = true) : take (bytes b ++ [c]) = (⟨0, ⟨#[]⟩, []⟩, 3) := by
  unfold take fin
  rw [tkB_bytes [c] true h]
  simp
theorem take_cut {b : Bt} (h : may b = true) (k : Nat) (hk : k < (bytes b).length) : take ((bytes b).take k) = (⟨0, ⟨#[]⟩, []⟩, 3) := by
  unfold take fin
  rw [if_neg]
  rintro ⟨h1, h2, h3⟩
  have e := tkB_more ((bytes b).drop k) h1
  dsimp only at e
  rw [List.take_append_drop] at e
  have e2 := tkB_bytes [] true h
  rw [List.append_nil, e, h2, List.nil_append] at e2
  simp only [Prod.mk.injEq] at e2
  have e3 : (bytes b).drop k = [] := e2.2.1
  have := congrArg List.length e3
  simp at this
  omega

/-- what a batch makes of a state. -/
def word (k : Int) : ByteArray := if k = 1 then ⟨#[99]⟩ else ⟨#[103]⟩
def doo (s : Sta) (b : Bt) : Sta × Nat :=
  if may b = false then (s, 1) else if (find b.tok s.toks).2 = true then (s, 8) else (⟨apply s.data b.ws, put s.toks ⟨b.tok, word b.kind⟩⟩, 0)

/-- a state as pairs, and the state of pairs. -/
def mk1 (m : UInt8) (p : Pr) : Pr := ⟨⟨([m] ++ p.key.data.toList).toArray⟩, p.val⟩
def marked (m : UInt8) (l : List Pr) : List Pr := l.map (mk1 m)
def pairs (s : Sta) : List Pr := marked 100 s.data ++ marked 116 s.toks
def isM (m : UInt8) (k : ByteArray) : Bool := decide (k.data.toList.head? = some m)
def cut (k : ByteArray) : ByteArray := ⟨k.data.toList.tail.toArray⟩
def cg (v : ByteArray) : Bool := decide (v = ⟨#[99]⟩) || decide (v = ⟨#[103]⟩)
def step (s : Sta) (p : Pr) : Option Sta :=
  if isM 100 p.key = true ∧ s.toks = [] then some ⟨s.data ++ [⟨cut p.key, p.val⟩], s.toks⟩
  else if isM 116 p.key = true ∧ cg p.val = true then some ⟨s.data, s.toks ++ [⟨cut p.key, p.val⟩]⟩
  else none
def backL : List Pr → Sta → Option Sta
  | [], s => some s
  | p :: l, s => match step s p with | some t => backL l t | none => none
def back (l : List Pr) : Sta × Nat := match backL l ⟨[], []⟩ with | some s => (s, 0) | none => (⟨[], []⟩, 3)

theorem step_len {s t : Sta} {p : Pr} (h : step s p = some t) : t.data.length + t.toks.length = s.data.length + s.toks.length + 1 := by
  unfold step at h
  split at h
  · injection h with h; subst h; simp; omega
  · split at h
    · injection h with h; subst h; simp; omega
    · cases h

theorem isM_mk (m : UInt8) (p : Pr) : isM m (mk1 m p).key = true := by simp [isM, mk1]
theorem isM_mk_not {m m' : UInt8} (h : m ≠ m') (p : Pr) : isM m' (mk1 m p).key = false := by simp [isM, mk1, h]
theorem cut_mk (m : UInt8) (p : Pr) : (⟨cut (mk1 m p).key, (mk1 m p).val⟩ : Pr) = p := by
  obtain ⟨k, v⟩ := p
  simp [cut, mk1]
theorem backL_data : ∀ (l : List Pr) (m : List Pr) (d : List Pr), backL (marked 100 l ++ m) ⟨d, []⟩ = backL m ⟨d ++ l, []⟩
  | [], m, d => by simp [marked]
  | p :: l, m, d => by
    have e : step ⟨d, []⟩ (mk1 100 p) = some ⟨d ++ [p], []⟩ := by
      unfold step
      rw [if_pos ⟨isM_mk 100 p, rfl⟩, cut_mk]
    show (match step ⟨d, []⟩ (mk1 100 p) with | some t => backL (marked 100 l ++ m) t | none => none) = _
    rw [e]
    show backL (marked 100 l ++ m) ⟨d ++ [p], []⟩ = _
    rw [backL_data l m (d ++ [p])]
    simp
theorem backL_toks : ∀ (l : List Pr) (d t : List Pr), (∀ p ∈ l, cg p.val = true) → backL (marked 116 l) ⟨d, t⟩ = some ⟨d, t ++ l⟩
  | [], d, t, _ => by simp [marked, backL]
  | p :: l, d, t, h => by
    have e : step ⟨d, t⟩ (mk1 116 p) = some ⟨d, t ++ [p]⟩ := by
      unfold step
      rw [if_neg (by rw [isM_mk_not (by decide)]; simp), if_pos ⟨isM_mk 116 p, by have := h p (by simp); exact this⟩, cut_mk]
    show (match step ⟨d, t⟩ (mk1 116 p) with | some t => backL (marked 116 l) t | none => none) = _
    rw [e]
    show backL (marked 116 l) ⟨d, t ++ [p]⟩ = _
    rw [backL_toks l d (t ++ [p]) fun q hq => h q (by simp [hq])]
    simp
theorem back_pairs {s : Sta} (h : ∀ p ∈ s.toks, cg p.val = true) : back (pairs s) = (s, 0) := by
  unfold back pairs
  rw [backL_data s.data _ [], backL_toks s.toks _ [] h]
  simp

/-- a state that batches have made. -/
def cgs (l : List Pr) : Prop := ∀ p ∈ l, cg p.val = true
theorem cg_word (k : Int) : cg (word k) = true := by unfold word cg; split <;> simp
theorem mem_setF {p a : Pr} : ∀ {l : List Pr}, a ∈ setF p l → a = p ∨ a ∈ l
  | [], h => by simp [setF] at h
  | q :: l, h => by
    simp only [setF] at h
    split at h
    · rcases List.mem_cons.1 h with rfl | h
      · exact .inl rfl
      · exact .inr (by simp [h])
    · rcases List.mem_cons.1 h with rfl | h
      · exact .inr (by simp)
      · rcases mem_setF h with rfl | h
        · exact .inl rfl
        · exact .inr (by simp [h])
theorem mem_put {p a : Pr} {l : List Pr} (h : a ∈ put l p) : a = p ∨ a ∈ l := by
  unfold put at h
  split at h
  · exact mem_setF h
  · exact mem_ins h
theorem cgs_put {l : List Pr} {k : ByteArray} (v : Int) (h : cgs l) : cgs (put l ⟨k, word v⟩) := fun p hp => by
  rcases mem_put hp with rfl | hp
  · exact cg_word v
  · exact h p hp
/-- right states: both rows rise, and each token is decided by a word. -/
def good (s : Sta) : Prop := right s.data = true ∧ right s.toks = true ∧ cgs s.toks
theorem good_nil : good ⟨[], []⟩ := ⟨rfl, rfl, fun p hp => by cases hp⟩
theorem good_doo {s : Sta} (b : Bt) (h : good s) : good (doo s b).1 := by
  unfold doo
  split
  · exact h
  · split
    · exact h
    · exact ⟨right_apply _ h.1, right_put _ h.2.1, cgs_put _ h.2.2⟩
theorem lt_mk (m : UInt8) (p q : Pr) : lt (mk1 m p).key (mk1 m q).key = lt p.key q.key := by
  unfold lt mk1
  simp only [List.singleton_append]
  rw [less_eq, less_eq]
  simp [List.cons_lt_cons_iff]
theorem lt_mk2 {m m' : UInt8} (h : m < m') (p q : Pr) : lt (mk1 m p).key (mk1 m' q).key = true := by
  rw [lt_iff]
  unfold mk1
  simp only [List.singleton_append, List.cons_lt_cons_iff]
  exact .inl h
theorem right_pairs {s : Sta} (h : good s) : right (pairs s) = true := by
  rw [right_iff]
  have h1 := (right_iff _).1 h.1
  have h2 := (right_iff _).1 h.2.1
  unfold pairs Sorted marked
  rw [List.pairwise_append]
  refine ⟨?_, ?_, ?_⟩
  · rw [List.pairwise_map]; exact h1.imp fun {a b} hab => by rw [lt_mk]; exact hab
  · rw [List.pairwise_map]; exact h2.imp fun {a b} hab => by rw [lt_mk]; exact hab
  · intro a ha b hb
    obtain ⟨p, _, rfl⟩ := List.mem_map.1 ha
    obtain ⟨q, _, rfl⟩ := List.mem_map.1 hb
    exact lt_mk2 (by decide) p q

/-- a token is decided once. -/
theorem doo_is {s : Sta} {b : Bt} (h : (find b.tok s.toks).2 = true) : (doo s b).1 = s ∧ (doo s b).2 ≠ 0 := by
  unfold doo
  rw [if_pos h]
  split
  · exact ⟨rfl, by simp⟩
  · exact ⟨rfl, by simp⟩
theorem doo_ok {s : Sta} {b : Bt} (h : (doo s b).2 = 0) : may b = true ∧ find b.tok (doo s b).1.toks = (word b.kind, true) := by
  unfold doo at h ⊢
  split at h
  · simp at h
  · rename_i h1
    split at h
    · simp at h
    · rename_i h2
      rw [if_neg h1, if_neg h2]
      exact ⟨by simpa using h1, find_put_same s.toks ⟨b.tok, word b.kind⟩⟩
theorem doo_again {s : Sta} {b : Bt} (h : (doo s b).2 = 0) : doo (doo s b).1 b = ((doo s b).1, 8) := by
  obtain ⟨h1, h2⟩ := doo_ok h
  generalize (doo s b).1 = t at h2 ⊢
  unfold doo
  rw [if_neg (by rw [h1]; simp), if_pos (by rw [h2])]
theorem doo_len (s : Sta) (b : Bt) : (doo s b).1.data.length ≤ s.data.length + 24 ∧ (doo s b).1.toks.length ≤ s.toks.length + 1 := by
  unfold doo
  split
  · simp
  · rename_i h1
    split
    · simp
    · have := may_len (b := b) (by simpa using h1)
      have h3 := apply_len s.data b.ws
      exact ⟨by simp only; omega, put_len _ _⟩

/-- a batch changes no key but those that it writes, and no token but its own. -/
theorem find_apart {key : ByteArray} (s : Sta) (b : Bt) (h : ∀ w ∈ b.ws, w.key ≠ key) : find key (doo s b).1.data = find key s.data := by
  unfold doo
  split
  · rfl
  · split
    · rfl
    · rw [find_apply]
      have : ∀ (l : List Wr) (r : ByteArray × Bool), (∀ w ∈ l, w.key ≠ key) → l.foldl (lastW key) r = r := by
        intro l
        induction l with
        | nil => intro r _; rfl
        | cons w l ih =>
          intro r hl
          show l.foldl (lastW key) (lastW key r w) = r
          rw [ih _ fun q hq => hl q (by simp [hq])]
          unfold lastW
          rw [if_neg (hl w (by simp))]
      exact this _ _ h
theorem find_tok_apart {tok : ByteArray} (s : Sta) (b : Bt) (h : b.tok ≠ tok) : find tok (doo s b).1.toks = find tok s.toks := by
  unfold doo
  split
  · rfl
  · split
    · rfl
    · exact find_put_other (p := ⟨b.tok, word b.kind⟩) h _

/-- a batch that is done leaves each key that it writes with its value, or without one. -/
theorem rise_unique {l : List Wr} (h : rise l = true) : l.Pairwise fun a b => a.key ≠ b.key := by
  have := (right_iff _).1 h
  unfold Sorted keys at this
  rw [List.pairwise_map] at this
  exact this.imp fun hab => lt_ne hab
theorem last_of {l : List Wr} (h : l.Pairwise fun a b => a.key ≠ b.key) : ∀ (r : ByteArray × Bool) {i : Nat} (hi : i < l.length), l.foldl (lastW l[i].key) r = (if l[i].del then ⟨#[]⟩ else l[i].val, !l[i].del) := by
  induction l with
  | nil => intro r i hi; simp at hi
  | cons w l ih =>
    intro r i hi
    obtain ⟨h1, h2⟩ := List.pairwise_cons.1 h
    cases i with
    | zero =>
      simp only [List.getElem_cons_zero, List.foldl_cons]
      have hs : ∀ (m : List Wr) (r : ByteArray × Bool), (∀ q ∈ m, q.key ≠ w.key) → m.foldl (lastW w.key) r = r := by
        intro m
        induction m with
        | nil => intro r _; rfl
        | cons q m ihm =>
          intro r hm
          show m.foldl (lastW w.key) (lastW w.key r q) = r
          rw [ihm _ fun x hx => hm x (by simp [hx])]
          unfold lastW
          rw [if_neg (hm q (by simp))]
      rw [hs l _ fun q hq => Ne.symm (h1 q hq)]
      unfold lastW
      rw [if_pos rfl]
    | succ i =>
      simp only [List.getElem_cons_succ, List.foldl_cons]
      exact ih h2 _ _
theorem find_written {s : Sta} {b : Bt} (h : (doo s b).2 = 0) {i : Nat} (hi : i < b.ws.length) : find b.ws[i].key (doo s b).1.data = (if b.ws[i].del then ⟨#[]⟩ else b.ws[i].val, !b.ws[i].del) := by
  unfold doo at h ⊢
  split at h
  · simp at h
  · rename_i h1
    split at h
    · simp at h
    · rename_i h2
      rw [if_neg h1, if_neg h2]
      show find _ (apply s.data b.ws) = _
      rw [find_apply]
      exact last_of (rise_unique (may_ok (b := b) (by simpa using h1)).1) _ hi
end Bm
end Go.Proofs.Ythcdcjidoacalaa
