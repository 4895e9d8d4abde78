/- BatchMath, DiskMath, Files, DiskFind, DiskOwn, Boxes, BatchMay, Held, BatchDo: merged. -/
import Derived.Test.YtlbjobbmjccekaaA3
import Derived.Test.YtlbjobbmjccekaaA1
import Derived.Laws.IdiomStrings
import Derived.Laws.OwnMore
import Derived.Laws.Rows
import Derived.Deep.MidRow
import Derived.Deep.AppendLies
import Derived.Deep.Fields
import Derived.OwnWalk
import Derived.Maps.AppendAt
import Derived.Laws.AppendOwnNone
import Derived.Test.YtlbjobbmjccekaaA2
import Derived.Deep.RegionHeld3
/- The mathematics of package batch: which batches may be, their bytes, the batch of bytes, what a batch makes of a state, a state as pairs. -/
namespace Go.Proofs.Ytlbjobbmjccekaa
set_option maxRecDepth 100000
open Prm
set_option linter.unusedVariables false
set_option linter.unusedSimpArgs false
namespace Bm

structure Bt where
  kind : Int
  tok : ByteArray
  ws : List Wr
deriving DecidableEq
structure Sta where
  data : List Pr
  toks : List Pr
deriving DecidableEq

def wrong (w : Wr) : Bool := decide (w.key.size < 1) || decide (32 < w.key.size) || decide ((if w.del then 0 else 64) < w.val.size)
def keys (l : List Wr) : List Pr := l.map fun w => ⟨w.key, ⟨#[]⟩⟩
def rise (l : List Wr) : Bool := right (keys l)
def may (b : Bt) : Bool :=
  if b.tok.size < 1 ∨ 16 < b.tok.size then false
  else if b.kind = 1 then decide (b.ws.length ≤ 24) && rise b.ws && !b.ws.any wrong
  else if b.kind = 2 then decide (b.ws.length = 0)
  else false

theorem may_tok {b : Bt} (h : may b = true) : 1 ≤ b.tok.size ∧ b.tok.size ≤ 16 := by
  unfold may at h
  split at h
  · cases h
  · omega
theorem may_kind {b : Bt} (h : may b = true) : b.kind = 1 ∨ b.kind = 2 := by
  unfold may at h
  split at h
  · cases h
  · split at h
    · left; assumption
    · split at h
      · right; assumption
      · cases h
theorem may_len {b : Bt} (h : may b = true) : b.ws.length ≤ 24 := by
  unfold may at h
  split at h
  · cases h
  · split at h
    · simp only [Bool.and_eq_true, decide_eq_true_eq] at h; exact h.1.1
    · split at h
      · simp only [decide_eq_true_eq] at h; omega
      · cases h
theorem may_ok {b : Bt} (h : may b = true) : rise b.ws = true ∧ ∀ w ∈ b.ws, wrong w = false := by
  unfold may at h
  split at h
  · cases h
  · split at h
    · simp only [Bool.and_eq_true, Bool.not_eq_true', List.any_eq_false] at h
      exact ⟨h.1.2, fun w hw => by simpa using h.2 w hw⟩
    · split at h
      · simp only [decide_eq_true_eq] at h
        have e := List.eq_nil_of_length_eq_zero h
        rw [e]
        exact ⟨rfl, by simp⟩
      · cases h
theorem wrong_iff {x : Wr} : wrong x = true ↔ (x.key.size < 1 ∨ 32 < x.key.size ∨ (if x.del then 0 else 64) < x.val.size) := by
  unfold wrong
  simp only [Bool.or_eq_true, decide_eq_true_eq, or_assoc]
theorem wrong_t {x : Wr} (h : x.key.size < 1 ∨ 32 < x.key.size ∨ (if x.del then 0 else 64) < x.val.size) : wrong x = true := wrong_iff.2 h
theorem wrong_f {x : Wr} (h : ¬(x.key.size < 1 ∨ 32 < x.key.size ∨ (if x.del then 0 else 64) < x.val.size)) : wrong x = false := by
  cases e : wrong x with
  | false => rfl
  | true => exact absurd (wrong_iff.1 e) h
theorem wrong_not {w : Wr} (h : wrong w = false) : 1 ≤ w.key.size ∧ w.key.size ≤ 32 ∧ w.val.size ≤ 64 ∧ (w.del = true → w.val.size = 0) := by
  unfold wrong at h
  simp only [Bool.or_eq_false_iff, decide_eq_false_iff_not] at h
  obtain ⟨⟨a, b⟩, c⟩ := h
  refine ⟨by omega, by omega, ?_, fun hd => ?_⟩
  · split at c <;> omega
  · rw [if_pos hd] at c; omega

/-- bytes. -/
def del (w : Wr) : Nat := if w.del then 1 else 0
def one (w : Wr) : List UInt8 := Dm.num (del w) ++ Rn.ptx w.key ++ Rn.ptx w.val
def flat : List Wr → List UInt8
  | [] => []
  | w :: l => one w ++ flat l
def head (b : Bt) : List UInt8 := Dm.num b.kind.toNat ++ Rn.ptx b.tok ++ Dm.num b.ws.length
def bytes (b : Bt) : List UInt8 := head b ++ flat b.ws
def bytesM (b : Bt) : List UInt8 × Int := if may b then (bytes b, 0) else ([], 1)
theorem flat_app (l m : List Wr) : flat (l ++ m) = flat l ++ flat m := by
  induction l with
  | nil => rfl
  | cons p l ih => simp [flat, ih]
theorem flat_snoc (l : List Wr) {k : Nat} (hk : k < l.length) : flat (l.take (k + 1)) = flat (l.take k) ++ one l[k] := by
  rw [List.take_succ_eq_append_getElem hk, flat_app]; simp [flat]
theorem ptx_len (s : ByteArray) (h : s.size ≤ 1000) : (Rn.ptx s).length ≤ 21 + s.size := by
  unfold Rn.ptx
  rw [List.length_append, Rn.size_data]
  have := Dm.num_length s.size (by omega)
  omega
theorem one_len (w : Wr) (h : wrong w = false) : (one w).length ≤ 159 := by
  obtain ⟨a, b, c, _⟩ := wrong_not h
  have h1 := ptx_len w.key (by omega)
  have h2 := ptx_len w.val (by omega)
  have h3 := Dm.num_length (del w) (by unfold del; split <;> omega)
  unfold one
  rw [List.length_append, List.length_append]
  omega
theorem flat_len : ∀ (l : List Wr), (∀ w ∈ l, wrong w = false) → (flat l).length ≤ l.length * 159
  | [], _ => by simp [flat]
  | w :: l, h => by
    have h1 := one_len w (h w (by simp))
    have h2 := flat_len l fun q hq => h q (by simp [hq])
    simp only [flat, List.length_append, List.length_cons, Nat.add_mul]
    omega
theorem head_len {b : Bt} (h : may b = true) : (head b).length ≤ 79 := by
  have h1 := ptx_len b.tok (by have := (may_tok h).2; omega)
  have h2 := Dm.num_length b.kind.toNat (by have := may_kind h; omega)
  have h3 := Dm.num_length b.ws.length (by have := may_len h; omega)
  have := (may_tok h).2
  unfold head
  rw [List.length_append, List.length_append]
  omega
theorem bytes_len {b : Bt} (h : may b = true) : (bytes b).length ≤ 4000 := by
  have h1 := head_len h
  have h2 := flat_len b.ws (may_ok h).2
  have h3 := may_len h
  have h4 : b.ws.length * 159 ≤ 24 * 159 := Nat.mul_le_mul_right _ h3
  unfold bytes
  rw [List.length_append]
  omega

/-- what is taken: a number, a text, a write, writes, a batch; what is left, and whether all was right. -/
abbrev Hs := List UInt8 × Bool
def tkN (most : Nat) (x : Hs) : Nat × Hs := if (Dm.tnum x.1).2.2 ≠ 0 ∨ most < (Dm.tnum x.1).1 then (0, (Dm.tnum x.1).2.1, false) else ((Dm.tnum x.1).1, (Dm.tnum x.1).2.1, x.2)
def tkT (most : Int) (x : Hs) : List UInt8 × Hs := ((Dm.ttext x.1 most).1, (Dm.ttext x.1 most).2.1, x.2 && decide ((Dm.ttext x.1 most).2.2 = 0))
def tkW (x : Hs) : Wr × Hs :=
  (⟨⟨(tkT 32 (tkN 1 x).2).1.toArray⟩, ⟨(tkT 64 (tkT 32 (tkN 1 x).2).2).1.toArray⟩, decide ((tkN 1 x).1 = 1)⟩, (tkT 64 (tkT 32 (tkN 1 x).2).2).2)
def tkWs : Nat → List Wr → Hs → List Wr × Hs
  | 0, acc, x => (acc, x)
  | n + 1, acc, x => tkWs n (acc ++ [(tkW x).1]) (tkW x).2
def tkH (x : Hs) : Nat × List UInt8 × Nat × Hs := ((tkN 2 x).1, (tkT 16 (tkN 2 x).2).1, (tkN 24 (tkT 16 (tkN 2 x).2).2).1, (tkN 24 (tkT 16 (tkN 2 x).2).2).2)
def tkB (x : Hs) : Bt × Hs :=
  (⟨((tkH x).1 : Nat), ⟨(tkH x).2.1.toArray⟩, (tkWs (tkH x).2.2.1 [] (tkH x).2.2.2).1⟩, (tkWs (tkH x).2.2.1 [] (tkH x).2.2.2).2)
def fin (x : Bt × Hs) : Bt × Nat := if x.2.2 = true ∧ x.2.1 = [] ∧ may x.1 = true then (x.1, 0) else (⟨0, ⟨#[]⟩, []⟩, 3)
/-- the batch of bytes, and the errno. -/
def take (s : List UInt8) : Bt × Nat := fin (tkB (s, true))

theorem fin_bad {x : Bt × Hs} (h : x.2.2 = false) : fin x = (⟨0, ⟨#[]⟩, []⟩, 3) := by unfold fin; rw [if_neg (by rw [h]; simp)]

/-- what was wrong once stays so. -/
theorem tkN_no (m : Nat) (l : List UInt8) : (tkN m (l, false)).2.2 = false := by unfold tkN; split <;> rfl
theorem tkT_no (m : Int) (l : List UInt8) : (tkT m (l, false)).2.2 = false := by unfold tkT; rfl
theorem tkN_no' {m : Nat} {x : Hs} (h : x.2 = false) : (tkN m x).2.2 = false := by obtain ⟨a, b⟩ := x; cases h; exact tkN_no m a
theorem tkT_no' {m : Int} {x : Hs} (h : x.2 = false) : (tkT m x).2.2 = false := by obtain ⟨a, b⟩ := x; cases h; exact tkT_no m a
theorem tkW_no {x : Hs} (h : x.2 = false) : (tkW x).2.2 = false := tkT_no' (tkT_no' (tkN_no' h))
theorem tkWs_no : ∀ (n : Nat) (acc : List Wr) {x : Hs}, x.2 = false → (tkWs n acc x).2.2 = false
  | 0, _, _, h => h
  | n + 1, acc, x, h => tkWs_no n _ (tkW_no h)

/-- bytes behind all make no odds. -/
theorem figs_more (l m : List UInt8) (h : Dm.rest l ≠ []) : Dm.figs (l ++ m) = Dm.figs l ∧ Dm.rest (l ++ m) = Dm.rest l ++ m := by
  have h1 := Dm.figs_rest l
  have hd : ∃ c r, Dm.rest l = c :: r ∧ Dm.isD c = false := by
    cases hr : Dm.rest l with
    | nil => exact absurd hr h
    | cons c r =>
      refine ⟨c, r, rfl, ?_⟩
      have := List.head?_dropWhile_not Dm.isD l
      unfold Dm.rest at hr
      rw [hr] at this
      simpa using this
  obtain ⟨c, r, hr, hc⟩ := hd
  have e : l ++ m = Dm.figs l ++ (c :: (r ++ m)) := by rw [← List.cons_append, ← hr, ← List.append_assoc, h1]
  have e1 : Dm.figs (l ++ m) = Dm.figs l := by
    rw [e]; show List.takeWhile _ _ = _
    rw [List.takeWhile_append_of_pos (Dm.figs_all l), List.takeWhile_cons, hc]; simp
  refine ⟨e1, ?_⟩
  have h2 := Dm.figs_rest (l ++ m)
  rw [e1, e] at h2
  have := List.append_cancel_left h2
  rw [← e] at this
  rw [this, hr]; rfl
theorem head_app {l m : List UInt8} (h : l ≠ []) : (l ++ m).head? = l.head? := by
  cases l with
  | nil => exact absurd rfl h
  | cons a l => rfl
theorem tnum_more (l m : List UInt8) (h : (Dm.tnum l).2.2 = 0) : Dm.tnum (l ++ m) = ((Dm.tnum l).1, (Dm.tnum l).2.1 ++ m, 0) := by
  unfold Dm.tnum at h ⊢
  by_cases h1 : Dm.bad l = true
  · rw [if_pos h1] at h; simp at h
  · rw [if_neg h1] at h ⊢
    by_cases h2 : Dm.rest l = []
    · rw [if_pos h2] at h; simp at h
    · rw [if_neg h2] at h ⊢
      by_cases h3 : (Dm.rest l).head? ≠ some 59 ∨ Dm.figs l = []
      · rw [if_pos h3] at h; simp at h
      · rw [if_neg h3]
        obtain ⟨e1, e2⟩ := figs_more l m h2
        have hl : l ≠ [] := by rintro rfl; exact h2 rfl
        have eb : Dm.bad (l ++ m) = Dm.bad l := by
          unfold Dm.bad
          rw [e1, head_app hl]
        rw [eb, if_neg h1, e1, e2, if_neg (by simp [h2]), if_neg]
        · rw [List.tail_append_of_ne_nil h2]
        · rw [head_app h2]; exact h3
theorem ttext_more (l m : List UInt8) (most : Int) (h : (Dm.ttext l most).2.2 = 0) : Dm.ttext (l ++ m) most = ((Dm.ttext l most).1, (Dm.ttext l most).2.1 ++ m, 0) := by
  unfold Dm.ttext at h ⊢
  by_cases h1 : (Dm.tnum l).2.2 ≠ 0
  · rw [if_pos h1] at h; exact absurd h h1
  · have h1' : (Dm.tnum l).2.2 = 0 := by simpa using h1
    have e := tnum_more l m h1'
    rw [if_neg h1] at h ⊢
    rw [e]
    simp only [ne_eq, not_true_eq_false, if_false] at h ⊢
    split at h
    · simp at h
    · rename_i h2
      split at h
      · simp at h
      · rename_i h3
        rw [if_neg h2, if_neg (by rw [List.length_append]; omega), if_neg h2, if_neg h3]
        simp only [List.take_append_of_le_length (Nat.le_of_not_lt h3), List.drop_append_of_le_length (Nat.le_of_not_lt h3)]
theorem tkN_more {n : Nat} {x : Hs} (m : List UInt8) (h : (tkN n x).2.2 = true) : tkN n (x.1 ++ m, x.2) = ((tkN n x).1, (tkN n x).2.1 ++ m, (tkN n x).2.2) := by
  unfold tkN at h ⊢
  split at h
  · cases h
  · rename_i h1
    rw [if_neg h1]
    simp only [not_or, ne_eq, Decidable.not_not] at h1
    have e := tnum_more x.1 m h1.1
    simp only [e]
    rw [if_neg (by simp; omega)]
theorem tkT_more {n : Int} {x : Hs} (m : List UInt8) (h : (tkT n x).2.2 = true) : tkT n (x.1 ++ m, x.2) = ((tkT n x).1, (tkT n x).2.1 ++ m, (tkT n x).2.2) := by
  unfold tkT at h ⊢
  simp only [Bool.and_eq_true, decide_eq_true_eq] at h
  have e := ttext_more x.1 m n h.2
  simp only [e, h.2]
theorem tkN_was {n : Nat} {x : Hs} (h : (tkN n x).2.2 = true) : x.2 = true := by
  cases hx : x.2 with
  | true => rfl
  | false => rw [tkN_no' hx] at h; cases h
theorem tkT_was {n : Int} {x : Hs} (h : (tkT n x).2.2 = true) : x.2 = true := by
  cases hx : x.2 with
  | true => rfl
  | false => rw [tkT_no' hx] at h; cases h
theorem tkW_was {x : Hs} (h : (tkW x).2.2 = true) : x.2 = true := by
  cases hx : x.2 with
  | true => rfl
  | false => rw [tkW_no hx] at h; cases h
theorem tkWs_was {n : Nat} {acc : List Wr} {x : Hs} (h : (tkWs n acc x).2.2 = true) : x.2 = true := by
  cases hx : x.2 with
  | true => rfl
  | false => rw [tkWs_no n acc hx] at h; cases h
theorem tkW_more {x : Hs} (m : List UInt8) (h : (tkW x).2.2 = true) : tkW (x.1 ++ m, x.2) = ((tkW x).1, (tkW x).2.1 ++ m, (tkW x).2.2) := by
  have h3 : (tkT 64 (tkT 32 (tkN 1 x).2).2).2.2 = true := h
  have h2 := tkT_was h3
  have h1 := tkT_was h2
  have e1 := tkN_more m h1
  have e2 := tkT_more m h2
  have e3 := tkT_more m h3
  unfold tkW
  rw [e1]; dsimp only
  rw [e2]; dsimp only
  rw [e3]
theorem tkWs_more : ∀ (n : Nat) (acc : List Wr) {x : Hs} (m : List UInt8), (tkWs n acc x).2.2 = true → tkWs n acc (x.1 ++ m, x.2) = ((tkWs n acc x).1, (tkWs n acc x).2.1 ++ m, (tkWs n acc x).2.2)
  | 0, _, _, _, _ => rfl
  | n + 1, acc, x, m, h => by
    have h1 : (tkW x).2.2 = true := tkWs_was (n := n) h
    show tkWs n (acc ++ [(tkW (x.1 ++ m, x.2)).1]) (tkW (x.1 ++ m, x.2)).2 = _
    rw [tkW_more m h1]
    exact tkWs_more n _ m h
theorem tkB_more {x : Hs} (m : List UInt8) (h : (tkB x).2.2 = true) : tkB (x.1 ++ m, x.2) = ((tkB x).1, (tkB x).2.1 ++ m, (tkB x).2.2) := by
  unfold tkB at h
  dsimp only at h
  have h4 := h
  have h3 := tkWs_was h4
  unfold tkH at h3
  dsimp only at h3
  have h2 := tkN_was h3
  have h1 := tkT_was h2
  have e1 := tkN_more m h1
  have e2 := tkT_more m h2
  have e3 := tkN_more m h3
  have e4 := tkWs_more _ _ m h4
  have eh : tkH (x.1 ++ m, x.2) = ((tkH x).1, (tkH x).2.1, (tkH x).2.2.1, ((tkH x).2.2.2.1 ++ m, (tkH x).2.2.2.2)) := by
    unfold tkH
    rw [e1]; dsimp only
    rw [e2]; dsimp only
    rw [e3]
  unfold tkB
  rw [eh]; dsimp only
  rw [e4]

/-- What was told is taken. -/
theorem tkN_num {v most : Nat} (r : List UInt8) (o : Bool) (h : v ≤ most) (hm : most ≤ 1000) : tkN most (Dm.num v ++ r, o) = (v, r, o) := by
  unfold tkN
  rw [Dm.tnum_num v r (by unfold Dm.maxU; omega)]
  rw [if_neg (by simp; omega)]
theorem tkT_ptx {s : ByteArray} {most : Int} (r : List UInt8) (o : Bool) (h : (s.size : Int) ≤ most) (hm : most ≤ 1000) : tkT most (Rn.ptx s ++ r, o) = (s.data.toList, r, o) := by
  unfold tkT Rn.ptx
  simp only [List.append_assoc]
  rw [Dm.ttext_text _ r most (by rw [Rn.size_data]; unfold Dm.maxU; omega) (by rw [Rn.size_data]; exact h)]
  simp
theorem tkW_one {w : Wr} (r : List UInt8) (o : Bool) (h : wrong w = false) : tkW (one w ++ r, o) = (w, r, o) := by
  obtain ⟨a, b, c, _⟩ := wrong_not h
  have e1 : tkN 1 (one w ++ r, o) = (del w, Rn.ptx w.key ++ (Rn.ptx w.val ++ r), o) := by
    unfold one
    rw [List.append_assoc, List.append_assoc]
    exact tkN_num _ _ (by unfold del; split <;> omega) (by omega)
  have e2 := tkT_ptx (s := w.key) (most := 32) (Rn.ptx w.val ++ r) o (by omega) (by omega)
  have e3 := tkT_ptx (s := w.val) (most := 64) r o (by omega) (by omega)
  unfold tkW
  rw [e1]; dsimp only
  rw [e2]; dsimp only
  rw [e3]; dsimp only
  rw [Rn.mk_data, Rn.mk_data]
  have : decide (del w = 1) = w.del := by unfold del; cases w.del <;> rfl
  rw [this]
theorem tkWs_flat : ∀ (l acc : List Wr) (r : List UInt8) (o : Bool), (∀ w ∈ l, wrong w = false) → tkWs l.length acc (flat l ++ r, o) = (acc ++ l, r, o)
  | [], acc, r, o, _ => by simp [tkWs, flat]
  | w :: l, acc, r, o, h => by
    rw [List.length_cons, tkWs, flat, List.append_assoc, tkW_one _ _ (h w (by simp))]
    dsimp only
    rw [tkWs_flat l _ r o fun q hq => h q (by simp [hq])]
    simp
theorem tkB_bytes {b : Bt} (r : List UInt8) (o : Bool) (h : may b = true) : tkB (bytes b ++ r, o) = (b, r, o) := by
  have ht := may_tok h
  have hk := may_kind h
  have hl := may_len h
  have e1 : tkN 2 (bytes b ++ r, o) = (b.kind.toNat, Rn.ptx b.tok ++ (Dm.num b.ws.length ++ (flat b.ws ++ r)), o) := by
    unfold bytes head
    rw [List.append_assoc, List.append_assoc, List.append_assoc]
    exact tkN_num _ _ (by omega) (by omega)
  have e2 := tkT_ptx (s := b.tok) (most := 16) (Dm.num b.ws.length ++ (flat b.ws ++ r)) o (by omega) (by omega)
  have e3 := tkN_num (v := b.ws.length) (most := 24) (flat b.ws ++ r) o hl (by omega)
  have e4 := tkWs_flat b.ws [] r o (may_ok h).2
  have eh : tkH (bytes b ++ r, o) = (b.kind.toNat, b.tok.data.toList, b.ws.length, (flat b.ws ++ r, o)) := by
    unfold tkH
    rw [e1]; dsimp only
    rw [e2]; dsimp only
    rw [e3]
  unfold tkB
  rw [eh]; dsimp only
  rw [e4, Rn.mk_data, List.nil_append]
  have : ((b.kind.toNat : Nat) : Int) = b.kind := by omega
  rw [this]
theorem take_bytes {b : Bt} (h : may b = true) : take (bytes b) = (b, 0) := by
  have := tkB_bytes [] true h
  rw [List.append_nil] at this
  unfold take fin
  rw [this]
  simp [h]
theorem take_more {b : Bt} (c : UInt8) (h : may b = true) : take (bytes b ++ [c]) = (⟨0, ⟨#[]⟩, []⟩, 3) := by
  unfold take fin
  rw [tkB_bytes [c] true h]
  simp
theorem take_cut {b : Bt} (h : may b = true) (k : Nat) (hk : k < (bytes b).length) : take ((bytes b).take k) = (⟨0, ⟨#[]⟩, []⟩, 3) := by
  unfold take fin
  rw [if_neg]
  rintro ⟨h1, h2, h3⟩
  have e := tkB_more ((bytes b).drop k) h1
  dsimp only at e
  rw [List.take_append_drop] at e
  have e2 := tkB_bytes [] true h
  rw [List.append_nil, e, h2, List.nil_append] at e2
  simp only [Prod.mk.injEq] at e2
  have e3 : (bytes b).drop k = [] := e2.2.1
  have := congrArg List.length e3
  simp at this
  omega

/-- what a batch makes of a state. -/
def word (k : Int) : ByteArray := if k = 1 then ⟨#[99]⟩ else ⟨#[103]⟩
def doo (s : Sta) (b : Bt) : Sta × Nat :=
  if may b = false then (s, 1) else if (find b.tok s.toks).2 = true then (s, 8) else (⟨apply s.data b.ws, put s.toks ⟨b.tok, word b.kind⟩⟩, 0)

/-- a state as pairs, and the state of pairs. -/
def mk1 (m : UInt8) (p : Pr) : Pr := ⟨⟨([m] ++ p.key.data.toList).toArray⟩, p.val⟩
def marked (m : UInt8) (l : List Pr) : List Pr := l.map (mk1 m)
def pairs (s : Sta) : List Pr := marked 100 s.data ++ marked 116 s.toks
def isM (m : UInt8) (k : ByteArray) : Bool := decide (k.data.toList.head? = some m)
def cut (k : ByteArray) : ByteArray := ⟨k.data.toList.tail.toArray⟩
def cg (v : ByteArray) : Bool := decide (v = ⟨#[99]⟩) || decide (v = ⟨#[103]⟩)
def step (s : Sta) (p : Pr) : Option Sta :=
  if isM 100 p.key = true ∧ s.toks = [] then some ⟨s.data ++ [⟨cut p.key, p.val⟩], s.toks⟩
  else if isM 116 p.key = true ∧ cg p.val = true then some ⟨s.data, s.toks ++ [⟨cut p.key, p.val⟩]⟩
  else none
def backL : List Pr → Sta → Option Sta
  | [], s => some s
  | p :: l, s => match step s p with | some t => backL l t | none => none
def back (l : List Pr) : Sta × Nat := match backL l ⟨[], []⟩ with | some s => (s, 0) | none => (⟨[], []⟩, 3)

theorem step_len {s t : Sta} {p : Pr} (h : step s p = some t) : t.data.length + t.toks.length = s.data.length + s.toks.length + 1 := by
  unfold step at h
  split at h
  · injection h with h; subst h; simp; omega
  · split at h
    · injection h with h; subst h; simp; omega
    · cases h

theorem isM_mk (m : UInt8) (p : Pr) : isM m (mk1 m p).key = true := by simp [isM, mk1]
theorem isM_mk_not {m m' : UInt8} (h : m ≠ m') (p : Pr) : isM m' (mk1 m p).key = false := by simp [isM, mk1, h]
theorem cut_mk (m : UInt8) (p : Pr) : (⟨cut (mk1 m p).key, (mk1 m p).val⟩ : Pr) = p := by
  obtain ⟨k, v⟩ := p
  simp [cut, mk1]
theorem backL_data : ∀ (l : List Pr) (m : List Pr) (d : List Pr), backL (marked 100 l ++ m) ⟨d, []⟩ = backL m ⟨d ++ l, []⟩
  | [], m, d => by simp [marked]
  | p :: l, m, d => by
    have e : step ⟨d, []⟩ (mk1 100 p) = some ⟨d ++ [p], []⟩ := by
      unfold step
      rw [if_pos ⟨isM_mk 100 p, rfl⟩, cut_mk]
    show (match step ⟨d, []⟩ (mk1 100 p) with | some t => backL (marked 100 l ++ m) t | none => none) = _
    rw [e]
    show backL (marked 100 l ++ m) ⟨d ++ [p], []⟩ = _
    rw [backL_data l m (d ++ [p])]
    simp
theorem backL_toks : ∀ (l : List Pr) (d t : List Pr), (∀ p ∈ l, cg p.val = true) → backL (marked 116 l) ⟨d, t⟩ = some ⟨d, t ++ l⟩
  | [], d, t, _ => by simp [marked, backL]
  | p :: l, d, t, h => by
    have e : step ⟨d, t⟩ (mk1 116 p) = some ⟨d, t ++ [p]⟩ := by
      unfold step
      rw [if_neg (by rw [isM_mk_not (by decide)]; simp), if_pos ⟨isM_mk 116 p, by have := h p (by simp); exact this⟩, cut_mk]
    show (match step ⟨d, t⟩ (mk1 116 p) with | some t => backL (marked 116 l) t | none => none) = _
    rw [e]
    show backL (marked 116 l) ⟨d, t ++ [p]⟩ = _
    rw [backL_toks l d (t ++ [p]) fun q hq => h q (by simp [hq])]
    simp
theorem back_pairs {s : Sta} (h : ∀ p ∈ s.toks, cg p.val = true) : back (pairs s) = (s, 0) := by
  unfold back pairs
  rw [backL_data s.data _ [], backL_toks s.toks _ [] h]
  simp

/-- a state that batches have made. -/
def cgs (l : List Pr) : Prop := ∀ p ∈ l, cg p.val = true
theorem cg_word (k : Int) : cg (word k) = true := by unfold word cg; split <;> simp
theorem mem_setF {p a : Pr} : ∀ {l : List Pr}, a ∈ setF p l → a = p ∨ a ∈ l
  | [], h => by simp [setF] at h
  | q :: l, h => by
    simp only [setF] at h
    split at h
    · rcases List.mem_cons.1 h with rfl | h
      · exact .inl rfl
      · exact .inr (by simp [h])
    · rcases List.mem_cons.1 h with rfl | h
      · exact .inr (by simp)
      · rcases mem_setF h with rfl | h
        · exact .inl rfl
        · exact .inr (by simp [h])
theorem mem_put {p a : Pr} {l : List Pr} (h : a ∈ put l p) : a = p ∨ a ∈ l := by
  unfold put at h
  split at h
  · exact mem_setF h
  · exact mem_ins h
theorem cgs_put {l : List Pr} {k : ByteArray} (v : Int) (h : cgs l) : cgs (put l ⟨k, word v⟩) := fun p hp => by
  rcases mem_put hp with rfl | hp
  · exact cg_word v
  · exact h p hp
/-- right states: both rows rise, and each token is decided by a word. -/
def good (s : Sta) : Prop := right s.data = true ∧ right s.toks = true ∧ cgs s.toks
theorem good_nil : good ⟨[], []⟩ := ⟨rfl, rfl, fun p hp => by cases hp⟩
theorem good_doo {s : Sta} (b : Bt) (h : good s) : good (doo s b).1 := by
  unfold doo
  split
  · exact h
  · split
    · exact h
    · exact ⟨right_apply _ h.1, right_put _ h.2.1, cgs_put _ h.2.2⟩
theorem lt_mk (m : UInt8) (p q : Pr) : lt (mk1 m p).key (mk1 m q).key = lt p.key q.key := by
  unfold lt mk1
  simp only [List.singleton_append]
  rw [less_eq, less_eq]
  simp [List.cons_lt_cons_iff]
theorem lt_mk2 {m m' : UInt8} (h : m < m') (p q : Pr) : lt (mk1 m p).key (mk1 m' q).key = true := by
  rw [lt_iff]
  unfold mk1
  simp only [List.singleton_append, List.cons_lt_cons_iff]
  exact .inl h
theorem right_pairs {s : Sta} (h : good s) : right (pairs s) = true := by
  rw [right_iff]
  have h1 := (right_iff _).1 h.1
  have h2 := (right_iff _).1 h.2.1
  unfold pairs Sorted marked
  rw [List.pairwise_append]
  refine ⟨?_, ?_, ?_⟩
  · rw [List.pairwise_map]; exact h1.imp fun {a b} hab => by rw [lt_mk]; exact hab
  · rw [List.pairwise_map]; exact h2.imp fun {a b} hab => by rw [lt_mk]; exact hab
  · intro a ha b hb
    obtain ⟨p, _, rfl⟩ := List.mem_map.1 ha
    obtain ⟨q, _, rfl⟩ := List.mem_map.1 hb
    exact lt_mk2 (by decide) p q

/-- a token is decided once. -/
theorem doo_is {s : Sta} {b : Bt} (h : (find b.tok s.toks).2 = true) : (doo s b).1 = s ∧ (doo s b).2 ≠ 0 := by
  unfold doo
  rw [if_pos h]
  split
  · exact ⟨rfl, by simp⟩
  · exact ⟨rfl, by simp⟩
theorem doo_ok {s : Sta} {b : Bt} (h : (doo s b).2 = 0) : may b = true ∧ find b.tok (doo s b).1.toks = (word b.kind, true) := by
  unfold doo at h ⊢
  split at h
  · simp at h
  · rename_i h1
    split at h
    · simp at h
    · rename_i h2
      rw [if_neg h1, if_neg h2]
      exact ⟨by simpa using h1, find_put_same s.toks ⟨b.tok, word b.kind⟩⟩
theorem doo_again {s : Sta} {b : Bt} (h : (doo s b).2 = 0) : doo (doo s b).1 b = ((doo s b).1, 8) := by
  obtain ⟨h1, h2⟩ := doo_ok h
  generalize (doo s b).1 = t at h2 ⊢
  unfold doo
  rw [if_neg (by rw [h1]; simp), if_pos (by rw [h2])]
theorem doo_len (s : Sta) (b : Bt) : (doo s b).1.data.length ≤ s.data.length + 24 ∧ (doo s b).1.toks.length ≤ s.toks.length + 1 := by
  unfold doo
  split
  · simp
  · rename_i h1
    split
    · simp
    · have := may_len (b := b) (by simpa using h1)
      have h3 := apply_len s.data b.ws
      exact ⟨by simp only; omega, put_len _ _⟩

/-- a batch changes no key but those that it writes, and no token but its own. -/
theorem find_apart {key : ByteArray} (s : Sta) (b : Bt) (h : ∀ w ∈ b.ws, w.key ≠ key) : find key (doo s b).1.data = find key s.data := by
  unfold doo
  split
  · rfl
  · split
    · rfl
    · rw [find_apply]
      have : ∀ (l : List Wr) (r : ByteArray × Bool), (∀ w ∈ l, w.key ≠ key) → l.foldl (lastW key) r = r := by
        intro l
        induction l with
        | nil => intro r _; rfl
        | cons w l ih =>
          intro r hl
          show l.foldl (lastW key) (lastW key r w) = r
          rw [ih _ fun q hq => hl q (by simp [hq])]
          unfold lastW
          rw [if_neg (hl w (by simp))]
      exact this _ _ h
theorem find_tok_apart {tok : ByteArray} (s : Sta) (b : Bt) (h : b.tok ≠ tok) : find tok (doo s b).1.toks = find tok s.toks := by
  unfold doo
  split
  · rfl
  · split
    · rfl
    · exact find_put_other (p := ⟨b.tok, word b.kind⟩) h _

/-- a batch that is done leaves each key that it writes with its value, or without one. -/
theorem rise_unique {l : List Wr} (h : rise l = true) : l.Pairwise fun a b => a.key ≠ b.key := by
  have := (right_iff _).1 h
  unfold Sorted keys at this
  rw [List.pairwise_map] at this
  exact this.imp fun hab => lt_ne hab
theorem last_of {l : List Wr} (h : l.Pairwise fun a b => a.key ≠ b.key) : ∀ (r : ByteArray × Bool) {i : Nat} (hi : i < l.length), l.foldl (lastW l[i].key) r = (if l[i].del then ⟨#[]⟩ else l[i].val, !l[i].del) := by
  induction l with
  | nil => intro r i hi; simp at hi
  | cons w l ih =>
    intro r i hi
    obtain ⟨h1, h2⟩ := List.pairwise_cons.1 h
    cases i with
    | zero =>
      simp only [List.getElem_cons_zero, List.foldl_cons]
      have hs : ∀ (m : List Wr) (r : ByteArray × Bool), (∀ q ∈ m, q.key ≠ w.key) → m.foldl (lastW w.key) r = r := by
        intro m
        induction m with
        | nil => intro r _; rfl
        | cons q m ihm =>
          intro r hm
          show m.foldl (lastW w.key) (lastW w.key r q) = r
          rw [ihm _ fun x hx => hm x (by simp [hx])]
          unfold lastW
          rw [if_neg (hm q (by simp))]
      rw [hs l _ fun q hq => Ne.symm (h1 q hq)]
      unfold lastW
      rw [if_pos rfl]
    | succ i =>
      simp only [List.getElem_cons_succ, List.foldl_cons]
      exact ih h2 _ _
theorem find_written {s : Sta} {b : Bt} (h : (doo s b).2 = 0) {i : Nat} (hi : i < b.ws.length) : find b.ws[i].key (doo s b).1.data = (if b.ws[i].del then ⟨#[]⟩ else b.ws[i].val, !b.ws[i].del) := by
  unfold doo at h ⊢
  split at h
  · simp at h
  · rename_i h1
    split at h
    · simp at h
    · rename_i h2
      rw [if_neg h1, if_neg h2]
      show find _ (apply s.data b.ws) = _
      rw [find_apply]
      exact last_of (rise_unique (may_ok (b := b) (by simpa using h1)).1) _ hi
end Bm
end Go.Proofs.Ytlbjobbmjccekaa

/- The disk of chapter 3 in plain mathematics: files, places, what each call makes of a disk. -/
namespace Go.Proofs.Ytlbjobbmjccekaa.Dkm
set_option maxRecDepth 100000

structure Fil where
  nm : ByteArray
  sf : ByteArray
  wt : ByteArray

theorem Fil.ext_ {f g : Fil} (a : f.nm = g.nm) (b : f.sf = g.sf) (c : f.wt = g.wt) : f = g := by
  cases f; cases g; simp_all

/-- the first place, k on, of a name. -/
def plc (nm : ByteArray) : List Fil → Nat → Int
  | [], _ => -1
  | f :: l, k => if f.nm = nm then k else plc nm l (k + 1)

theorem plc_drop (nm : ByteArray) (l : List Fil) (k : Nat) (h : k < l.length) : plc nm (l.drop k) k = if l[k].nm = nm then (k : Int) else plc nm (l.drop (k + 1)) (k + 1) := by
  rw [List.drop_eq_getElem_cons h]; rfl
theorem plc_end (nm : ByteArray) (l : List Fil) (k : Nat) (h : l.length ≤ k) : plc nm (l.drop k) k = -1 := by
  rw [List.drop_eq_nil_of_le h]; rfl
theorem plc_from (nm : ByteArray) (l : List Fil) : ∀ m, (plc nm l m = -1 ∧ ∀ f ∈ l, f.nm ≠ nm) ∨ ∃ k, ∃ h : k < l.length, plc nm l m = ((m + k : Nat) : Int) ∧ l[k].nm = nm ∧ ∀ j, ∀ h : j < l.length, j < k → l[j].nm ≠ nm := by
  induction l with
  | nil => intro m; left; exact ⟨rfl, by simp⟩
  | cons f l ih =>
    intro m
    by_cases hf : f.nm = nm
    · right; exact ⟨0, by simp, by simp [plc, hf], by simpa using hf, fun j h hj => by omega⟩
    · rcases ih (m + 1) with ⟨h1, h2⟩ | ⟨k, hk, h1, h2, h3⟩
      · left
        refine ⟨by simp [plc, hf, h1], ?_⟩
        intro g hg
        rcases List.mem_cons.1 hg with rfl | hg
        · exact hf
        · exact h2 g hg
      · right
        refine ⟨k + 1, by simpa using hk, by simp only [plc, hf, if_false, h1]; omega, by simpa using h2, ?_⟩
        intro j hj hjk
        cases j with
        | zero => simpa using hf
        | succ j => simpa using h3 j (by simpa using hj) (by omega)
theorem plc_cases (nm : ByteArray) (l : List Fil) : (plc nm l 0 = -1 ∧ ∀ f ∈ l, f.nm ≠ nm) ∨ ∃ k, ∃ h : k < l.length, plc nm l 0 = (k : Int) ∧ l[k].nm = nm ∧ ∀ j, ∀ h : j < l.length, j < k → l[j].nm ≠ nm := by
  rcases plc_from nm l 0 with h | ⟨k, h, e, r⟩
  · exact .inl h
  · exact .inr ⟨k, h, by simpa using e, r⟩

structure Dk where
  fs : List Fil
  room : Int
  fuse : Int
  off : Bool

/-- the file of a name, or an empty one behind all, and its place. -/
def opn (nm : ByteArray) (l : List Fil) : Fil × Nat :=
  match l.findIdx? (fun f => decide (f.nm = nm)) with
  | some k => (l.getD k ⟨nm, ⟨#[]⟩, ⟨#[]⟩⟩, k)
  | none => (⟨nm, ⟨#[]⟩, ⟨#[]⟩⟩, l.length)
theorem idx_none {nm : ByteArray} {l : List Fil} (h : ∀ f ∈ l, f.nm ≠ nm) : l.findIdx? (fun f => decide (f.nm = nm)) = none := by
  rw [List.findIdx?_eq_none_iff]; simpa using h
theorem idx_at {nm : ByteArray} {l : List Fil} {k : Nat} (hk : k < l.length) (hn : l[k].nm = nm) (hf : ∀ j, ∀ h : j < l.length, j < k → l[j].nm ≠ nm) : l.findIdx? (fun f => decide (f.nm = nm)) = some k := by
  rw [List.findIdx?_eq_some_iff_getElem]
  exact ⟨hk, by simpa using hn, fun j hj => by simpa using hf j (by omega) hj⟩
theorem opn_none {nm : ByteArray} {l : List Fil} (h : ∀ f ∈ l, f.nm ≠ nm) : opn nm l = (⟨nm, ⟨#[]⟩, ⟨#[]⟩⟩, l.length) := by
  unfold opn; rw [idx_none h]
theorem opn_at {nm : ByteArray} {l : List Fil} {k : Nat} (hk : k < l.length) (hn : l[k].nm = nm) (hf : ∀ j, ∀ h : j < l.length, j < k → l[j].nm ≠ nm) : opn nm l = (l[k], k) := by
  unfold opn; rw [idx_at hk hn hf]; simp [hk]

/-- a change needs power: the fuse, off, and why not. -/
def chg (at_ fuse : Int) (off : Bool) : Int × Bool × Int :=
  if at_ < 0 ∧ off = false then (fuse, off, 7) else if off = true ∨ fuse = 0 then (fuse, true, 6) else if 0 < fuse then (fuse - 1, off, 0) else (fuse, off, 0)

/-- the file of a name, and whether there is one. -/
def hit (nm : ByteArray) (l : List Fil) : Fil × Bool :=
  match l.find? (fun f => decide (f.nm = nm)) with
  | some f => (f, true)
  | none => (⟨⟨#[]⟩, ⟨#[]⟩, ⟨#[]⟩⟩, false)

theorem hit_none {nm : ByteArray} {l : List Fil} (h : ∀ f ∈ l, f.nm ≠ nm) : hit nm l = (⟨⟨#[]⟩, ⟨#[]⟩, ⟨#[]⟩⟩, false) := by
  unfold hit
  rw [List.find?_eq_none.2 (by simpa using h)]
theorem hit_at {nm : ByteArray} {l : List Fil} {k : Nat} (hk : k < l.length) (hn : l[k].nm = nm) (hf : ∀ j, ∀ h : j < l.length, j < k → l[j].nm ≠ nm) : hit nm l = (l[k], true) := by
  unfold hit
  have : l.find? (fun f => decide (f.nm = nm)) = some l[k] := by
    rw [List.find?_eq_some_iff_getElem]
    exact ⟨by simpa using hn, k, hk, rfl, fun j hj => by simpa using hf j (by omega) hj⟩
  rw [this]

/-- what Sync makes of a disk. -/
def syn (d : Dk) (nm : ByteArray) : Dk × Int :=
  if d.off then (d, 6)
  else if (hit nm d.fs).2 then ({ d with fs := d.fs.set (opn nm d.fs).2 ⟨(hit nm d.fs).1.nm, (hit nm d.fs).1.sf ++ (hit nm d.fs).1.wt, ⟨#[]⟩⟩ }, 0) else (d, 7)
theorem syn_none {nm : ByteArray} {l : List Fil} {room fuse : Int} (h : ∀ f ∈ l, f.nm ≠ nm) : syn ⟨l, room, fuse, false⟩ nm = (⟨l, room, fuse, false⟩, 7) := by
  simp [syn, hit_none h]
theorem syn_at {nm : ByteArray} {l : List Fil} {room fuse : Int} {k : Nat} (hk : k < l.length) (hn : l[k].nm = nm) (hf : ∀ j, ∀ h : j < l.length, j < k → l[j].nm ≠ nm) :
    syn ⟨l, room, fuse, false⟩ nm = (⟨l.set k ⟨l[k].nm, l[k].sf ++ l[k].wt, ⟨#[]⟩⟩, room, fuse, false⟩, 0) := by
  simp [syn, hit_at hk hn hf, opn_at hk hn hf]

def nmOk (nm : ByteArray) : Bool := decide (1 ≤ nm.size ∧ nm.size ≤ 16)

/-- a text cut by the fuse. -/
def short (fuse : Int) (s : ByteArray) : Bool := decide (0 ≤ fuse ∧ fuse < s.size)
def cut (fuse : Int) (s : ByteArray) : ByteArray := if short fuse s then s.extract 0 fuse.toNat else s
def put (l : List Fil) (k : Nat) (f : Fil) : List Fil := if k = l.length then l ++ [f] else l.set k f
/-- what Append makes of a disk. -/
def appd (d : Dk) (nm s : ByteArray) : Dk × Int :=
  if d.off then (d, 6)
  else if nmOk nm = false then (d, 1)
  else if ((opn nm d.fs).2 = d.fs.length ∧ 64 ≤ d.fs.length) ∨ d.room < s.size then (d, 5)
  else if 65536 < (opn nm d.fs).1.sf.size + (opn nm d.fs).1.wt.size + s.size then (d, 4)
  else (⟨put d.fs (opn nm d.fs).2 ⟨(opn nm d.fs).1.nm, (opn nm d.fs).1.sf, (opn nm d.fs).1.wt ++ cut d.fuse s⟩, d.room - (cut d.fuse s).size, if 0 ≤ d.fuse then d.fuse - (cut d.fuse s).size else d.fuse, short d.fuse s⟩, if short d.fuse s then 6 else 0)
theorem opn_le (nm : ByteArray) (l : List Fil) : (opn nm l).2 ≤ l.length := by
  rcases plc_cases nm l with ⟨_, h⟩ | ⟨k, hk, _, hn, hf⟩
  · rw [opn_none h]; exact Nat.le_refl _
  · rw [opn_at hk hn hf]; exact Nat.le_of_lt hk

/-- what is read: the file's bytes, or 7. -/
def redd (nm : ByteArray) (l : List Fil) : ByteArray × Int :=
  if (hit nm l).2 then ((hit nm l).1.sf ++ (hit nm l).1.wt, 0) else (⟨#[]⟩, 7)
theorem redd_none {nm : ByteArray} {l : List Fil} (h : ∀ f ∈ l, f.nm ≠ nm) : redd nm l = (⟨#[]⟩, 7) := by
  unfold redd; rw [hit_none h]; rfl
theorem redd_at {nm : ByteArray} {l : List Fil} {k : Nat} (hk : k < l.length) (hn : l[k].nm = nm) (hf : ∀ j, ∀ h : j < l.length, j < k → l[j].nm ≠ nm) : redd nm l = (l[k].sf ++ l[k].wt, 0) := by
  unfold redd; rw [hit_at hk hn hf]; rfl
end Go.Proofs.Ytlbjobbmjccekaa.Dkm

/- Files in memory: a list of files as the cells of a slice; what is read of it. -/
namespace Go.Proofs.Ytlbjobbmjccekaa
set_option maxRecDepth 100000
open Go.RowKit Dkm
set_option linter.unusedVariables false

def Dkm.Fil.row (f : Fil) : List Value := [.string f.nm, .string f.sf, .string f.wt]
abbrev Dkm.Fil.val (f : Fil) : Value := .agg #[.string f.nm, .string f.sf, .string f.wt]
def rows : List Fil → List Value
  | [] => []
  | f :: l => f.row ++ rows l

theorem rows_length (l : List Fil) : (rows l).length = l.length * 3 := by
  induction l with
  | nil => rfl
  | cons f l ih => simp only [rows, List.length_append, ih, List.length_cons, Fil.row, List.length_nil]; omega
theorem rows_append (l m : List Fil) : rows (l ++ m) = rows l ++ rows m := by
  induction l with
  | nil => rfl
  | cons f l ih => simp [rows, ih]
theorem rows_at (l : List Fil) (k : Nat) (h : k < l.length) (j : Nat) (hj : j < 3) : (rows l)[k * 3 + j]? = (l[k]).row[j]? := by
  induction l generalizing k with
  | nil => simp at h
  | cons f l ih =>
    cases k with
    | zero =>
      simp only [rows, Nat.zero_mul, Nat.zero_add, List.getElem_cons_zero]
      exact List.getElem?_append_left (by simpa [Fil.row] using hj)
    | succ k =>
      simp only [rows, List.getElem_cons_succ]
      rw [List.getElem?_append_right (by simp [Fil.row]; omega), ← ih k (by simpa using h)]
      congr 1
      simp [Fil.row]; omega
theorem rows_one (l : List Fil) : ∀ u ∈ rows l, u.oneCell' = true := by
  induction l with
  | nil => simp [rows]
  | cons f l ih =>
    intro u hu
    rcases List.mem_append.1 hu with h | h
    · simp only [Fil.row, List.mem_cons, List.not_mem_nil, or_false] at h
      rcases h with rfl | rfl | rfl <;> rfl
    · exact ih u h

def Files (w : World) (A : Option Addr) (n : Nat) (l : List Fil) : Prop := Holds w w.heap.size 3 A n (rows l)
theorem Files.q {w w' : World} {A : Option Addr} {n : Nat} {l : List Fil} (h : Files w A n l) (hq : Q w w') : Files w' A n l := Holds.q h hq
theorem Files.len {w : World} {A : Option Addr} {n : Nat} {l : List Fil} (h : Files w A n l) : l.length = n := by
  have := h.1; rw [rows_length] at this; omega

/-- What a load of the file in place k reads. -/
theorem Files.load {w : World} {A : Option Addr} {n : Nat} {l : List Fil} (h : Files w A n l) {k : Nat} (hk : k < n) (hl : k < l.length) :
    ∃ ad, A = some ad ∧ ad.block < w.heap.size ∧ w.cell? (ad.add (k * 3)) = some (.string l[k].nm) ∧ w.cell? ⟨(ad.add (k * 3)).block, (ad.add (k * 3)).off + 1, none⟩ = some (.string l[k].sf) ∧
      w.cell? ⟨(ad.add (k * 3)).block, (ad.add (k * 3)).off + 2, none⟩ = some (.string l[k].wt) := by
  have h0 := h.2 (k * 3 + 0) _ (rows_at l k hl 0 (by omega))
  have h1 := h.2 (k * 3 + 1) _ (rows_at l k hl 1 (by omega))
  have h2 := h.2 (k * 3 + 2) _ (rows_at l k hl 2 (by omega))
  obtain ⟨ad, rfl, hb, c0⟩ := h0
  obtain ⟨_, e1, _, c1⟩ := h1
  obtain ⟨_, e2, _, c2⟩ := h2
  injection e1 with e1; subst e1
  injection e2 with e2; subst e2
  rw [← addr_add] at c1 c2
  exact ⟨ad, rfl, hb, c0, c1, c2⟩
end Go.Proofs.Ytlbjobbmjccekaa

/- Contracts: the place of a file, and the file, in the program and in the document's answer. -/
namespace Go.Proofs.Ytlbjobbmjccekaa
set_option maxRecDepth 100000
open Go.RowKit Dkm
set_option linter.unusedVariables false

abbrev dkv (A : Option Addr) (n c : Nat) (room fuse : Int) (off : Bool) : Value := .agg #[.slice A n c, .int .i64 room, .int .i64 fuse, .bool off]

end Go.Proofs.Ytlbjobbmjccekaa

/- Contracts: lists of files of the call's own: a clone, a file that is set. -/
namespace Go.Proofs.Ytlbjobbmjccekaa
set_option maxRecDepth 100000
open Go.RowKit Dkm
set_option linter.unusedVariables false

/-- A slice of files as it comes in. -/
structure Dsk (w : World) (A : Option Addr) (n c : Nat) (l : List Fil) : Prop where
  files : Files w A n l
  nil : A = none → n = 0 ∧ c = 0
  le : n ≤ c
  cap : c ≤ maxLen
  few : n * 48 ≤ 140737488355328

theorem Dsk.len {w : World} {A : Option Addr} {n c : Nat} {l : List Fil} (h : Dsk w A n c l) : l.length = n := h.files.len
theorem Dsk.q {w w' : World} {A : Option Addr} {n c : Nat} {l : List Fil} (h : Dsk w A n c l) (hq : Q w w') : Dsk w' A n c l := ⟨h.files.q hq, h.nil, h.le, h.cap, h.few⟩
theorem Dsk.max {w : World} {A : Option Addr} {n c : Nat} {l : List Fil} (h : Dsk w A n c l) : n ≤ maxLen := Nat.le_trans h.le h.cap

theorem rows_set (l : List Fil) (k : Nat) (h : k < l.length) (f : Fil) : (((rows l).set (k * 3) (.string f.nm)).set (k * 3 + 1) (.string f.sf)).set (k * 3 + 2) (.string f.wt) = rows (l.set k f) := by
  induction l generalizing k with
  | nil => simp at h
  | cons g l ih =>
    cases k with
    | zero => simp [rows, Fil.row]
    | succ k =>
      have e := ih k (by simpa using h)
      have e0 : (k + 1) * 3 = k * 3 + 3 := by omega
      simp only [rows, List.set_cons_succ, Fil.row, e0, List.cons_append, List.nil_append, ← e]

end Go.Proofs.Ytlbjobbmjccekaa

/- Boxes: what lies in a block of three or four cells, and may be written. -/
namespace Go.Proofs.Ytlbjobbmjccekaa
set_option maxRecDepth 100000
open Go.RowKit Dkm
set_option linter.unusedVariables false

/-- the cells of block b hold these values, and may be written. -/
def Bx (w : World) (b : Nat) (vs : List Value) : Prop := ∀ j v, vs[j]? = some v → w.cell? ⟨b, j, none⟩ = some v ∧ w.frozen? ⟨b, j, none⟩ = false

theorem Bx.new (w : World) (cs : List Value) (t : TypeId) : Bx (w.alloc (.cells cs.toArray t)) w.heap.size cs := fun j v h => by
  have e := heap_alloc_new w (.cells cs.toArray t)
  exact ⟨(cell_of_row _ _ j _ t (0, 0) e).trans (by simpa using h), frozen_of_row _ _ j _ t e⟩
theorem Bx.lt {w : World} {b : Nat} {v : Value} {vs : List Value} (h : Bx w b (v :: vs)) : b < w.heap.size := block_lt_of_cell (h 0 v rfl).1
theorem Bx.below {w w' : World} {b B : Nat} {vs : List Value} (h : Bx w b vs) (hb : Below B w w') (hB : b < B) : Bx w' b vs := fun j v hj =>
  ⟨(hb.cell (p := ⟨b, j, none⟩) hB).trans (h j v hj).1, (hb.frozen (p := ⟨b, j, none⟩) hB).trans (h j v hj).2⟩
theorem Bx.q {w w' : World} {b : Nat} {vs : List Value} (h : Bx w b vs) (hq : Q w w') : Bx w' b vs := fun j v hj => by
  have hb : b < w.heap.size := block_lt_of_cell (h j v hj).1
  exact ⟨(hq.below.cell (p := ⟨b, j, none⟩) hb).trans (h j v hj).1, (hq.below.frozen (p := ⟨b, j, none⟩) hb).trans (h j v hj).2⟩
theorem Bx.alloc {w : World} {b : Nat} {vs : List Value} (h : Bx w b vs) (o : Obj) : Bx (w.alloc o) b vs := h.q ((Q.refl _).alloc o)
theorem Bx.drew {w : World} {b : Nat} {vs : List Value} (h : Bx w b vs) : Bx w.drew b vs := h
theorem Bx.far {w : World} {b : Nat} {vs : List Value} (h : Bx w b vs) {p : Addr} (hp : p.block ≠ b) (u : Value) : Bx (w.setCell p u) b vs := fun j v hj =>
  ⟨(World.cell?_setCell_other _ _ _ _ (by rintro rfl; exact hp rfl)).trans (h j v hj).1, by rw [World.frozen?_setCell]; exact (h j v hj).2⟩
theorem Bx.set {w : World} {b : Nat} {vs : List Value} (h : Bx w b vs) {k : Nat} (hk : k < vs.length) (u : Value) : Bx (w.setCell ⟨b, k, none⟩ u) b (vs.set k u) := fun j v hj => by
  rw [World.frozen?_setCell]
  by_cases e : k = j
  · subst e
    rw [World.cell?_setCell_same _ _ _ (h k _ (List.getElem?_eq_getElem hk)).1]
    simp only [List.getElem?_set_self hk] at hj
    exact ⟨hj, (h k _ (List.getElem?_eq_getElem hk)).2⟩
  · rw [World.cell?_setCell_other _ _ _ _ (by intro he; injection he with _ he; exact e he)]
    rw [List.getElem?_set_ne e] at hj
    exact h j v hj
theorem Bx.put4 {w : World} {b : Nat} {x y z u : Value} (h : Bx w b [x, y, z, u]) (x' y' z' u' : Value) : Bx ((((w.setCell ⟨b, 0, none⟩ x').setCell ⟨b, 1, none⟩ y').setCell ⟨b, 2, none⟩ z').setCell ⟨b, 3, none⟩ u') b [x', y', z', u'] :=
  (((h.set (k := 0) (by simp) x').set (k := 1) (by simp) y').set (k := 2) (by simp) z').set (k := 3) (by simp) u'
theorem Bx.far4 {w : World} {b c : Nat} {vs : List Value} (h : Bx w b vs) (hc : c ≠ b) (x' y' z' u' : Value) : Bx ((((w.setCell ⟨c, 0, none⟩ x').setCell ⟨c, 1, none⟩ y').setCell ⟨c, 2, none⟩ z').setCell ⟨c, 3, none⟩ u') b vs :=
  (((h.far (p := ⟨c, 0, none⟩) hc x').far (p := ⟨c, 1, none⟩) hc y').far (p := ⟨c, 2, none⟩) hc z').far (p := ⟨c, 3, none⟩) hc u'
theorem Bx.get3 {w : World} {b : Nat} {x y z : Value} (h : Bx w b [x, y, z]) : (w.cell? ⟨b, 0, none⟩ = some x ∧ w.cell? ⟨b, 1, none⟩ = some y ∧ w.cell? ⟨b, 2, none⟩ = some z) ∧ w.frozen? ⟨b, 0, none⟩ = false ∧ w.frozen? ⟨b, 1, none⟩ = false ∧ w.frozen? ⟨b, 2, none⟩ = false :=
  ⟨⟨(h 0 _ rfl).1, (h 1 _ rfl).1, (h 2 _ rfl).1⟩, (h 0 _ rfl).2, (h 1 _ rfl).2, (h 2 _ rfl).2⟩
theorem Bx.get4 {w : World} {b : Nat} {x y z u : Value} (h : Bx w b [x, y, z, u]) : (w.cell? ⟨b, 0, none⟩ = some x ∧ w.cell? ⟨b, 1, none⟩ = some y ∧ w.cell? ⟨b, 2, none⟩ = some z ∧ w.cell? ⟨b, 3, none⟩ = some u) ∧
    w.frozen? ⟨b, 0, none⟩ = false ∧ w.frozen? ⟨b, 1, none⟩ = false ∧ w.frozen? ⟨b, 2, none⟩ = false ∧ w.frozen? ⟨b, 3, none⟩ = false :=
  ⟨⟨(h 0 _ rfl).1, (h 1 _ rfl).1, (h 2 _ rfl).1, (h 3 _ rfl).1⟩, (h 0 _ rfl).2, (h 1 _ rfl).2, (h 2 _ rfl).2, (h 3 _ rfl).2⟩
/-- Two boxes of disks: the variable's and the result's. -/
theorem two_new (w : World) (x y z u x' y' z' u' : Value) (t : TypeId) :
    Bx ((w.alloc (.cells #[x, y, z, u] t)).alloc (.cells #[x', y', z', u'] t)) w.heap.size [x, y, z, u] ∧ Bx ((w.alloc (.cells #[x, y, z, u] t)).alloc (.cells #[x', y', z', u'] t)) (w.heap.size + 1) [x', y', z', u'] := by
  refine ⟨(Bx.new w [x, y, z, u] t).alloc _, ?_⟩
  have := Bx.new (w.alloc (.cells #[x, y, z, u] t)) [x', y', z', u'] t
  simpa using this
theorem size_two (w : World) (o o' : Obj) : ((w.alloc o).alloc o').heap.size = w.heap.size + 2 := by simp

end Go.Proofs.Ytlbjobbmjccekaa

/- Contracts: batch.wrong, rise, slices.ContainsFunc of it, May; the document's May. -/
namespace Go.Proofs.Ytlbjobbmjccekaa
set_option maxRecDepth 100000
open Go.RowKit Prm
set_option linter.unusedVariables false
set_option linter.unusedSimpArgs false

abbrev batV (k : Int) (tok : ByteArray) (A : Option Addr) (n c : Nat) : Value := .agg #[.int .i64 k, .string tok, .slice A n c]

theorem wrong_any (x : Wr) (w : World) : Calls Try.prog 46 #[x.v] w fun e w' => e = .returned (.bool (Bm.wrong x)) ∧ Q w w' := by
  obtain ⟨a, b, d⟩ := x
  cases d
  · by_cases h1 : (a.size : Int) < 1
    · have hr : Bm.wrong ⟨a, b, false⟩ = true := Bm.wrong_t (by simp only [Bool.false_eq_true, if_false, if_true]; omega)
      have HR := Lib.hid hr
      clear hr
      go_enter Try.func46, Try.ntmps46
      go_wp2
      go_ret
      exact ⟨ret_bool (by rw [HR.out] <;> first | rfl | exact decide_eq_true (by omega) | exact decide_eq_false (by omega)), (Q.refl _).alloc _⟩
    · by_cases h2 : (32 : Int) < (a.size : Int)
      · have hr : Bm.wrong ⟨a, b, false⟩ = true := Bm.wrong_t (by simp only [Bool.false_eq_true, if_false, if_true]; omega)
        have HR := Lib.hid hr
        clear hr
        go_enter Try.func46, Try.ntmps46
        go_wp2
        go_ret
        exact ⟨ret_bool (by rw [HR.out] <;> first | rfl | exact decide_eq_true (by omega) | exact decide_eq_false (by omega)), (Q.refl _).alloc _⟩
      · by_cases h3 : (64 : Int) < (b.size : Int)
        · have hr : Bm.wrong ⟨a, b, false⟩ = true := Bm.wrong_t (by simp only [Bool.false_eq_true, if_false, if_true]; omega)
          have HR := Lib.hid hr
          clear hr
          go_enter Try.func46, Try.ntmps46
          go_wp2
          go_ret
          exact ⟨ret_bool (by rw [HR.out] <;> first | rfl | exact decide_eq_true (by omega) | exact decide_eq_false (by omega)), (Q.refl _).alloc _⟩
        · have hr : Bm.wrong ⟨a, b, false⟩ = false := Bm.wrong_f (by simp only [Bool.false_eq_true, if_false, if_true]; omega)
          have HR := Lib.hid hr
          clear hr
          go_enter Try.func46, Try.ntmps46
          go_wp2
          go_ret
          exact ⟨ret_bool (by rw [HR.out] <;> first | rfl | exact decide_eq_true (by omega) | exact decide_eq_false (by omega)), (Q.refl _).alloc _⟩
  · by_cases h1 : (a.size : Int) < 1
    · have hr : Bm.wrong ⟨a, b, true⟩ = true := Bm.wrong_t (by simp only [Bool.false_eq_true, if_false, if_true]; omega)
      have HR := Lib.hid hr
      clear hr
      go_enter Try.func46, Try.ntmps46
      go_wp2
      go_ret
      exact ⟨ret_bool (by rw [HR.out] <;> first | rfl | exact decide_eq_true (by omega) | exact decide_eq_false (by omega)), (Q.refl _).alloc _⟩
    · by_cases h2 : (32 : Int) < (a.size : Int)
      · have hr : Bm.wrong ⟨a, b, true⟩ = true := Bm.wrong_t (by simp only [Bool.false_eq_true, if_false, if_true]; omega)
        have HR := Lib.hid hr
        clear hr
        go_enter Try.func46, Try.ntmps46
        go_wp2
        go_ret
        exact ⟨ret_bool (by rw [HR.out] <;> first | rfl | exact decide_eq_true (by omega) | exact decide_eq_false (by omega)), (Q.refl _).alloc _⟩
      · by_cases h3 : (0 : Int) < (b.size : Int)
        · have hr : Bm.wrong ⟨a, b, true⟩ = true := Bm.wrong_t (by simp only [Bool.false_eq_true, if_false, if_true]; omega)
          have HR := Lib.hid hr
          clear hr
          go_enter Try.func46, Try.ntmps46
          go_wp2
          go_ret
          exact ⟨ret_bool (by rw [HR.out] <;> first | rfl | exact decide_eq_true (by omega) | exact decide_eq_false (by omega)), (Q.refl _).alloc _⟩
        · have hr : Bm.wrong ⟨a, b, true⟩ = false := Bm.wrong_f (by simp only [Bool.false_eq_true, if_false, if_true]; omega)
          have HR := Lib.hid hr
          clear hr
          go_enter Try.func46, Try.ntmps46
          go_wp2
          go_ret
          exact ⟨ret_bool (by rw [HR.out] <;> first | rfl | exact decide_eq_true (by omega) | exact decide_eq_false (by omega)), (Q.refl _).alloc _⟩

set_option maxHeartbeats 1000000 in
theorem indexWrong (A : Option Addr) (n c : Nat) (l : List Wr) (w : World) (hf : Lst writeK w A n l) (hn : n ≤ maxLen) :
    Calls Try.prog 69 #[.slice A n c, .func (.func 46) #[] #[]] w fun e w' => e = .returned (.int .i64 (idx Bm.wrong l 0)) ∧ Q w w' := by
  unfold maxLen at hn
  have HF := Lib.hid hf
  clear hf
  go_enter Try.func69, Try.ntmps69
  go_wp2
  go_loopw [8] (fun i wr => ∃ k : Nat, k ≤ n ∧ i = .int .i64 k ∧ Q w wr ∧ idx Bm.wrong l 0 = idx Bm.wrong (l.drop k) k) (fun i _ => n - (intOf i).toNat)
  case atStart => exact ⟨0, Nat.zero_le _, rfl, Q.refl _, rfl⟩
  case round =>
    obtain ⟨k, hk, rfl, hq, hp⟩ := hrel
    have HP := Lib.hid hp
    clear hp
    by_cases hlt : k < n
    · have hlen := HF.out.len
      have hkl : k < l.length := by omega
      obtain ⟨ad, rfl, hb, c0, c1, c2⟩ := load_write (HF.out.q hq) hlt hkl
      clear hlen
      go_wp2_with fail
      refine (wrong_any l[k] _).mono ?_
      rintro e w1 ⟨rfl, q1⟩
      by_cases hh : Bm.wrong l[k] = true
      · go_wp2
        go_ret
        exact ⟨ret_int (by rw [HP.out, idx_drop _ _ hkl, if_pos hh]), hq.trans q1⟩
      · have hd : Bm.wrong l[k] = false := by simpa using hh
        go_wp2
        go_roundw
        case rel => exact ⟨k + 1, by omega, by go_num, hq.trans q1, by rw [HP.out, idx_drop _ _ hkl, if_neg hh]⟩
        case measure => simp [intOf]; omega
    · have hlen := HF.out.len
      have HL := Lib.hid hlen
      clear hlen
      go_wp2
      go_ret
      exact ⟨ret_int (by rw [HP.out, idx_end _ _ (by have := HL.out; omega)]), hq⟩

theorem containsWrong (A : Option Addr) (n c : Nat) (l : List Wr) (w : World) (hf : Lst writeK w A n l) (hn : n ≤ maxLen) :
    Calls Try.prog 45 #[.slice A n c, .func (.func 46) #[] #[]] w fun e w' => e = .returned (.bool (l.any Bm.wrong)) ∧ Q w w' := by
  have K := Lib.hid (indexWrong A n c l w hf hn)
  rcases idx_cases Bm.wrong l 0 with ⟨hp, hall⟩ | ⟨k, hk, hp, hkn, hfirst⟩
  · have hr : l.any Bm.wrong = false := by rw [List.any_eq_false]; intro x hx; simp [hall x hx]
    have HR := Lib.hid hr
    have HP := Lib.hid hp
    clear hr hp hall hf
    go_enter Try.func45, Try.ntmps45
    go_wp2_with fail
    refine K.out.mono ?_
    rintro e w1 ⟨rfl, q1⟩
    rw [HP.out]
    go_wp2
    go_ret
    exact ⟨ret_bool HR.out.symm, q1⟩
  · have hr : l.any Bm.wrong = true := List.any_eq_true.2 ⟨_, List.getElem_mem hk, hkn⟩
    have HR := Lib.hid hr
    have HP := Lib.hid (hp.trans (by simp : ((0 + k : Nat) : Int) = (k : Int)))
    clear hr hp hfirst hf hkn
    have h0 : (0 : Int) ≤ (k : Int) := by omega
    go_enter Try.func45, Try.ntmps45
    go_wp2_with fail
    refine K.out.mono ?_
    rintro e w1 ⟨rfl, q1⟩
    rw [HP.out]
    go_wp2
    go_ret
    exact ⟨ret_bool HR.out.symm, q1⟩


set_option maxHeartbeats 1000000 in
theorem rise_any (A : Option Addr) (n c : Nat) (l : List Wr) (w : World) (hf : Lst writeK w A n l) (hn : n ≤ 24) :
    Calls Try.prog 44 #[.slice A n c] w fun e w' => e = .returned (.bool (Bm.rise l)) ∧ Q w w' := by
  have HF := Lib.hid hf
  have HL := Lib.hid hf.len
  clear hf
  go_enter Try.func44, Try.ntmps44
  go_wp2
  go_loopw [3, 8] (fun s3 i wr => ∃ (k : Nat) (B : Option Addr) (d : Nat), k ≤ n ∧ i = .int .i64 k ∧ s3 = .slice B k d ∧ OwnK pairK wr w.heap.size B k d (Bm.keys (l.take k)) ∧ Q w wr) (fun _ i _ => n - (intOf i).toNat)
  case atStart => exact ⟨0, none, 0, Nat.zero_le _, rfl, rfl, OwnK.nil_ _ _ _, Q.refl _⟩
  case round =>
    obtain ⟨k, B, d, hk, rfl, rfl, o1, q1⟩ := hrel
    have HO := Lib.hid o1
    have HQ := Lib.hid q1
    clear o1 q1
    by_cases hlt : k < n
    · have hkl : k < l.length := by have := HL.out; omega
      have HN := Lib.hid (show Bm.keys (l.take (k + 1)) = Bm.keys (l.take k) ++ [⟨l[k].key, ⟨#[]⟩⟩] by unfold Bm.keys; rw [List.take_succ_eq_append_getElem hkl, List.map_append]; rfl)
      obtain ⟨ad, rfl, hab, x0, x1, x2⟩ := load_write (HF.out.q HQ.out) hlt hkl
      generalize l[k] = x at x0 x1 x2 HN
      generalize Bm.keys (l.take k) = ks at HO HN
      go_wp2_with (at_builtin
                   refine wpl_appK pairK rfl (.tmp 12) (.tmp 16) 38 rfl rfl w.heap.size B k d ks rfl ((HO.out.alloc _).alloc _) (some ⟨wr.heap.size + 1, 0, none⟩) 1 1 [⟨x.key, ⟨#[]⟩⟩] rfl (by have := lit_pair (wr.alloc (.cells #[.string x.key, .string x.val, .bool x.del] 63)) ⟨x.key, ⟨#[]⟩⟩; simpa using this) (fun e => by cases e) (by show (k + 1) * 32 ≤ _; omega) (by have := HQ.out.size; simp; omega) ?_
                   intro A5 c5 w5 o5 b5
                   have O5 := Lib.hid o5
                   have Q5 := Lib.hid (show Q w w5 from ((HQ.out.alloc _).alloc _).below.trans b5)
                   clear o5 b5)
      go_roundw
      case rel => exact ⟨k + 1, A5, c5, by omega, by go_num, rfl, by rw [HN.out]; exact O5.out, Q5.out⟩
      case measure => simp [intOf]; omega
    · have hkn : k = n := by omega
      have HR := Lib.hid (show Bm.keys (l.take k) = Bm.keys l by rw [hkn, List.take_of_length_le (by have := HL.out; omega)])
      clear hkn
      go_wp2_with fail
      refine (right_any B k d _ _ HO.out.lst (by unfold maxLen; omega)).mono ?_
      rintro e w6 ⟨rfl, q6⟩
      go_wp2_with fail
      go_ret
      exact ⟨ret_bool (by rw [HR.out]; rfl), HQ.out.trans q6⟩

namespace Bm
theorem may_t1 {b : Bt} (h : b.tok.size < 1 ∨ 16 < b.tok.size) : may b = false := by unfold may; rw [if_pos h]
theorem may_1 {b : Bt} (h : ¬(b.tok.size < 1 ∨ 16 < b.tok.size)) (h1 : b.kind = 1) : may b = (decide (b.ws.length ≤ 24) && rise b.ws && !b.ws.any wrong) := by unfold may; rw [if_neg h, if_pos h1]
theorem may_2 {b : Bt} (h : ¬(b.tok.size < 1 ∨ 16 < b.tok.size)) (h1 : b.kind = 2) : may b = decide (b.ws.length = 0) := by unfold may; rw [if_neg h, if_neg (by omega), if_pos h1]
theorem may_3 {b : Bt} (h1 : b.kind ≠ 1) (h2 : b.kind ≠ 2) : may b = false := by unfold may; rw [if_neg h1, if_neg h2]; split <;> rfl
end Bm

set_option maxHeartbeats 1000000 in
theorem may_any (k : Int) (tok : ByteArray) (A : Option Addr) (n c : Nat) (l : List Wr) (w : World) (hf : Lst writeK w A n l) (hn : n ≤ maxLen) :
    Calls Try.prog 17 #[batV k tok A n c] w fun e w' => e = .returned (.bool (Bm.may ⟨k, tok, l⟩)) ∧ Q w w' := by
  have hl := hf.len
  by_cases h1 : (tok.size : Int) < 1
  · have HR := Lib.hid (Bm.may_t1 (b := ⟨k, tok, l⟩) (.inl (by simp only; omega)))
    clear hf hl
    go_enter Try.func17, Try.ntmps17
    go_wp2
    go_ret
    exact ⟨ret_bool HR.out.symm, (Q.refl _).alloc _⟩
  by_cases h2 : (16 : Int) < (tok.size : Int)
  · have HR := Lib.hid (Bm.may_t1 (b := ⟨k, tok, l⟩) (.inr (by simp only; omega)))
    clear hf hl
    go_enter Try.func17, Try.ntmps17
    go_wp2
    go_ret
    exact ⟨ret_bool HR.out.symm, (Q.refl _).alloc _⟩
  have HT := Lib.hid (show ¬(tok.size < 1 ∨ 16 < tok.size) by omega)
  by_cases k1 : k = 1
  · subst k1
    have hm := Bm.may_1 (b := ⟨1, tok, l⟩) HT.out rfl
    simp only at hm
    have HF := Lib.hid hf
    by_cases h3 : (n : Int) ≤ 24
    · have KR := Lib.hid (fun W q => rise_any A n c l W (hf.q q) (by omega))
      have KC := Lib.hid (fun W q => containsWrong A n c l W (hf.q q) hn)
      have h3' : decide (l.length ≤ 24) = true := by simp; omega
      rw [h3', Bool.true_and] at hm
      have HM := Lib.hid hm
      clear hf hl hm h3'
      generalize hr : Bm.rise l = r at KR HM
      have HR := Lib.hid hr
      clear hr
      cases r with
      | false =>
        go_enter Try.func17, Try.ntmps17
        go_wp2_with fail
        refine (KR.out _ ((Q.refl _).alloc _)).mono ?_
        rintro e w1 ⟨rfl, q1⟩
        have Q1 := Lib.hid (((Q.refl w).alloc _).trans q1)
        clear q1
        go_wp2_with fail
        go_ret
        exact ⟨ret_bool (by rw [HM.out]; rfl), Q1.out⟩
      | true =>
        go_enter Try.func17, Try.ntmps17
        go_wp2_with fail
        refine (KR.out _ ((Q.refl _).alloc _)).mono ?_
        rintro e w1 ⟨rfl, q1⟩
        have x0 := ((Bx.new w [.int .i64 1, .string tok, .slice A n c] 24).q q1).get3.1
        obtain ⟨x0, x1, x2⟩ := x0
        have Q1 := Lib.hid (((Q.refl w).alloc _).trans q1)
        clear q1
        go_wp2_with fail
        refine (KC.out _ Q1.out).mono ?_
        rintro e w2 ⟨rfl, q2⟩
        have Q2 := Lib.hid (Q1.out.trans q2)
        clear q2
        generalize l.any Bm.wrong = b at HM
        cases b
        all_goals
          go_wp2_with fail
          go_ret
          exact ⟨ret_bool (by rw [HM.out]; rfl), Q2.out⟩
    · have h3' : decide (l.length ≤ 24) = false := by simp; omega
      rw [h3', Bool.false_and, Bool.false_and] at hm
      have HM := Lib.hid hm
      clear hf hl hm h3'
      go_enter Try.func17, Try.ntmps17
      go_wp2
      go_ret
      exact ⟨ret_bool (by rw [HM.out]), (Q.refl _).alloc _⟩
  by_cases k2 : k = 2
  · subst k2
    have hm := Bm.may_2 (b := ⟨2, tok, l⟩) HT.out rfl
    simp only at hm
    rw [hl] at hm
    have HM := Lib.hid hm
    clear hf hl hm k1
    by_cases h3 : n = 0
    · subst h3
      go_enter Try.func17, Try.ntmps17
      go_wp2
      go_ret
      exact ⟨ret_bool (by rw [HM.out]; rfl), (Q.refl _).alloc _⟩
    · have h4 : ((n : Int) == 0) = false := by simp; omega
      have H3 := Lib.hid h3
      clear h3
      go_enter Try.func17, Try.ntmps17
      go_wp2
      go_ret
      exact ⟨ret_bool (by rw [HM.out]; have := H3.out; simp [this]), (Q.refl _).alloc _⟩
  have HM := Lib.hid (Bm.may_3 (b := ⟨k, tok, l⟩) k1 k2)
  have k1' : (k == 1) = false := by simpa using k1
  have k2' : (k == 2) = false := by simpa using k2
  clear hf hl k1 k2
  go_enter Try.func17, Try.ntmps17
  go_wp2
  go_ret
  exact ⟨ret_bool HM.out.symm, (Q.refl _).alloc _⟩
end Go.Proofs.Ytlbjobbmjccekaa

/- A region that draws its order: the condition on the world may be made stronger on the way. -/
namespace Go
set_option maxRecDepth 100000
section
variable {P : Program} {ops : Array Oper} {Q : Exit → Act → World → Prop} {md : Region.Mode} {S S' : World → Prop}
theorem wpAnyH_more (h : ∀ w, S' w → S w) : ∀ (fuel : Nat) (listed : Array Bool) (a : Act) (w : World), wpAnyH P md ops Q S' fuel listed a w → wpAnyH P md ops Q S fuel listed a w
  | 0, _, _, _, hh => hh
  | fuel + 1, _, _, _, hh => ⟨hh.1, fun i hi => wpOp_mono (fun a' w' h' => ⟨h w' h'.1, wpAnyH_more h fuel _ a' w' h'.2⟩) (hh.2 i hi)⟩
theorem wpAnyH_now (S' : World → Prop) (h : ∀ w, S' w → S w) {fuel : Nat} {listed : Array Bool} {a : Act} {w : World} (hw : S' w) (hh : S' w → wpAnyH P md ops Q S' fuel listed a w) : wpAnyH P md ops Q S fuel listed a w :=
  wpAnyH_more h fuel listed a w (hh hw)
end
end Go

/- Contracts: batch.own, word, Decided, Do. -/
namespace Go.Proofs.Ytlbjobbmjccekaa
set_option maxRecDepth 100000
open Go.RowKit Prm
set_option linter.unusedVariables false
set_option linter.unusedSimpArgs false

abbrev staV (A : Option Addr) (n c : Nat) (B : Option Addr) (m d : Nat) : Value := .agg #[.slice A n c, .slice B m d]
theorem Bx.get2 {w : World} {b : Nat} {x y : Value} (h : Bx w b [x, y]) : (w.cell? ⟨b, 0, none⟩ = some x ∧ w.cell? ⟨b, 1, none⟩ = some y) ∧ w.frozen? ⟨b, 0, none⟩ = false ∧ w.frozen? ⟨b, 1, none⟩ = false :=
  ⟨⟨(h 0 _ rfl).1, (h 1 _ rfl).1⟩, (h 0 _ rfl).2, (h 1 _ rfl).2⟩
theorem Bx.set2 {w : World} {b : Nat} {x y : Value} (h : Bx w b [x, y]) (x' y' : Value) : Bx ((w.setCell ⟨b, 0, none⟩ x').setCell ⟨b, 1, none⟩ y') b [x', y'] :=
  (h.set (k := 0) (by simp) x').set (k := 1) (by simp) y'
theorem Bx.far2 {w : World} {b c : Nat} {vs : List Value} (h : Bx w b vs) (hc : c ≠ b) (x' y' : Value) : Bx ((w.setCell ⟨c, 0, none⟩ x').setCell ⟨c, 1, none⟩ y') b vs :=
  (h.far (p := ⟨c, 0, none⟩) hc x').far (p := ⟨c, 1, none⟩) hc y'
theorem Q.set2 {a w : World} (h : Q a w) {b : Nat} (hb : a.heap.size ≤ b) (x y : Value) : Q a ((w.setCell ⟨b, 0, none⟩ x).setCell ⟨b, 1, none⟩ y) := (h.setCell (p := ⟨b, 0, none⟩) hb x).setCell (p := ⟨b, 1, none⟩) hb y
theorem OwnK.set2 {α : Type} {K : Kind α} {w : World} {base n c : Nat} {A : Option Addr} {l : List α} (h : OwnK K w base A n c l) {b : Nat} (hp : b < base) (x y : Value) : OwnK K ((w.setCell ⟨b, 0, none⟩ x).setCell ⟨b, 1, none⟩ y) base A n c l :=
  (h.setCell (p := ⟨b, 0, none⟩) hp x).setCell (p := ⟨b, 1, none⟩) hp y

/-- a state of the call's own, told by its ending. -/
def RetSt (w : World) (s : Bm.Sta) (e : Ending) (w' : World) : Prop :=
  ∃ A c B d, e = .returned (staV A s.data.length c B s.toks.length d) ∧ OwnK pairK w' w.heap.size A s.data.length c s.data ∧ OwnK pairK w' w.heap.size B s.toks.length d s.toks ∧ Q w w'
def RetS (w : World) (s : Bm.Sta × Nat) (e : Ending) (w' : World) : Prop :=
  ∃ A c B d, e = .returned (.tuple #[staV A s.1.data.length c B s.1.toks.length d, .int .i64 (s.2 : Int)]) ∧ OwnK pairK w' w.heap.size A s.1.data.length c s.1.data ∧ OwnK pairK w' w.heap.size B s.1.toks.length d s.1.toks ∧ Q w w'

theorem word_any (k : Int) (w : World) : Calls Try.prog 51 #[.int .i64 k] w fun e w' => e = .returned (.string (Bm.word k)) ∧ w' = w := by
  by_cases h : k = 1
  · subst h
    go_enter Try.func51, Try.ntmps51
    go_wp2
    go_ret
    exact ⟨rfl, rfl⟩
  · have HW := Lib.hid (show Bm.word k = ⟨#[103]⟩ by unfold Bm.word; rw [if_neg h])
    have h' : (k == 1) = false := by simpa using h
    clear h
    go_enter Try.func51, Try.ntmps51
    go_wp2
    go_ret
    exact ⟨by rw [HW.out]; rfl, rfl⟩

set_option maxHeartbeats 2000000 in
theorem bown_any (A B : Option Addr) (n c m d : Nat) (l t : List Pr) (w : World) (hA : In_ pairK w A n c l) (hB : In_ pairK w B m d t) :
    Calls Try.prog 48 #[staV A n c B m d] w (RetSt w ⟨l, t⟩) := by
  have HA := Lib.hid (fun W q => clonePairs A n c l W (hA.q q))
  have HB := Lib.hid (fun W q => clonePairs B m d t W (hB.q q))
  have HN := Lib.hid hA.len
  have HM := Lib.hid hB.len
  clear hA hB
  go_enter Try.func48, Try.ntmps48
  go_upto_region 1 with (fail)
  have X : Hid (Bx ((w.alloc (.cells #[.slice A n c, .slice B m d] 40)).alloc (.cells #[.slice none 0 0, .slice none 0 0] 40)) w.heap.size [.slice A n c, .slice B m d] ∧
      Bx ((w.alloc (.cells #[.slice A n c, .slice B m d] 40)).alloc (.cells #[.slice none 0 0, .slice none 0 0] 40)) (w.heap.size + 1) [.slice none 0 0, .slice none 0 0] ∧
      Q w ((w.alloc (.cells #[.slice A n c, .slice B m d] 40)).alloc (.cells #[.slice none 0 0, .slice none 0 0] 40)) ∧ w.heap.size + 1 + 1 ≤ ((w.alloc (.cells #[.slice A n c, .slice B m d] 40)).alloc (.cells #[.slice none 0 0, .slice none 0 0] 40)).heap.size) := by
    refine Lib.hid ⟨(Bx.new w [.slice A n c, .slice B m d] 40).alloc _, ?_, ((Q.refl w).alloc _).alloc _, by simp⟩
    have := Bx.new (w.alloc (.cells #[.slice A n c, .slice B m d] 40)) [.slice none 0 0, .slice none 0 0] 40
    simpa using this
  generalize ((w.alloc (.cells #[.slice A n c, .slice B m d] 40)).alloc (.cells #[.slice none 0 0, .slice none 0 0] 40)) = w2 at X ⊢
  obtain ⟨⟨c0, c1⟩, _⟩ := X.out.1.get2
  go_wp2
  go_region_held3 (fun w' => w'.cell? ⟨w.heap.size, 0, none⟩ = some (.slice A n c) ∧ w'.cell? ⟨w.heap.size, 1, none⟩ = some (.slice B m d))
    (first
      | go_keep
      | (go_split_ands
         (repeat' apply And.intro) <;> exact box_ ‹Q _ _› (by assumption)))
    (first
      | (go_at_call 70
         (with_reducible refine (HA.out _ X.out.2.2.1.drew).mono ?_)
         rintro e w3 ⟨A3, c3, rfl, o3, y3⟩)
      | (go_at_call 70
         (with_reducible refine (HB.out _ (X.out.2.2.1.drew.trans y3)).mono ?_)
         rintro e w4 ⟨A4, c4, rfl, o4, y4⟩
         obtain ⟨⟨p0, p1⟩, p2, p3⟩ := (((X.out.2.1.q (Q.refl _).drew).q y3).q y4).get2))
  have HO3 := Lib.hid (o3.q y4)
  have HO4 := Lib.hid o4
  have HY := Lib.hid ((X.out.2.2.1.drew.trans y3).trans y4)
  have HR := Lib.hid ((((X.out.2.1.q (Q.refl _).drew).q y3).q y4).set2 (.slice A3 n c3) (.slice A4 m c4))
  have HS := Lib.hid (show w.heap.size + 1 + 1 ≤ w3.heap.size from Nat.le_trans X.out.2.2.2 y3.size)
  clear o3 o4 y3 y4
  obtain ⟨⟨r0, r1⟩, _⟩ := HR.out.get2
  go_wp2
  refine bodyPost_ret (v := staV A3 n c3 A4 m c4) (by simp [results, Try.results48, go_sem, r0, r1]) rfl ?_
  refine ⟨A3, c3, A4, c4, by rw [HN.out, HM.out], ?_, ?_, HY.out.set2 (by omega) _ _⟩
  · rw [HN.out]; exact (HO3.out.set2 (b := w.heap.size + 1) (by have := X.out.2.2.2; simp only [World.size_drew]; omega) _ _).lower (by have := X.out.2.2.2; simp only [World.size_drew]; omega)
  · rw [HM.out]; exact (HO4.out.set2 (b := w.heap.size + 1) (by have := HS.out; omega) _ _).lower (by have := HS.out; omega)

theorem decided_any (tok : ByteArray) (A B : Option Addr) (n c m d : Nat) (t : List Pr) (w : World) (hB : Lst pairK w B m t) (hm : m ≤ maxLen) :
    Calls Try.prog 22 #[staV A n c B m d, .string tok] w fun e w' => e = .returned (.tuple #[.string (find tok t).1, .bool (find tok t).2]) ∧ Q w w' := by
  have K := Lib.hid (fun W q => tfind_any tok B m d t W (hB.q q) hm)
  clear hB
  go_enter Try.func22, Try.ntmps22
  go_wp2_with fail
  refine (K.out _ ((Q.refl _).alloc _)).mono ?_
  rintro e w1 ⟨rfl, q1⟩
  have Q1 := Lib.hid (((Q.refl w).alloc _).trans q1)
  clear q1
  go_wp2
  go_ret2
  exact ⟨rfl, Q1.out⟩

/-- where Do stands. -/
structure Ds (w : World) (A : Option Addr) (n c : Nat) (B : Option Addr) (m d : Nat) (k : Int) (tok : ByteArray) (C : Option Addr) (p q : Nat) (wi : World) : Prop where
  b1 : Bx wi w.heap.size [.slice A n c, .slice B m d]
  b2 : Bx wi (w.heap.size + 1) [.int .i64 k, .string tok, .slice C p q]
  b3 : Bx wi (w.heap.size + 1 + 1) [.slice none 0 0, .slice none 0 0]
  q : Q w wi
  l : w.heap.size + 1 + 1 + 1 ≤ wi.heap.size
theorem Ds.step {w wi wj : World} {A B C : Option Addr} {n c m d p q : Nat} {k : Int} {tok : ByteArray} (h : Ds w A n c B m d k tok C p q wi) (y : Q wi wj) : Ds w A n c B m d k tok C p q wj :=
  ⟨h.b1.q y, h.b2.q y, h.b3.q y, h.q.trans y, Nat.le_trans h.l y.size⟩
theorem Ds.new (w : World) (A : Option Addr) (n c : Nat) (B : Option Addr) (m d : Nat) (k : Int) (tok : ByteArray) (C : Option Addr) (p q : Nat) :
    Ds w A n c B m d k tok C p q (((w.alloc (.cells #[.slice A n c, .slice B m d] 40)).alloc (.cells #[.int .i64 k, .string tok, .slice C p q] 24)).alloc (.cells #[.slice none 0 0, .slice none 0 0] 40)) := by
  refine ⟨((Bx.new w [.slice A n c, .slice B m d] 40).alloc _).alloc _, ?_, ?_, (((Q.refl w).alloc _).alloc _).alloc _, by simp⟩
  · have := (Bx.new (w.alloc (.cells #[.slice A n c, .slice B m d] 40)) [.int .i64 k, .string tok, .slice C p q] 24).alloc (.cells #[.slice none 0 0, .slice none 0 0] 40)
    simpa using this
  · have := Bx.new ((w.alloc (.cells #[.slice A n c, .slice B m d] 40)).alloc (.cells #[.int .i64 k, .string tok, .slice C p q] 24)) [.slice none 0 0, .slice none 0 0] 40
    simpa using this
theorem Ds.get {w wi : World} {A B C : Option Addr} {n c m d p q : Nat} {k : Int} {tok : ByteArray} (h : Ds w A n c B m d k tok C p q wi) :
    (wi.cell? ⟨w.heap.size, 0, none⟩ = some (.slice A n c) ∧ wi.cell? ⟨w.heap.size, 1, none⟩ = some (.slice B m d)) ∧ (wi.cell? ⟨w.heap.size + 1, 0, none⟩ = some (.int .i64 k) ∧ wi.cell? ⟨w.heap.size + 1, 1, none⟩ = some (.string tok) ∧ wi.cell? ⟨w.heap.size + 1, 2, none⟩ = some (.slice C p q)) :=
  ⟨h.b1.get2.1, h.b2.get3.1⟩

set_option maxHeartbeats 8000000 in
theorem bdo_any (k : Int) (tok : ByteArray) (A B C : Option Addr) (n c m d p q : Nat) (l t : List Pr) (ws : List Wr) (w : World) (hA : In_ pairK w A n c l) (hB : In_ pairK w B m d t) (hC : Lst writeK w C p ws) (hp : p ≤ maxLen) (hb : (n + 24) * 32 ≤ 140737488355328) (hb2 : (m + 1) * 32 ≤ 140737488355328) :
    Calls Try.prog 19 #[staV A n c B m d, batV k tok C p q] w (RetS w (Bm.doo ⟨l, t⟩ ⟨k, tok, ws⟩)) := by
  have KM := Lib.hid (fun W y => may_any k tok C p q ws W (hC.q y) hp)
  have KD := Lib.hid (fun W y => decided_any tok A B n c m d t W (hB.lst.q y) hB.max)
  have KO := Lib.hid (fun W y => bown_any A B n c m d l t W (hA.q y) (hB.q y))
  have hn := hA.len
  have hm := hB.len
  have hpl := hC.len
  cases hmay : Bm.may ⟨k, tok, ws⟩ with
  | false =>
    have HR := Lib.hid (show Bm.doo ⟨l, t⟩ ⟨k, tok, ws⟩ = (⟨l, t⟩, 1) by unfold Bm.doo; rw [if_pos hmay])
    rw [hmay] at KM
    clear hA hB hC hmay hn hm hpl
    go_enter Try.func19, Try.ntmps19
    go_upto_region 1 with (fail)
    have X := Lib.hid (Ds.new w A n c B m d k tok C p q)
    generalize (((w.alloc (.cells #[.slice A n c, .slice B m d] 40)).alloc (.cells #[.int .i64 k, .string tok, .slice C p q] 24)).alloc (.cells #[.slice none 0 0, .slice none 0 0] 40)) = w2 at X ⊢
    obtain ⟨⟨c0, c1⟩, d0, d1, d2⟩ := X.out.get
    go_wp2_with fail
    refine (KM.out _ X.out.q).mono ?_
    rintro e w3 ⟨rfl, q3⟩
    have X3 := Lib.hid (X.out.step q3)
    clear q3 X c0 c1 d0 d1 d2
    obtain ⟨⟨c0, c1⟩, d0, d1, d2⟩ := X3.out.get
    go_wp2_with fail
    refine (KO.out _ X3.out.q).mono ?_
    rintro e w5 ⟨A5, c5, B5, d5, rfl, o5, t5, q5⟩
    have X5 := Lib.hid (X3.out.step q5)
    have HO := Lib.hid o5
    have HT := Lib.hid t5
    have HS := Lib.hid X3.out.l
    clear q5 o5 t5 c0 c1 d0 d1 d2
    obtain ⟨⟨p0, p1⟩, p2, p3⟩ := X5.out.b3.get2
    go_wp2
    obtain ⟨⟨r0, r1⟩, _⟩ := (X5.out.b3.set2 (.slice A5 l.length c5) (.slice B5 t.length d5)).get2
    refine bodyPost_ret (v := .tuple #[staV A5 l.length c5 B5 t.length d5, .int .i64 1]) (by simp [results, Try.results19, go_sem, r0, r1]) rfl ?_
    rw [HR.out]
    exact ⟨A5, c5, B5, d5, rfl, (HO.out.set2 (b := w.heap.size + 1 + 1) (by have := HS.out; omega) _ _).lower (by have := HS.out; omega), (HT.out.set2 (b := w.heap.size + 1 + 1) (by have := HS.out; omega) _ _).lower (by have := HS.out; omega), X5.out.q.set2 (by omega) _ _⟩
  | true =>
    rw [hmay] at KM
    cases hf : (find tok t).2 with
    | true =>
      have HR := Lib.hid (show Bm.doo ⟨l, t⟩ ⟨k, tok, ws⟩ = (⟨l, t⟩, 8) by unfold Bm.doo; rw [if_neg (by rw [hmay]; simp), if_pos hf])
      rw [hf] at KD
      generalize (find tok t).1 = fv at KD
      clear hA hB hC hmay hn hm hpl hf
      go_enter Try.func19, Try.ntmps19
      go_upto_region 1 with (fail)
      have X := Lib.hid (Ds.new w A n c B m d k tok C p q)
      generalize (((w.alloc (.cells #[.slice A n c, .slice B m d] 40)).alloc (.cells #[.int .i64 k, .string tok, .slice C p q] 24)).alloc (.cells #[.slice none 0 0, .slice none 0 0] 40)) = w2 at X ⊢
      obtain ⟨⟨c0, c1⟩, d0, d1, d2⟩ := X.out.get
      go_wp2_with fail
      refine (KM.out _ X.out.q).mono ?_
      rintro e w3 ⟨rfl, q3⟩
      have X3 := Lib.hid (X.out.step q3)
      clear q3 X c0 c1 d0 d1 d2
      obtain ⟨⟨c0, c1⟩, d0, d1, d2⟩ := X3.out.get
      go_wp2_with fail
      refine (KD.out _ X3.out.q).mono ?_
      rintro e w4 ⟨rfl, q4⟩
      have X4 := Lib.hid (X3.out.step q4)
      clear q4 X3 c0 c1 d0 d1 d2
      obtain ⟨⟨c0, c1⟩, d0, d1, d2⟩ := X4.out.get
      go_wp2_with fail
      refine (KO.out _ X4.out.q).mono ?_
      rintro e w5 ⟨A5, c5, B5, d5, rfl, o5, t5, q5⟩
      have X5 := Lib.hid (X4.out.step q5)
      have HO := Lib.hid o5
      have HT := Lib.hid t5
      have HS := Lib.hid X4.out.l
      clear q5 o5 t5 c0 c1 d0 d1 d2
      obtain ⟨⟨p0, p1⟩, p2, p3⟩ := X5.out.b3.get2
      go_wp2
      obtain ⟨⟨r0, r1⟩, _⟩ := (X5.out.b3.set2 (.slice A5 l.length c5) (.slice B5 t.length d5)).get2
      refine bodyPost_ret (v := .tuple #[staV A5 l.length c5 B5 t.length d5, .int .i64 8]) (by simp [results, Try.results19, go_sem, r0, r1]) rfl ?_
      rw [HR.out]
      exact ⟨A5, c5, B5, d5, rfl, (HO.out.set2 (b := w.heap.size + 1 + 1) (by have := HS.out; omega) _ _).lower (by have := HS.out; omega), (HT.out.set2 (b := w.heap.size + 1 + 1) (by have := HS.out; omega) _ _).lower (by have := HS.out; omega), X5.out.q.set2 (by omega) _ _⟩
    | false =>
      have HR := Lib.hid (show Bm.doo ⟨l, t⟩ ⟨k, tok, ws⟩ = (⟨apply l ws, put t ⟨tok, Bm.word k⟩⟩, 0) by unfold Bm.doo; rw [if_neg (by rw [hmay]; simp), if_neg (by rw [hf]; simp)])
      have hp24 := Bm.may_len hmay
      simp only at hp24
      rw [hf] at KD
      generalize (find tok t).1 = fv at KD
      have KA := Lib.hid (fun W y => apply_any A C n c p q l ws W (hA.q y) (hC.q y) (by omega))
      have KP := Lib.hid (fun W y => tput_any tok (Bm.word k) B m d t W (hB.q y) hb2)
      clear hA hB hC hmay hn hm hpl hf hp24
      go_enter Try.func19, Try.ntmps19
      go_upto_region 1 with (fail)
      have X := Lib.hid (Ds.new w A n c B m d k tok C p q)
      generalize (((w.alloc (.cells #[.slice A n c, .slice B m d] 40)).alloc (.cells #[.int .i64 k, .string tok, .slice C p q] 24)).alloc (.cells #[.slice none 0 0, .slice none 0 0] 40)) = w2 at X ⊢
      obtain ⟨⟨c0, c1⟩, d0, d1, d2⟩ := X.out.get
      go_wp2_with fail
      refine (KM.out _ X.out.q).mono ?_
      rintro e w3 ⟨rfl, q3⟩
      have X3 := Lib.hid (X.out.step q3)
      clear q3 X c0 c1 d0 d1 d2
      obtain ⟨⟨c0, c1⟩, d0, d1, d2⟩ := X3.out.get
      go_wp2_with fail
      refine (KD.out _ X3.out.q).mono ?_
      rintro e w4 ⟨rfl, q4⟩
      have X4 := Lib.hid (X3.out.step q4)
      clear q4 X3 c0 c1 d0 d1 d2
      obtain ⟨⟨c0, c1⟩, d0, d1, d2⟩ := X4.out.get
      have HS4 := Lib.hid X4.out.l
      go_upto_region 6 with (fail)
      refine wp_region_held_drew (S := fun w' => Bx w' w.heap.size [.slice A n c, .slice B m d] ∧ Bx w' (w.heap.size + 1) [.int .i64 k, .string tok, .slice C p q]) (by kernel_rfl) ?szz0 (fun hHeld => ?rzz0)
      case szz0 =>
        exact ⟨X4.out.b1.drew, X4.out.b2.drew⟩
      case' rzz0 => skip
      refine wpAnyH_take (i := 0) (oi := ?ozz1) (v := ?vzz1) ?hzz1 ?azz1 ?bzz1 ?czz1 ?qzz1 ?yzz1 ?szz1 ?rzz1
      case hzz1 => simp only [List.getElem?_toArray, List.getElem?_cons_zero]; rfl
      case azz1 => kernel_rfl
      case bzz1 => kernel_rfl
      case czz1 => kernel_rfl
      case yzz1 =>
        refine Or.inl ⟨by rfl, ?_⟩
        intro w hSw
        have z := hSw.1.get2.1
        have zz := hSw.2.get3.1
        obtain ⟨s0, s1⟩ := z
        obtain ⟨s2, s3, s4⟩ := zz
        go_simp
        try with_reducible rfl
      case qzz1 => exact fun _ _ _ h => h
      case szz1 => first | assumption | trivial
      case' rzz1 => simp only [Act.put, List.setIfInBounds_toArray, List.set_cons_zero, List.set_cons_succ]
      refine wpAnyH_take (i := 1) (oi := ?ozz2) (v := ?vzz2) ?hzz2 ?azz2 ?bzz2 ?czz2 ?qzz2 ?yzz2 ?szz2 ?rzz2
      case hzz2 => simp only [List.getElem?_toArray, List.getElem?_cons_zero, List.getElem?_cons_succ]; rfl
      case azz2 => kernel_rfl
      case bzz2 => kernel_rfl
      case czz2 => kernel_rfl
      case yzz2 =>
        refine Or.inl ⟨by rfl, ?_⟩
        intro w hSw
        have z := hSw.1.get2.1
        have zz := hSw.2.get3.1
        obtain ⟨s0, s1⟩ := z
        obtain ⟨s2, s3, s4⟩ := zz
        go_simp
        try with_reducible rfl
      case qzz2 => exact fun _ _ _ h => h
      case szz2 => first | assumption | trivial
      case' rzz2 => simp only [Act.put, List.setIfInBounds_toArray, List.set_cons_zero, List.set_cons_succ]
      refine wpAnyH_take (i := 2) (oi := ?ozz3) (v := ?vzz3) ?hzz3 ?azz3 ?bzz3 ?czz3 ?qzz3 ?yzz3 ?szz3 ?rzz3
      case hzz3 => simp only [List.getElem?_toArray, List.getElem?_cons_zero, List.getElem?_cons_succ]; rfl
      case azz3 => kernel_rfl
      case bzz3 => kernel_rfl
      case czz3 => kernel_rfl
      case yzz3 =>
        refine Or.inl ⟨by rfl, ?_⟩
        intro w hSw
        have z := hSw.1.get2.1
        have zz := hSw.2.get3.1
        obtain ⟨s0, s1⟩ := z
        obtain ⟨s2, s3, s4⟩ := zz
        go_simp
        try with_reducible rfl
      case qzz3 => exact fun _ _ _ h => h
      case szz3 => first | assumption | trivial
      case' rzz3 => simp only [Act.put, List.setIfInBounds_toArray, List.set_cons_zero, List.set_cons_succ]
      refine wpAnyH_take (i := 3) (oi := ?ozz4) (v := ?vzz4) ?hzz4 ?azz4 ?bzz4 ?czz4 ?qzz4 ?yzz4 ?szz4 ?rzz4
      case hzz4 => simp only [List.getElem?_toArray, List.getElem?_cons_zero, List.getElem?_cons_succ]; rfl
      case azz4 => kernel_rfl
      case bzz4 => kernel_rfl
      case czz4 => kernel_rfl
      case yzz4 =>
        refine Or.inl ⟨by rfl, ?_⟩
        intro w hSw
        have z := hSw.1.get2.1
        have zz := hSw.2.get3.1
        obtain ⟨s0, s1⟩ := z
        obtain ⟨s2, s3, s4⟩ := zz
        go_simp
        try with_reducible rfl
      case qzz4 => exact fun _ _ _ h => h
      case szz4 => first | assumption | trivial
      case' rzz4 => simp only [Act.put, List.setIfInBounds_toArray, List.set_cons_zero, List.set_cons_succ]
      refine wpAnyH_take (i := 5) (oi := ?ozz5) (v := ?vzz5) ?hzz5 ?azz5 ?bzz5 ?czz5 ?qzz5 ?yzz5 ?szz5 ?rzz5
      case hzz5 => simp only [List.getElem?_toArray, List.getElem?_cons_zero, List.getElem?_cons_succ]; rfl
      case azz5 => kernel_rfl
      case bzz5 => kernel_rfl
      case czz5 => kernel_rfl
      case yzz5 =>
        refine Or.inl ⟨by rfl, ?_⟩
        intro w hSw
        have z := hSw.1.get2.1
        have zz := hSw.2.get3.1
        obtain ⟨s0, s1⟩ := z
        obtain ⟨s2, s3, s4⟩ := zz
        go_simp
        try with_reducible rfl
      case qzz5 => exact fun _ _ _ h => h
      case szz5 => first | assumption | trivial
      case' rzz5 => simp only [Act.put, List.setIfInBounds_toArray, List.set_cons_zero, List.set_cons_succ]
      refine wpAnyH_take (i := 6) (oi := ?ozz6) (v := ?vzz6) ?hzz6 ?azz6 ?bzz6 ?czz6 ?qzz6 ?yzz6 ?szz6 ?rzz6
      case hzz6 => simp only [List.getElem?_toArray, List.getElem?_cons_zero, List.getElem?_cons_succ]; rfl
      case azz6 => kernel_rfl
      case bzz6 => kernel_rfl
      case czz6 => kernel_rfl
      case yzz6 =>
        refine Or.inl ⟨by rfl, ?_⟩
        intro w hSw
        have z := hSw.1.get2.1
        have zz := hSw.2.get3.1
        obtain ⟨s0, s1⟩ := z
        obtain ⟨s2, s3, s4⟩ := zz
        go_simp
        try with_reducible rfl
      case qzz6 => exact fun _ _ _ h => h
      case szz6 => first | assumption | trivial
      case' rzz6 => simp only [Act.put, List.setIfInBounds_toArray, List.set_cons_zero, List.set_cons_succ]
      refine wpAnyH_take (i := 7) (oi := ?ozz7) (v := ?vzz7) ?hzz7 ?azz7 ?bzz7 ?czz7 ?qzz7 ?yzz7 ?szz7 ?rzz7
      case hzz7 => simp only [List.getElem?_toArray, List.getElem?_cons_zero, List.getElem?_cons_succ]; rfl
      case azz7 => kernel_rfl
      case bzz7 => kernel_rfl
      case czz7 => kernel_rfl
      case yzz7 =>
        refine Or.inl ⟨by rfl, ?_⟩
        intro w hSw
        have z := hSw.1.get2.1
        have zz := hSw.2.get3.1
        obtain ⟨s0, s1⟩ := z
        obtain ⟨s2, s3, s4⟩ := zz
        go_simp
        try with_reducible rfl
      case qzz7 => exact fun _ _ _ h => h
      case szz7 => first | assumption | trivial
      case' rzz7 => simp only [Act.put, List.setIfInBounds_toArray, List.set_cons_zero, List.set_cons_succ]
      refine wpAnyH_take (i := 8) (oi := ?ozz8) (v := ?vzz8) ?hzz8 ?azz8 ?bzz8 ?czz8 ?qzz8 ?yzz8 ?szz8 ?rzz8
      case hzz8 => simp only [List.getElem?_toArray, List.getElem?_cons_zero, List.getElem?_cons_succ]; rfl
      case azz8 => kernel_rfl
      case bzz8 => kernel_rfl
      case czz8 => kernel_rfl
      case yzz8 =>
        refine Or.inl ⟨by rfl, ?_⟩
        intro w hSw
        have z := hSw.1.get2.1
        have zz := hSw.2.get3.1
        obtain ⟨s0, s1⟩ := z
        obtain ⟨s2, s3, s4⟩ := zz
        go_simp
        try with_reducible rfl
      case qzz8 => exact fun _ _ _ h => h
      case szz8 => first | assumption | trivial
      case' rzz8 => simp only [Act.put, List.setIfInBounds_toArray, List.set_cons_zero, List.set_cons_succ]
      refine wpAnyH_take (i := 9) (oi := ?ozz9) (v := ?vzz9) ?hzz9 ?azz9 ?bzz9 ?czz9 ?qzz9 ?yzz9 ?szz9 ?rzz9
      case hzz9 => simp only [List.getElem?_toArray, List.getElem?_cons_zero, List.getElem?_cons_succ]; rfl
      case azz9 => kernel_rfl
      case bzz9 => kernel_rfl
      case czz9 => kernel_rfl
      case yzz9 =>
        refine Or.inl ⟨by rfl, ?_⟩
        intro w hSw
        have z := hSw.1.get2.1
        have zz := hSw.2.get3.1
        obtain ⟨s0, s1⟩ := z
        obtain ⟨s2, s3, s4⟩ := zz
        go_simp
        try with_reducible rfl
      case qzz9 => exact fun _ _ _ h => h
      case szz9 => first | assumption | trivial
      case' rzz9 => simp only [Act.put, List.setIfInBounds_toArray, List.set_cons_zero, List.set_cons_succ]
      refine wpAnyH_take (i := 10) (oi := ?ozz10) (v := ?vzz10) ?hzz10 ?azz10 ?bzz10 ?czz10 ?qzz10 ?yzz10 ?szz10 ?rzz10
      case hzz10 => simp only [List.getElem?_toArray, List.getElem?_cons_zero, List.getElem?_cons_succ]; rfl
      case azz10 => kernel_rfl
      case bzz10 => kernel_rfl
      case czz10 => kernel_rfl
      case yzz10 =>
        refine Or.inl ⟨by rfl, ?_⟩
        intro w hSw
        have z := hSw.1.get2.1
        have zz := hSw.2.get3.1
        obtain ⟨s0, s1⟩ := z
        obtain ⟨s2, s3, s4⟩ := zz
        go_simp
        try with_reducible rfl
      case qzz10 => exact fun _ _ _ h => h
      case szz10 => first | assumption | trivial
      case' rzz10 => simp only [Act.put, List.setIfInBounds_toArray, List.set_cons_zero, List.set_cons_succ]
      refine wpAnyH_ready (rs := [4]) (by kernel_rfl) (by simp) ?_
      refine AllReadyH.cons (o := ?ozz16) ?hzz16 (fun K hK => ?kzz16) ?mzz16
      case hzz16 => simp only [List.getElem?_toArray, List.getElem?_cons_zero, List.getElem?_cons_succ]; rfl
      case kzz16 =>
        go_simp
        refine (KA.out _ X4.out.q.drew).mono ?_
        rintro e w5 ⟨A5, c5, rfl, o5, y5⟩
        have HS5 := Lib.hid (show w.heap.size + 1 + 1 + 1 ≤ w5.heap.size from ((X4.out.step (Q.refl _).drew).step y5).l)
        go_wp2_with fail
        refine hK.out _ _ ?Szz16 (fun hHeld => ?Rzz16)
        case Szz16 =>
          exact ⟨hHeld.1.q y5, hHeld.2.q y5⟩
        case Rzz16 =>
          clear hK K
          try simp only [Act.put, List.setIfInBounds_toArray, List.set_cons_zero, List.set_cons_succ]
          have hC := hHeld
          refine wpAnyH_ready (rs := [11]) (by kernel_rfl) (by simp) ?_
          refine AllReadyH.cons (o := ?ozz15) ?hzz15 (fun K hK => ?kzz15) ?mzz15
          case hzz15 => simp only [List.getElem?_toArray, List.getElem?_cons_zero, List.getElem?_cons_succ]; rfl
          case kzz15 =>
            go_simp
            refine (word_any k _).mono ?_
            rintro e w6 ⟨rfl, rfl⟩
            go_wp2_with fail
            refine hK.out _ _ ?Szz15 (fun hHeld => ?Rzz15)
            case Szz15 =>
              exact hC
            case Rzz15 =>
              clear hK K
              try simp only [Act.put, List.setIfInBounds_toArray, List.set_cons_zero, List.set_cons_succ]
              refine wpAnyH_ready (rs := [12]) (by kernel_rfl) (by simp) ?_
              refine AllReadyH.cons (o := ?ozz14) ?hzz14 (fun K hK => ?kzz14) ?mzz14
              case hzz14 => simp only [List.getElem?_toArray, List.getElem?_cons_zero, List.getElem?_cons_succ]; rfl
              case kzz14 =>
                go_simp
                refine (KP.out _ (X4.out.q.drew.trans y5)).mono ?_
                rintro e w7 ⟨A7, c7, rfl, o7, y7⟩
                have X7 := Lib.hid (((X4.out.step (Q.refl _).drew).step y5).step y7)
                have HO := Lib.hid (o5.q y7)
                have HT := Lib.hid o7
                clear o5 o7 y5 y7
                go_wp2_with fail
                refine hK.out _ _ ?Szz14 (fun hHeld => ?Rzz14)
                case Szz14 =>
                  exact ⟨X7.out.b1, X7.out.b2⟩
                case Rzz14 =>
                  clear hK K
                  try simp only [Act.put, List.setIfInBounds_toArray, List.set_cons_zero, List.set_cons_succ]
                  refine wpAnyH_take (i := 13) (oi := ?ozz11) (v := ?vzz11) ?hzz11 ?azz11 ?bzz11 ?czz11 ?qzz11 ?yzz11 ?szz11 ?rzz11
                  case hzz11 => simp only [List.getElem?_toArray, List.getElem?_cons_zero, List.getElem?_cons_succ]; rfl
                  case azz11 => kernel_rfl
                  case bzz11 => kernel_rfl
                  case czz11 => kernel_rfl
                  case yzz11 =>
                    refine Or.inl ⟨by rfl, ?_⟩
                    intro w hSw
                    have z := hSw.1.get2.1
                    have zz := hSw.2.get3.1
                    obtain ⟨s0, s1⟩ := z
                    obtain ⟨s2, s3, s4⟩ := zz
                    go_simp
                    try with_reducible rfl
                  case qzz11 => exact fun _ _ _ h => h
                  case szz11 => first | assumption | trivial
                  case' rzz11 => simp only [Act.put, List.setIfInBounds_toArray, List.set_cons_zero, List.set_cons_succ]
                  refine wpAnyH_ready (rs := [14]) (by kernel_rfl) (by simp) ?_
                  refine AllReadyH.cons (o := ?ozz13) ?hzz13 (fun K hK => ?kzz13) ?mzz13
                  case hzz13 => simp only [List.getElem?_toArray, List.getElem?_cons_zero, List.getElem?_cons_succ]; rfl
                  case kzz13 =>
                    obtain ⟨⟨p0, p1⟩, p2, p3⟩ := X7.out.b3.get2
                    go_simp
                    refine hK.out _ _ ?Szz13 (fun hHeld => ?Rzz13)
                    case Szz13 =>
                      exact ⟨X7.out.b1.far2 (by omega) _ _, X7.out.b2.far2 (by omega) _ _⟩
                    case Rzz13 =>
                      clear hK K
                      try simp only [Act.put, List.setIfInBounds_toArray, List.set_cons_zero, List.set_cons_succ]
                      refine wpAnyH_take (i := 15) (oi := ?ozz12) (v := ?vzz12) ?hzz12 ?azz12 ?bzz12 ?czz12 ?qzz12 ?yzz12 ?szz12 ?rzz12
                      case hzz12 => simp only [List.getElem?_toArray, List.getElem?_cons_zero, List.getElem?_cons_succ]; rfl
                      case azz12 => kernel_rfl
                      case bzz12 => kernel_rfl
                      case czz12 => kernel_rfl
                      case yzz12 =>
                        refine Or.inl ⟨by rfl, ?_⟩
                        intro w hSw
                        have z := hSw.1.get2.1
                        have zz := hSw.2.get3.1
                        obtain ⟨s0, s1⟩ := z
                        obtain ⟨s2, s3, s4⟩ := zz
                        go_simp
                        try with_reducible rfl
                      case qzz12 => exact fun _ _ _ h => h
                      case szz12 => first | assumption | trivial
                      case' rzz12 => simp only [Act.put, List.setIfInBounds_toArray, List.set_cons_zero, List.set_cons_succ]
                      refine wpAnyH_done (by kernel_rfl) ?_ _
                      obtain ⟨⟨r0, r1⟩, _⟩ := (X7.out.b3.set2 (.slice A5 (apply l ws).length c5) (.slice A7 (put t ⟨tok, Bm.word k⟩).length c7)).get2
                      go_wp2
                      refine bodyPost_ret (v := .tuple #[staV A5 (apply l ws).length c5 A7 (put t ⟨tok, Bm.word k⟩).length c7, .int .i64 0]) (by simp [results, Try.results19, go_sem, r0, r1]) rfl ?_
                      rw [HR.out]
                      exact ⟨A5, c5, A7, c7, rfl, (HO.out.set2 (b := w.heap.size + 1 + 1) (by have := HS4.out; simp only [World.size_drew]; omega) _ _).lower (by have := HS4.out; simp only [World.size_drew]; omega), (HT.out.set2 (b := w.heap.size + 1 + 1) (by have := HS5.out; omega) _ _).lower (by have := HS5.out; omega), X7.out.q.set2 (by omega) _ _⟩
                  case' mzz13 => skip
                  exact AllReadyH.nil
              case' mzz14 => skip
              exact AllReadyH.nil
          case' mzz15 => skip
          exact AllReadyH.nil
      case' mzz16 => skip
      exact AllReadyH.nil
end Go.Proofs.Ytlbjobbmjccekaa
