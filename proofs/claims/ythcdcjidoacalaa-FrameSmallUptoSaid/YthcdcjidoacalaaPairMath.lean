/- Pairs, writes and what writes make of pairs: plain mathematics. -/
import Derived.Test.YthcdcjidoacalaaBase
namespace Go.Proofs.Ythcdcjidoacalaa.Prm
set_option maxRecDepth 100000
set_option linter.unusedVariables false

/-- the order of texts, by their bytes. -/
def lt (a b : ByteArray) : Bool := Op.bytesLess a.data.toList b.data.toList
theorem lt_data (a b : ByteArray) : Op.bytesLess a.toList b.toList = lt a b := by unfold lt; rw [ByteArray.toList_eq, ByteArray.toList_eq]
theorem less_eq : ∀ (x y : List UInt8), Op.bytesLess x y = decide (x < y)
  | [], y => by cases y <;> simp [Op.bytesLess]
  | a :: x, [] => by simp [Op.bytesLess]
  | a :: x, b :: y => by
    simp only [Op.bytesLess, less_eq x y, List.cons_lt_cons_iff, Bool.decide_or, Bool.decide_and]
    rfl
theorem lt_iff (a b : ByteArray) : lt a b = true ↔ a.data.toList < b.data.toList := by unfold lt; rw [less_eq]; simp
theorem lt_irrefl (a : ByteArray) : lt a a = false := by
  cases h : lt a a with
  | false => rfl
  | true => exact absurd ((lt_iff a a).1 h) (List.lt_irrefl _)
theorem lt_trans {a b c : ByteArray} (h : lt a b = true) (k : lt b c = true) : lt a c = true := (lt_iff a c).2 (List.lt_trans ((lt_iff a b).1 h) ((lt_iff b c).1 k))
theorem lt_asymm {a b : ByteArray} (h : lt a b = true) : lt b a = false := by
  cases k : lt b a with
  | false => rfl
  | true => have := lt_trans h k; rw [lt_irrefl] at this; cases this
theorem lt_ne {a b : ByteArray} (h : lt a b = true) : a ≠ b := fun e => by subst e; rw [lt_irrefl] at h; cases h
theorem lt_tri {a b : ByteArray} (h : a ≠ b) (k : lt a b = false) : lt b a = true := by
  rcases Std.lt_trichotomy (α := List UInt8) a.data.toList b.data.toList with h1 | h1 | h1
  · rw [(lt_iff a b).2 h1] at k; cases k
  · exact absurd (ByteArray.ext (Array.ext' h1)) h
  · exact (lt_iff b a).2 h1
theorem ge_trans {a b c : ByteArray} (h : lt a b = false) (k : lt b c = false) : lt a c = false := by
  cases e : lt a c with
  | false => rfl
  | true =>
    by_cases hab : a = b
    · subst hab; rw [e] at k; cases k
    · have := lt_trans (lt_tri hab h) e; rw [this] at k; cases k

structure Pr where
  key : ByteArray
  val : ByteArray
deriving DecidableEq
structure Wr where
  key : ByteArray
  val : ByteArray
  del : Bool
deriving DecidableEq

/-- the place of the first one, or -1. -/
def idx {α : Type} (p : α → Bool) (l : List α) (i : Nat) : Int :=
  match l with
  | [] => -1
  | a :: l => if p a then i else idx p l (i + 1)
theorem idx_drop {α : Type} (p : α → Bool) (l : List α) {k : Nat} (hk : k < l.length) : idx p (l.drop k) k = if p l[k] then (k : Int) else idx p (l.drop (k + 1)) (k + 1) := by
  rw [List.drop_eq_getElem_cons hk]; rfl
theorem idx_end {α : Type} (p : α → Bool) (l : List α) {k : Nat} (hk : l.length ≤ k) : idx p (l.drop k) k = -1 := by rw [List.drop_of_length_le hk]; rfl
theorem idx_cases {α : Type} (p : α → Bool) : ∀ (l : List α) (i : Nat), (idx p l i = -1 ∧ ∀ a ∈ l, p a = false) ∨ ∃ k, ∃ h : k < l.length, idx p l i = ((i + k : Nat) : Int) ∧ p l[k] = true ∧ ∀ j, ∀ hj : j < l.length, j < k → p l[j] = false
  | [], i => .inl ⟨rfl, by simp⟩
  | a :: l, i => by
    by_cases h : p a = true
    · exact .inr ⟨0, by simp, by simp [idx, h], by simpa using h, fun j _ hj => by omega⟩
    · have h' : p a = false := by simpa using h
      rcases idx_cases p l (i + 1) with ⟨e, hall⟩ | ⟨k, hk, e, hp, hfirst⟩
      · refine .inl ⟨by simp [idx, h', e], fun b hb => ?_⟩
        rcases List.mem_cons.1 hb with rfl | hb
        · exact h'
        · exact hall b hb
      · refine .inr ⟨k + 1, by simpa using hk, by simp only [idx, h', e]; simp; omega, by simpa using hp, fun j hj hjk => ?_⟩
        cases j with
        | zero => simpa using h'
        | succ j => simpa using hfirst j (by simpa using hj) (by omega)

def hasK (k : ByteArray) (p : Pr) : Bool := decide (p.key = k)
def aboveK (k : ByteArray) (p : Pr) : Bool := lt k p.key

/-- a key's value. -/
def find (k : ByteArray) : List Pr → ByteArray × Bool
  | [] => (⟨#[]⟩, false)
  | p :: l => if hasK k p then (p.val, true) else find k l
theorem find_none {k : ByteArray} : ∀ {l : List Pr}, (∀ a ∈ l, hasK k a = false) → find k l = (⟨#[]⟩, false)
  | [], _ => rfl
  | p :: l, h => by rw [find, h p (by simp)]; exact find_none fun a ha => h a (by simp [ha])
theorem find_at {k : ByteArray} : ∀ {l : List Pr} {i : Nat} (hi : i < l.length), hasK k l[i] = true → (∀ j, ∀ hj : j < l.length, j < i → hasK k l[j] = false) → find k l = (l[i].val, true)
  | p :: l, 0, _, h, _ => by rw [find, if_pos (by simpa using h)]; rfl
  | p :: l, i + 1, hi, h, hf => by
    have h0 := hf 0 (by simp) (by omega)
    simp only [List.getElem_cons_zero] at h0
    rw [find, h0]
    exact find_at (l := l) (i := i) (by simpa using hi) (by simpa using h) fun j hj hji => hf (j + 1) (by simpa using hj) (by omega)

/-- a pair that is put: in the place of the first one of its key; else ahead of the first one above it. -/
def ins (p : Pr) : List Pr → List Pr
  | [] => [p]
  | q :: l => if lt p.key q.key then p :: q :: l else q :: ins p l
def setF (p : Pr) : List Pr → List Pr
  | [] => []
  | q :: l => if hasK p.key q then p :: l else q :: setF p l
def put (l : List Pr) (p : Pr) : List Pr := if (find p.key l).2 then setF p l else ins p l
def drop (l : List Pr) (k : ByteArray) : List Pr := l.filter fun q => !hasK k q
def act (l : List Pr) (w : Wr) : List Pr := if w.del then drop l w.key else put l ⟨w.key, w.val⟩
def apply (l : List Pr) (ws : List Wr) : List Pr := ws.foldl act l
def btw (lo hi : ByteArray) (k : ByteArray) : Bool := !lt k lo && (decide (hi = ⟨#[]⟩) || lt k hi)
def range (l : List Pr) (lo hi : ByteArray) (most : Int) : List Pr := (l.filter fun p => btw lo hi p.key).take most.toNat
def right : List Pr → Bool
  | [] => true
  | p :: l => (match l with | [] => true | q :: _ => lt p.key q.key) && right l

theorem ins_len (p : Pr) (l : List Pr) : (ins p l).length = l.length + 1 := by
  induction l with
  | nil => rfl
  | cons q l ih => simp only [ins]; split <;> simp [ih]
theorem setF_len (p : Pr) (l : List Pr) : (setF p l).length = l.length := by
  induction l with
  | nil => rfl
  | cons q l ih => simp only [setF]; split <;> simp [ih]
theorem put_len (l : List Pr) (p : Pr) : (put l p).length ≤ l.length + 1 := by
  unfold put; split
  · rw [setF_len]; omega
  · rw [ins_len]; exact Nat.le_refl _
theorem drop_len (l : List Pr) (k : ByteArray) : (drop l k).length ≤ l.length := List.length_filter_le _ _
theorem act_len (l : List Pr) (w : Wr) : (act l w).length ≤ l.length + 1 := by
  unfold act; split
  · have := drop_len l w.key; omega
  · exact put_len _ _
theorem apply_snoc (l : List Pr) (ws : List Wr) {k : Nat} (hk : k < ws.length) : apply l (ws.take (k + 1)) = act (apply l (ws.take k)) ws[k] := by
  unfold apply
  rw [List.take_succ_eq_append_getElem hk, List.foldl_append]; rfl
theorem apply_len (l : List Pr) (ws : List Wr) : (apply l ws).length ≤ l.length + ws.length := by
  induction ws generalizing l with
  | nil => simp [apply]
  | cons w ws ih =>
    have h1 := ih (act l w)
    have h2 := act_len l w
    simp only [apply, List.foldl_cons, List.length_cons] at h1 ⊢
    omega
theorem apply_one (l : List Pr) (w : Wr) : apply l [w] = act l w := rfl

/-- by the places of what the program looks for. -/
theorem put_has {l : List Pr} {p : Pr} {i : Nat} (hi : i < l.length) (h : hasK p.key l[i] = true) (hf : ∀ j, ∀ hj : j < l.length, j < i → hasK p.key l[j] = false) : put l p = l.set i p := by
  unfold put
  rw [find_at hi h hf]
  simp only [if_true]
  induction l generalizing i with
  | nil => simp at hi
  | cons q l ih =>
    cases i with
    | zero => simp only [List.getElem_cons_zero] at h; simp [setF, h]
    | succ i =>
      have h0 := hf 0 (by simp) (by omega)
      simp only [List.getElem_cons_zero] at h0
      simp only [setF, h0, List.set_cons_succ]
      rw [← ih (i := i) (by simpa using hi) (by simpa using h) fun j hj hji => hf (j + 1) (by simpa using hj) (by omega)]
      simp
theorem put_new {l : List Pr} {p : Pr} (h : ∀ a ∈ l, hasK p.key a = false) : put l p = ins p l := by
  unfold put; rw [find_none h]; simp
theorem ins_at {l : List Pr} {p : Pr} {i : Nat} (hi : i ≤ l.length) (h : ∀ hi : i < l.length, aboveK p.key l[i] = true) (hf : ∀ j, ∀ hj : j < l.length, j < i → aboveK p.key l[j] = false) : ins p l = l.take i ++ p :: l.drop i := by
  induction l generalizing i with
  | nil => have : i = 0 := by simpa using hi
           subst this; rfl
  | cons q l ih =>
    cases i with
    | zero =>
      have h1 := h (by simp)
      simp only [List.getElem_cons_zero, aboveK] at h1
      simp [ins, h1]
    | succ i =>
      have h0 := hf 0 (by simp) (by omega)
      simp only [List.getElem_cons_zero, aboveK] at h0
      simp only [ins, h0, List.take_succ_cons, List.drop_succ_cons, List.cons_append]
      rw [← ih (i := i) (by simpa using hi) (fun hi' => h (by simpa using hi')) fun j hj hji => hf (j + 1) (by simpa using hj) (by omega)]
      simp
end Go.Proofs.Ythcdcjidoacalaa.Prm
