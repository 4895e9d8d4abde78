/- The mathematics of package alarm: heaps. -/
import Derived.Test.YtbclamfpoigneaaProg
namespace Go.Proofs.Ytbclamfpoigneaa
set_option maxRecDepth 100000
set_option linter.unusedVariables false
set_option linter.unusedSimpArgs false
namespace Am
structure Al where
  at_ : Nat
  id : Int
deriving DecidableEq
def z : Al := ⟨0, 0⟩
def less (a b : Al) : Bool := if a.at_ = b.at_ then decide (a.id < b.id) else decide (a.at_ < b.at_)
def le (a b : Al) : Prop := a.at_ < b.at_ ∨ (a.at_ = b.at_ ∧ a.id ≤ b.id)
theorem less_f {a b : Al} : less a b = false ↔ le b a := by
  unfold less le
  split
  · rw [decide_eq_false_iff_not]; omega
  · rw [decide_eq_false_iff_not]; omega
theorem less_t {a b : Al} : less a b = true ↔ ¬ le b a := by
  rw [← less_f]; simp
theorem le_refl (a : Al) : le a a := by unfold le; omega
theorem le_trans {a b c : Al} (h1 : le a b) (h2 : le b c) : le a c := by unfold le at *; omega
theorem le_of_less {a b : Al} (h : less a b = true) : le a b := by
  rw [less_t] at h; unfold le at *; omega
theorem le_antisymm {a b : Al} (h1 : le a b) (h2 : le b a) : a = b := by
  obtain ⟨x, y⟩ := a
  obtain ⟨u, v⟩ := b
  unfold le at *
  simp only at h1 h2
  have e1 : x = u := by omega
  have e2 : y = v := by omega
  rw [e1, e2]

def g (h : List Al) (k : Nat) : Al := h.getD k z
theorem g_lt {h : List Al} {k : Nat} (hk : k < h.length) : g h k = h[k] := by unfold g; simp [hk]
def swp (h : List Al) (i k : Nat) : List Al := (h.set i (g h k)).set k (g h i)
theorem swp_len (h : List Al) (i k : Nat) : (swp h i k).length = h.length := by unfold swp; simp
theorem g_swp {h : List Al} {i j : Nat} (hi : i < h.length) (hj : j < h.length) (k : Nat) : g (swp h i j) k = if k = j then g h i else if k = i then g h j else g h k := by
  unfold swp
  unfold g
  simp only [List.getD_eq_getElem?_getD, List.getElem?_set, List.length_set]
  by_cases h1 : j = k
  · subst h1; simp [hj]
  · have h1' : ¬ k = j := fun e => h1 e.symm
    rw [if_neg h1, if_neg h1']
    by_cases h2 : i = k
    · subst h2; simp [hi]
    · have h2' : ¬ k = i := fun e => h2 e.symm
      rw [if_neg h2, if_neg h2']
theorem swp_perm {h : List Al} {i j : Nat} (hi : i < h.length) (hj : j < h.length) : (swp h i j).Perm h := by
  unfold swp
  rw [g_lt hi, g_lt hj]
  exact List.set_set_perm hi hj

def par (k : Nat) : Nat := (k - 1) / 2
def Heap (h : List Al) : Prop := ∀ k, 0 < k → k < h.length → le (g h (par k)) (g h k)
/-- as the document looks: a place's two. -/
def heapB (h : List Al) : Bool := (List.range h.length).all fun k => k == 0 || !less (g h k) (g h (par k))
theorem heapB_iff (h : List Al) : heapB h = true ↔ Heap h := by
  unfold heapB Heap
  simp only [List.all_eq_true, List.mem_range, Bool.or_eq_true, beq_iff_eq, Bool.not_eq_true', less_f]
  constructor
  · intro H k h1 h2
    rcases H k h2 with h | h
    · omega
    · exact h
  · intro H k h2
    by_cases h0 : k = 0
    · exact .inl h0
    · exact .inr (H k (by omega) h2)

/-- it rises. -/
def rise : Nat → List Al → Nat → List Al
  | 0, h, _ => h
  | n + 1, h, i => if 0 < i ∧ less (g h i) (g h (par i)) = true then rise n (swp h i (par i)) (par i) else h
theorem rise_len : ∀ (n : Nat) (h : List Al) (i : Nat), (rise n h i).length = h.length
  | 0, _, _ => rfl
  | n + 1, h, i => by
    unfold rise
    split
    · rw [rise_len n, swp_len]
    · rfl
theorem rise_perm : ∀ (n : Nat) (h : List Al) (i : Nat), i < h.length → (rise n h i).Perm h
  | 0, _, _, _ => List.Perm.refl _
  | n + 1, h, i, hi => by
    unfold rise
    split
    · have hp : par i < h.length := by unfold par; omega
      exact (rise_perm n _ _ (by rw [swp_len]; exact hp)).trans (swp_perm hi hp)
    · exact List.Perm.refl _
theorem rise_heap : ∀ (n : Nat) (h : List Al) (i : Nat), i ≤ n → i < h.length → (∀ k, 0 < k → k < h.length → k ≠ i → le (g h (par k)) (g h k)) →
    (∀ k, 0 < k → k < h.length → par k = i → 0 < i → le (g h (par i)) (g h k)) → Heap (rise n h i)
  | 0, h, i, hn, hi, h1, h2 => by
    intro k hk hl
    unfold rise at hl ⊢
    exact h1 k hk hl (by omega)
  | n + 1, h, i, hn, hi, h1, h2 => by
    unfold rise
    split
    · rename_i hc
      obtain ⟨h0, hc⟩ := hc
      have hle := le_of_less hc
      have hp : par i < h.length := by unfold par; omega
      have hpi : par i < i := by unfold par; omega
      refine rise_heap n _ _ (by omega) (by rw [swp_len]; exact hp) ?_ ?_
      · intro k hk hl hne
        rw [swp_len] at hl
        rw [g_swp hi hp, g_swp hi hp]
        by_cases e1 : k = i
        · subst e1
          rw [if_pos rfl, if_neg (by omega), if_pos rfl]
          exact hle
        · rw [if_neg hne, if_neg e1]
          by_cases e2 : par k = i
          · rw [if_neg (by omega), if_pos e2]
            exact h2 k hk hl e2 h0
          · by_cases e3 : par k = par i
            · rw [if_pos e3]
              have := h1 k hk hl e1
              rw [e3] at this
              exact le_trans hle this
            · rw [if_neg e3, if_neg e2]
              exact h1 k hk hl e1
      · intro k hk hl he hp0
        rw [swp_len] at hl
        have hpp : par (par i) < par i := by unfold par at *; omega
        rw [g_swp hi hp, g_swp hi hp, if_neg (by omega : ¬ par (par i) = par i), if_neg (by omega : ¬ par (par i) = i)]
        have hpar := h1 (par i) hp0 hp (by omega)
        have hkp : ¬ k = par i := by intro e; rw [e] at he; omega
        rw [if_neg hkp]
        by_cases e1 : k = i
        · rw [if_pos e1]; exact hpar
        · rw [if_neg e1]
          have := h1 k hk hl e1
          rw [he] at this
          exact le_trans hpar this
    · rename_i hc
      intro k hk hl
      by_cases e : k = i
      · subst e
        have : ¬ less (g h k) (g h (par k)) = true := fun h => hc ⟨hk, h⟩
        exact less_f.1 (by simpa using this)
      · exact h1 k hk hl e
def put (h : List Al) (a : Al) : List Al := rise h.length (h ++ [a]) h.length
theorem put_perm (h : List Al) (a : Al) : (put h a).Perm (h ++ [a]) := rise_perm _ _ _ (by simp)
theorem put_len (h : List Al) (a : Al) : (put h a).length = h.length + 1 := by unfold put; rw [rise_len]; simp
theorem g_app {h : List Al} {k : Nat} (l : List Al) (hk : k < h.length) : g (h ++ l) k = g h k := by unfold g; simp [List.getD_eq_getElem?_getD, List.getElem?_append_left hk]
theorem put_heap {h : List Al} (H : Heap h) (a : Al) : Heap (put h a) := by
  unfold put
  refine rise_heap _ _ _ (Nat.le_refl _) (by simp) ?_ ?_
  · intro k hk hl hne
    simp at hl
    have hp : par k < h.length := by unfold par; omega
    rw [g_app _ hp, g_app _ (by omega)]
    exact H k hk (by omega)
  · intro k hk hl he
    simp at hl
    unfold par at he; omega

/-- it sinks. -/
def bst1 (h : List Al) (i : Nat) : Nat := if 2 * i + 1 < h.length ∧ less (g h (2 * i + 1)) (g h i) = true then 2 * i + 1 else i
def bst (h : List Al) (i : Nat) : Nat := if 2 * i + 2 < h.length ∧ less (g h (2 * i + 2)) (g h (bst1 h i)) = true then 2 * i + 2 else bst1 h i
theorem bst1_cases (h : List Al) (i : Nat) : (bst1 h i = i ∧ (2 * i + 1 < h.length → le (g h i) (g h (2 * i + 1)))) ∨ (bst1 h i = 2 * i + 1 ∧ 2 * i + 1 < h.length ∧ le (g h (2 * i + 1)) (g h i)) := by
  unfold bst1
  split
  · rename_i hc; exact .inr ⟨rfl, hc.1, le_of_less hc.2⟩
  · rename_i hc; exact .inl ⟨rfl, fun hl => less_f.1 (by have : ¬ less (g h (2 * i + 1)) (g h i) = true := fun e => hc ⟨hl, e⟩; simpa using this)⟩
theorem bst_cases (h : List Al) (i : Nat) : (bst h i = i ∧ ∀ k, 0 < k → k < h.length → par k = i → le (g h i) (g h k)) ∨
    (0 < bst h i ∧ par (bst h i) = i ∧ bst h i < h.length ∧ bst h i ≠ i ∧ i < bst h i ∧ le (g h (bst h i)) (g h i) ∧ ∀ k, 0 < k → k < h.length → par k = i → le (g h (bst h i)) (g h k)) := by
  have hk2 : ∀ k, 0 < k → par k = i → k = 2 * i + 1 ∨ k = 2 * i + 2 := by intro k hk he; unfold par at he; omega
  rcases bst1_cases h i with ⟨e, h1⟩ | ⟨e, hl, h1⟩
  · unfold bst
    rw [e]
    split
    · rename_i hc
      have hle := le_of_less hc.2
      refine .inr ⟨by omega, by unfold par; omega, hc.1, by omega, by omega, hle, fun k hk hkl he => ?_⟩
      rcases hk2 k hk he with rfl | rfl
      · exact le_trans hle (h1 hkl)
      · exact le_refl _
    · rename_i hc
      refine .inl ⟨rfl, fun k hk hkl he => ?_⟩
      rcases hk2 k hk he with rfl | rfl
      · exact h1 hkl
      · exact less_f.1 (by have : ¬ less (g h (2 * i + 2)) (g h i) = true := fun e => hc ⟨hkl, e⟩; simpa using this)
  · unfold bst
    rw [e]
    split
    · rename_i hc
      have hle := le_of_less hc.2
      refine .inr ⟨by omega, by unfold par; omega, hc.1, by omega, by omega, le_trans hle h1, fun k hk hkl he => ?_⟩
      rcases hk2 k hk he with rfl | rfl
      · exact hle
      · exact le_refl _
    · rename_i hc
      refine .inr ⟨by omega, by unfold par; omega, hl, by omega, by omega, h1, fun k hk hkl he => ?_⟩
      rcases hk2 k hk he with rfl | rfl
      · exact le_refl _
      · exact less_f.1 (by have : ¬ less (g h (2 * i + 2)) (g h (2 * i + 1)) = true := fun e => hc ⟨hkl, e⟩; simpa using this)
def sink : Nat → List Al → Nat → List Al
  | 0, h, _ => h
  | n + 1, h, i => if bst h i = i then h else sink n (swp h i (bst h i)) (bst h i)
theorem sink_len : ∀ (n : Nat) (h : List Al) (i : Nat), (sink n h i).length = h.length
  | 0, _, _ => rfl
  | n + 1, h, i => by
    unfold sink
    split
    · rfl
    · rw [sink_len n, swp_len]
theorem sink_perm : ∀ (n : Nat) (h : List Al) (i : Nat), i < h.length → (sink n h i).Perm h
  | 0, _, _, _ => List.Perm.refl _
  | n + 1, h, i, hi => by
    unfold sink
    split
    · exact List.Perm.refl _
    · rename_i hne
      rcases bst_cases h i with ⟨e, _⟩ | ⟨_, _, hl, _⟩
      · exact absurd e hne
      · exact (sink_perm n _ _ (by rw [swp_len]; exact hl)).trans (swp_perm hi hl)
theorem sink_heap : ∀ (n : Nat) (h : List Al) (i : Nat), h.length ≤ i + n → i < h.length → (∀ k, 0 < k → k < h.length → par k ≠ i → le (g h (par k)) (g h k)) →
    (∀ k, 0 < k → k < h.length → par k = i → 0 < i → le (g h (par i)) (g h k)) → Heap (sink n h i)
  | 0, h, i, hn, hi, h1, h2 => by omega
  | n + 1, h, i, hn, hi, h1, h2 => by
    unfold sink
    rcases bst_cases h i with ⟨e, hb⟩ | ⟨b0, bp, bl, bne, bi, ble, hb⟩
    · rw [if_pos e]
      intro k hk hl
      by_cases e2 : par k = i
      · rw [e2]; exact hb k hk hl e2
      · exact h1 k hk hl e2
    · rw [if_neg bne]
      generalize bst h i = b at b0 bp bl bne bi ble hb
      refine sink_heap n _ _ (by rw [swp_len]; omega) (by rw [swp_len]; exact bl) ?_ ?_
      · intro k hk hl hne
        rw [swp_len] at hl
        rw [g_swp hi bl, g_swp hi bl, if_neg hne]
        by_cases e1 : par k = i
        · rw [if_pos e1]
          by_cases e2 : k = b
          · rw [if_pos e2]; exact ble
          · rw [if_neg e2, if_neg (by intro e; rw [e] at e1; unfold par at e1; omega)]
            exact hb k hk hl e1
        · rw [if_neg e1]
          have e2 : ¬ k = b := by intro e; rw [e] at e1; exact e1 bp
          rw [if_neg e2]
          by_cases e3 : k = i
          · rw [if_pos e3, e3]
            exact h2 b b0 bl bp (by omega)
          · rw [if_neg e3]
            exact h1 k hk hl e1
      · intro k hk hl he hb0
        rw [swp_len] at hl
        rw [bp, g_swp hi bl, g_swp hi bl, if_neg (by omega : ¬ i = b), if_pos rfl]
        have hkb : b < k := by unfold par at he; omega
        rw [if_neg (by omega), if_neg (by omega)]
        have := h1 k hk hl (by rw [he]; exact bne)
        rw [he] at this
        exact this
def popR (h : List Al) : List Al := if h.length ≤ 1 then [] else sink h.length (h.dropLast.set 0 (g h (h.length - 1))) 0
theorem g_dropLast {h : List Al} {k : Nat} (hk : k < h.length - 1) : g h.dropLast k = g h k := by
  unfold g; rw [List.getD_eq_getElem?_getD, List.getD_eq_getElem?_getD, List.getElem?_dropLast, if_pos hk]
theorem g_set0 {h : List Al} (a : Al) {k : Nat} (hk : 0 < k) : g (h.set 0 a) k = g h k := by
  unfold g; simp [List.getD_eq_getElem?_getD, List.getElem?_set, Nat.ne_of_lt hk]
theorem popR_len (h : List Al) : (popR h).length = h.length - 1 := by
  unfold popR
  split
  · simp; omega
  · rw [sink_len]; simp
theorem popR_heap {h : List Al} (H : Heap h) : Heap (popR h) := by
  unfold popR
  split
  · intro k hk hl; simp at hl
  · rename_i hn
    refine sink_heap _ _ _ (by simp <;> omega) (by simp <;> omega) ?_ ?_
    · intro k hk hl hne
      simp at hl
      have hp : 0 < par k := by omega
      have hpk : par k < k := by unfold par; omega
      rw [g_set0 _ hp, g_set0 _ hk, g_dropLast (by omega), g_dropLast (by omega)]
      exact H k hk (by omega)
    · intro k _ _ _ h0; omega
theorem popR_perm {h : List Al} (h0 : 0 < h.length) : (g h 0 :: popR h).Perm h := by
  cases h with
  | nil => simp at h0
  | cons x t =>
    show (x :: popR (x :: t)).Perm (x :: t)
    refine List.Perm.cons x ?_
    unfold popR
    split
    · rename_i hl
      have : t = [] := by cases t with | nil => rfl | cons _ _ => simp at hl
      subst this; exact List.Perm.refl _
    · rename_i hl
      have ht : t ≠ [] := by intro e; subst e; simp at hl
      have hlast : g (x :: t) ((x :: t).length - 1) = t.getLast ht := by
        have e1 : g (x :: t) ((x :: t).length - 1) = g t (t.length - 1) := by
          cases t with
          | nil => exact absurd rfl ht
          | cons y t => rfl
        rw [e1, g_lt (by have := List.length_pos_iff.2 ht; omega), List.getLast_eq_getElem]
      refine (sink_perm _ _ _ (by have := List.length_pos_iff.2 ht; simp; omega)).trans ?_
      rw [hlast, List.dropLast_cons_of_ne_nil ht]
      simp only [List.set_cons_zero]
      have := List.dropLast_concat_getLast ht
      calc (t.getLast ht :: t.dropLast).Perm (t.dropLast ++ [t.getLast ht]) := (List.perm_append_singleton _ _).symm
        _ = t := this
theorem heap_min {h : List Al} (H : Heap h) : ∀ (k : Nat), k < h.length → le (g h 0) (g h k) := by
  intro k
  induction k using Nat.strongRecOn with
  | ind k ih =>
    intro hk
    by_cases h0 : k = 0
    · subst h0; exact le_refl _
    · have hp : par k < k := by unfold par; omega
      exact le_trans (ih (par k) hp (by omega)) (H k (by omega) hk)
theorem heap_min_mem {h : List Al} (H : Heap h) {a : Al} (ha : a ∈ h) : le (g h 0) a := by
  obtain ⟨k, hk, rfl⟩ := List.getElem_of_mem ha
  rw [← g_lt hk]
  exact heap_min H k hk

/-- what is due. -/
def due : Nat → List Al → Nat → List Al × List Int
  | 0, h, _ => (h, [])
  | n + 1, h, now => if 0 < h.length ∧ (g h 0).at_ ≤ now then ((due n (popR h) now).1, (g h 0).id :: (due n (popR h) now).2) else (h, [])
def isDue (now : Nat) (a : Al) : Bool := decide (a.at_ ≤ now)
theorem due_heap : ∀ (n : Nat) (h : List Al) (now : Nat), Heap h → Heap (due n h now).1
  | 0, _, _, H => H
  | n + 1, h, now, H => by
    unfold due
    split
    · exact due_heap n _ now (popR_heap H)
    · exact H
theorem due_all : ∀ (n : Nat) (h : List Al) (now : Nat), Heap h → h.length ≤ n →
    (∀ a ∈ (due n h now).1, isDue now a = false) ∧ (due n h now).2.length = (h.filter (isDue now)).length ∧ (due n h now).1.length = h.length - (h.filter (isDue now)).length
  | 0, h, now, H, hn => by
    have : h = [] := List.eq_nil_of_length_eq_zero (by omega)
    subst this
    refine ⟨(by intro a ha; cases ha), rfl, rfl⟩
  | n + 1, h, now, H, hn => by
    unfold due
    split
    · rename_i hc
      have hp := popR_perm hc.1
      have hl := popR_len h
      obtain ⟨i1, i2, i3⟩ := due_all n (popR h) now (popR_heap H) (by omega)
      have hf : (h.filter (isDue now)).length = ((popR h).filter (isDue now)).length + 1 := by
        rw [← (hp.filter (isDue now)).length_eq]
        have : isDue now (g h 0) = true := by unfold isDue; simpa using hc.2
        rw [List.filter_cons, if_pos this]; rfl
      have hle : ((popR h).filter (isDue now)).length ≤ (popR h).length := List.length_filter_le _ _
      refine ⟨i1, ?_, ?_⟩
      · simp only [List.length_cons]; omega
      · simp only; omega
    · rename_i hc
      have hno : ∀ a ∈ h, isDue now a = false := by
        intro a ha
        have hpos : 0 < h.length := List.length_pos_of_mem ha
        have hm := heap_min_mem H ha
        have : ¬ (g h 0).at_ ≤ now := fun e => hc ⟨hpos, e⟩
        unfold isDue
        rw [decide_eq_false_iff_not]
        unfold le at hm; omega
      have hf : h.filter (isDue now) = [] := List.filter_eq_nil_iff.2 fun a ha => by rw [hno a ha]; simp
      refine ⟨hno, ?_, ?_⟩
      · show ([] : List Int).length = _; rw [hf]; rfl
      · show h.length = _; rw [hf]; simp
/-- what is left of a drop. -/
def dropF (id : Int) : List Al → List Al → List Al
  | [], acc => acc
  | a :: l, acc => if a.id ≠ id then dropF id l (put acc a) else dropF id l acc
theorem dropF_heap (id : Int) : ∀ (l acc : List Al), Heap acc → Heap (dropF id l acc)
  | [], _, H => H
  | a :: l, acc, H => by
    unfold dropF
    split
    · exact dropF_heap id l _ (put_heap H a)
    · exact dropF_heap id l _ H
theorem dropF_no (id : Int) : ∀ (l acc : List Al), (∀ a ∈ acc, a.id ≠ id) → ∀ a ∈ dropF id l acc, a.id ≠ id
  | [], _, H => H
  | b :: l, acc, H => by
    unfold dropF
    split
    · rename_i hb
      refine dropF_no id l _ fun a ha => ?_
      have := (put_perm acc b).mem_iff.1 ha
      rcases List.mem_append.1 this with h | h
      · exact H a h
      · simp only [List.mem_singleton] at h; subst h; exact hb
    · exact dropF_no id l _ H
theorem dropF_len (id : Int) : ∀ (l acc : List Al), (dropF id l acc).length ≤ acc.length + l.length
  | [], _ => by simp [dropF]
  | a :: l, acc => by
    unfold dropF
    split
    · have := dropF_len id l (put acc a); rw [put_len] at this; simp; omega
    · have := dropF_len id l acc; simp; omega
theorem heap_nil : Heap [] := by intro k _ hl; simp at hl

/-- all that was put comes out in order. -/
def puts : List Al → List Al → List Al
  | h, [] => h
  | h, a :: l => puts (put h a) l
theorem puts_heap : ∀ (l h : List Al), Heap h → Heap (puts h l)
  | [], _, H => H
  | a :: l, h, H => puts_heap l _ (put_heap H a)
theorem puts_perm : ∀ (l h : List Al), (puts h l).Perm (h ++ l)
  | [], h => by simp [puts]
  | a :: l, h => by
    refine (puts_perm l (put h a)).trans ?_
    have := (put_perm h a).append_right l
    simpa using this
theorem puts_snoc : ∀ (l h : List Al) (a : Al), puts h (l ++ [a]) = put (puts h l) a
  | [], h, a => rfl
  | b :: l, h, a => puts_snoc l (put h b) a
def popsN : Nat → List Al → List Al × List Al
  | 0, h => ([], h)
  | n + 1, h => ((popsN n h).1 ++ [g (popsN n h).2 0], popR (popsN n h).2)
theorem popsN_len : ∀ (n : Nat) (h : List Al), (popsN n h).1.length = n ∧ (popsN n h).2.length = h.length - n
  | 0, h => by simp [popsN]
  | n + 1, h => by
    obtain ⟨a, b⟩ := popsN_len n h
    constructor
    · simp [popsN, a]
    · show (popR (popsN n h).2).length = _
      rw [popR_len, b]; omega
theorem popsN_heap {h : List Al} (H : Heap h) : ∀ n, Heap (popsN n h).2
  | 0 => H
  | n + 1 => popR_heap (popsN_heap H n)
theorem popsN_perm {h : List Al} : ∀ n, n ≤ h.length → ((popsN n h).1 ++ (popsN n h).2).Perm h
  | 0, _ => by simp [popsN]
  | n + 1, hn => by
    have ih := popsN_perm (h := h) n (by omega)
    have hl := (popsN_len n h).2
    have hp := popR_perm (h := (popsN n h).2) (by omega)
    refine List.Perm.trans ?_ ih
    show ((popsN n h).1 ++ [g (popsN n h).2 0] ++ popR (popsN n h).2).Perm _
    rw [List.append_assoc]
    exact List.Perm.append_left _ hp
/-- each that comes out is not earlier than the one ahead of it. -/
theorem popsN_rises {h : List Al} (H : Heap h) : ∀ n, n + 1 < h.length → le (g (popsN n h).2 0) (g (popsN (n + 1) h).2 0) := by
  intro n hn
  have hl := (popsN_len n h).2
  have hl2 := (popsN_len (n + 1) h).2
  have hm : g (popsN (n + 1) h).2 0 ∈ (popsN (n + 1) h).2 := by
    rw [g_lt (by omega)]; exact List.getElem_mem _
  have hp := popR_perm (h := (popsN n h).2) (by omega)
  exact heap_min_mem (popsN_heap H n) (hp.mem_iff.1 (List.mem_cons_of_mem _ hm))
end Am
end Go.Proofs.Ytbclamfpoigneaa
