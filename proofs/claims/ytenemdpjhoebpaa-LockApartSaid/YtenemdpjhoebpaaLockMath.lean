/- Locks: plain mathematics, as the document tells them. -/
import Derived.Test.YtenemdpjhoebpaaSpanMath
namespace Go.Proofs.Ytenemdpjhoebpaa.Lm
set_option maxRecDepth 100000
set_option linter.unusedVariables false
set_option linter.unusedSimpArgs false

structure Ho where
  txn : Int
  w : Sm.Wn
deriving DecidableEq
structure Cl where
  txn : Int
  w : Sm.Wn
  til : Nat
deriving DecidableEq
structure Lo where
  held : List Ho
  queue : List Cl
deriving DecidableEq

/-- a number into a rising row, once. -/
def ins (n : Int) : List Int → List Int
  | [] => [n]
  | a :: l => if a = n then a :: l else if n < a then n :: a :: l else a :: ins n l
def gatH (txn : Int) (w : Sm.Wn) : List Ho → List Int → List Int
  | [], out => out
  | h :: l, out => gatH txn w l (if Sm.clash h.w w = true ∧ h.txn ≠ txn then ins h.txn out else out)
def gatQ (txn : Int) (w : Sm.Wn) : List Cl → List Int → List Int
  | [], out => out
  | h :: l, out => gatQ txn w l (if Sm.clash h.w w = true ∧ h.txn ≠ txn then ins h.txn out else out)
def blk (l : Lo) (txn : Int) (w : Sm.Wn) (n : Nat) : List Int := gatQ txn w (l.queue.take n) (gatH txn w l.held [])
def waits (l : Lo) (txn : Int) : Bool := l.queue.any fun c => decide (c.txn = txn)
def late (l : Lo) (now : Nat) : List Int := (l.queue.filter fun c => decide (c.til ≤ now)).map Cl.txn
def covered (l : Lo) (txn : Int) (w : Sm.Wn) : Bool := l.held.any fun h => Sm.covers h.w w && decide (h.txn = txn)
def ask (l : Lo) (txn : Int) (w : Sm.Wn) (til : Nat) : Lo × Int :=
  if txn < 1 ∨ Sm.may w = false then (l, 1)
  else if waits l txn = true then (l, 8)
  else if covered l txn w = true then (l, 0)
  else if blk l txn w l.queue.length = [] then (⟨l.held ++ [⟨txn, w⟩], l.queue⟩, 0)
  else if 16 ≤ l.queue.length then (l, 11)
  else (⟨l.held, l.queue ++ [⟨txn, w, til⟩]⟩, 12)
/-- the first claim from place i on behind whom nobody stands. -/
def pick (l : Lo) : Nat → Nat → Option Nat
  | 0, _ => none
  | n + 1, i => if h : i < l.queue.length then (if blk l l.queue[i].txn l.queue[i].w i = [] then some i else pick l n (i + 1)) else none
def first (l : Lo) : Option Nat := pick l l.queue.length 0
def give (l : Lo) (i : Nat) (c : Cl) : Lo := ⟨l.held ++ [⟨c.txn, c.w⟩], l.queue.eraseIdx i⟩
def settleN : Nat → Lo → List Int → Lo × List Int
  | 0, l, out => (l, out)
  | n + 1, l, out => match first l with
    | none => (l, out)
    | some i => if h : i < l.queue.length then settleN n (give l i l.queue[i]) (out ++ [l.queue[i].txn]) else (l, out)
def settle (l : Lo) : Lo × List Int := settleN l.queue.length l []
def keep (l : Lo) (txn : Int) : Lo := ⟨l.held.filter fun h => decide (h.txn ≠ txn), l.queue.filter fun c => decide (c.txn ≠ txn)⟩
def free (l : Lo) (txn : Int) : Lo × List Int := settle (keep l txn)

/-! ### Who stands in the way -/
theorem ins_ne (n : Int) (l : List Int) : ins n l ≠ [] := by
  cases l with
  | nil => simp [ins]
  | cons a l => unfold ins; split; simp; split <;> simp
theorem mem_ins {n x : Int} : ∀ {l : List Int}, x ∈ ins n l ↔ x = n ∨ x ∈ l
  | [] => by simp [ins]
  | a :: l => by
    unfold ins
    split
    · rename_i h; subst h; simp
    · split
      · simp
      · rw [List.mem_cons, List.mem_cons, mem_ins]
        constructor
        · rintro (h | h | h)
          · exact .inr (.inl h)
          · exact .inl h
          · exact .inr (.inr h)
        · rintro (h | h | h)
          · exact .inr (.inl h)
          · exact .inl h
          · exact .inr (.inr h)
theorem ins_rise {n : Int} : ∀ {l : List Int}, l.Pairwise (· < ·) → (ins n l).Pairwise (· < ·)
  | [], _ => by simp [ins]
  | a :: l, h => by
    unfold ins
    split
    · exact h
    · rename_i h1
      split
      · rename_i h2
        refine List.pairwise_cons.2 ⟨fun x hx => ?_, h⟩
        rcases List.mem_cons.1 hx with rfl | hx
        · exact h2
        · exact Int.lt_trans h2 ((List.pairwise_cons.1 h).1 x hx)
      · rename_i h2
        refine List.pairwise_cons.2 ⟨fun x hx => ?_, ins_rise (List.pairwise_cons.1 h).2⟩
        rcases mem_ins.1 hx with rfl | hx
        · omega
        · exact (List.pairwise_cons.1 h).1 x hx
theorem gatH_mem {txn : Int} {w : Sm.Wn} {x : Int} : ∀ {l : List Ho} {out : List Int}, x ∈ gatH txn w l out ↔ x ∈ out ∨ ∃ h ∈ l, Sm.clash h.w w = true ∧ h.txn ≠ txn ∧ h.txn = x
  | [], out => by simp [gatH]
  | h :: l, out => by
    unfold gatH
    rw [gatH_mem]
    by_cases hc : Sm.clash h.w w = true ∧ h.txn ≠ txn
    · rw [if_pos hc, mem_ins]
      constructor
      · rintro ((e | e) | ⟨a, ha, hb⟩)
        · exact .inr ⟨h, by simp, hc.1, hc.2, e.symm⟩
        · exact .inl e
        · exact .inr ⟨a, by simp [ha], hb⟩
      · rintro (e | ⟨a, ha, hb⟩)
        · exact .inl (.inr e)
        · rcases List.mem_cons.1 ha with rfl | ha
          · exact .inl (.inl hb.2.2.symm)
          · exact .inr ⟨a, ha, hb⟩
    · rw [if_neg hc]
      constructor
      · rintro (e | ⟨a, ha, hb⟩)
        · exact .inl e
        · exact .inr ⟨a, by simp [ha], hb⟩
      · rintro (e | ⟨a, ha, hb⟩)
        · exact .inl e
        · rcases List.mem_cons.1 ha with rfl | ha
          · exact absurd ⟨hb.1, hb.2.1⟩ hc
          · exact .inr ⟨a, ha, hb⟩
theorem gatQ_mem {txn : Int} {w : Sm.Wn} {x : Int} : ∀ {l : List Cl} {out : List Int}, x ∈ gatQ txn w l out ↔ x ∈ out ∨ ∃ h ∈ l, Sm.clash h.w w = true ∧ h.txn ≠ txn ∧ h.txn = x
  | [], out => by simp [gatQ]
  | h :: l, out => by
    unfold gatQ
    rw [gatQ_mem]
    by_cases hc : Sm.clash h.w w = true ∧ h.txn ≠ txn
    · rw [if_pos hc, mem_ins]
      constructor
      · rintro ((e | e) | ⟨a, ha, hb⟩)
        · exact .inr ⟨h, by simp, hc.1, hc.2, e.symm⟩
        · exact .inl e
        · exact .inr ⟨a, by simp [ha], hb⟩
      · rintro (e | ⟨a, ha, hb⟩)
        · exact .inl (.inr e)
        · rcases List.mem_cons.1 ha with rfl | ha
          · exact .inl (.inl hb.2.2.symm)
          · exact .inr ⟨a, ha, hb⟩
    · rw [if_neg hc]
      constructor
      · rintro (e | ⟨a, ha, hb⟩)
        · exact .inl e
        · exact .inr ⟨a, by simp [ha], hb⟩
      · rintro (e | ⟨a, ha, hb⟩)
        · exact .inl e
        · rcases List.mem_cons.1 ha with rfl | ha
          · exact absurd ⟨hb.1, hb.2.1⟩ hc
          · exact .inr ⟨a, ha, hb⟩
theorem gatH_rise {txn : Int} {w : Sm.Wn} : ∀ {l : List Ho} {out : List Int}, out.Pairwise (· < ·) → (gatH txn w l out).Pairwise (· < ·)
  | [], _, h => h
  | a :: l, out, h => by
    unfold gatH
    apply gatH_rise
    split
    · exact ins_rise h
    · exact h
theorem gatQ_rise {txn : Int} {w : Sm.Wn} : ∀ {l : List Cl} {out : List Int}, out.Pairwise (· < ·) → (gatQ txn w l out).Pairwise (· < ·)
  | [], _, h => h
  | a :: l, out, h => by
    unfold gatQ
    apply gatQ_rise
    split
    · exact ins_rise h
    · exact h
theorem blk_rise (l : Lo) (txn : Int) (w : Sm.Wn) (n : Nat) : (blk l txn w n).Pairwise (· < ·) := gatQ_rise (gatH_rise List.Pairwise.nil)
theorem blk_mem {l : Lo} {txn : Int} {w : Sm.Wn} {n : Nat} {x : Int} : x ∈ blk l txn w n ↔ (∃ h ∈ l.held, Sm.clash h.w w = true ∧ h.txn ≠ txn ∧ h.txn = x) ∨ ∃ h ∈ l.queue.take n, Sm.clash h.w w = true ∧ h.txn ≠ txn ∧ h.txn = x := by
  unfold blk
  rw [gatQ_mem, gatH_mem]
  simp
/-- two rising rows of the same numbers are one. -/
theorem rise_eq : ∀ {a b : List Int}, a.Pairwise (· < ·) → b.Pairwise (· < ·) → (∀ x, x ∈ a ↔ x ∈ b) → a = b
  | [], [], _, _, _ => rfl
  | [], y :: b, _, _, h => absurd ((h y).2 (by simp)) (by simp)
  | x :: a, [], _, _, h => absurd ((h x).1 (by simp)) (by simp)
  | x :: a, y :: b, ha, hb, h => by
    have ha2 := List.pairwise_cons.1 ha
    have hb2 := List.pairwise_cons.1 hb
    have hxy : x = y := by
      rcases List.mem_cons.1 ((h x).1 (by simp)) with e | e
      · exact e
      · rcases List.mem_cons.1 ((h y).2 (by simp)) with e2 | e2
        · exact e2.symm
        · have := hb2.1 x e
          have := ha2.1 y e2
          omega
    subst hxy
    rw [rise_eq ha2.2 hb2.2 fun z => ⟨fun hz => ?_, fun hz => ?_⟩]
    · rcases List.mem_cons.1 ((h z).1 (by simp [hz])) with e | e
      · have := ha2.1 z hz; omega
      · exact e
    · rcases List.mem_cons.1 ((h z).2 (by simp [hz])) with e | e
      · have := hb2.1 z hz; omega
      · exact e
theorem blk_nil {l : Lo} {txn : Int} {w : Sm.Wn} {n : Nat} : blk l txn w n = [] ↔ (∀ h ∈ l.held, Sm.clash h.w w = true → h.txn = txn) ∧ ∀ h ∈ l.queue.take n, Sm.clash h.w w = true → h.txn = txn := by
  rw [List.eq_nil_iff_forall_not_mem]
  constructor
  · intro h
    constructor
    · intro a ha hc
      by_cases e : a.txn = txn
      · exact e
      · exact absurd (blk_mem.2 (.inl ⟨a, ha, hc, e, rfl⟩)) (h a.txn)
    · intro a ha hc
      by_cases e : a.txn = txn
      · exact e
      · exact absurd (blk_mem.2 (.inr ⟨a, ha, hc, e, rfl⟩)) (h a.txn)
  · rintro ⟨h1, h2⟩ x hx
    rcases blk_mem.1 hx with ⟨a, ha, hc, hn, _⟩ | ⟨a, ha, hc, hn, _⟩
    · exact hn (h1 a ha hc)
    · exact hn (h2 a ha hc)

/-! ### Settled -/
theorem pick_some {l : Lo} : ∀ {n i k : Nat}, pick l n i = some k → ∃ h : k < l.queue.length, blk l l.queue[k].txn l.queue[k].w k = []
  | 0, i, k, h => by simp [pick] at h
  | n + 1, i, k, h => by
    unfold pick at h
    split at h
    · rename_i hi
      split at h
      · rename_i hb
        injection h with h
        subst h
        exact ⟨hi, hb⟩
      · exact pick_some h
    · cases h
theorem pick_none {l : Lo} : ∀ {n i : Nat}, pick l n i = none → ∀ k, i ≤ k → k < i + n → ∀ h : k < l.queue.length, blk l l.queue[k].txn l.queue[k].w k ≠ []
  | 0, i, _, k, h1, h2, _ => by omega
  | n + 1, i, hp, k, h1, h2, hk => by
    unfold pick at hp
    split at hp
    · rename_i hi
      split at hp
      · cases hp
      · rename_i hb
        by_cases e : k = i
        · subst e; exact hb
        · exact pick_none hp k (by omega) (by omega) hk
    · omega
theorem first_none {l : Lo} (h : first l = none) (k : Nat) (hk : k < l.queue.length) : blk l l.queue[k].txn l.queue[k].w k ≠ [] := pick_none h k (Nat.zero_le _) (by omega) hk
/-- behind each claim somebody stands. -/
def Set (l : Lo) : Prop := ∀ k, ∀ h : k < l.queue.length, blk l l.queue[k].txn l.queue[k].w k ≠ []
theorem settle_set : ∀ (n : Nat) (l : Lo) (out : List Int), l.queue.length ≤ n → Set (settleN n l out).1
  | 0, l, out, h => fun k hk => by
    have hk : k < l.queue.length := hk
    omega
  | n + 1, l, out, h => by
    unfold settleN
    cases hf : first l with
    | none => exact fun k hk => first_none hf k hk
    | some i =>
      obtain ⟨hi, _⟩ := pick_some hf
      simp only [hi, dif_pos]
      refine settle_set n _ _ ?_
      show (l.queue.eraseIdx i).length ≤ n
      rw [List.length_eraseIdx, if_pos hi]; omega
/-- what stays, claim by claim that is given. -/
theorem settle_ind {P : Lo → List Int → Prop} (hs : ∀ l out i (hi : i < l.queue.length), blk l l.queue[i].txn l.queue[i].w i = [] → P l out → P (give l i l.queue[i]) (out ++ [l.queue[i].txn])) :
    ∀ (n : Nat) (l : Lo) (out : List Int), P l out → P (settleN n l out).1 (settleN n l out).2
  | 0, l, out, h => h
  | n + 1, l, out, h => by
    unfold settleN
    cases hf : first l with
    | none => exact h
    | some i =>
      obtain ⟨hi, hb⟩ := pick_some hf
      simp only [hi, dif_pos]
      exact settle_ind hs n _ _ (hs l out i hi hb h)

/-! ### What follows -/
def Apart (l : Lo) : Prop := l.held.Pairwise fun a b => Sm.clash b.w a.w = true → a.txn = b.txn
theorem apart_snoc {l : List Ho} {h : Ho} (hp : l.Pairwise fun a b => Sm.clash b.w a.w = true → a.txn = b.txn) (hn : ∀ a ∈ l, Sm.clash a.w h.w = true → a.txn = h.txn) : (l ++ [h]).Pairwise fun a b => Sm.clash b.w a.w = true → a.txn = b.txn := by
  rw [List.pairwise_append]
  refine ⟨hp, by simp, fun a ha b hb => ?_⟩
  simp at hb; subst hb
  intro hc
  exact hn a ha (by rw [Sm.clash_comm]; exact hc)
theorem apart_ask {l : Lo} (h : Apart l) (txn : Int) (w : Sm.Wn) (til : Nat) : Apart (ask l txn w til).1 := by
  unfold ask
  split
  · exact h
  split
  · exact h
  split
  · exact h
  split
  · rename_i hb
    exact apart_snoc h (blk_nil.1 hb).1
  split
  · exact h
  · exact h
theorem apart_settle {n : Nat} {l : Lo} {out : List Int} (h : Apart l) : Apart (settleN n l out).1 :=
  settle_ind (P := fun l _ => Apart l) (fun l out i hi hb hp => apart_snoc hp (blk_nil.1 hb).1) n l out h
theorem apart_free {l : Lo} (h : Apart l) (txn : Int) : Apart (free l txn).1 := apart_settle (List.Pairwise.sublist List.filter_sublist h)
theorem apart_nil : Apart ⟨[], []⟩ := List.Pairwise.nil

/-- one claim of a transaction at most; at most 16. -/
structure Wt (l : Lo) : Prop where
  set : Set l
  one : l.queue.Pairwise fun a b => a.txn ≠ b.txn
  few : l.queue.length ≤ 16
theorem waits_no {l : Lo} {txn : Int} (h : waits l txn = false) : ∀ c ∈ l.queue, c.txn ≠ txn := by
  intro c hc e
  have := List.any_eq_false.1 h c hc
  simp [e] at this
theorem set_held {l : Lo} (h : Set l) (x : Ho) : Set ⟨l.held ++ [x], l.queue⟩ := by
  intro k hk e
  refine h k hk ?_
  rw [blk_nil] at e ⊢
  exact ⟨fun a ha => e.1 a (by simp [ha]), e.2⟩
theorem wt_ask {l : Lo} (h : Wt l) (txn : Int) (w : Sm.Wn) (til : Nat) : Wt (ask l txn w til).1 := by
  unfold ask
  split
  · exact h
  split
  · exact h
  rename_i hw
  split
  · exact h
  split
  · exact ⟨set_held h.set _, h.one, h.few⟩
  rename_i hb
  split
  · exact h
  rename_i hq
  refine ⟨fun k hk e => ?_, ?_, by simp; omega⟩
  · have hk : k < (l.queue ++ [(⟨txn, w, til⟩ : Cl)]).length := hk
    have e : blk ⟨l.held, l.queue ++ [(⟨txn, w, til⟩ : Cl)]⟩ (l.queue ++ [(⟨txn, w, til⟩ : Cl)])[k].txn (l.queue ++ [(⟨txn, w, til⟩ : Cl)])[k].w k = [] := e
    rw [blk_nil] at e
    obtain ⟨e1, e2⟩ := e
    by_cases hkl : k < l.queue.length
    · have hg : (l.queue ++ [(⟨txn, w, til⟩ : Cl)])[k] = l.queue[k] := List.getElem_append_left hkl
      rw [hg] at e1 e2
      refine h.set k hkl (blk_nil.2 ⟨e1, fun a ha => e2 a ?_⟩)
      show a ∈ (l.queue ++ [(⟨txn, w, til⟩ : Cl)]).take k
      rw [List.take_append_of_le_length (by omega)]; exact ha
    · have hkk : k = l.queue.length := by rw [List.length_append, List.length_singleton] at hk; omega
      subst hkk
      have hg : (l.queue ++ [(⟨txn, w, til⟩ : Cl)])[l.queue.length] = ⟨txn, w, til⟩ := by simp
      rw [hg] at e1 e2
      refine hb (blk_nil.2 ⟨e1, fun a ha => e2 a ?_⟩)
      show a ∈ (l.queue ++ [(⟨txn, w, til⟩ : Cl)]).take l.queue.length
      rw [List.take_append_of_le_length (Nat.le_refl _)]; exact ha
  · show (l.queue ++ [(⟨txn, w, til⟩ : Cl)]).Pairwise _
    rw [List.pairwise_append]
    refine ⟨h.one, by simp, fun a ha b hb => ?_⟩
    simp at hb; subst hb
    exact waits_no (by simpa using hw) a ha
theorem wt_free {l : Lo} (h : Wt l) (txn : Int) : Wt (free l txn).1 := by
  have hp := settle_ind (P := fun k _ => (k.queue.Pairwise fun (a b : Cl) => a.txn ≠ b.txn) ∧ k.queue.length ≤ 16)
    (fun l out i hi hb hp => ⟨List.Pairwise.sublist (List.eraseIdx_sublist _ _) hp.1, Nat.le_trans (List.eraseIdx_sublist _ _).length_le hp.2⟩)
    (keep l txn).queue.length (keep l txn) [] ⟨List.Pairwise.sublist List.filter_sublist h.one, Nat.le_trans (List.length_filter_le _ _) h.few⟩
  exact ⟨settle_set _ _ _ (Nat.le_refl _), hp.1, hp.2⟩
theorem wt_nil : Wt ⟨[], []⟩ := ⟨fun k hk => by simp at hk, List.Pairwise.nil, by simp⟩

/-- who was freed holds nothing, and waits for nothing; nobody else loses what they hold; who is told holds what they waited for. -/
theorem free_goes (l : Lo) (txn : Int) : (∃ m, (free l txn).1.held = (l.held.filter fun h => decide (h.txn ≠ txn)) ++ m ∧ m.map Ho.txn = (free l txn).2 ∧ ∀ h ∈ m, h.txn ≠ txn) ∧ waits (free l txn).1 txn = false := by
  have hp := settle_ind (P := fun k out => (∃ m, k.held = (l.held.filter fun h => decide (h.txn ≠ txn)) ++ m ∧ m.map Ho.txn = out ∧ ∀ h ∈ m, h.txn ≠ txn) ∧ ∀ c ∈ k.queue, c.txn ≠ txn)
    (fun k out i hi hb hp => by
      obtain ⟨⟨m, m1, m2, m3⟩, hq⟩ := hp
      refine ⟨⟨m ++ [⟨k.queue[i].txn, k.queue[i].w⟩], ?_, ?_, ?_⟩, fun c hc => hq c (List.mem_of_mem_eraseIdx hc)⟩
      · show k.held ++ _ = _
        rw [m1, List.append_assoc]
      · rw [List.map_append, m2]; rfl
      · intro h hh
        rcases List.mem_append.1 hh with hh | hh
        · exact m3 h hh
        · simp at hh; subst hh
          exact hq _ (List.getElem_mem hi))
    (keep l txn).queue.length (keep l txn) [] ⟨⟨[], by simp [keep], rfl, fun h hh => by simp at hh⟩, fun c hc => by
      have := List.mem_filter.1 hc
      simpa using this.2⟩
  refine ⟨hp.1, ?_⟩
  unfold waits
  rw [List.any_eq_false]
  intro c hc
  have := hp.2 c hc
  simpa using this
/-- what a span of its own covers is given, and nothing changes. -/
theorem ask_covered {l : Lo} {h : Ho} (hh : h ∈ l.held) (h1 : 1 ≤ h.txn) (hw : waits l h.txn = false) {w : Sm.Wn} (hc : Sm.covers h.w w = true) (til : Nat) : ask l h.txn w til = (l, 0) := by
  have hm : Sm.may w = true := by
    unfold Sm.covers at hc
    simp only [Bool.and_eq_true] at hc
    exact hc.2.1
  have hcv : covered l h.txn w = true := by
    unfold covered
    rw [List.any_eq_true]
    exact ⟨h, hh, by rw [hc]; simp⟩
  unfold ask
  rw [if_neg (by rw [hm]; simp; omega), if_neg (by rw [hw]; decide), if_pos hcv]
/-- nobody passes over a claim that clashes, unless it has that already. -/
theorem ask_fair {l : Lo} {txn : Int} {w : Sm.Wn} {c : Cl} (hc : c ∈ l.queue) (hn : c.txn ≠ txn) (hcl : Sm.clash c.w w = true) (til : Nat) : (ask l txn w til).2 ≠ 0 ∨ (ask l txn w til).1 = l := by
  unfold ask
  split
  · exact .inr rfl
  split
  · exact .inr rfl
  split
  · exact .inr rfl
  split
  · rename_i hb
    exact absurd ((blk_nil.1 hb).2 c (by rw [List.take_length]; exact hc) hcl) hn
  split
  · exact .inr rfl
  · exact .inl (by simp)
end Go.Proofs.Ytenemdpjhoebpaa.Lm
