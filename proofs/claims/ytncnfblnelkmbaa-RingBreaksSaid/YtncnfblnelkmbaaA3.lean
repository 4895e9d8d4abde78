/- RingMath, CompM, RingWalkM, SortI, Ring, Lock, App, AppK, LockRef3, HeldL, AppN: merged. -/
import Derived.Test.YtncnfblnelkmbaaA1
import Derived.Lib.SlicesCompact
import Derived.Test.YtncnfblnelkmbaaShelf
import Derived.Lib.OwnBridge
import Derived.Lib.AppendIntMem
import Derived.Test.YtncnfblnelkmbaaA2
import Derived.Deep.RegionHeld3
import Derived.Maps.AppendAt
import Derived.Laws.AppendOwnNone
/- Rings of those who wait: plain mathematics, as the document tells them. -/
namespace Go.Proofs.Ytncnfblnelkmbaa.Lm
set_option maxRecDepth 100000
set_option linter.unusedVariables false
set_option linter.unusedSimpArgs false

/-- a waits for b. -/
def Wf (l : Lo) (a b : Int) : Prop := ∃ p c s, l.queue = p ++ c :: s ∧ c.txn = a ∧ b ≠ a ∧ ((∃ h ∈ l.held, Sm.clash h.w c.w = true ∧ h.txn = b) ∨ ∃ d ∈ p, Sm.clash d.w c.w = true ∧ d.txn = b)
inductive Rch (l : Lo) : Int → Int → Prop
  | one {a b : Int} : Wf l a b → Rch l a b
  | more {a b c : Int} : Rch l a b → Wf l b c → Rch l a c
theorem Rch.trans {l : Lo} {a b c : Int} (h1 : Rch l a b) (h2 : Rch l b c) : Rch l a c := by
  induction h2 with
  | one h => exact .more h1 h
  | more _ h ih => exact .more ih h
/-- the first step of a way. -/
theorem Rch.step {l : Lo} {a c : Int} (h : Rch l a c) : ∃ b, Wf l a b ∧ (b = c ∨ Rch l b c) := by
  induction h with
  | one h => exact ⟨_, h, .inl rfl⟩
  | more _ h ih =>
    obtain ⟨b, hb, e | hr⟩ := ih
    · subst e; exact ⟨_, hb, .inr (.one h)⟩
    · exact ⟨_, hb, .inr (.more hr h)⟩
theorem Rch.mono {l k : Lo} (hm : ∀ a b, Wf k a b → Wf l a b) {a b : Int} (h : Rch k a b) : Rch l a b := by
  induction h with
  | one h => exact .one (hm _ _ h)
  | more _ h ih => exact .more ih (hm _ _ h)

/-! ### After -/
def insL (o : List Int) : List Int → List Int
  | [] => o
  | b :: l => insL (ins b o) l
theorem mem_insL {x : Int} : ∀ {l o : List Int}, x ∈ insL o l ↔ x ∈ o ∨ x ∈ l
  | [], o => by simp [insL]
  | b :: l, o => by
    unfold insL
    rw [mem_insL, mem_ins, List.mem_cons]
    constructor
    · rintro ((h | h) | h)
      · exact .inr (.inl h)
      · exact .inl h
      · exact .inr (.inr h)
    · rintro (h | h | h)
      · exact .inl (.inr h)
      · exact .inl (.inl h)
      · exact .inr h
theorem insL_rise : ∀ {l o : List Int}, o.Pairwise (· < ·) → (insL o l).Pairwise (· < ·)
  | [], _, h => h
  | b :: l, o, h => by unfold insL; exact insL_rise (ins_rise h)
/-- of the first n claims. -/
def aftN (l : Lo) (a : Int) : Nat → List Int
  | 0 => []
  | n + 1 => if h : n < l.queue.length then (if l.queue[n].txn = a then insL (aftN l a n) (blk l a l.queue[n].w n) else aftN l a n) else aftN l a n
def aft (l : Lo) (a : Int) : List Int := aftN l a l.queue.length
theorem aftN_rise (l : Lo) (a : Int) : ∀ n, (aftN l a n).Pairwise (· < ·)
  | 0 => List.Pairwise.nil
  | n + 1 => by
    unfold aftN
    split
    · split
      · exact insL_rise (aftN_rise l a n)
      · exact aftN_rise l a n
    · exact aftN_rise l a n
theorem mem_aftN {l : Lo} {a x : Int} : ∀ {n : Nat}, x ∈ aftN l a n ↔ ∃ k, k < n ∧ ∃ h : k < l.queue.length, l.queue[k].txn = a ∧ x ∈ blk l a l.queue[k].w k
  | 0 => by simp [aftN]
  | n + 1 => by
    unfold aftN
    by_cases h : n < l.queue.length
    · rw [dif_pos h]
      by_cases ht : l.queue[n].txn = a
      · rw [if_pos ht, mem_insL, mem_aftN]
        constructor
        · rintro (⟨k, hk, r⟩ | hx)
          · exact ⟨k, by omega, r⟩
          · exact ⟨n, by omega, h, ht, hx⟩
        · rintro ⟨k, hk, hl, r⟩
          by_cases e : k = n
          · subst e; exact .inr r.2
          · exact .inl ⟨k, by omega, hl, r⟩
      · rw [if_neg ht, mem_aftN]
        constructor
        · rintro ⟨k, hk, r⟩; exact ⟨k, by omega, r⟩
        · rintro ⟨k, hk, hl, r⟩
          by_cases e : k = n
          · subst e; exact absurd r.1 ht
          · exact ⟨k, by omega, hl, r⟩
    · rw [dif_neg h, mem_aftN]
      constructor
      · rintro ⟨k, hk, r⟩; exact ⟨k, by omega, r⟩
      · rintro ⟨k, hk, hl, r⟩; exact ⟨k, by omega, hl, r⟩
theorem aft_rise (l : Lo) (a : Int) : (aft l a).Pairwise (· < ·) := aftN_rise l a _
theorem mem_aft {l : Lo} {a x : Int} : x ∈ aft l a ↔ Wf l a x := by
  unfold aft
  rw [mem_aftN]
  constructor
  · rintro ⟨k, _, hk, ht, hx⟩
    refine ⟨l.queue.take k, l.queue[k], l.queue.drop (k + 1), ?_, ht, ?_⟩
    · rw [← List.drop_eq_getElem_cons hk, List.take_append_drop]
    · rcases blk_mem.1 hx with ⟨h, hh, hc, hn, he⟩ | ⟨h, hh, hc, hn, he⟩
      · exact ⟨by rw [← he]; exact hn, .inl ⟨h, hh, hc, he⟩⟩
      · exact ⟨by rw [← he]; exact hn, .inr ⟨h, hh, hc, he⟩⟩
  · rintro ⟨p, c, s, hq, ht, hne, hw⟩
    have hk : p.length < l.queue.length := by rw [hq]; simp
    have hg : l.queue[p.length] = c := by simp [hq]
    have htk : l.queue.take p.length = p := by rw [hq]; simp
    refine ⟨p.length, hk, hk, by rw [hg]; exact ht, ?_⟩
    rw [hg, blk_mem, htk]
    rcases hw with ⟨h, hh, hc, he⟩ | ⟨h, hh, hc, he⟩
    · exact .inl ⟨h, hh, hc, by rw [he]; exact hne, he⟩
    · exact .inr ⟨h, hh, hc, by rw [he]; exact hne, he⟩

/-! ### Reach, Ring, Victim -/
/-- all who hold or wait, rising. -/
def nodes (l : Lo) : List Int := insL [] (l.held.map Ho.txn ++ l.queue.map Cl.txn)
theorem nodes_rise (l : Lo) : (nodes l).Pairwise (· < ·) := insL_rise List.Pairwise.nil
theorem wf_node {l : Lo} {a b : Int} (h : Wf l a b) : b ∈ nodes l := by
  obtain ⟨p, c, s, hq, ht, hne, hw⟩ := h
  unfold nodes
  rw [mem_insL]
  right
  rcases hw with ⟨h, hh, hc, he⟩ | ⟨h, hh, hc, he⟩
  · exact List.mem_append_left _ (List.mem_map.2 ⟨h, hh, he⟩)
  · exact List.mem_append_right _ (List.mem_map.2 ⟨h, by rw [hq]; exact List.mem_append_left _ hh, he⟩)
theorem rch_node {l : Lo} {a b : Int} (h : Rch l a b) : b ∈ nodes l := by
  cases h with
  | one h => exact wf_node h
  | more _ h => exact wf_node h
open Classical in
noncomputable def reach (l : Lo) (a : Int) : List Int := (nodes l).filter fun b => decide (Rch l a b)
open Classical in
noncomputable def ring (l : Lo) (a : Int) : List Int := (nodes l).filter fun b => decide (Rch l a b ∧ Rch l b a)
theorem reach_rise (l : Lo) (a : Int) : (reach l a).Pairwise (· < ·) := List.Pairwise.sublist List.filter_sublist (nodes_rise l)
theorem ring_rise (l : Lo) (a : Int) : (ring l a).Pairwise (· < ·) := List.Pairwise.sublist List.filter_sublist (nodes_rise l)
theorem mem_reach {l : Lo} {a b : Int} : b ∈ reach l a ↔ Rch l a b := by
  unfold reach
  rw [List.mem_filter]
  simp only [decide_eq_true_eq]
  exact ⟨fun h => h.2, fun h => ⟨rch_node h, h⟩⟩
theorem mem_ring {l : Lo} {a b : Int} : b ∈ ring l a ↔ Rch l a b ∧ Rch l b a := by
  unfold ring
  rw [List.mem_filter]
  simp only [decide_eq_true_eq]
  exact ⟨fun h => h.2, fun h => ⟨rch_node h.1, h⟩⟩
/-- a row that rises, of all whom a reaches, is reach. -/
theorem reach_is {l : Lo} {a : Int} {r : List Int} (hr : r.Pairwise (· < ·)) (hm : ∀ x, x ∈ r ↔ Rch l a x) : r = reach l a := rise_eq hr (reach_rise l a) fun x => (hm x).trans mem_reach.symm
theorem ring_is {l : Lo} {a : Int} {r : List Int} (hr : r.Pairwise (· < ·)) (hm : ∀ x, x ∈ r ↔ Rch l a x ∧ Rch l x a) : r = ring l a := rise_eq hr (ring_rise l a) fun x => (hm x).trans mem_ring.symm
/-- a row that holds what a waits for, is reached from a, and is closed, is all that a reaches. -/
theorem reach_closed {l : Lo} {a : Int} {r : List Int} (h0 : ∀ x, Wf l a x → x ∈ r) (h1 : ∀ x ∈ r, Rch l a x) (h2 : ∀ x ∈ r, ∀ y, Wf l x y → y ∈ r) (x : Int) : x ∈ r ↔ Rch l a x := by
  refine ⟨h1 x, fun h => ?_⟩
  induction h with
  | one h => exact h0 _ h
  | more _ h ih => exact h2 _ ih _ h
/-- as the document builds it: of those whom a reaches, those who reach a; none if a does not reach itself. -/
theorem ring_of (l : Lo) (a : Int) : ring l a = if a ∈ reach l a then (reach l a).filter (fun b => decide (a ∈ reach l b)) else [] := by
  symm
  apply ring_is
  · split
    · exact List.Pairwise.sublist List.filter_sublist (reach_rise l a)
    · exact List.Pairwise.nil
  · intro x
    split
    · rw [List.mem_filter]
      simp only [decide_eq_true_eq, mem_reach]
    · rename_i h
      constructor
      · intro hx; cases hx
      · rintro ⟨h1, h2⟩
        exact absurd (mem_reach.2 (h1.trans h2)) h

/-! ### What follows -/
theorem ring_same {l : Lo} {a b : Int} (h : b ∈ ring l a) : ring l b = ring l a := by
  obtain ⟨h1, h2⟩ := mem_ring.1 h
  refine rise_eq (ring_rise l b) (ring_rise l a) fun x => ?_
  rw [mem_ring, mem_ring]
  exact ⟨fun hx => ⟨h1.trans hx.1, hx.2.trans h2⟩, fun hx => ⟨h2.trans hx.1, hx.2.trans h1⟩⟩
theorem ring_next {l : Lo} {a b : Int} (h : b ∈ ring l a) : ∃ c ∈ aft l b, c ∈ ring l a := by
  obtain ⟨h1, h2⟩ := mem_ring.1 h
  obtain ⟨c, hc, hr⟩ := h2.step
  refine ⟨c, mem_aft.2 hc, mem_ring.2 ⟨.more h1 hc, ?_⟩⟩
  rcases hr with e | hr
  · subst e; exact h1.trans h2
  · exact hr
theorem ring_nil {l : Lo} {a : Int} : ring l a = [] ↔ ¬ Rch l a a := by
  rw [List.eq_nil_iff_forall_not_mem]
  constructor
  · exact fun h hr => h a (mem_ring.2 ⟨hr, hr⟩)
  · exact fun h x hx => h ((mem_ring.1 hx).1.trans (mem_ring.1 hx).2)
theorem none_reach {l : Lo} {a : Int} (h : aft l a = []) : reach l a = [] := by
  rw [List.eq_nil_iff_forall_not_mem]
  intro x hx
  obtain ⟨b, hb, _⟩ := (mem_reach.1 hx).step
  have := mem_aft.2 hb
  rw [h] at this
  cases this
theorem none_ring {l : Lo} {a : Int} (h : aft l a = []) : ring l a = [] := by
  rw [ring_nil]
  intro hr
  have := mem_reach.2 hr
  rw [none_reach h] at this
  cases this
/-- who does not wait waits for nobody. -/
theorem idle_aft {l : Lo} {a : Int} (h : waits l a = false) : aft l a = [] := by
  rw [List.eq_nil_iff_forall_not_mem]
  intro x hx
  obtain ⟨p, c, s, hq, ht, _⟩ := mem_aft.1 hx
  exact waits_no h c (by rw [hq]; simp) ht
/-- what settles and what is freed makes nobody wait for somebody new. -/
theorem wf_give {l : Lo} {i : Nat} (hi : i < l.queue.length) (hb : blk l l.queue[i].txn l.queue[i].w i = []) {a b : Int} (h : Wf (give l i l.queue[i]) a b) : Wf l a b := by
  obtain ⟨p, c, s, hq, ht, hne, hw⟩ := h
  have hq : l.queue.eraseIdx i = p ++ c :: s := hq
  have e0 : l.queue = l.queue.take i ++ l.queue[i] :: l.queue.drop (i + 1) := by rw [← List.drop_eq_getElem_cons hi, List.take_append_drop]
  rw [List.eraseIdx_eq_take_drop_succ] at hq
  have hbn := blk_nil.1 hb
  generalize l.queue[i] = g at *
  generalize l.queue.take i = q1 at *
  generalize l.queue.drop (i + 1) = q2 at *
  have hw : (∃ h ∈ l.held ++ [⟨g.txn, g.w⟩], Sm.clash h.w c.w = true ∧ h.txn = b) ∨ ∃ d ∈ p, Sm.clash d.w c.w = true ∧ d.txn = b := hw
  rcases List.append_eq_append_iff.1 hq with ⟨t, h1, h2⟩ | ⟨t, h1, h2⟩
  · -- p = q1 ++ t: c stands behind g
    refine ⟨q1 ++ g :: t, c, s, by rw [e0, h2]; simp, ht, hne, ?_⟩
    rcases hw with ⟨h, hh, hc, he⟩ | ⟨d, hd, hc, he⟩
    · rcases List.mem_append.1 hh with hh | hh
      · exact .inl ⟨h, hh, hc, he⟩
      · simp at hh; subst hh
        exact .inr ⟨g, by simp, hc, he⟩
    · rw [h1] at hd
      exact .inr ⟨d, by rcases List.mem_append.1 hd with hd | hd <;> simp [hd], hc, he⟩
  · -- q1 = p ++ t
    cases t with
    | nil =>
      simp at h1 h2
      refine ⟨q1 ++ [g], c, s, by rw [e0, ← h2]; simp, ht, hne, ?_⟩
      rcases hw with ⟨h, hh, hc, he⟩ | ⟨d, hd, hc, he⟩
      · rcases List.mem_append.1 hh with hh | hh
        · exact .inl ⟨h, hh, hc, he⟩
        · simp at hh; subst hh
          exact .inr ⟨g, by simp, hc, he⟩
      · exact .inr ⟨d, by rw [h1]; simp [hd], hc, he⟩
    | cons x t =>
      simp at h2
      obtain ⟨e1, e2⟩ := h2
      subst e1
      refine ⟨p, c, t ++ g :: q2, by rw [e0, h1]; simp, ht, hne, ?_⟩
      rcases hw with ⟨h, hh, hc, he⟩ | ⟨d, hd, hc, he⟩
      · rcases List.mem_append.1 hh with hh | hh
        · exact .inl ⟨h, hh, hc, he⟩
        · simp at hh; subst hh
          have := hbn.2 c (by rw [h1]; simp) (by rw [Sm.clash_comm]; exact hc)
          exact absurd (he.symm.trans (this.symm.trans ht)) hne
      · exact .inr ⟨d, hd, hc, he⟩
theorem wf_keep {l : Lo} {txn a b : Int} (h : Wf (keep l txn) a b) : Wf l a b := by
  obtain ⟨p, c, s, hq, ht, hne, hw⟩ := h
  have hq : l.queue.filter (fun c => decide (c.txn ≠ txn)) = p ++ c :: s := hq
  obtain ⟨l1, l2, e1, e2, e3⟩ := List.filter_eq_append_iff.1 hq
  obtain ⟨l3, l4, e4, e5, e6, e7⟩ := List.filter_eq_cons_iff.1 e3
  refine ⟨l1 ++ l3, c, l4, by rw [e1, e4]; simp, ht, hne, ?_⟩
  rcases hw with ⟨h, hh, hc, he⟩ | ⟨d, hd, hc, he⟩
  · exact .inl ⟨h, (List.mem_filter.1 hh).1, hc, he⟩
  · exact .inr ⟨d, List.mem_append_left _ (by rw [← e2] at hd; exact (List.mem_filter.1 hd).1), hc, he⟩
theorem wf_free {l : Lo} {txn a b : Int} (h : Wf (free l txn).1 a b) : Wf l a b :=
  settle_ind (P := fun k _ => ∀ a b, Wf k a b → Wf l a b) (fun k out i hi hb hp a b hw => hp a b (wf_give hi hb hw)) (keep l txn).queue.length (keep l txn) [] (fun a b hw => wf_keep hw) a b h
theorem rch_free {l : Lo} {txn a b : Int} (h : Rch (free l txn).1 a b) : Rch l a b := h.mono fun _ _ => wf_free
/-- who was freed is in no ring. -/
theorem ring_freed (l : Lo) (txn : Int) : ring (free l txn).1 txn = [] := none_ring (idle_aft (free_goes l txn).2)
theorem ring_stays {l : Lo} {txn other : Int} (h : ring l other = []) : ring (free l txn).1 other = [] := ring_nil.2 fun hr => ring_nil.1 h (rch_free hr)
theorem nodup_len : ∀ {a b : List Int}, a.Nodup → (∀ x ∈ a, x ∈ b) → a.length ≤ b.length
  | [], b, _, _ => Nat.zero_le _
  | x :: a, b, h, hs => by
    have h1 := List.nodup_cons.1 h
    have h2 := nodup_len (b := b.erase x) h1.2 (fun y hy => (List.mem_erase_of_ne (fun (e : y = x) => h1.1 (by rw [← e]; exact hy))).2 (hs y (by simp [hy])))
    have h3 := List.length_erase_of_mem (hs x (by simp))
    have h4 := List.length_pos_of_mem (hs x (by simp))
    simp only [List.length_cons]
    omega
/-- where one of a ring is freed, the ring has fewer. -/
theorem ring_less {l : Lo} {a v : Int} (hv : v ∈ ring l a) : (ring (free l v).1 a).length < (ring l a).length := by
  have hs : ∀ x ∈ ring (free l v).1 a, x ∈ (ring l a).erase v := by
    intro x hx
    obtain ⟨h1, h2⟩ := mem_ring.1 hx
    have hxl : x ∈ ring l a := mem_ring.2 ⟨rch_free h1, rch_free h2⟩
    have hne : x ≠ v := by
      rintro rfl
      exact ring_nil.1 (ring_freed l x) (h2.trans h1)
    exact (List.mem_erase_of_ne hne).2 hxl
  have hn : (ring (free l v).1 a).Nodup := (ring_rise _ _).imp fun h => Int.ne_of_lt h
  have hle := nodup_len hn hs
  have := List.length_erase_of_mem hv
  have := List.length_pos_of_mem hv
  omega
end Go.Proofs.Ytncnfblnelkmbaa.Lm

/- What slices.Compact makes of a sorted row: plain mathematics. -/
namespace Go.Proofs.Ytncnfblnelkmbaa
set_option maxRecDepth 100000
set_option linter.unusedVariables false
set_option linter.unusedSimpArgs false

theorem compact_go (zs : List Int) (hs : zs.Pairwise (· ≤ ·)) : ∀ m, m ≤ zs.length → (Lib.compactUpTo zs.toArray m).Pairwise (· < ·) ∧ (∀ x, x ∈ Lib.compactUpTo zs.toArray m ↔ x ∈ zs.take m) ∧ ∀ x ∈ Lib.compactUpTo zs.toArray m, ∀ j (h : j < zs.length), m ≤ j + 1 → x ≤ zs[j]
  | 0, _ => by simp [Lib.compactUpTo]
  | m + 1, hm => by
    obtain ⟨h1, h2, h3⟩ := compact_go zs hs m (by omega)
    have hml : m < zs.length := by omega
    have hg : ∀ j (h : j < zs.length), zs.toArray[j]! = zs[j] := fun j h => by rw [getElem!_pos zs.toArray j (by simpa using h)]; simp
    have hle : ∀ i j (hi : i < zs.length) (hj : j < zs.length), i ≤ j → zs[i] ≤ zs[j] := fun i j hi hj hij => by
      rcases Nat.lt_or_eq_of_le hij with h | h
      · exact List.pairwise_iff_getElem.1 hs i j hi hj h
      · subst h; exact Int.le_refl _
    rw [Lib.compactUpTo_succ, List.take_succ_eq_append_getElem hml]
    cases hk : Lib.keeps zs.toArray m with
    | true =>
      simp only [if_true]
      rw [hg m hml]
      refine ⟨List.pairwise_append.2 ⟨h1, by simp, fun x hx y hy => ?_⟩, fun x => by rw [List.mem_append, List.mem_append, h2], fun x hx j hj hmj => ?_⟩
      · rw [List.mem_singleton] at hy
        subst hy
        unfold Lib.keeps at hk
        rw [decide_eq_true_eq] at hk
        rcases hk with h0 | h0
        · subst h0; simp [Lib.compactUpTo] at hx
        · by_cases hm0 : m = 0
          · subst hm0; simp [Lib.compactUpTo] at hx
          · rw [hg m hml, hg (m - 1) (by omega)] at h0
            have a1 := h3 x hx (m - 1) (by omega) (by omega)
            have a2 := hle (m - 1) m (by omega) hml (by omega)
            omega
      · rw [List.mem_append] at hx
        rcases hx with hx | hx
        · exact h3 x hx j hj (by omega)
        · rw [List.mem_singleton] at hx; subst hx; exact hle m j hml hj (by omega)
    | false =>
      simp only [Bool.false_eq_true, if_false, List.append_nil]
      refine ⟨h1, fun x => ?_, fun x hx j hj hmj => h3 x hx j hj (by omega)⟩
      rw [h2, List.mem_append, List.mem_singleton]
      refine ⟨.inl, fun hx => ?_⟩
      rcases hx with hx | hx
      · exact hx
      · unfold Lib.keeps at hk
        rw [decide_eq_false_iff_not] at hk
        have hm0 : m ≠ 0 := fun e => hk (.inl e)
        have hq : zs.toArray[m]! = zs.toArray[m - 1]! := by
          by_cases e : zs.toArray[m]! = zs.toArray[m - 1]!
          · exact e
          · exact absurd (.inr e) hk
        rw [hg m hml, hg (m - 1) (by omega)] at hq
        rw [hx, hq]
        exact List.mem_take_iff_getElem.2 ⟨m - 1, by omega, rfl⟩
theorem compact_sorted (zs : List Int) (hs : zs.Pairwise (· ≤ ·)) : (Lib.compact zs).Pairwise (· < ·) ∧ ∀ x, x ∈ Lib.compact zs ↔ x ∈ zs := by
  obtain ⟨h1, h2, _⟩ := compact_go zs hs zs.length (Nat.le_refl _)
  rw [List.take_length] at h2
  exact ⟨h1, h2⟩
end Go.Proofs.Ytncnfblnelkmbaa

/- The walk of package ring: plain mathematics. -/
namespace Go.Proofs.Ytncnfblnelkmbaa.Lm
set_option maxRecDepth 100000
set_option linter.unusedVariables false
set_option linter.unusedSimpArgs false

/-- b is reached from a by steps of nx. -/
inductive Rc (nx : Int → List Int) (a : Int) : Int → Prop
  | one {b : Int} : b ∈ nx a → Rc nx a b
  | more {b c : Int} : Rc nx a b → c ∈ nx b → Rc nx a c
theorem insL_at {o l : List Int} {k : Nat} (hk : k < l.length) : insL o (l.take (k + 1)) = ins l[k] (insL o (l.take k)) := by
  have h : ∀ (l o : List Int) (b : Int), insL o (l ++ [b]) = ins b (insL o l) := by
    intro l
    induction l with
    | nil => intro o b; rfl
    | cons a l ih => intro o b; exact ih _ _
  rw [List.take_succ_eq_append_getElem hk, h]
/-- the keys, behind the next ones of some more. -/
def nxt (nx : Int → List Int) (o : List Int) : List Int → List Int
  | [] => o
  | a :: l => nxt nx (insL o (nx a)) l
theorem nxt_at {nx : Int → List Int} {o l : List Int} {k : Nat} (hk : k < l.length) : nxt nx o (l.take (k + 1)) = insL (nxt nx o (l.take k)) (nx l[k]) := by
  have h : ∀ (l o : List Int) (b : Int), nxt nx o (l ++ [b]) = insL (nxt nx o l) (nx b) := by
    intro l
    induction l with
    | nil => intro o b; rfl
    | cons a l ih => intro o b; exact ih _ _
  rw [List.take_succ_eq_append_getElem hk, h]
theorem mem_nxt {nx : Int → List Int} {x : Int} : ∀ {l o : List Int}, x ∈ nxt nx o l ↔ x ∈ o ∨ ∃ a ∈ l, x ∈ nx a
  | [], o => by simp [nxt]
  | a :: l, o => by
    unfold nxt
    rw [mem_nxt, mem_insL]
    constructor
    · rintro ((h | h) | ⟨b, hb, h⟩)
      · exact .inl h
      · exact .inr ⟨a, by simp, h⟩
      · exact .inr ⟨b, by simp [hb], h⟩
    · rintro (h | ⟨b, hb, h⟩)
      · exact .inl (.inl h)
      · rcases List.mem_cons.1 hb with e | hb
        · subst e; exact .inl (.inr h)
        · exact .inr ⟨b, hb, h⟩
theorem nxt_rise {nx : Int → List Int} : ∀ {l o : List Int}, o.Pairwise (· < ·) → (nxt nx o l).Pairwise (· < ·)
  | [], _, h => h
  | a :: l, o, h => by unfold nxt; exact nxt_rise (insL_rise h)
/-- the keys, without some. -/
def sans (o d : List Int) : List Int := o.filter fun x => decide (x ∉ d)
theorem mem_sans {o d : List Int} {x : Int} : x ∈ sans o d ↔ x ∈ o ∧ x ∉ d := by unfold sans; rw [List.mem_filter]; simp
theorem sans_rise {o d : List Int} (h : o.Pairwise (· < ·)) : (sans o d).Pairwise (· < ·) := List.Pairwise.sublist List.filter_sublist h
theorem sans_nil (o : List Int) : sans o [] = o := by unfold sans; simp
/-- how the walk stands: R is to be gone on from, D is done, K the keys. -/
structure Wk (nx : Int → List Int) (U : List Int) (a : Int) (R D K : List Int) : Prop where
  nodup : D.Nodup
  inU : ∀ x ∈ D, x ∈ U
  sub : ∀ x ∈ R, x = a ∨ x ∈ D
  rc : ∀ x ∈ D, Rc nx a x
  cl : ∀ x, (x = a ∨ x ∈ D) → x ∉ R → ∀ y ∈ nx x, y ∈ D
  ks : ∀ x ∈ K, x ∈ D
  kr : K.Pairwise (· < ·)
  rn : R.length ≤ U.length + 1
theorem Wk.start (nx : Int → List Int) (U : List Int) (a : Int) : Wk nx U a [a] [] [] :=
  ⟨List.nodup_nil, by simp, by simp, by simp, fun x hx hn => (by
    rcases hx with e | h
    · exact absurd (by simp [e]) hn
    · cases h), by simp, List.Pairwise.nil, by simp⟩
section
variable {nx : Int → List Int} {U R D K : List Int} {a : Int}
theorem Wk.step (h : Wk nx U a R D K) (hU : ∀ x, (x = a ∨ x ∈ U) → ∀ y ∈ nx x, y ∈ U) : Wk nx U a (sans (nxt nx K R) D) (D ++ sans (nxt nx K R) D) (sans (nxt nx K R) D) := by
  have hm : ∀ x, x ∈ sans (nxt nx K R) D ↔ (∃ r ∈ R, x ∈ nx r) ∧ x ∉ D := fun x => by
    rw [mem_sans, mem_nxt]
    constructor
    · rintro ⟨h1 | h1, h2⟩
      · exact absurd (h.ks _ h1) h2
      · exact ⟨h1, h2⟩
    · rintro ⟨h1, h2⟩; exact ⟨.inr h1, h2⟩
  have hr : (sans (nxt nx K R) D).Pairwise (· < ·) := sans_rise (nxt_rise h.kr)
  generalize sans (nxt nx K R) D = S at hm hr ⊢
  have hin : ∀ x ∈ S, x ∈ U := fun x hx => by
    obtain ⟨⟨r, hr, hn⟩, _⟩ := (hm x).1 hx
    refine hU r ?_ x hn
    rcases h.sub r hr with e | hd
    · exact .inl e
    · exact .inr (h.inU r hd)
  have hSl := nodup_len (hr.imp fun h => Int.ne_of_lt h) hin
  refine ⟨?_, ?_, ?_, ?_, ?_, ?_, hr, by omega⟩
  · rw [List.nodup_append]
    refine ⟨h.nodup, hr.imp fun h => Int.ne_of_lt h, fun x hx y hy e => ?_⟩
    subst e
    exact ((hm x).1 hy).2 hx
  · intro x hx
    rcases List.mem_append.1 hx with hx | hx
    · exact h.inU x hx
    · exact hin x hx
  · intro x hx; exact .inr (List.mem_append_right _ hx)
  · intro x hx
    rcases List.mem_append.1 hx with hx | hx
    · exact h.rc x hx
    · obtain ⟨⟨r, hr, hn⟩, _⟩ := (hm x).1 hx
      rcases h.sub r hr with e | hd
      · subst e; exact .one hn
      · exact .more (h.rc r hd) hn
  · intro x hx hn y hy
    have hx : x = a ∨ x ∈ D := by
      rcases hx with e | hx
      · exact .inl e
      · rcases List.mem_append.1 hx with hx | hx
        · exact .inr hx
        · exact absurd hx hn
    by_cases hd : y ∈ D
    · exact List.mem_append_left _ hd
    · by_cases hxr : x ∈ R
      · exact List.mem_append_right _ ((hm y).2 ⟨⟨x, hxr, hy⟩, hd⟩)
      · exact absurd (h.cl x hx hxr y hy) hd
  · intro x hx; exact List.mem_append_right _ hx
theorem Wk.done (h : Wk nx U a [] D K) (x : Int) : x ∈ D ↔ Rc nx a x := by
  refine ⟨h.rc x, fun hr => ?_⟩
  induction hr with
  | one hn => exact h.cl a (.inl rfl) (by simp) _ hn
  | more _ hn ih => exact h.cl _ (.inr ih) (by simp) _ hn
theorem Wk.len (h : Wk nx U a R D K) : D.length ≤ U.length := nodup_len h.nodup h.inU
theorem Wk.lenK (h : Wk nx U a R D K) : K.length ≤ U.length := nodup_len (h.kr.imp fun h => Int.ne_of_lt h) fun x hx => h.inU x (h.ks x hx)
end

/-! ### the two walks of the package -/
theorem rc_reach {l : Lo} {a x : Int} : Rc (aft l) a x ↔ Rch l a x := by
  constructor
  · intro h
    induction h with
    | one h => exact .one (mem_aft.1 h)
    | more _ h ih => exact .more ih (mem_aft.1 h)
  · intro h
    induction h with
    | one h => exact .one (mem_aft.2 h)
    | more _ h ih => exact .more ih (mem_aft.2 h)
/-- those of whom a reaches, that wait for x. -/
noncomputable def backs (l : Lo) (a x : Int) : List Int := (reach l a).filter fun y => decide (x ∈ aft l y)
theorem mem_backs {l : Lo} {a x y : Int} : y ∈ backs l a x ↔ Rch l a y ∧ Wf l y x := by
  unfold backs
  rw [List.mem_filter, mem_reach]
  simp [mem_aft]
theorem rc_ring {l : Lo} {a x : Int} : Rc (backs l a) a x ↔ Rch l a x ∧ Rch l x a := by
  constructor
  · intro h
    induction h with
    | one h =>
      obtain ⟨h1, h2⟩ := mem_backs.1 h
      exact ⟨h1, .one h2⟩
    | more _ h ih =>
      obtain ⟨h1, h2⟩ := mem_backs.1 h
      exact ⟨h1, (Rch.one h2).trans ih.2⟩
  · rintro ⟨h1, h2⟩
    have key : ∀ x c, Rch l x c → Rch l a x → (∀ y, Rch l a y → Wf l y c → Rc (backs l a) a y) → Rc (backs l a) a x := by
      intro x c h
      induction h with
      | one h => intro h1 hh; exact hh _ h1 h
      | more h0 h ih =>
        intro h1 hh
        refine ih h1 fun y hy hw => ?_
        exact .more (hh _ (h1.trans h0) h) (mem_backs.2 ⟨hy, hw⟩)
    exact key x a h2 h1 fun y hy hw => .one (mem_backs.2 ⟨hy, hw⟩)
theorem aft_node {l : Lo} {a x : Int} (h : x ∈ aft l a) : x ∈ nodes l := wf_node (mem_aft.1 h)
theorem aft_len (l : Lo) (a : Int) : (aft l a).length ≤ (nodes l).length := nodup_len ((aft_rise l a).imp fun h => Int.ne_of_lt h) fun _ h => aft_node h
theorem reach_node {l : Lo} {a x : Int} (h : x ∈ reach l a) : x ∈ nodes l := rch_node (mem_reach.1 h)
theorem reach_len (l : Lo) (a : Int) : (reach l a).length ≤ (nodes l).length := nodup_len ((reach_rise l a).imp fun h => Int.ne_of_lt h) fun _ h => reach_node h
theorem ring_len (l : Lo) (a : Int) : (ring l a).length ≤ (nodes l).length := nodup_len ((ring_rise l a).imp fun h => Int.ne_of_lt h) fun _ h => rch_node (mem_ring.1 h).1
theorem backs_node {l : Lo} {a x y : Int} (h : y ∈ backs l a x) : y ∈ nodes l := rch_node (mem_backs.1 h).1
theorem backs_len (l : Lo) (a x : Int) : (backs l a x).length ≤ (nodes l).length := by
  unfold backs
  exact Nat.le_trans (List.length_filter_le _ _) (reach_len l a)
theorem insL_len : ∀ {l o : List Int}, (insL o l).length ≤ o.length + l.length
  | [], o => by simp [insL]
  | b :: l, o => by
    unfold insL
    have h1 := insL_len (l := l) (o := ins b o)
    have h2 := ins_len (n := b) o
    simp only [List.length_cons]; omega
theorem nodes_len (l : Lo) : (nodes l).length ≤ l.held.length + l.queue.length := by
  unfold nodes
  have := insL_len (l := l.held.map Ho.txn ++ l.queue.map Cl.txn) (o := [])
  simpa using this
theorem node_is {l : Lo} {x : Int} (h : x ∈ nodes l) : (∃ a ∈ l.held, a.txn = x) ∨ ∃ c ∈ l.queue, c.txn = x := by
  unfold nodes at h
  rw [mem_insL] at h
  simpa using h

/-! ### After, as the package gathers it -/
def rawA (l : Lo) (a : Int) : Nat → List Int
  | 0 => []
  | n + 1 => if h : n < l.queue.length then (if l.queue[n].txn = a then rawA l a n ++ blk l a l.queue[n].w n else rawA l a n) else rawA l a n
theorem rawA_yes {l : Lo} {a : Int} {k : Nat} (hk : k < l.queue.length) (h : l.queue[k].txn = a) : rawA l a (k + 1) = rawA l a k ++ blk l a l.queue[k].w k := by
  show (if h : k < l.queue.length then (if l.queue[k].txn = a then rawA l a k ++ blk l a l.queue[k].w k else rawA l a k) else rawA l a k) = _
  rw [dif_pos hk, if_pos h]
theorem rawA_no {l : Lo} {a : Int} {k : Nat} (hk : k < l.queue.length) (h : l.queue[k].txn ≠ a) : rawA l a (k + 1) = rawA l a k := by
  show (if h : k < l.queue.length then (if l.queue[k].txn = a then rawA l a k ++ blk l a l.queue[k].w k else rawA l a k) else rawA l a k) = _
  rw [dif_pos hk, if_neg h]
theorem aftN_yes {l : Lo} {a : Int} {k : Nat} (hk : k < l.queue.length) (h : l.queue[k].txn = a) : aftN l a (k + 1) = insL (aftN l a k) (blk l a l.queue[k].w k) := by
  show (if h : k < l.queue.length then (if l.queue[k].txn = a then insL (aftN l a k) (blk l a l.queue[k].w k) else aftN l a k) else aftN l a k) = _
  rw [dif_pos hk, if_pos h]
theorem aftN_no {l : Lo} {a : Int} {k : Nat} (hk : k < l.queue.length) (h : l.queue[k].txn ≠ a) : aftN l a (k + 1) = aftN l a k := by
  show (if h : k < l.queue.length then (if l.queue[k].txn = a then insL (aftN l a k) (blk l a l.queue[k].w k) else aftN l a k) else aftN l a k) = _
  rw [dif_pos hk, if_neg h]
theorem aftN_len {l : Lo} {a : Int} : ∀ {n : Nat}, n ≤ l.queue.length → (aftN l a n).length ≤ n * (l.held.length + l.queue.length)
  | 0, _ => by simp [aftN]
  | n + 1, hn => by
    rw [Nat.succ_mul]
    have ih := aftN_len (l := l) (a := a) (n := n) (by omega)
    by_cases ht : l.queue[n].txn = a
    · rw [aftN_yes hn ht]
      have := blk_len l a l.queue[n].w n
      have := insL_len (l := blk l a l.queue[n].w n) (o := aftN l a n)
      omega
    · rw [aftN_no hn ht]; omega
theorem mem_rawA {l : Lo} {a x : Int} : ∀ {n : Nat}, n ≤ l.queue.length → (x ∈ rawA l a n ↔ x ∈ aftN l a n)
  | 0, _ => by simp [rawA, aftN]
  | n + 1, hn => by
    by_cases ht : l.queue[n].txn = a
    · rw [rawA_yes hn ht, aftN_yes hn ht, List.mem_append, mem_insL, mem_rawA (by omega)]
    · rw [rawA_no hn ht, aftN_no hn ht, mem_rawA (by omega)]
theorem rawA_len {l : Lo} {a : Int} : ∀ {n : Nat}, n ≤ l.queue.length → (rawA l a n).length ≤ n * (l.held.length + l.queue.length)
  | 0, _ => by simp [rawA]
  | n + 1, hn => by
    rw [Nat.succ_mul]
    have ih := rawA_len (l := l) (a := a) (n := n) (by omega)
    by_cases ht : l.queue[n].txn = a
    · rw [rawA_yes hn ht, List.length_append]
      have := blk_len l a l.queue[n].w n
      omega
    · rw [rawA_no hn ht]; omega
theorem sorted_rise {l r : List Int} (hr : r.Pairwise (· < ·)) (hm : ∀ x, x ∈ l ↔ x ∈ r) : Lib.compact (l.mergeSort fun x y => decide (x ≤ y)) = r := by
  have hs : (l.mergeSort fun x y => decide (x ≤ y)).Pairwise (· ≤ ·) := by
    have := List.pairwise_mergeSort (le := fun x y : Int => decide (x ≤ y)) (by intro a b c; simp; omega) (by intro a b; simp; omega) l
    exact this.imp fun h => by simpa using h
  obtain ⟨h1, h2⟩ := compact_sorted _ hs
  exact rise_eq h1 hr fun x => by rw [h2, List.mem_mergeSort, hm]
theorem raw_aft (l : Lo) (a : Int) : Lib.compact ((rawA l a l.queue.length).mergeSort fun x y => decide (x ≤ y)) = aft l a := sorted_rise (aft_rise l a) fun x => mem_rawA (Nat.le_refl _)
end Go.Proofs.Ytncnfblnelkmbaa.Lm

/- Contracts: slices.Sort, slices.Compact at integers, for lists of one's own. -/
namespace Go.Proofs.Ytncnfblnelkmbaa
set_option maxRecDepth 100000
open Go.RowKit
set_option linter.unusedVariables false
set_option linter.unusedSimpArgs false

theorem num_holds {w : World} {base g n c : Nat} {l : List Int} (h : OwnK numK w base (some ⟨g, 0, none⟩) n c l) : Go.Sort.Holds (Value.int .i64) w g 0 l.toArray ∧ g < w.heap.size ∧ base ≤ g ∧ n ≤ c ∧ c ≤ maxLen ∧ l.length = n := by
  unfold OwnK at h
  rw [numK_rows] at h
  obtain ⟨g', cap, e, h1, h2, h3, h4, h5, h6⟩ := Lib.holds_of_ownsRow h (by intro e; cases e)
  injection e with e1 e2 e3
  injection e1 with e1
  injection e1 with e1
  subst e1
  exact ⟨h6, h2, h1, by omega, by omega, h5⟩
theorem num_put {w : World} {base g n c q k : Nat} {l ys : List Int} (h : OwnK numK w base (some ⟨g, 0, none⟩) n c l) (hy : ys.length = n) (hk : k ≤ n) :
    OwnK numK (Go.Sort.putRow (Value.int .i64) (Go.Sort.ahead w q) g 0 ys.toArray) base (some ⟨g, 0, none⟩) k c (ys.take k) := by
  unfold OwnK at *
  rw [numK_rows] at *
  exact Lib.ownsRow_putRow h hy hk
theorem sort_any (A : Option Addr) (n c base : Nat) (l : List Int) (w : World) (h : OwnK numK w base A n c l) (hb : base ≤ w.heap.size) (hsm : n < 4611686018427387904) :
    Calls Try.prog 24 #[.slice A n c] w fun e w' => e = .returned (.tuple #[]) ∧ OwnK numK w' base A n c (l.mergeSort fun x y => decide (x ≤ y)) ∧ Below base w w' := by
  have hl := h.len
  rcases h.parts with ⟨rfl, rfl, rfl, rfl⟩ | ⟨g, cur, rfl, _⟩
  · refine (Try.slices_Sort_int_none none 0 w).mono fun e w' hx => ?_
    obtain ⟨he, rfl⟩ := hx
    exact ⟨he, by simpa using h, Below.refl _ _⟩
  · obtain ⟨h1, h2, h3, h4, h5, h6⟩ := num_holds h
    subst h6
    refine (Try.slices_Sort_int g 0 c l w h1 h2 hsm).mono fun e w' hx => ?_
    obtain ⟨he, q, os, rfl⟩ := hx
    have h7 := num_put (q := q) (k := l.length) (ys := l.mergeSort fun x y => decide (x ≤ y)) h (by simp) (Nat.le_refl _)
    rw [List.take_of_length_le (by simp)] at h7
    have h8 : Below base w (Go.Sort.putRow (Value.int .i64) (Go.Sort.ahead w q) g 0 (l.mergeSort fun x y => decide (x ≤ y)).toArray) := Lib.below_putRow (Below.refl _ _) h3
    have h9 := Lib.below_grow (Go.Sort.putRow (Value.int .i64) (Go.Sort.ahead w q) g 0 (l.mergeSort fun x y => decide (x ≤ y)).toArray).heap.size _ (Nat.le_refl _) 0 os
    exact ⟨he, h7.keep h9 (Nat.le_refl _), h8.trans (h9.mono (Nat.le_trans hb h8.size))⟩
theorem compact_le (l : List Int) : (Lib.compact l).length ≤ l.length := by
  unfold Lib.compact Lib.compactUpTo
  rw [List.length_map]
  have := List.length_filter_le (Lib.keeps l.toArray) (List.range l.length)
  simpa using this
theorem compact_any (A : Option Addr) (n c base : Nat) (l : List Int) (w : World) (h : OwnK numK w base A n c l) (hb : base ≤ w.heap.size) :
    Calls Try.prog 25 #[.slice A n c] w fun e w' => e = .returned (.slice A (Lib.compact l).length c) ∧ OwnK numK w' base A (Lib.compact l).length c (Lib.compact l) ∧ Below base w w' := by
  have hl := h.len
  rcases h.parts with ⟨rfl, rfl, rfl, rfl⟩ | ⟨g, cur, rfl, _⟩
  · refine (Try.slices_Compact_int_empty none 0 w).mono fun e w' hx => ?_
    obtain ⟨he, rfl⟩ := hx
    exact ⟨he, h, Below.refl _ _⟩
  · obtain ⟨h1, h2, h3, h4, h5, h6⟩ := num_holds h
    subst h6
    refine (Try.slices_Compact_int g 0 c l w h1 (by unfold maxLen at h5; omega) h4).mono fun e w' hx => ?_
    obtain ⟨he, q, rfl⟩ := hx
    have hle := compact_le l
    have h7 := num_put (q := q) (k := (Lib.compact l).length) (ys := Lib.compact l ++ List.replicate (l.length - (Lib.compact l).length) 0) h (by simp; omega) hle
    rw [List.take_left' rfl] at h7
    exact ⟨he, h7, Lib.below_putRow (Below.refl _ _) h3⟩

end Go.Proofs.Ytncnfblnelkmbaa

/- Contract: ring.After. -/
namespace Go.Proofs.Ytncnfblnelkmbaa
set_option maxRecDepth 100000
open Go.RowKit Prm Lm Sm
set_option linter.unusedVariables false
set_option linter.unusedSimpArgs false

set_option maxHeartbeats 4000000 in
theorem lafter_any (A B : Option Addr) (n c m d : Nat) (l : Lo) (txn : Int) (w : World) (hA : Lst holdK w A n l.held) (hB : In_ claimK w B m d l.queue) (hi : I64H l.held) (hj : I64C l.queue) (hn : n + m ≤ 4000) :
    Calls Try.prog 11 #[locV A n c B m d, .int .i64 txn] w fun e w' => RetL numK w (aft l txn).length (aft l txn) e w' := by
  have HA := Lib.hid hA
  have HB := Lib.hid hB
  have HI := Lib.hid hi
  have HJ := Lib.hid hj
  have HAl := Lib.hid hA.len
  have HBl := Lib.hid hB.len
  have HR := Lib.hid (raw_aft l txn)
  have R0 := Lib.hid (Bx.new w [.slice A n c, .slice B m d] 25)
  have Q0 := Lib.hid ((Q.refl w).alloc (.cells #[.slice A n c, .slice B m d] 25))
  generalize aft l txn = out at HR ⊢
  clear hA hB hi hj
  go_enter Try.func11, Try.ntmps11
  go_upto_region 2 with (fail)
  generalize w.alloc (.cells #[.slice A n c, .slice B m d] 25) = W0 at R0 Q0 ⊢
  obtain ⟨⟨b0, b1⟩, f0, f1⟩ := R0.out.get2
  go_wp2
  go_loopw [5, 11] (fun o i wr => ∃ (k : Nat) (C : Option Addr) (q : Nat) (os : List Int), k ≤ m ∧ i = .int .i64 k ∧ o = .slice C os.length q ∧ OwnK numK wr (w.heap.size + 1) C os.length q os ∧ rawA l txn k = os ∧ Q w wr ∧ Bx wr w.heap.size [.slice A n c, .slice B m d]) (fun _ i _ => m - (Go.RowKit.intOf i).toNat)
  case atStart => exact ⟨0, none, 0, [], Nat.zero_le _, rfl, rfl, OwnK.nil_ _ _ _, rfl, Q0.out, R0.out⟩
  case round =>
    clear b0 b1 f0 f1 R0 Q0
    obtain ⟨k, C, q, os, hk, rfl, rfl, o1, he, q1, r1⟩ := hrel
    have HO := Lib.hid o1
    have HE := Lib.hid he
    have HQ := Lib.hid q1
    have HX := Lib.hid r1
    have hos : os.length ≤ 4000 * 4000 := by
      have h1 := rawA_len (l := l) (a := txn) (n := k) (by have := HBl.out; omega)
      rw [he] at h1
      have h2 : k * (l.held.length + l.queue.length) ≤ 4000 * 4000 := Nat.mul_le_mul (by omega) (by have := HAl.out; have := HBl.out; omega)
      omega
    clear o1 he q1 r1
    by_cases hlt : k < m
    · have hkl : k < l.queue.length := by have := HBl.out; omega
      have hkn : (k : Int) < (m : Int) := by omega
      obtain ⟨ad, hae, hab, y0, y1, y2, y3, y4⟩ := load_claim (HB.out.lst.q HQ.out) hlt hkl
      subst hae
      have HY := Lib.hid (fun h => rawA_yes (l := l) (a := txn) hkl h)
      have HN := Lib.hid (fun h => rawA_no (l := l) (a := txn) hkl h)
      have KB := Lib.hid (fun W q => blockers_any A (some ad) n c m d l txn l.queue[k].w (k : Int) W (HA.out.q q) (HB.out.q q) HI.out HJ.out (by omega) (by omega))
      have hbl := blk_len l txn l.queue[k].w k
      have HL := Lib.hid (show (blk l txn l.queue[k].w k).length ≤ 4000 by have := HAl.out; have := HBl.out; omega)
      clear hbl
      rw [Int.toNat_natCast] at KB
      generalize blk l txn l.queue[k].w k = bl at KB HY HL
      generalize l.queue[k] = h at y0 y1 y2 y3 y4 HY HN KB
      obtain ⟨ht, ⟨mo, lo, hi⟩, tl⟩ := h
      simp only at y0 y1 y2 y3 y4 HY HN KB
      unfold wnV at KB
      simp only at KB
      have X1 := Lib.hid (HX.out.q ((Q.refl wr).alloc (.cells #[.int .i64 ht, .int .i64 mo, .string lo, .string hi, .int .u64 (tl : Int)] 45)))
      have Q1 := Lib.hid (HQ.out.alloc (.cells #[.int .i64 ht, .int .i64 mo, .string lo, .string hi, .int .u64 (tl : Int)] 45))
      obtain ⟨⟨x0, x1⟩, x2, x3⟩ := X1.out.get2
      by_cases e : ht = txn
      · subst e
        have HG := Lib.hid (HY.out rfl)
        clear HY HN
        go_wp2_with fail
        refine (KB.out _ Q1.out).mono ?_
        rintro e w1 ⟨A1, c1, rfl, o1, q1⟩
        have O1 := Lib.hid o1
        have Q2 := Lib.hid (Q1.out.trans q1)
        have X2 := Lib.hid (X1.out.q q1)
        have O2 := Lib.hid ((HO.out.alloc (.cells #[.int .i64 ht, .int .i64 mo, .string lo, .string hi, .int .u64 (tl : Int)] 45)).q q1)
        clear o1 q1 X1 Q1 x0 x1 x2 x3
        go_wp2_with (at_builtin
                     refine wpl_appK numK rfl _ _ 29 rfl rfl (w.heap.size + 1) C os.length q os rfl O2.out A1 bl.length c1 bl rfl O1.out.lst (fun e => by
                       rcases O1.out.parts with ⟨_, h1, h2, _⟩ | ⟨g, cur, h1, _⟩
                       · exact ⟨h1, h2⟩
                       · rw [e] at h1; cases h1) (by have := HL.out; show (os.length + bl.length) * 8 ≤ _; omega) X2.out.lt ?_
                     intro A5 c5 w5 o5 b5
                     have O5 := Lib.hid o5
                     have Q5 := Lib.hid (show Q w w5 from Q2.out.below.trans (b5.mono (Nat.le_succ _)))
                     have X5 := Lib.hid (X2.out.below b5 (Nat.lt_succ_self _))
                     clear o5 b5)
        go_roundw
        case rel => exact ⟨k + 1, A5, c5, os ++ bl, by omega, by go_num, by rw [List.length_append], by rw [List.length_append]; exact O5.out, by rw [HG.out, HE.out], Q5.out, X5.out⟩
        case measure => simp [Go.RowKit.intOf]; omega
      · have HG := Lib.hid (HN.out e)
        have et : (ht == txn) = false := by simpa using e
        clear HY HN
        go_wp2
        go_roundw
        case rel => exact ⟨k + 1, C, q, os, by omega, by go_num, rfl, HO.out.alloc _, by rw [HG.out, HE.out], Q1.out, X1.out⟩
        case measure => simp [Go.RowKit.intOf]; omega
    · have hkm : k = m := by omega
      subst hkm
      have HF := Lib.hid (show Lib.compact (os.mergeSort fun x y => decide (x ≤ y)) = out by rw [← HE.out, ← HBl.out]; exact HR.out)
      have hle := compact_le (os.mergeSort fun x y => decide (x ≤ y))
      go_wp2_with fail
      refine (sort_any C os.length q (w.heap.size + 1) os wr HO.out HX.out.lt (by omega)).mono ?_
      rintro e w1 ⟨rfl, o1, q1⟩
      have O1 := Lib.hid o1
      have Q1 := Lib.hid (HQ.out.below.trans (q1.mono (Nat.le_succ _)))
      have X1 := Lib.hid (HX.out.below q1 (Nat.lt_succ_self _))
      clear o1 q1
      go_wp2_with fail
      refine (compact_any C os.length q (w.heap.size + 1) _ w1 O1.out X1.out.lt).mono ?_
      rintro e w2 ⟨rfl, o2, q2⟩
      rw [HF.out] at o2
      have O2 := Lib.hid o2
      have Q2 := Lib.hid (show Q w w2 from Q1.out.trans (q2.mono (Nat.le_succ _)))
      clear o2 q2 hle
      go_wp2
      go_ret
      exact ⟨C, q, by rw [HF.out]; rfl, O2.out.lower (Nat.le_succ _), Q2.out⟩
end Go.Proofs.Ytncnfblnelkmbaa

/- Contracts: lock's own, has, Waits, blocked, Late, Same. -/
namespace Go.Proofs.Ytncnfblnelkmbaa
set_option maxRecDepth 100000
open Go.RowKit Prm Lm Sm
set_option linter.unusedVariables false
set_option linter.unusedSimpArgs false

end Go.Proofs.Ytncnfblnelkmbaa

/- 'append(own, more...)' for rows of any kind of element: the source nil or not; only the own block has turned. -/
namespace Go.Proofs.Ytncnfblnelkmbaa
set_option maxRecDepth 100000
open Go.RowKit
set_option linter.unusedVariables false

theorem run_appG {P : Program} {w : World} (base : Nat) (t ty e : TypeId) (z : Value) (size bytes : Nat) (ht : P.underlying t = some (.slice e)) (hinfo : (P.info? e).map (fun i => (i.zero, i.size, i.bytes)) = some (some z, size, bytes))
    (hzs : z.cells.size = size) (hsz : 0 < size) (A : Option Addr) (n c : Nat) (xs : List Value) (h : w.ownsRow base e size (.slice A n c) n xs)
    (A2 : Option Addr) (m c2 : Nat) (news : List Value) (hl : news.length = m * size) (hnews : ∀ j u, news[j]? = some u → ∃ a, A2 = some a ∧ w.cell? (a.add j) = some u) (h1 : ∀ u ∈ news, u.oneCell' = true)
    (hnil : A2 = none → m = 0 ∧ c2 = 0) (hmax : n + m ≤ maxLen) (hb : (n + m) * bytes ≤ 140737488355328) (hbase : base ≤ w.heap.size) :
    ∃ A' c' w', (Builtin.append_ #[t, t] ty #[.slice A n c, .slice A2 m c2]).run P w = .ok (.slice A' (n + m) c') w' ∧ w'.ownsRow base e size (.slice A' (n + m) c') (n + m) (xs ++ news) ∧
      w.grownBy w' (Value.slice A n c).ownBlock ∧ ((Value.slice A' (n + m) c').ownBlock = (Value.slice A n c).ownBlock ∨ (Value.slice A' (n + m) c').ownBlock = some w.heap.size) := by
  obtain ⟨i, hi, hz, hs, hy⟩ := info_parts hinfo
  cases A2 with
  | none =>
    obtain ⟨rfl, rfl⟩ := hnil rfl
    have e2 : news = [] := List.eq_nil_of_length_eq_zero (by omega)
    subst e2
    exact ⟨A, c, w, run_append_owned_none (P := P) (w := w) base _ ty e i size ht hi _ n xs h, by simpa using h, World.grownBy.refl _ _, .inl rfl⟩
  | some ad =>
    obtain ⟨v', w', hr, ho, hg, hn, hat⟩ := run_append_own_at (P := P) (w := w) base t ty e i z size bytes ht hi hz hs hy hzs hsz (.slice A n c) n xs h ad m c2 news hl
      (fun j u hu => by obtain ⟨a', e, hc⟩ := hnews j u hu; injection e with e; subst e; exact hc) h1 hmax hb hbase
    rcases ho.2 with ⟨e, h0⟩ | ⟨g, cap, cur, e, _⟩
    · have h00 : Value.slice none 0 0 = .slice none (n + m) 0 := by rw [h0]
      rw [h00] at e
      subst e
      exact ⟨none, 0, w', hr, ho, hg, hat⟩
    · subst e
      exact ⟨_, cap, w', hr, ho, hg, hat⟩

theorem wanted_plain {ops : Array Oper} {o : Oper} {a : Act} (hgd : o.guard = none) : Region.wanted o (yielded ops a.tmps) = true := by simp [Region.wanted, hgd]
theorem below_grown {B : Nat} {w w' : World} {row : Option Nat} (hg : w.grownBy w' row) (hB : B ≤ w.heap.size) (hr : ∀ k, row = some k → B ≤ k) : Below B w w' := (Below.refl _ _).grown hg hB hr
end Go.Proofs.Ytncnfblnelkmbaa

/- 'append(own, more...)' for a kind of elements; only the own block has turned. -/
namespace Go.Proofs.Ytncnfblnelkmbaa
set_option maxRecDepth 100000
open Go.RowKit
set_option linter.unusedVariables false
variable {α : Type}

theorem run_appKG (K : Kind α) (w : World) (base : Nat) (A : Option Addr) (n c : Nat) (l : List α) (h : OwnK K w base A n c l) (A2 : Option Addr) (m c2 : Nat) (l2 : List α) (h2 : Lst K w A2 m l2) (hnil : A2 = none → m = 0 ∧ c2 = 0)
    (hb : (n + m) * K.bs ≤ 140737488355328) (hbase : base ≤ w.heap.size) (ty : TypeId) :
    ∃ A' c' w', (Builtin.append_ #[K.S, K.S] ty #[.slice A n c, .slice A2 m c2]).run Try.prog w = .ok (.slice A' (n + m) c') w' ∧ OwnK K w' base A' (n + m) c' (l ++ l2) ∧ w.grownBy w' (Value.slice A n c).ownBlock ∧
      ((Value.slice A' (n + m) c').ownBlock = (Value.slice A n c).ownBlock ∨ (Value.slice A' (n + m) c').ownBlock = some w.heap.size) := by
  have hmax : n + m ≤ maxLen := by
    have : (n + m) * 1 ≤ (n + m) * K.bs := Nat.mul_le_mul_left _ K.bpos
    unfold maxLen; omega
  obtain ⟨A', c', w', h1, h3, h4, h5⟩ := run_appG (P := Try.prog) (w := w) base K.S ty K.T K.z K.k K.bs K.und K.info K.zc K.pos A n c (K.rows l) h A2 m c2 (K.rows l2) h2.1
    (fun j u hu => by obtain ⟨a, e, _, hc⟩ := h2.2 j u hu; exact ⟨a, e, hc⟩) (K.rows_one l2) hnil hmax hb hbase
  rw [← K.rows_app] at h3
  exact ⟨A', c', w', h1, h3, h4, h5⟩
theorem grown_below {K : Kind α} {w w' : World} {base : Nat} {A : Option Addr} {n c : Nat} {l : List α} (h : OwnK K w base A n c l) (hg : w.grownBy w' (Value.slice A n c).ownBlock) (hbase : base ≤ w.heap.size) : Below base w w' :=
  below_grown hg hbase fun k hk => by
    rcases h.parts with ⟨rfl, _⟩ | ⟨g, cur, rfl, hb, _⟩
    · cases hk
    · simp only [Value.ownBlock, Option.some.injEq] at hk; omega

theorem wpl_appKG (K : Kind α) {w : World} {ops : Array Oper} {rest : List Oper} {o : Oper} {a : Act} {R : Exit → Act → World → Prop} (hgd : o.guard = none) (s x : Operand) (t : TypeId) (ht : t = K.S)
    (ho : o.op = .call { callee := .builtin .append, args := #[s, x], argTypes := #[t, t] })
    (base : Nat) (A : Option Addr) (n c : Nat) (l : List α) (hs : a.eval s = .slice A n c) (h : OwnK K w base A n c l) (A2 : Option Addr) (m c2 : Nat) (l2 : List α) (hx : a.eval x = .slice A2 m c2) (h2 : Lst K w A2 m l2) (hnil : A2 = none → m = 0 ∧ c2 = 0)
    (hb : (n + m) * K.bs ≤ 140737488355328) (hbase : base ≤ w.heap.size)
    (hk : ∀ A' c' w', OwnK K w' base A' (n + m) c' (l ++ l2) → w.grownBy w' (Value.slice A n c).ownBlock →
      ((Value.slice A' (n + m) c').ownBlock = (Value.slice A n c).ownBlock ∨ (Value.slice A' (n + m) c').ownBlock = some w.heap.size) → wpList Try.prog ops R rest (a.put o.dst (.slice A' (n + m) c')) w') : wpList Try.prog ops R (o :: rest) a w := by
  subst ht
  refine wpList_plain hgd fun X hX => ?_
  obtain ⟨A', c', w', hr, h3, h4, h5⟩ := run_appKG K w base A n c l h A2 m c2 l2 h2 hnil hb hbase o.type
  unfold Oper.wp execOp
  simp only [ho, resolve, invoke, builtin, Sem.run_bind, Sem.run_pure, Result.andThen_ok, List.map_toArray, List.map_cons, List.map_nil, hs, hx, hr]
  exact hX _ _ (hk A' c' w' h3 h4 h5)
theorem step_appKG (K : Kind α) {ops : Array Oper} {o : Oper} {a : Act} {w : World} {X : Act → World → Prop} {R : Exit → Act → World → Prop} {E : Prop} (hgd : o.guard = none) (s x : Operand) (t : TypeId) (ht : t = K.S)
    (ho : o.op = .call { callee := .builtin .append, args := #[s, x], argTypes := #[t, t] }) (base : Nat) (A : Option Addr) (n c : Nat) (l : List α) (hs : a.eval s = .slice A n c) (h : OwnK K w base A n c l) (A2 : Option Addr) (m c2 : Nat) (l2 : List α) (hx : a.eval x = .slice A2 m c2) (h2 : Lst K w A2 m l2) (hnil : A2 = none → m = 0 ∧ c2 = 0)
    (hb : (n + m) * K.bs ≤ 140737488355328) (hbase : base ≤ w.heap.size)
    (hk : ∀ A' c' w', OwnK K w' base A' (n + m) c' (l ++ l2) → w.grownBy w' (Value.slice A n c).ownBlock →
      ((Value.slice A' (n + m) c').ownBlock = (Value.slice A n c).ownBlock ∨ (Value.slice A' (n + m) c').ownBlock = some w.heap.size) → X (a.put o.dst (.slice A' (n + m) c')) w') : if Region.wanted o (yielded ops a.tmps) = true then Oper.wp Try.prog o a w X R else E := by
  subst ht
  rw [if_pos (wanted_plain hgd)]
  obtain ⟨A', c', w', hr, h3, h4, h5⟩ := run_appKG K w base A n c l h A2 m c2 l2 h2 hnil hb hbase o.type
  unfold Oper.wp execOp
  simp only [ho, resolve, invoke, builtin, Sem.run_bind, Sem.run_pure, Result.andThen_ok, List.map_toArray, List.map_cons, List.map_nil, hs, hx, hr]
  exact hk A' c' w' h3 h4 h5

/-- two lists of the call's own, in blocks of their own. -/
def Apt (A B : Option Addr) : Prop := ∀ a b, A = some a → B = some b → a.block ≠ b.block
theorem OwnK.away {K : Kind α} {w w' : World} {base : Nat} {A B : Option Addr} {n c m d : Nat} {l : List α} (h : OwnK K w base B m d l) (hg : w.grownBy w' (Value.slice A n c).ownBlock) (hap : Apt A B) (hA : A = none → True) : OwnK K w' base B m d l := by
  refine ⟨h.1, ?_⟩
  rcases h.2 with ⟨e, h0⟩ | ⟨g, cap, cur, e, hg2, hh, r⟩
  · exact .inl ⟨e, h0⟩
  · refine .inr ⟨g, cap, cur, e, hg2, (hg.block g (Array.getElem?_eq_some_iff.1 hh).1 ?_).trans hh, r⟩
    intro e2
    injection e with e
    cases A with
    | none => cases e2
    | some a =>
      simp only [Value.ownBlock, Option.some.injEq] at e2
      exact hap a ⟨g, 0, none⟩ rfl e e2.symm
theorem Apt.symm {A B : Option Addr} (h : Apt A B) : Apt B A := fun a b ea eb e => h b a eb ea e.symm
end Go.Proofs.Ytncnfblnelkmbaa

/- Contracts: the document's Waits, Late, Same, Ints. -/
namespace Go.Proofs.Ytncnfblnelkmbaa
set_option maxRecDepth 100000
open Go.RowKit Prm Lm Sm
set_option linter.unusedVariables false
set_option linter.unusedSimpArgs false

theorem any_drop {α : Type} (P : α → Bool) (l : List α) {k : Nat} (hk : k < l.length) : (l.drop k).any P = (P l[k] || (l.drop (k + 1)).any P) := by
  rw [List.drop_eq_getElem_cons hk, List.any_cons]
set_option maxHeartbeats 1000000 in
theorem rwaits_any (A B : Option Addr) (n c m d : Nat) (l : Lo) (txn : Int) (w : World) (hB : Lst claimK w B m l.queue) (hm : m ≤ 400000) :
    Calls Try.prog 35 #[locV A n c B m d, .int .i64 txn] w fun e w' => e = .returned (.bool (waits l txn)) ∧ Q w w' := by
  have HB := Lib.hid hB
  have HBl := Lib.hid hB.len
  have hw : waits l txn = l.queue.any (isC txn) := rfl
  rw [hw]
  have Q1 := Lib.hid ((Q.refl w).alloc (.cells #[.slice A n c, .slice B m d] 25))
  have B1 := Lib.hid (Bx.new w [.slice A n c, .slice B m d] 25)
  clear hB hw
  go_enter Try.func35, Try.ntmps35
  go_wp2
  generalize w.alloc (.cells #[.slice A n c, .slice B m d] 25) = W0 at Q1 B1 ⊢
  obtain ⟨⟨b0, b1⟩, _⟩ := B1.out.get2
  go_loopw [5] (fun i wr => ∃ k : Nat, k ≤ m ∧ i = .int .i64 k ∧ wr = W0 ∧ l.queue.any (isC txn) = (l.queue.drop k).any (isC txn)) (fun i _ => m - (intOf i).toNat)
  case atStart => exact ⟨0, Nat.zero_le _, rfl, rfl, rfl⟩
  case round =>
    obtain ⟨k, hk, rfl, rfl, he⟩ := hrel
    have HE := Lib.hid he
    clear he
    by_cases hlt : k < m
    · have hkl : k < l.queue.length := by have := HBl.out; omega
      have hkn : (k : Int) < (m : Int) := by omega
      have HG := Lib.hid (any_drop (isC txn) l.queue hkl)
      obtain ⟨ad, rfl, hab, y0, y1, y2, y3, y4⟩ := load_claim (HB.out.q Q1.out) hlt hkl
      generalize l.queue[k] = h at y0 y1 y2 y3 y4 HG
      have he1 := int_eq h.txn txn
      cases ht : decide (h.txn = txn) with
      | true =>
        rw [ht] at he1
        have HF := Lib.hid (show l.queue.any (isC txn) = true by rw [HE.out, HG.out, show isC txn h = true from ht]; rfl)
        clear ht
        go_wp2
        go_ret
        exact ⟨by rw [HF.out]; rfl, Q1.out⟩
      | false =>
        rw [ht] at he1
        have HF := Lib.hid (show l.queue.any (isC txn) = (l.queue.drop (k + 1)).any (isC txn) by rw [HE.out, HG.out, show isC txn h = false from ht]; rfl)
        clear ht
        go_wp2
        go_roundw
        case rel => exact ⟨k + 1, by omega, by go_num, by first | rfl | trivial, HF.out⟩
        case measure => simp [intOf]; omega
    · have HF := Lib.hid (show l.queue.any (isC txn) = false by rw [HE.out, List.drop_of_length_le (by have := HBl.out; omega)]; rfl)
      go_wp2
      go_ret
      exact ⟨by rw [HF.out]; rfl, Q1.out⟩

set_option maxHeartbeats 1000000 in
theorem rints_any (A B : Option Addr) (n c m d : Nat) (l l2 : List Int) (w : World) (h1 : Lst numK w A n l) (h2 : Lst numK w B m l2) (hn : n ≤ maxLen) (hm : m ≤ maxLen) :
    Calls Try.prog 10 #[.slice A n c, .slice B m d] w fun e w' => e = .returned (.bool (decide (l = l2))) ∧ Q w w' := by
  unfold maxLen at hn hm
  have H1 := Lib.hid h1
  have H2 := Lib.hid h2
  have L1 := Lib.hid h1.len
  have L2 := Lib.hid h2.len
  clear h1 h2
  by_cases hnm : n = m
  · subst hnm
    go_enter Try.func10, Try.ntmps10
    go_wp2
    go_loopw [5] (fun i wr => ∃ k : Nat, k ≤ n ∧ i = .int .i64 k ∧ Q w wr ∧ l.take k = l2.take k) (fun i _ => n - (intOf i).toNat)
    case atStart => exact ⟨0, Nat.zero_le _, rfl, Q.refl _, by simp⟩
    case round =>
      obtain ⟨k, hk, rfl, hq, ht⟩ := hrel
      have HT := Lib.hid ht
      clear ht
      by_cases hlt : k < n
      · have k1 : k < l.length := by have := L1.out; omega
        have k2 : k < l2.length := by have := L2.out; omega
        obtain ⟨ad, rfl, hb, c0⟩ := load_num (H1.out.q hq) hlt k1
        obtain ⟨ae, rfl, he, d0⟩ := load_num (H2.out.q hq) hlt k2
        have hne : (l[k] != l2[k]) = !decide (l[k] = l2[k]) := by by_cases h : l[k] = l2[k] <;> simp [h]
        have hkn : (k : Int) < (n : Int) := by omega
        by_cases heq : l[k] = l2[k]
        · have hd : decide (l[k] = l2[k]) = true := by simpa using heq
          rw [hd] at hne
          have HE := Lib.hid heq
          clear heq
          go_wp2
          go_quiet (fail)
          go_wp2
          go_roundw
          case rel => exact ⟨k + 1, by omega, by go_num, hq.drewN _, by rw [List.take_succ_eq_append_getElem k1, List.take_succ_eq_append_getElem k2, HT.out, HE.out]⟩
          case measure => simp [intOf]; omega
        · have hd : decide (l[k] = l2[k]) = false := by simpa using heq
          rw [hd] at hne
          have HE := Lib.hid heq
          clear heq
          go_wp2
          go_quiet (fail)
          go_wp2
          go_ret
          exact ⟨ret_bool (by symm; simp only [decide_eq_false_iff_not]; rintro rfl; exact HE.out rfl), hq.drewN _⟩
      · go_wp2
        go_ret
        exact ⟨ret_bool (by symm; simp only [decide_eq_true_eq]; have h1 := HT.out; rwa [List.take_of_length_le (by have := L1.out; omega), List.take_of_length_le (by have := L2.out; omega)] at h1), hq⟩
  · have hb : ((n : Int) != (m : Int)) = true := by simp; omega
    have HN := Lib.hid hnm
    clear hnm
    go_enter Try.func10, Try.ntmps10
    go_wp2
    go_ret
    exact ⟨ret_bool (by symm; simp only [decide_eq_false_iff_not]; rintro rfl; exact HN.out (L1.out.symm.trans L2.out)), Q.refl _⟩
end Go.Proofs.Ytncnfblnelkmbaa

/- A region that draws its order and stores, as its operation k, into a cell that it loads: what is known of the world is asked only till k comes up; a load may be taken first if k waits for it. -/
namespace Go.Proofs.Ytncnfblnelkmbaa
set_option maxRecDepth 100000
section
variable {P : Program} {ops : Array Oper} {Q : Exit → Act → World → Prop} {md : Region.Mode} {k : Nat}

/-- The pair of what is owed behind a step: S, as long as k has not come up; and what follows. -/
def Till (k : Nat) (S : World → Prop) (T : Array Bool → Act → World → Prop) (l : Array Bool) : Act → World → Prop := fun a w => (l.getD k true = false → S w) ∧ T l a w
/-- In whatever order the rest comes up: Q at the end; S till k. -/
def wpAnyL (P : Program) (md : Region.Mode) (ops : Array Oper) (Q : Exit → Act → World → Prop) (k : Nat) (S : World → Prop) (fuel : Nat) : Array Bool → Act → World → Prop :=
  Nat.rec (fun l a w => Region.ready md ops l = [] ∧ Q .normal a w)
    (fun _ T l a w => (Region.ready md ops l = [] → Q .normal a w) ∧ ∀ j, j ∈ Region.ready md ops l → wpOp P ops Q j (Till k S T (l.setIfInBounds j true)) a w) fuel

variable {S S' : World → Prop}
theorem wpAnyL_zero {l : Array Bool} {a : Act} {w : World} : wpAnyL P md ops Q k S 0 l a w ↔ Region.ready md ops l = [] ∧ Q .normal a w := Iff.rfl
theorem wpAnyL_succ {n : Nat} {l : Array Bool} {a : Act} {w : World} : wpAnyL P md ops Q k S (n + 1) l a w ↔
    (Region.ready md ops l = [] → Q .normal a w) ∧ ∀ j, j ∈ Region.ready md ops l → wpOp P ops Q j (Till k S (wpAnyL P md ops Q k S n) (l.setIfInBounds j true)) a w := Iff.rfl

/-- S dropped altogether. -/
theorem wpAnyL_plain (n : Nat) : ∀ (l : Array Bool) (a : Act) (w : World), wpAnyL P md ops Q k S n l a w → wpAny P md ops Q n l a w := by
  induction n with
  | zero => exact fun l a w h => h
  | succ n ih => exact fun l a w h => ⟨(wpAnyL_succ.1 h).1, fun j hj => wpOp_mono (fun a' w' h' => ih _ a' w' h'.2) ((wpAnyL_succ.1 h).2 j hj)⟩
theorem getD_set_up {l : Array Bool} {j : Nat} (h : l.getD k true = true) : (l.setIfInBounds j true).getD k true = true := by
  rcases Nat.decEq j k with e | rfl
  · rw [getD_set_ne true e]; exact h
  · simp [Array.getElem?_setIfInBounds]; split <;> simp
/-- Behind k nothing is asked. -/
theorem wpAnyL_free (n : Nat) : ∀ (l : Array Bool) (a : Act) (w : World), l.getD k true = true → wpAnyH P md ops Q (fun _ => True) n l a w → wpAnyL P md ops Q k S n l a w := by
  induction n with
  | zero => exact fun l a w _ h => h
  | succ n ih =>
    intro l a w hl h
    refine wpAnyL_succ.2 ⟨h.1, fun j hj => wpOp_mono (fun a' w' h' => ⟨fun e => ?_, ih _ a' w' (getD_set_up hl) h'.2⟩) (h.2 j hj)⟩
    rw [getD_set_up hl] at e
    cases e

/-- k waits for i. -/
def waitsFor (md : Region.Mode) (ops : Array Oper) (k i : Nat) : Bool := match ops[k]? with | some o => o.after.any (fun e => Region.binds md e && e.on == i) | none => false
/-- Of two that may come up now none waits for the other one. -/
theorem ready_free {l : Array Bool} {i j : Nat} {o : Oper} (hi : i ∈ Region.ready md ops l) (hj : j ∈ Region.ready md ops l) (ho : ops[j]? = some o) : ∀ e ∈ o.after, Region.binds md e = true → e.on ≠ i := by
  obtain ⟨hi0, _⟩ := mem_ready.1 hi
  obtain ⟨_, o', ho', hall⟩ := mem_ready.1 hj
  obtain rfl : o = o' := by rw [ho] at ho'; injection ho'
  intro e he hb heq
  have hl := hall e he hb
  rw [heq] at hl
  cases hg : l[i]? with
  | none => simp [hg] at hl
  | some b => simp [hg] at hi0 hl; rw [hi0] at hl; cases hl
theorem not_waits {l : Array Bool} {i : Nat} (hi : i ∈ Region.ready md ops l) (hk : waitsFor md ops k i = true) : ¬ k ∈ Region.ready md ops l := fun hj => by
  unfold waitsFor at hk
  split at hk
  · rename_i o ho
    obtain ⟨e, he, h2⟩ := Array.any_eq_true'.1 hk
    rw [Bool.and_eq_true, beq_iff_eq] at h2
    exact ready_free hi hj ho e he h2.1 h2.2
  · cases hk

/-- Number i first: nobody who could come ahead of it makes a difference, and k waits for it. -/
theorem wpAnyL_take {i : Nat} {oi : Oper} {v : Value} {fuel : Nat} {listed : Array Bool} {a : Act} {w : World} (hi : ops[i]? = some oi)
    (hs : Region.noSelect ops = true) (hf : Region.free md ops listed i = true) (hr : (Region.ready md ops listed).contains i = true)
    (hk : (listed.getD k true == false && waitsFor md ops k i && i != k) = true)
    (hQ : ∀ c a w, Q (.panic c) (a.put oi.dst v) w → Q (.panic c) a w) (hy : YieldsIf P ops S oi v a) (hS : S w)
    (h : wpAnyL P md ops Q k S fuel (listed.setIfInBounds i true) (a.put oi.dst v) w) : wpAnyL P md ops Q k S (fuel + 1) listed a w := by
  simp only [Bool.and_eq_true, beq_iff_eq, bne_iff_ne, ne_eq] at hk
  obtain ⟨⟨hku, hkw⟩, hik⟩ := hk
  have hap := Region.free_spec hi hf
  have hr' : i ∈ Region.ready md ops listed := by simpa using hr
  have hno := Region.noSelect_spec hs
  clear hf hr
  -- the same for every state: by the number of those that are left
  induction fuel generalizing listed a w with
  | zero =>
    refine wpAnyL_succ.2 ⟨fun e => absurd hr' (by rw [e]; exact List.not_mem_nil), fun j hj => ?_⟩
    rcases Nat.decEq j i with e | rfl
    · exact absurd (ready_mono hj e) (by rw [(wpAnyL_zero.1 h).1]; exact List.not_mem_nil)
    · exact hy.wpOp hi hS ⟨fun _ => hS, h⟩
  | succ n ih =>
    refine wpAnyL_succ.2 ⟨fun e => absurd hr' (by rw [e]; exact List.not_mem_nil), fun j hj => ?_⟩
    rcases Nat.decEq j i with e | rfl
    case isTrue => exact hy.wpOp hi hS ⟨fun _ => hS, h⟩
    have hjk : j ≠ k := by rintro rfl; exact not_waits hr' hkw hj
    obtain ⟨hun, oj, hoj, _⟩ := mem_ready.1 hj
    have other := wpOp_putIf hoj (hap j oj hoj e hun (ready_free hr' hj hoj)) (fun cs b => hno i oi cs b hi) (fun cs b => hno j oj cs b hoj) hQ hy ((wpAnyL_succ.1 h).2 j (ready_mono hj e))
    have hku' : (listed.setIfInBounds j true).getD k true = false := (getD_set_ne true hjk).trans hku
    refine wpOp_mono (fun a' w' ⟨hy', hS', hT⟩ => ?_) other
    have hSw : S w' := hS' (by rw [getD_set_ne true hjk, getD_set_ne true hik]; exact hku)
    rw [Array.setIfInBounds_comm _ _ (Ne.symm e)] at hT
    refine ⟨fun _ => hSw, ih hy' hSw hT hku' (fun m om hm hmi hmu hme => hap m om hm hmi ?_ hme) (ready_mono hr' (Ne.symm e))⟩
    rcases Nat.decEq j m with e2 | rfl
    · rwa [getD_set_ne true e2] at hmu
    · exact hun

def AllReadyL (P : Program) (md : Region.Mode) (ops : Array Oper) (Q : Exit → Act → World → Prop) (k : Nat) (S : World → Prop) (fuel : Nat) (listed : Array Bool) (a : Act) (w : World) (rs : List Nat) : Prop :=
  ∀ j, j ∈ rs → wpOp P ops Q j (Till k S (wpAnyL P md ops Q k S fuel) (listed.setIfInBounds j true)) a w
theorem AllReadyL.nil {fuel : Nat} {listed : Array Bool} {a : Act} {w : World} : AllReadyL P md ops Q k S fuel listed a w [] := fun _ h => absurd h List.not_mem_nil
/-- a step ahead of k: S is shown anew, and handed on. -/
theorem AllReadyL.cons {fuel : Nat} {listed : Array Bool} {a : Act} {w : World} {i : Nat} {o : Oper} {rs : List Nat} (ho : ops[i]? = some o)
    (h : ∀ K : Act → World → Prop, Shut (∀ a w, S w → (S w → wpAnyL P md ops Q k S fuel (listed.setIfInBounds i true) a w) → K a w) → if Region.wanted o (yielded ops a.tmps) = true then Oper.wp P o a w K Q else K (a.put o.dst undef) w)
    (hs : AllReadyL P md ops Q k S fuel listed a w rs) : AllReadyL P md ops Q k S fuel listed a w (i :: rs) :=
  List.forall_mem_cons.2 ⟨wpOp_step ho fun K hK => h K fun a w h1 h2 => hK a w ⟨fun _ => h1, h2 h1⟩, hs⟩
/-- the step k itself: nothing is to be shown anew. -/
theorem AllReadyL.consK {fuel : Nat} {listed : Array Bool} {a : Act} {w : World} {o : Oper} {rs : List Nat} (ho : ops[k]? = some o) (hl : (listed.setIfInBounds k true).getD k true = true)
    (h : ∀ K : Act → World → Prop, Shut (∀ a w, wpAnyH P md ops Q (fun _ => True) fuel (listed.setIfInBounds k true) a w → K a w) → if Region.wanted o (yielded ops a.tmps) = true then Oper.wp P o a w K Q else K (a.put o.dst undef) w)
    (hs : AllReadyL P md ops Q k S fuel listed a w rs) : AllReadyL P md ops Q k S fuel listed a w (k :: rs) :=
  List.forall_mem_cons.2 ⟨wpOp_step ho fun K hK => h K fun a w h2 => hK a w ⟨(fun e => by rw [hl] at e; cases e), wpAnyL_free fuel _ a w hl h2⟩, hs⟩
theorem wpAnyL_ready {rs : List Nat} {fuel : Nat} {listed : Array Bool} {a : Act} {w : World} (hr : Region.ready md ops listed = rs) (hne : rs ≠ [])
    (h : AllReadyL P md ops Q k S fuel listed a w rs) : wpAnyL P md ops Q k S (fuel + 1) listed a w :=
  wpAnyL_succ.2 ⟨fun e => absurd (hr.symm.trans e) hne, fun j hj => h j (by rwa [hr] at hj)⟩
/-- the beginning. -/
theorem wp_region_heldL (k : Nat) (S : World → Prop) {id : Nat} {a : Act} {w : World} (hm : P.follows .mixedOrders = true) (hS : S w.drew)
    (h : S w.drew → wpAnyL P .any ops Q k S ops.size (Array.replicate ops.size false) a w.drew) : (Code.region id ops true).wp P Q a w :=
  wp_region_any hm (wpAnyL_plain _ _ _ _ (h hS))
end
end Go.Proofs.Ytncnfblnelkmbaa

/- 'append(own, more...)' as one step of a region that draws; how many, and what, named anew. -/
namespace Go.Proofs.Ytncnfblnelkmbaa
set_option maxRecDepth 100000
open Go.RowKit
set_option linter.unusedVariables false
theorem step_appKM {α : Type} (K : Kind α) {ops : Array Oper} {o : Oper} {a : Act} {w : World} {X : Act → World → Prop} {R : Exit → Act → World → Prop} {E : Prop} (hgd : o.guard = none) (s x : Operand) (t : TypeId) (ht : t = K.S)
    (ho : o.op = .call { callee := .builtin .append, args := #[s, x], argTypes := #[t, t] }) (base : Nat) (A : Option Addr) (n c : Nat) (l : List α) (hs : a.eval s = .slice A n c) (h : OwnK K w base A n c l) (A2 : Option Addr) (m c2 : Nat) (l2 : List α) (hx : a.eval x = .slice A2 m c2) (h2 : Lst K w A2 m l2) (hnil : A2 = none → m = 0 ∧ c2 = 0)
    (N : Nat) (hN : n + m = N) (l3 : List α) (hl : l ++ l2 = l3) (hb : N * K.bs ≤ 140737488355328) (hbase : base ≤ w.heap.size)
    (hk : ∀ A' c' w', OwnK K w' base A' N c' l3 → Below base w w' → w.grownBy w' (Value.slice A n c).ownBlock → X (a.put o.dst (.slice A' N c')) w') : if Region.wanted o (yielded ops a.tmps) = true then Oper.wp Try.prog o a w X R else E := by
  subst hN hl
  exact step_appKG K hgd s x t ht ho base A n c l hs h A2 m c2 l2 hx h2 hnil hb hbase fun A' c' w' h3 h4 _ => hk A' c' w' h3 (grown_below h h4 hbase) h4
theorem wpl_appKM {α : Type} (K : Kind α) {w : World} {ops : Array Oper} {rest : List Oper} {o : Oper} {a : Act} {R : Exit → Act → World → Prop} (hgd : o.guard = none) (s x : Operand) (t : TypeId) (ht : t = K.S)
    (ho : o.op = .call { callee := .builtin .append, args := #[s, x], argTypes := #[t, t] })
    (base : Nat) (A : Option Addr) (n c : Nat) (l : List α) (hs : a.eval s = .slice A n c) (h : OwnK K w base A n c l) (A2 : Option Addr) (m c2 : Nat) (l2 : List α) (hx : a.eval x = .slice A2 m c2) (h2 : Lst K w A2 m l2) (hnil : A2 = none → m = 0 ∧ c2 = 0)
    (N : Nat) (hN : n + m = N) (l3 : List α) (hl : l ++ l2 = l3) (hb : N * K.bs ≤ 140737488355328) (hbase : base ≤ w.heap.size)
    (hk : ∀ A' c' w', OwnK K w' base A' N c' l3 → Below base w w' → wpList Try.prog ops R rest (a.put o.dst (.slice A' N c')) w') : wpList Try.prog ops R (o :: rest) a w := by
  subst hN hl
  exact wpl_appK K hgd s x t ht ho base A n c l hs h A2 m c2 l2 hx h2 hnil hb hbase hk
theorem box_b {B : Nat} {W w1 : World} (h : Below B W w1) {p : Addr} {v : Value} (hp : p.block < B) (hc : W.cell? p = some v) : w1.cell? p = some v := (h.cell hp).trans hc
theorem below_al {B : Nat} {W w : World} (h : Below B W w) (hB : B ≤ W.heap.size) (o : Obj) : Below B W (w.alloc o) := Below.alloc h (Nat.le_trans hB h.size) o
end Go.Proofs.Ytncnfblnelkmbaa
