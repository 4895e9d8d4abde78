/- Records in bytes, in plain mathematics: what is opened is what was sealed; what is scanned; a segment's name. -/
import Derived.Test.YthcdcjidoacalaaSumOpen
namespace Go.Proofs.Ythcdcjidoacalaa
set_option maxRecDepth 100000
set_option linter.unusedVariables false

namespace Dm
theorem digit_dv (c : UInt8) (h : isD c = true) : digit (dv c) = c := by
  rw [isD_iff] at h
  unfold digit dv
  rw [show 48 + (c.toNat - 48) = c.toNat by omega]
  exact UInt8.ofNat_toNat
theorem val_pos (c : UInt8) (l : List UInt8) (hc : isD c = true) (h0 : c.toNat ≠ 48) : 0 < val (c :: l) := by
  rw [val_cons]
  have h1 : 1 ≤ dv c := by rw [isD_iff] at hc; unfold dv; omega
  have h2 : 0 < 10 ^ l.length := Nat.pow_pos (by omega)
  have := Nat.mul_pos h1 h2
  omega
/-- figures without a leading nought are their number's. -/
theorem dg_val : ∀ (n : Nat) (l : List UInt8), l.length = n → l ≠ [] → (∀ c ∈ l, isD c = true) → (1 < l.length → l.head? ≠ some 48) → dg (val l) = l
  | 0, l, hl, hne, _, _ => absurd (List.length_eq_zero_iff.1 hl) hne
  | n + 1, l, hl, hne, hd, hh => by
    obtain ⟨a, c, rfl⟩ : ∃ a c, l = a ++ [c] := ⟨l.dropLast, l.getLast hne, (List.dropLast_concat_getLast hne).symm⟩
    have hc : isD c = true := hd c (by simp)
    have hdc : dv c < 10 := by rw [isD_iff] at hc; unfold dv; omega
    rw [val_snoc, dg_split, show (10 * val a + dv c) / 10 = val a by omega, show (10 * val a + dv c) % 10 = dv c by omega, digit_dv c hc]
    congr 1
    cases a with
    | nil => rfl
    | cons x r =>
      have hh' := hh (by simp)
      have hx : x ≠ 48 := by simpa using hh'
      have hx' : x.toNat ≠ 48 := fun e => hx (UInt8.toNat_inj.1 e)
      have hp := val_pos x r (hd x (by simp)) hx'
      rw [dgz_pos _ (by omega)]
      exact dg_val n (x :: r) (by simp at hl ⊢; omega) (by simp) (fun d h => hd d (List.mem_append_left _ h)) (fun _ => by simpa using hx)

theorem tnum_inv {l r : List UInt8} {v : Nat} (h : tnum l = (v, r, 0)) : l = num v ++ r ∧ v ≤ maxU := by
  unfold tnum at h
  split at h
  · simp at h
  rename_i hb
  split at h
  · simp at h
  rename_i hr
  split at h
  · simp at h
  rename_i hf
  simp only [Prod.mk.injEq, and_true] at h
  obtain ⟨h1, h2⟩ := h
  simp only [not_or, Decidable.not_not, ne_eq] at hf
  obtain ⟨hf1, hf2⟩ := hf
  simp only [bad, Bool.or_eq_true, Bool.and_eq_true, decide_eq_true_eq, not_or, not_and, beq_iff_eq] at hb
  obtain ⟨hb1, hb2⟩ := hb
  have e : figs l ++ rest l = l := figs_rest l
  have er : rest l = 59 :: r := by
    cases hq : rest l with
    | nil => exact absurd hq hr
    | cons x t =>
      rw [hq] at hf1 h2
      simp only [List.head?_cons, Option.some.injEq] at hf1
      simp only [List.tail_cons] at h2
      rw [hf1, h2]
  have ed : dg v = figs l := by
    rw [← h1]
    refine dg_val _ (figs l) rfl hf2 (figs_all l) fun hl => ?_
    have hh := hb1 hl
    intro hq
    refine hh ?_
    cases hfl : figs l with
    | nil => exact absurd hfl hf2
    | cons x t =>
      rw [hfl] at hq e
      rw [← e]
      simpa using hq
  refine ⟨?_, by omega⟩
  rw [← e, er, num, ed]; simp

theorem ttext_inv {l s r : List UInt8} {most : Int} (h : ttext l most = (s, r, 0)) : l = num s.length ++ (s ++ r) ∧ s.length ≤ maxU ∧ (s.length : Int) ≤ most := by
  unfold ttext at h
  split at h
  · rename_i h0
    simp only [Prod.mk.injEq] at h
    exact absurd h.2.2 h0
  rename_i h0
  split at h
  · simp at h
  rename_i h1
  split at h
  · simp at h
  rename_i h2
  simp only [Prod.mk.injEq, and_true] at h
  obtain ⟨e1, e2⟩ := h
  have h3 : (tnum l).2.2 = 0 := by simpa using h0
  have ht : tnum l = ((tnum l).1, (tnum l).2.1, 0) := by rw [← h3]
  obtain ⟨i1, i2⟩ := tnum_inv ht
  have hl : s.length = (tnum l).1 := by rw [← e1, List.length_take]; omega
  refine ⟨?_, by omega, by omega⟩
  rw [hl, ← e1, ← e2, List.take_append_drop]; exact i1
end Dm

/-- what is opened was sealed so. -/
theorem topen_inv {l s r : List UInt8} {most : Int} (h : topen l most = (s, r, 0)) : l = sld s ++ r ∧ s.length ≤ Dm.maxU ∧ (s.length : Int) ≤ most := by
  unfold topen topen1 at h
  split at h
  · rename_i h0
    simp only [Prod.mk.injEq] at h
    exact absurd h.2.2 h0
  rename_i h0
  unfold topen2 at h
  split at h
  · rename_i h1
    simp only [Prod.mk.injEq] at h
    exact absurd h.2.2 h1
  rename_i h1
  split at h
  · simp at h
  rename_i h2
  simp only [Prod.mk.injEq, and_true] at h
  obtain ⟨e1, e2⟩ := h
  have h3 : (Dm.ttext l most).2.2 = 0 := by simpa using h0
  have ht : Dm.ttext l most = ((Dm.ttext l most).1, (Dm.ttext l most).2.1, 0) := by rw [← h3]
  obtain ⟨i1, i2, i3⟩ := Dm.ttext_inv ht
  have h4 : (Dm.tnum (Dm.ttext l most).2.1).2.2 = 0 := by simpa using h1
  have hn : Dm.tnum (Dm.ttext l most).2.1 = ((Dm.tnum (Dm.ttext l most).2.1).1, (Dm.tnum (Dm.ttext l most).2.1).2.1, 0) := by rw [← h4]
  obtain ⟨j1, j2⟩ := Dm.tnum_inv hn
  rw [e1] at i1 i2 i3
  refine ⟨?_, i2, i3⟩
  have hv : (Sm.adler s).toNat = (Dm.tnum (Dm.ttext l most).2.1).1 := by rw [← e1]; simp only [ne_eq, Decidable.not_not] at h2; omega
  rw [e2] at j1
  rw [i1]
  conv => lhs; rw [j1]
  unfold sld
  rw [hv]; simp
theorem topen_err {l : List UInt8} {most : Int} (h : (topen l most).2.2 = 0) : l = sld (topen l most).1 ++ (topen l most).2.1 ∧ (topen l most).1.length ≤ Dm.maxU ∧ ((topen l most).1.length : Int) ≤ most := by
  refine topen_inv ?_
  rw [← h]

theorem sld_four (s : List UInt8) : 4 ≤ (sld s).length := by
  unfold sld Dm.num
  have := Dm.dg_pos s.length
  have := Dm.dg_pos (Sm.adler s).toNat
  simp only [List.length_append, List.length_cons, List.length_nil]; omega
/-- no beginning of a sealed text is opened, whatever the bound. -/
theorem topen_pre (s : List UInt8) (hs : s.length ≤ Dm.maxU) (k : Nat) (hk : k < (sld s).length) (most : Int) : (topen ((sld s).take k) most).2.2 ≠ 0 := by
  intro h
  obtain ⟨h1, h2, h3⟩ := topen_err h
  generalize topen ((sld s).take k) most = x at h1 h2 h3
  have e : sld s = sld x.1 ++ (x.2.1 ++ (sld s).drop k) := by
    conv => lhs; rw [← List.take_append_drop k (sld s), h1]
    simp
  have a1 := topen_sld x.1 (x.2.1 ++ (sld s).drop k) Dm.maxU h2 (by omega)
  have a2 := topen_sld s [] Dm.maxU hs (by omega)
  rw [List.append_nil, e, a1] at a2
  simp only [Prod.mk.injEq, and_true] at a2
  have a3 := congrArg List.length a2.2
  simp only [List.length_append, List.length_drop, List.length_nil] at a3
  omega

/-! ### Scanning -/
def scnF : Nat → List UInt8 → List (List UInt8) × List UInt8
  | 0, l => ([], l)
  | n + 1, l => if (topen l 2048).2.2 = 0 then ((topen l 2048).1 :: (scnF n (topen l 2048).2.1).1, (scnF n (topen l 2048).2.1).2) else ([], l)
/-- the records at the beginning of bytes, and what stands behind them. -/
def scn (l : List UInt8) : List (List UInt8) × List UInt8 := scnF l.length l
def flat (rs : List (List UInt8)) : List UInt8 := (rs.map sld).flatten
theorem flat_nil : flat [] = [] := rfl
theorem flat_cons (r : List UInt8) (rs : List (List UInt8)) : flat (r :: rs) = sld r ++ flat rs := by simp [flat]
theorem flat_app (a b : List (List UInt8)) : flat (a ++ b) = flat a ++ flat b := by simp [flat]
theorem flat_four (rs : List (List UInt8)) : rs.length * 4 ≤ (flat rs).length := by
  induction rs with
  | nil => simp
  | cons r rs ih => rw [flat_cons, List.length_append, List.length_cons]; have := sld_four r; omega
structure Scd (l : List UInt8) (rs : List (List UInt8)) (t : List UInt8) : Prop where
  eq : l = flat rs ++ t
  le : ∀ r ∈ rs, r.length ≤ 2048
  no : (topen t 2048).2.2 ≠ 0
theorem open_one (r : List UInt8) (t : List UInt8) (h : r.length ≤ 2048) : topen (sld r ++ t) 2048 = (r, t, 0) := topen_sld r t 2048 (by unfold Dm.maxU; omega) (by omega)
theorem scnF_eq : ∀ (rs : List (List UInt8)) (n : Nat) (l t : List UInt8), rs.length ≤ n → Scd l rs t → scnF n l = (rs, t)
  | [], 0, l, t, _, h => by have := h.eq; simp [flat_nil] at this; subst this; rfl
  | [], n + 1, l, t, _, h => by
    have e := h.eq; simp [flat_nil] at e; subst e
    unfold scnF; rw [if_neg h.no]
  | r :: rs, 0, l, t, hn, h => by simp at hn
  | r :: rs, n + 1, l, t, hn, h => by
    have e := h.eq
    rw [flat_cons, List.append_assoc] at e
    have ho := open_one r (flat rs ++ t) (h.le r (by simp))
    rw [← e] at ho
    have hi := scnF_eq rs n (flat rs ++ t) t (by simp at hn; omega) ⟨rfl, fun x hx => h.le x (List.mem_cons_of_mem _ hx), h.no⟩
    unfold scnF
    rw [ho]
    simp [hi]
theorem Scd.scn {l t : List UInt8} {rs : List (List UInt8)} (h : Scd l rs t) : scn l = (rs, t) := by
  refine scnF_eq rs l.length l t ?_ h
  have h1 := congrArg List.length h.eq
  have h2 := flat_four rs
  rw [List.length_append] at h1
  omega
theorem topen_nil : (topen [] 2048).2.2 ≠ 0 := by decide
theorem scdF : ∀ (n : Nat) (l : List UInt8), l.length ≤ n → Scd l (scnF n l).1 (scnF n l).2
  | 0, l, h => by
    have : l = [] := List.length_eq_zero_iff.1 (by omega)
    subst this
    exact ⟨rfl, by simp [scnF], topen_nil⟩
  | n + 1, l, h => by
    by_cases h0 : (topen l 2048).2.2 = 0
    · obtain ⟨h1, h2, h3⟩ := topen_err h0
      have e : scnF (n + 1) l = ((topen l 2048).1 :: (scnF n (topen l 2048).2.1).1, (scnF n (topen l 2048).2.1).2) := by rw [scnF, if_pos h0]
      rw [e]
      generalize topen l 2048 = x at h1 h2 h3 h0
      have h4 := congrArg List.length h1
      have h5 := sld_four x.1
      rw [List.length_append] at h4
      have ih := scdF n x.2.1 (by omega)
      refine ⟨?_, fun r hr => ?_, ih.no⟩
      · rw [flat_cons, List.append_assoc, ← ih.eq]; exact h1
      · rcases List.mem_cons.1 hr with rfl | hr
        · omega
        · exact ih.le r hr
    · have e : scnF (n + 1) l = ([], l) := by rw [scnF, if_neg h0]
      rw [e]
      exact ⟨rfl, by simp, h0⟩
theorem scd (l : List UInt8) : Scd l (scn l).1 (scn l).2 := scdF _ l (Nat.le_refl _)
theorem scn_yes {l s r : List UInt8} (h : topen l 2048 = (s, r, 0)) : scn l = (s :: (scn r).1, (scn r).2) := by
  obtain ⟨h1, h2, h3⟩ := topen_inv h
  have hr := scd r
  refine Scd.scn ⟨?_, fun x hx => ?_, hr.no⟩
  · rw [flat_cons, List.append_assoc, ← hr.eq]; exact h1
  · rcases List.mem_cons.1 hx with rfl | hx
    · omega
    · exact hr.le x hx
theorem scn_no {l : List UInt8} (h : (topen l 2048).2.2 ≠ 0) : scn l = ([], l) := Scd.scn ⟨rfl, by simp, h⟩
theorem scn_le (l : List UInt8) : (scn l).2.length ≤ l.length := by
  have := congrArg List.length (scd l).eq
  rw [List.length_append] at this; omega
/-- how many bytes were scanned. -/
def used (l : List UInt8) : Nat := l.length - (scn l).2.length
theorem used_flat (l : List UInt8) : used l = (flat (scn l).1).length := by
  have := congrArg List.length (scd l).eq
  rw [List.length_append] at this; unfold used; omega
theorem used_le (l : List UInt8) : used l ≤ l.length := by unfold used; omega
theorem take_used (l : List UInt8) : l.take (used l) = flat (scn l).1 := by
  rw [used_flat]
  conv => lhs; arg 2; rw [(scd l).eq]
  exact List.take_left' rfl
/-- records ahead of whatever bytes. -/
theorem scn_app (rs : List (List UInt8)) (h : ∀ r ∈ rs, r.length ≤ 2048) (b : List UInt8) : scn (flat rs ++ b) = (rs ++ (scn b).1, (scn b).2) := by
  have hb := scd b
  refine Scd.scn ⟨?_, fun x hx => ?_, hb.no⟩
  · rw [flat_app, List.append_assoc, ← hb.eq]
  · rcases List.mem_append.1 hx with hx | hx
    · exact h x hx
    · exact hb.le x hx
theorem scn_flat (rs : List (List UInt8)) (h : ∀ r ∈ rs, r.length ≤ 2048) : scn (flat rs) = (rs, []) := by
  have := scn_app rs h []
  rw [List.append_nil, scn_no topen_nil] at this
  simpa using this
/-- a beginning of a sealed text. -/
def Part (q : List UInt8) : Prop := ∃ r : List UInt8, r.length ≤ Dm.maxU ∧ ∃ k, k < (sld r).length ∧ q = (sld r).take k
theorem Part.nil : Part [] := ⟨[], by simp, 0, by have := sld_four []; omega, rfl⟩
theorem Part.pre {q p : List UInt8} (h : Part q) (hp : p <+: q) : Part p := by
  obtain ⟨r, hr, k, hk, rfl⟩ := h
  obtain ⟨t, ht⟩ := hp
  have hl := congrArg List.length ht
  rw [List.length_append, List.length_take] at hl
  refine ⟨r, hr, p.length, by omega, ?_⟩
  have e : p = ((sld r).take k).take p.length := by rw [← ht]; simp
  rw [List.take_take, Nat.min_eq_left (by omega)] at e
  exact e
theorem Part.no {q : List UInt8} (h : Part q) : (topen q 2048).2.2 ≠ 0 := by
  obtain ⟨r, hr, k, hk, rfl⟩ := h
  exact topen_pre r hr k hk 2048
theorem scn_part (rs : List (List UInt8)) (h : ∀ r ∈ rs, r.length ≤ 2048) {q : List UInt8} (hq : Part q) : scn (flat rs ++ q) = (rs, q) := by
  rw [scn_app rs h q, scn_no hq.no]; simp
/-- a beginning of records and a part of one is so, too. -/
theorem pre_part : ∀ (rs : List (List UInt8)) (q p : List UInt8), (∀ r ∈ rs, r.length ≤ 2048) → Part q → p <+: flat rs ++ q → ∃ us q', us <+: rs ∧ Part q' ∧ p = flat us ++ q'
  | [], q, p, _, hq, hp => by
    rw [flat_nil, List.nil_append] at hp
    exact ⟨[], p, List.prefix_refl _, hq.pre hp, by simp [flat_nil]⟩
  | r :: rs, q, p, hr, hq, hp => by
    rw [flat_cons, List.append_assoc] at hp
    rcases Nat.lt_or_ge p.length (sld r).length with a | a
    · refine ⟨[], p, List.nil_prefix, ⟨r, by have := hr r (by simp); unfold Dm.maxU; omega, p.length, a, ?_⟩, by simp [flat_nil]⟩
      exact List.prefix_iff_eq_take.1 (List.prefix_of_prefix_length_le hp (List.prefix_append _ _) (by omega))
    · have h1 : sld r <+: p := List.prefix_of_prefix_length_le (List.prefix_append _ _) hp a
      obtain ⟨p', rfl⟩ := h1
      have h2 : p' <+: flat rs ++ q := (List.prefix_append_right_inj _).1 hp
      obtain ⟨us, q', u1, u2, u3⟩ := pre_part rs q p' (fun x hx => hr x (List.mem_cons_of_mem _ hx)) hq h2
      refine ⟨r :: us, q', ?_, u2, by rw [flat_cons, List.append_assoc, ← u3]⟩
      exact (List.prefix_cons_inj r).2 u1

/-! ### Names -/
def segOk (seg : Int) : Prop := 1 ≤ seg ∧ seg ≤ 1000000
instance (seg : Int) : Decidable (segOk seg) := by unfold segOk; infer_instance
/-- a segment's name. -/
def nam (seg : Int) : List UInt8 := if segOk seg then 119 :: Dm.dg seg.toNat else []
def namB (seg : Int) : ByteArray := ⟨(nam seg).toArray⟩
def freshB : ByteArray := ⟨#[119, 46, 110, 101, 119]⟩
theorem nam_ok {seg : Int} (h : segOk seg) : nam seg = 119 :: Dm.dg seg.toNat := if_pos h
theorem nam_no {seg : Int} (h : ¬ segOk seg) : nam seg = [] := if_neg h
theorem namB_no {seg : Int} (h : ¬ segOk seg) : namB seg = ⟨#[]⟩ := by unfold namB; rw [nam_no h]
theorem nam_inj {a b : Int} (ha : segOk a) (hb : segOk b) (h : nam a = nam b) : a = b := by
  rw [nam_ok ha, nam_ok hb] at h
  have h1 := congrArg Dm.val (List.cons.inj h).2
  rw [Dm.val_dg, Dm.val_dg] at h1
  have h2 := ha.1; have h3 := hb.1
  omega
theorem namB_list (a : Int) : (namB a).data.toList = nam a := rfl
theorem namB_inj {a b : Int} (ha : segOk a) (hb : segOk b) (h : namB a = namB b) : a = b := nam_inj ha hb (by rw [← namB_list, ← namB_list, h])
theorem namB_size (a : Int) : (namB a).size = (nam a).length := by show (nam a).toArray.size = _; simp
theorem nam_len {a : Int} (h : segOk a) : 2 ≤ (nam a).length ∧ (nam a).length ≤ 8 := by
  rw [nam_ok h]
  have h1 := Dm.dg_pos a.toNat
  have h2 := Dm.dg_length_lt 7 a.toNat (by have := h.2; omega) (by omega)
  simp only [List.length_cons]; omega
theorem namB_ok {a : Int} (h : segOk a) : 2 ≤ (namB a).size ∧ (namB a).size ≤ 8 := by rw [namB_size]; exact nam_len h
theorem namB_fresh {a : Int} (h : segOk a) : namB a ≠ freshB := by
  intro e
  have e1 : nam a = [119, 46, 110, 101, 119] := by rw [← namB_list, e]; rfl
  rw [nam_ok h] at e1
  have e2 := (List.cons.inj e1).2
  have := Dm.all_dg a.toNat 46 (by rw [e2]; simp)
  exact absurd this (by decide)
theorem namB_emp {a : Int} (h : segOk a) : namB a ≠ ⟨#[]⟩ := by
  intro e
  have := (namB_ok h).1
  rw [e] at this
  exact absurd this (by decide)
end Go.Proofs.Ythcdcjidoacalaa
