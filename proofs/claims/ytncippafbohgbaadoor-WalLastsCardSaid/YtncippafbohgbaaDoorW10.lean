/- What the chunks lack. -/
import Derived.SizedLaws
import Derived.Carry
import Derived.Deep.Slices
import Derived.ChangeMaps5
import Derived.Maps.AppendAt
import Derived.Laws.AppendOwnNone
import Derived.Deep.DeepHandedRow
import Derived.SevenTiedAt
import Derived.LaidMore
import Derived.MakeChecks
import Derived.Stop.LaidErr
import Derived.Deep.DeepWitnessRowRef
import Derived.Test.YtncippafbohgbaaDoorW9
namespace Go.Proofs.YtncippafbohgbaaDoor
set_option maxRecDepth 100000
open Go.ChangeShapes Go.WideShapes Go.ChangeAt Go.RowKit
set_option linter.unusedVariables false

/-- the cells cs read as something of type t, and no part of it is beyond the reach. -/
def Rd (w : World) (t : TypeId) (cs : List Value) : Prop :=
  ∃ (H : Type) (enc : TypeId × Value → H) (n : Nat) (d : DataW H) (ps : List MemPlace), DataW.trod enc Tryd.prog w 0 (fun _ => true) true n t cs = some (d, ps) ∧ ∀ x ∈ d.weights Tryd.prog t, x ≤ 140737488351232

theorem Rd.int {w : World} {t : TypeId} {cs : List Value} {k : IntKind} (h : Rd w t cs) (ht : Tryd.prog.underlying t = some (.int k)) : ∃ n, cs = [.int k n] ∧ (Lit.int k n).wf = true := by
  obtain ⟨H, enc, n, d, ps, ht', hw⟩ := h
  obtain ⟨m, rfl, _, hm⟩ := DataW.trod_int ht ht'
  exact ⟨m, rfl, hm⟩
theorem Rd.bool {w : World} {t : TypeId} {cs : List Value} (h : Rd w t cs) (ht : Tryd.prog.underlying t = some .bool) : ∃ b, cs = [.bool b] := by
  obtain ⟨H, enc, n, d, ps, ht', hw⟩ := h
  obtain ⟨m, rfl, _⟩ := DataW.trod_bool ht ht'
  exact ⟨m, rfl⟩
theorem Rd.string {w : World} {t : TypeId} {cs : List Value} (h : Rd w t cs) (ht : Tryd.prog.underlying t = some .string) : ∃ s : ByteArray, cs = [.string s] ∧ s.size ≤ 140737488351232 := by
  obtain ⟨H, enc, n, d, ps, ht', hw⟩ := h
  obtain ⟨s, rfl, hx, hm⟩ := DataW.trod_string ht ht'
  injection hx with h1 h2
  subst h1
  have := hw s.data.toList.length (by simp [DataW.weights])
  exact ⟨s, rfl, by simpa using this⟩
theorem Rd.struct {w : World} {t : TypeId} {cs : List Value} {fs : Array Field} (h : Rd w t cs) (ht : Tryd.prog.underlying t = some (.struct fs)) :
    cs.length = Tryd.prog.cellsOf t ∧ ∀ (i : Nat) (f : Field), fs[i]? = some f → Rd w f.type ((cs.drop f.offset).take (Tryd.prog.cellsOf f.type)) := by
  obtain ⟨H, enc, n, d, ps, ht', hw⟩ := h
  obtain ⟨xs, m, rfl, hx, hl, hlen, hg⟩ := DataW.trod_struct ht ht'
  injection hx with h1 h2
  subst h1
  refine ⟨hl, fun i f hi => ?_⟩
  have hil : i < fs.size := (Array.getElem?_eq_some_iff.1 hi).1
  have hxi : xs[i]? = some xs[i] := List.getElem?_eq_getElem (by omega)
  refine ⟨H, enc, m, xs[i].1, xs[i].2, (hg i f hi).trans hxi, fun x hx => hw x ?_⟩
  simp only [DataW.weights, ht]
  exact DataW.weights_mem_each (j := i) (t := f.type) (d := xs[i].1) (by simp [hi]) (by simp [hxi]) x hx
theorem Rd.field {w : World} {t : TypeId} {cs : List Value} {fs : Array Field} (h : Rd w t cs) (ht : Tryd.prog.underlying t = some (.struct fs)) (i : Nat) {ty : TypeId} (off k : Nat) (hi : (fs[i]?).map (fun f => (f.type, f.offset)) = some (ty, off)) (hk : Tryd.prog.cellsOf ty = k) :
    Rd w ty ((cs.drop off).take k) := by
  obtain ⟨f, hf, he⟩ := Option.map_eq_some_iff.1 hi
  injection he with e1 e2
  subst e1 e2 hk
  exact (h.struct ht).2 i f hf
theorem weightsAll_mem {H : Type} {P : Program} {e : TypeId} {d : DataW H} : ∀ {l : List (DataW H)}, d ∈ l → ∀ x ∈ d.weights P e, x ∈ DataW.weightsAll P e l
  | d0 :: l, hd, x, hx => by
    simp only [DataW.weightsAll, List.mem_append]
    rcases List.mem_cons.1 hd with rfl | hd
    · exact .inl hx
    · exact .inr (weightsAll_mem hd x hx)
theorem Rd.slice {w : World} {t e : TypeId} {cs : List Value} (h : Rd w t cs) (ht : Tryd.prog.underlying t = some (.slice e)) :
    cs = [.slice none 0 0] ∨ ∃ (a : Addr) (len cap : Nat), cs = [.slice (some a) len cap] ∧ len ≤ cap ∧ cap ≤ maxLen ∧ cap * Tryd.prog.bytesOf e ≤ 140737488351232 ∧
      ∀ i, i < cap → ∃ cs', w.cells? 0 (a.add (i * Tryd.prog.cellsOf e)) (Tryd.prog.cellsOf e) = some cs' ∧ Rd w e cs' := by
  obtain ⟨H, enc, n, d, ps, ht', hw⟩ := h
  rcases Deep.open_slice ht ht' with ⟨h0, _⟩ | ⟨a, len, cap, m, n', D, Pl, hcs, hb, hl, hm, hmm, hx, hi⟩
  · exact .inl h0
  · right
    simp only [if_true] at hmm
    subst hmm
    injection hx with h1 h2
    subst h1
    simp only [DataW.weights, ht] at hw
    refine ⟨a, len, m, hcs, hl, hm, ?_, fun i hi' => ?_⟩
    · have := hw _ (List.mem_cons_self ..)
      simp only [List.length_map, List.length_range] at this
      rwa [show len + (m - len) = m by omega] at this
    · obtain ⟨cs', hc, htr⟩ := hi i hi'
      refine ⟨cs', hc, H, enc, n', D i, Pl i, htr, fun x hx => hw x (List.mem_cons_of_mem _ (List.mem_append.2 ?_))⟩
      by_cases hlt : i < len
      · exact .inl (weightsAll_mem (List.mem_map.2 ⟨i, by simpa using hlt, rfl⟩) x hx)
      · exact .inr (weightsAll_mem (List.mem_map.2 ⟨i - len, by simp; omega, by rw [show len + (i - len) = i by omega]⟩) x hx)

/-- the value v, an argument, reads so. -/
def RdV (w : World) (t : TypeId) (v : Value) : Prop := (∃ base, Value.okWide Tryd.prog w .any base t v) ∧ Rd w t v.cells.toList
theorem RdV.int {w : World} {t : TypeId} {v : Value} {k : IntKind} (h : RdV w t v) (ht : Tryd.prog.underlying t = some (.int k)) : ∃ n, v = .int k n ∧ (Lit.int k n).wf = true := by
  obtain ⟨⟨b, ho⟩, hr⟩ := h
  obtain ⟨n, rfl⟩ := okWide_int ht ho
  obtain ⟨m, e, hm⟩ := hr.int ht
  simp [Value.cells] at e
  subst e
  exact ⟨n, rfl, hm⟩
theorem RdV.bool {w : World} {t : TypeId} {v : Value} (h : RdV w t v) (ht : Tryd.prog.underlying t = some .bool) : ∃ b, v = .bool b := by
  obtain ⟨⟨b, ho⟩, hr⟩ := h
  obtain ⟨n, rfl⟩ := okWide_bool ht ho
  exact ⟨n, rfl⟩
theorem RdV.string {w : World} {t : TypeId} {v : Value} (h : RdV w t v) (ht : Tryd.prog.underlying t = some .string) : ∃ s : ByteArray, v = .string s ∧ s.size ≤ 140737488351232 := by
  obtain ⟨⟨b, ho⟩, hr⟩ := h
  obtain ⟨n, rfl⟩ := okWide_string ht ho
  obtain ⟨m, e, hm⟩ := hr.string ht
  simp [Value.cells] at e
  subst e
  exact ⟨n, rfl, hm⟩
theorem RdV.struct {w : World} {t : TypeId} {v : Value} {fs : Array Field} (h : RdV w t v) (ht : Tryd.prog.underlying t = some (.struct fs)) : ∃ cs : List Value, v = .agg cs.toArray ∧ Rd w t cs := by
  obtain ⟨⟨b, ho⟩, hr⟩ := h
  obtain ⟨cs, rfl, _⟩ := okWide_struct ht ho
  exact ⟨cs.toList, rfl, hr⟩
theorem RdV.slice {w : World} {t e : TypeId} {v : Value} (h : RdV w t v) (ht : Tryd.prog.underlying t = some (.slice e)) : ∃ A n c, v = .slice A n c ∧ Rd w t [.slice A n c] := by
  obtain ⟨⟨b, ho⟩, hr⟩ := h
  obtain ⟨A, n, c, rfl⟩ := okWide_slice ht ho
  exact ⟨A, n, c, rfl, hr⟩

theorem args2 {a : Array Value} (h : a.size = 2) : ∃ x y, a = #[x, y] := by
  obtain ⟨l⟩ := a
  match l, h with
  | [x, y], _ => exact ⟨x, y, rfl⟩
theorem laidOut_ : laidOutB Tryd.prog = true := by kernel_rfl
theorem ownKnob_ : ownKnob Tryd.prog.godebug = none := by kernel_rfl

theorem trodAll_keep {H : Type} {enc : TypeId × Value → H} {W W' : World} (hb : Q W W') : ∀ (ts : List TypeId) (vs : List Value) (ds : List (DataW H)) (ps : List MemPlace), (∀ t ∈ ts, Tryd.prog.readableRec t = true ∧ t < Tryd.prog.types.size) →
    DataW.TrodAll enc Tryd.prog W 0 (fun _ => true) true ts vs ds ps → (∀ x ∈ ps, x.block < W.heap.size) → DataW.TrodAll enc Tryd.prog W' 0 (fun b => decide (b < W.heap.size)) true ts vs ds ps
  | [], vs, ds, ps, _, h, _ => by
    obtain ⟨rfl, rfl, rfl⟩ := trodAll_nil h
    exact trodAll_mk0
  | t :: ts, vs, ds, ps, ht, h, hlt => by
    obtain ⟨v, vs', d, ds', p, q, rfl, rfl, rfl, h1, h2⟩ := trodAll_cons h
    exact ⟨p, q, Below.trod laidOut_ (ht t (by simp)).1 (ht t (by simp)).2 h1 hb.below (fun x hx => hlt x (by simp [hx])), trodAll_keep hb ts vs' ds' q (fun u hu => ht u (by simp [hu])) h2 (fun x hx => hlt x (by simp [hx])), rfl⟩

theorem trodAll_len {H : Type} {enc : TypeId × Value → H} {W : World} : ∀ (ts : List TypeId) (vs : List Value) (ds : List (DataW H)) (ps : List MemPlace), DataW.TrodAll enc Tryd.prog W 0 (fun _ => true) true ts vs ds ps → vs.length = ts.length ∧ ds.length = ts.length ∧
    ∀ (j : Nat) t v, ts[j]? = some t → vs[j]? = some v → ∃ d p, ds[j]? = some d ∧ DataW.Trod enc Tryd.prog W 0 (fun _ => true) true t v d p
  | [], vs, ds, ps, h => by
    obtain ⟨rfl, rfl, rfl⟩ := trodAll_nil h
    exact ⟨rfl, rfl, fun j t v hj => by simp at hj⟩
  | t :: ts, vs, ds, ps, h => by
    obtain ⟨v, vs', d, ds', p, q, rfl, rfl, rfl, h1, h2⟩ := trodAll_cons h
    obtain ⟨e1, e2, h3⟩ := trodAll_len ts vs' ds' q h2
    refine ⟨by simp [e1], by simp [e2], fun j t' v' hj hv => ?_⟩
    cases j with
    | zero =>
      simp only [List.getElem?_cons_zero, Option.some.injEq] at hj hv
      subst hj hv
      exact ⟨d, p, rfl, h1⟩
    | succ j => exact h3 j t' v' (by simpa using hj) (by simpa using hv)

end Go.Proofs.YtncippafbohgbaaDoor


namespace Go.Proofs.YtncippafbohgbaaDoor
set_option maxRecDepth 100000
open Go.ChangeShapes Go.WideShapes Go.RowKit
set_option linter.unusedVariables false

theorem choose_list {α : Type} {R : Nat → α → Prop} : ∀ (n : Nat), (∀ i, i < n → ∃ a, R i a) → ∃ l : List α, l.length = n ∧ ∀ i (hi : i < l.length), R i l[i]
  | 0, _ => ⟨[], rfl, fun i hi => by simp at hi⟩
  | n + 1, h => by
    obtain ⟨l, hl, hr⟩ := choose_list n (fun i hi => h i (by omega))
    obtain ⟨a, ha⟩ := h n (by omega)
    refine ⟨l ++ [a], by simp [hl], fun i hi => ?_⟩
    by_cases hlt : i < l.length
    · rw [List.getElem_append_left hlt]; exact hr i hlt
    · have e : i = l.length := by simp at hi; omega
      subst e
      rw [List.getElem_append_right (Nat.le_refl _)]
      simpa [hl] using ha

theorem flat_at {α : Type} (g : α → List Value) (k : Nat) (hg : ∀ a, (g a).length = k) : ∀ (l : List α) (j : Nat) (u : Value), (l.flatMap g)[j]? = some u → ∃ i r, ∃ hi : i < l.length, j = i * k + r ∧ r < k ∧ (g l[i])[r]? = some u
  | [], j, u, h => by simp at h
  | a :: l, j, u, h => by
    rw [List.flatMap_cons] at h
    by_cases hj : j < k
    · rw [List.getElem?_append_left (by rw [hg]; exact hj)] at h
      exact ⟨0, j, by simp, by omega, hj, by simpa using h⟩
    · rw [List.getElem?_append_right (by rw [hg]; omega), hg] at h
      obtain ⟨i, r, hi, he, hr, hu⟩ := flat_at g k hg l (j - k) u h
      refine ⟨i + 1, r, by simpa using hi, ?_, hr, by simpa using hu⟩
      rw [Nat.succ_mul]; omega
theorem flat_len {α : Type} (g : α → List Value) (k : Nat) (hg : ∀ a, (g a).length = k) : ∀ (l : List α), (l.flatMap g).length = l.length * k
  | [] => by simp
  | a :: l => by rw [List.flatMap_cons, List.length_append, hg, flat_len g k hg l, List.length_cons, Nat.succ_mul]; omega
theorem holds_flat {α : Type} (g : α → List Value) (k : Nat) (hg : ∀ a, (g a).length = k) (w : World) (ad : Addr) (l : List α) (h : ∀ i (hi : i < l.length), w.cells? 0 (ad.add (i * k)) k = some (g l[i])) :
    Holds w w.heap.size k (some ad) l.length (l.flatMap g) := by
  refine ⟨flat_len g k hg l, fun j u hu => ?_⟩
  obtain ⟨i, r, hi, rfl, hr, hv⟩ := flat_at g k hg l j u hu
  obtain ⟨_, _, hat⟩ := World.cells?_some (h i hi)
  have hc := hat r hr
  rw [hv, addr_add] at hc
  refine ⟨ad, rfl, ?_, hc⟩
  have := block_lt_of_cell hc
  rwa [addr_block] at this

theorem wf_i64 {x : Int} (h : (Lit.int .i64 x).wf = true) : -9223372036854775808 ≤ x ∧ x ≤ 9223372036854775807 := by
  simp only [Lit.wf, Bool.and_eq_true, decide_eq_true_eq] at h
  have e1 : IntKind.i64.min = -9223372036854775808 := by decide
  have e2 : IntKind.i64.max = 9223372036854775807 := by decide
  omega
end Go.Proofs.YtncippafbohgbaaDoor


namespace Go.Proofs.YtncippafbohgbaaDoor
set_option maxRecDepth 100000
open Go.RowKit
set_option linter.unusedVariables false

variable {α : Type}

section
variable {K : Kind α} {w w' : World} {base : Nat} {A : Option Addr} {n c : Nat} {l : List α}
theorem OwnK.spare {g : Nat} (h : OwnK K w base (some ⟨g, 0, none⟩) n c l) (j : Nat) (hj : j < c * K.k) : (w.cell? ⟨g, j, none⟩).isSome = true := by
  rcases h.parts with ⟨e, _⟩ | ⟨g', cur, e, hb, hh, hc, hm, hs, ht⟩
  · cases e
  injection e with e
  injection e with e
  subst e
  rw [cell_of_row _ _ j _ K.T (0, 0) hh, Array.getElem?_eq_getElem (by omega)]
  rfl
end

end Go.Proofs.YtncippafbohgbaaDoor


namespace Go.Proofs.YtncippafbohgbaaDoor
set_option maxRecDepth 100000
open Go.ChangeShapes Go.WideShapes Go.RowKit
set_option linter.unusedVariables false

theorem Kind.rows_flat {α : Type} (K : Kind α) (l : List α) : K.rows l = l.flatMap K.row := by
  induction l with
  | nil => rfl
  | cons f l ih => rw [Kind.rows, ih, List.flatMap_cons]
theorem open_kind {α : Type} (K : Kind α) (P : α → Prop) {w : World} (hel : ∀ cs, Rd w K.T cs → ∃ a, cs = K.row a ∧ P a) (hby : Tryd.prog.bytesOf K.T = K.bs) (hce : Tryd.prog.cellsOf K.T = K.k) {cs : List Value} (h : Rd w K.S cs) :
    ∃ A n c l, cs = [.slice A n c] ∧ In_ K w A n c l ∧ n * K.bs ≤ 140737488351232 ∧ ∀ a ∈ l, P a := by
  rcases h.slice K.und with rfl | ⟨a, len, cap, rfl, hlc, hcm, hb, hi⟩
  · exact ⟨none, 0, 0, [], rfl, In_.none_ K w, by simp, by simp⟩
  · rw [hby] at hb
    rw [hce] at hi
    have hlb : len * K.bs ≤ cap * K.bs := Nat.mul_le_mul_right _ hlc
    obtain ⟨l, hl, hr⟩ := choose_list (R := fun i (f : α) => w.cells? 0 (a.add (i * K.k)) K.k = some (K.row f) ∧ P f) len (fun i hlt => by
      obtain ⟨cs', hc, hrd⟩ := hi i (by omega)
      obtain ⟨f, rfl, hf⟩ := hel cs' hrd
      exact ⟨f, hc, hf⟩)
    refine ⟨some a, len, cap, l, rfl, ⟨?_, fun e => by (cases e), hlc, hcm, by omega⟩, by omega, fun f hf => ?_⟩
    · have := holds_flat K.row K.k K.len w a l (fun i hi => (hr i hi).1)
      rw [hl, ← K.rows_flat] at this
      exact this
    · obtain ⟨i, hi, rfl⟩ := List.getElem_of_mem hf
      exact (hr i hi).2
end Go.Proofs.YtncippafbohgbaaDoor


namespace Go.Proofs.YtncippafbohgbaaDoor
set_option maxRecDepth 100000
open Go.ChangeShapes Go.WideShapes Go.RowKit
set_option linter.unusedVariables false

theorem open_wact {w : World} {cs : List Value} (h : Rd w 33 cs) : ∃ p : WAct, cs = actK.row p ∧ ActIn p := by
  obtain ⟨hl, hf⟩ := h.struct Tryd.underlying33
  rw [show Tryd.prog.cellsOf 33 = 3 by kernel_rfl] at hl
  match cs, hl with
  | [a, b, c], _ =>
    obtain ⟨s0, e0, r0⟩ := (h.field Tryd.underlying33 0 (ty := 3) 0 1 rfl (by kernel_rfl)).int Tryd.underlying3
    obtain ⟨s1, e1, r1⟩ := (h.field Tryd.underlying33 1 (ty := 3) 1 1 rfl (by kernel_rfl)).int Tryd.underlying3
    obtain ⟨s2, e2, r2⟩ := (h.field Tryd.underlying33 2 (ty := 9) 2 1 rfl (by kernel_rfl)).string Tryd.underlying9
    simp at e0 e1 e2
    subst e0 e1 e2
    exact ⟨⟨s0, s1, s2⟩, rfl, wf_i64 r0, wf_i64 r1, r2⟩
theorem open_wacts {w : World} {cs : List Value} (h : Rd w 22 cs) : ∃ A n c l, cs = [.slice A n c] ∧ In_ actK w A n c l ∧ n * 32 ≤ 140737488351232 ∧ ∀ p ∈ l, ActIn p :=
  open_kind actK ActIn (fun cs hc => open_wact hc) (by kernel_rfl) (by kernel_rfl) h
end Go.Proofs.YtncippafbohgbaaDoor


namespace Go.Proofs.YtncippafbohgbaaDoor
set_option maxRecDepth 100000
open Go.ChangeShapes Go.WideShapes Go.RowKit Dkm
set_option linter.unusedVariables false

theorem rows_flat (l : List Fil) : rows l = l.flatMap Fil.row := by
  induction l with
  | nil => rfl
  | cons f l ih => rw [rows, ih, List.flatMap_cons]

end Go.Proofs.YtncippafbohgbaaDoor


namespace Go.Proofs.YtncippafbohgbaaDoor
set_option maxRecDepth 100000
open Go.ChangeShapes Go.WideShapes Go.ChangeAt Go.RowKit
set_option linter.unusedVariables false

/-- the cells cs read as something of type t of a bulk of at most 2^20. -/
def RdU (w : World) (t : TypeId) (cs : List Value) : Prop :=
  ∃ (H : Type) (enc : TypeId × Value → H) (n : Nat) (d : DataW H) (ps : List MemPlace), DataW.trod enc Tryd.prog w 0 (fun _ => true) true n t cs = some (d, ps) ∧ Rows.uptoBulk d ≤ 1048576
theorem bulk_one {H : Type} (d : DataW H) : 1 ≤ Rows.uptoBulk d := by
  cases d with
  | lit l => cases l <;> simp [Rows.uptoBulk]
  | nil => simp [Rows.uptoBulk]
  | ptr d => simp [Rows.uptoBulk]
  | slice elems spare => simp [Rows.uptoBulk]
  | agg parts => simp [Rows.uptoBulk]
  | iface t d => simp [Rows.uptoBulk]
  | map entries => simp [Rows.uptoBulk]
  | held h => simp [Rows.uptoBulk]
theorem bulk_part {H : Type} {d : DataW H} {l : List (DataW H)} (h : d ∈ l) : Rows.uptoBulk d ≤ Rows.uptoBulkAll l := by
  induction l with
  | nil => cases h
  | cons x r ih =>
    simp only [Rows.uptoBulkAll]
    cases List.mem_cons.1 h with
    | inl e => subst e; omega
    | inr e => have := ih e; omega
theorem bulk_len {H : Type} (l : List (DataW H)) : l.length ≤ Rows.uptoBulkAll l := by
  induction l with
  | nil => simp [Rows.uptoBulkAll]
  | cons x r ih => have := bulk_one x; simp only [Rows.uptoBulkAll, List.length_cons]; omega
theorem RdU.string {w : World} {t : TypeId} {s : ByteArray} (h : RdU w t [.string s]) (ht : Tryd.prog.underlying t = some .string) : s.size ≤ 1048576 := by
  obtain ⟨H, enc, n, d, ps, ht', hw⟩ := h
  obtain ⟨s', e, hx, hm⟩ := DataW.trod_string ht ht'
  injection hx with h1 h2
  subst h1
  simp only [List.cons.injEq, Value.string.injEq, and_true] at e
  subst e
  simp only [Rows.uptoBulk] at hw
  have : s.data.toList.length = s.size := by simp
  omega
theorem RdU.field {w : World} {t : TypeId} {cs : List Value} {fs : Array Field} (h : RdU w t cs) (ht : Tryd.prog.underlying t = some (.struct fs)) (i : Nat) {ty : TypeId} (off k : Nat) (hi : (fs[i]?).map (fun f => (f.type, f.offset)) = some (ty, off)) (hk : Tryd.prog.cellsOf ty = k) :
    RdU w ty ((cs.drop off).take k) := by
  obtain ⟨f, hf, he⟩ := Option.map_eq_some_iff.1 hi
  injection he with e1 e2
  subst e1 e2 hk
  obtain ⟨H, enc, n, d, ps, ht', hw⟩ := h
  obtain ⟨xs, m, rfl, hx, hl, hlen, hg⟩ := DataW.trod_struct ht ht'
  injection hx with h1 h2
  subst h1
  have hil : i < fs.size := (Array.getElem?_eq_some_iff.1 hf).1
  have hxi : xs[i]? = some xs[i] := List.getElem?_eq_getElem (by omega)
  refine ⟨H, enc, m, xs[i].1, xs[i].2, (hg i f hf).trans hxi, ?_⟩
  simp only [Rows.uptoBulk] at hw
  have := bulk_part (l := xs.map (·.1)) (List.mem_map.2 ⟨xs[i], List.getElem_mem _, rfl⟩)
  omega
theorem RdU.slice {w : World} {t e : TypeId} {a : Addr} {len cap : Nat} (h : RdU w t [.slice (some a) len cap]) (ht : Tryd.prog.underlying t = some (.slice e)) :
    cap ≤ 1048576 ∧ ∀ i, i < cap → ∃ cs', w.cells? 0 (a.add (i * Tryd.prog.cellsOf e)) (Tryd.prog.cellsOf e) = some cs' ∧ RdU w e cs' := by
  obtain ⟨H, enc, n, d, ps, ht', hw⟩ := h
  rcases Deep.open_slice ht ht' with ⟨h0, _⟩ | ⟨a', len', cap', m, n', D, Pl, hcs, hb, hl, hm, hmm, hx, hi⟩
  · simp at h0
  · simp only [List.cons.injEq, Value.slice.injEq, Option.some.injEq, and_true] at hcs
    obtain ⟨rfl, rfl, rfl⟩ := hcs
    simp only [if_true] at hmm
    subst hmm
    injection hx with h1 h2
    subst h1
    simp only [Rows.uptoBulk] at hw
    have l1 := bulk_len ((List.range len).map D)
    have l2 := bulk_len ((List.range (m - len)).map fun i => D (len + i))
    refine ⟨by simp only [List.length_map, List.length_range] at l1 l2; omega, fun i hi' => ?_⟩
    obtain ⟨cs', hc, htr⟩ := hi i hi'
    refine ⟨cs', hc, H, enc, n', D i, Pl i, htr, ?_⟩
    by_cases hlt : i < len
    · have := bulk_part (l := (List.range len).map D) (List.mem_map.2 ⟨i, by simpa using hlt, rfl⟩)
      omega
    · have := bulk_part (d := D i) (l := (List.range (m - len)).map fun i => D (len + i)) (List.mem_map.2 ⟨i - len, by simp; omega, by rw [show len + (i - len) = i by omega]⟩)
      omega

theorem RdU.cap {w : World} {t e : TypeId} {a : Addr} {len cap : Nat} (h : RdU w t [.slice (some a) len cap]) (ht : Tryd.prog.underlying t = some (.slice e)) : cap ≤ 1048576 := (h.slice ht).1
/-- A walk of a law in one world, whatever its arguments read as, gives what its row asks; 'up': its second form. -/
theorem coreU {f : FuncId} {fn : Func} {s : ChangeSpec} (up : Bool) (n : Nat) (hn : fn.params.size = n) (hvars : s.vars = []) (hrt : fn.resultTypes = #[4])
    (hread0 : fn.params.toList.all (fun t => Tryd.prog.readableRec t && decide (t < Tryd.prog.types.size)) = true)
    (hs : ∀ (H : Type) (ds : List (DataW H)), ds.length = n → (s.fn H ds).results = [.lit (.bool true)] ∧ (s.fn H ds).args = ds ∧ (s.fn H ds).vars = [])
    (H : Type) (enc : TypeId × Value → H) (W : World) (base : Nat) (args : Array Value) (ds gs : List (DataW H)) (before : List MemPlace)
    (hval : ∀ (j : Nat) t v, fn.params[j]? = some t → args[j]? = some v → Value.okWide Tryd.prog W .any base t v)
    (hW : DataW.Whole enc Tryd.prog fn.params.toList s.vars false W args.toList ds gs before)
    (hcond : up = true → Rows.uptoBulkAll (ds ++ gs) ≤ 1048576)
    (hsz : (DataW.weightsEach Tryd.prog (fn.params.toList ++ s.plain.varTypes Tryd.prog) (ds ++ gs)).all (· ≤ reachBytes) = true)
    (walk : args.size = n → (∀ (j : Nat) t v, fn.params[j]? = some t → args[j]? = some v → RdV W t v ∧ (up = true → RdU W t v.cells.toList)) → Calls Tryd.prog f args W fun e W' => e = .returned (.bool true) ∧ Q W W') :
    Calls Tryd.prog f args W fun e W' => ∃ v, e = .returned v ∧ s.post enc Tryd.prog fn false true false false W args v W' := by
  have hread : ∀ t ∈ fn.params.toList, Tryd.prog.readableRec t = true ∧ t < Tryd.prog.types.size := fun t ht => by
    have := List.all_eq_true.1 hread0 t ht
    simpa using this
  have hW' := hW
  have hlt : ∀ x ∈ before, x.block < W.heap.size := fun x hx => by simpa using hW.lt x hx
  obtain ⟨p, q, hA, hV, rfl, hfz, hnd⟩ := hW
  rw [hvars] at hV
  obtain ⟨rfl, rfl⟩ := trodVars_none hV
  obtain ⟨e1, e2, h3⟩ := trodAll_len _ _ _ _ hA
  have hps : fn.params.toList.length = n := by simpa using hn
  have hds : ds.length = n := by omega
  have hsz2 : ∀ x ∈ DataW.weightsEach Tryd.prog (fn.params.toList ++ s.plain.varTypes Tryd.prog) (ds ++ []), x ≤ 140737488351232 := fun x hx => by
    have := List.all_eq_true.1 hsz x hx
    simpa [reachBytes] using of_decide_eq_true this
  refine (walk (by rw [← hps, ← e1]; simp) (fun j t v hj hv => ?_)).mono fun e W' ⟨he, hg⟩ => ?_
  · obtain ⟨d, p', hd, fuel, htr⟩ := h3 j t v (by simpa using hj) (by simpa using hv)
    have hjl : j < n := by
      have := (Array.getElem?_eq_some_iff.1 hj).1; omega
    refine ⟨⟨⟨base, hval j t v hj hv⟩, H, enc, fuel, d, p', htr, fun x hx => hsz2 x (DataW.weights_mem_each (j := j) (t := t) (d := d) ?_ (by simpa using hd) x hx)⟩, fun hup => ⟨H, enc, fuel, d, p', htr, ?_⟩⟩
    · rw [List.getElem?_append_left (by omega)]
      simpa using hj
    · have h1 := hcond hup
      have h2 := bulk_part (d := d) (l := ds ++ []) (List.mem_append_left _ (List.mem_of_getElem? hd))
      omega
  · subst he
    simp only [List.append_nil] at hW' hlt
    obtain ⟨a1, a2, a3⟩ := hs H ds hds
    refine ⟨_, rfl, ds, [], p, [], p, [], hW', ?_, ?_, ?_, hg.below.frame _, fun h => by cases h⟩
    · rw [List.append_nil, a1, hrt]
      exact trodAll_mk1 (shut_bool Tryd.underlying4 _)
    · rw [List.append_nil, a2]
      exact trodAll_keep hg _ _ _ _ hread hA hlt
    · rw [List.append_nil, a3, hvars]
      rfl
end Go.Proofs.YtncippafbohgbaaDoor


namespace Go.Proofs.YtncippafbohgbaaDoor
set_option maxRecDepth 100000
open Go.ChangeShapes Go.WideShapes Go.ChangeAt Go.RowKit
set_option linter.unusedVariables false

/-- A walk of a law, whatever its arguments read as, gives what its row asks; 'up': its second form. -/
theorem framedC {f : FuncId} {fn : Func} {s : ChangeSpec} (up : Bool) (laid : List (String × DataW Unit)) (n : Nat) (hn : fn.params.size = n) (hvars : s.vars = []) (hrt : fn.resultTypes = #[4])
    (hread0 : fn.params.toList.all (fun t => Tryd.prog.readableRec t && decide (t < Tryd.prog.types.size)) = true)
    (hs : ∀ (H : Type) (ds : List (DataW H)), ds.length = n → (s.fn H ds).results = [.lit (.bool true)] ∧ (s.fn H ds).args = ds ∧ (s.fn H ds).vars = [])
    (walk : ∀ (W : World) (args : Array Value), args.size = n → (∀ (j : Nat) t v, fn.params[j]? = some t → args[j]? = some v → RdV W t v ∧ (up = true → RdU W t v.cells.toList)) → laidMetH Tryd.prog laid W → Calls Tryd.prog f args W fun e W' => e = .returned (.bool true) ∧ Q W W')
    (H : Type) (enc : TypeId × Value → H) (W : World) (base : Nat) (args : Array Value) (ds gs : List (DataW H)) (before : List MemPlace)
    (hval : ∀ (j : Nat) t v, fn.params[j]? = some t → args[j]? = some v → Value.okWide Tryd.prog W .any base t v)
    (hW : DataW.Whole enc Tryd.prog fn.params.toList s.vars false W args.toList ds gs before)
    (hcond : up = true → Rows.uptoBulkAll (ds ++ gs) ≤ 1048576)
    (hsz : (DataW.weightsEach Tryd.prog (fn.params.toList ++ s.plain.varTypes Tryd.prog) (ds ++ gs)).all (· ≤ reachBytes) = true)
    (hL : laidMetH Tryd.prog laid W) :
    Calls Tryd.prog f args W fun e W' => ∃ v, e = .returned v ∧ s.post enc Tryd.prog fn false true false false W args v W' :=
  coreU up n hn hvars hrt hread0 hs H enc W base args ds gs before hval hW hcond hsz fun h1 h2 => walk W args h1 h2 hL
end Go.Proofs.YtncippafbohgbaaDoor


namespace Go.Proofs.YtncippafbohgbaaDoor
set_option maxRecDepth 100000
open Go.ChangeShapes Go.WideShapes Go.ChangeAt Go.RowKit
set_option linter.unusedVariables false

theorem gPow : Tryd.prog.globalNamed "internal/strconv.uint64pow10" = some 0 := by kernel_rfl
theorem gPowType : (Tryd.prog.globals[0]?).map (·.type) = some 104 := by kernel_rfl
theorem gPowCells : Tryd.prog.cellsOf 104 = 20 := by kernel_rfl
theorem gPowElem : Tryd.prog.cellsOf 75 = 1 := by kernel_rfl
theorem tab_laid {x y : String × DataW Unit} {rest : List (String × DataW Unit)} {W : World} (hp : ((x :: y :: ("internal/strconv.uint64pow10", Rows.laid_internal_strconv_uint64pow10) :: rest).all fun z => z.2.handleName?.isNone) = true)
    (h : laidMetH Tryd.prog (x :: y :: ("internal/strconv.uint64pow10", Rows.laid_internal_strconv_uint64pow10) :: rest) W) : Tab W := by
  rw [MakeChecks.laidMetH_plain _ _ _ hp] at h
  have h2 : laidMet Tryd.prog (("internal/strconv.uint64pow10", Lib.tabData .u64 Lib.pow10Tab) :: rest) W := (laidMet.tail (laidMet.tail h))
  exact Lib.tabIs_of_head gPow gPowType Tryd.underlying104 Tryd.underlying75 gPowElem gPowCells h2
end Go.Proofs.YtncippafbohgbaaDoor

