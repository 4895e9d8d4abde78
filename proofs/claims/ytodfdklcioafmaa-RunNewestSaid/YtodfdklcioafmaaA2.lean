/- Frame, Bulk, FrameU, PairMath, TableMath: merged. -/
import Derived.Test.YtodfdklcioafmaaA1
import Derived.SizedLaws
import Derived.Carry
import Derived.Deep.Slices
import Derived.ChangeMaps5
import Derived.Deep.CondSized
/- The frame of every law: what an argument reads as (with its sizes), opened by its type; a walk under that reading gives the given statement. -/
namespace Go.Proofs.Ytodfdklcioafmaa
set_option maxRecDepth 100000
open Go.ChangeShapes Go.WideShapes Go.ChangeAt Go.RowKit
set_option linter.unusedVariables false

/-- the cells cs read as something of type t, and no part of it is beyond the reach. -/
def Rd (w : World) (t : TypeId) (cs : List Value) : Prop :=
  ∃ (H : Type) (enc : TypeId × Value → H) (n : Nat) (d : DataW H) (ps : List MemPlace), DataW.trod enc Try.prog w 0 (fun _ => true) true n t cs = some (d, ps) ∧ ∀ x ∈ d.weights Try.prog t, x ≤ 140737488351232

theorem Rd.int {w : World} {t : TypeId} {cs : List Value} {k : IntKind} (h : Rd w t cs) (ht : Try.prog.underlying t = some (.int k)) : ∃ n, cs = [.int k n] ∧ (Lit.int k n).wf = true := by
  obtain ⟨H, enc, n, d, ps, ht', hw⟩ := h
  obtain ⟨m, rfl, _, hm⟩ := DataW.trod_int ht ht'
  exact ⟨m, rfl, hm⟩
theorem Rd.bool {w : World} {t : TypeId} {cs : List Value} (h : Rd w t cs) (ht : Try.prog.underlying t = some .bool) : ∃ b, cs = [.bool b] := by
  obtain ⟨H, enc, n, d, ps, ht', hw⟩ := h
  obtain ⟨m, rfl, _⟩ := DataW.trod_bool ht ht'
  exact ⟨m, rfl⟩
theorem Rd.string {w : World} {t : TypeId} {cs : List Value} (h : Rd w t cs) (ht : Try.prog.underlying t = some .string) : ∃ s : ByteArray, cs = [.string s] ∧ s.size ≤ 140737488351232 := by
  obtain ⟨H, enc, n, d, ps, ht', hw⟩ := h
  obtain ⟨s, rfl, hx, hm⟩ := DataW.trod_string ht ht'
  injection hx with h1 h2
  subst h1
  have := hw s.data.toList.length (by simp [DataW.weights])
  exact ⟨s, rfl, by simpa using this⟩
theorem Rd.struct {w : World} {t : TypeId} {cs : List Value} {fs : Array Field} (h : Rd w t cs) (ht : Try.prog.underlying t = some (.struct fs)) :
    cs.length = Try.prog.cellsOf t ∧ ∀ (i : Nat) (f : Field), fs[i]? = some f → Rd w f.type ((cs.drop f.offset).take (Try.prog.cellsOf f.type)) := by
  obtain ⟨H, enc, n, d, ps, ht', hw⟩ := h
  obtain ⟨xs, m, rfl, hx, hl, hlen, hg⟩ := DataW.trod_struct ht ht'
  injection hx with h1 h2
  subst h1
  refine ⟨hl, fun i f hi => ?_⟩
  have hil : i < fs.size := (Array.getElem?_eq_some_iff.1 hi).1
  have hxi : xs[i]? = some xs[i] := List.getElem?_eq_getElem (by omega)
  refine ⟨H, enc, m, xs[i].1, xs[i].2, (hg i f hi).trans hxi, fun x hx => hw x ?_⟩
  simp only [DataW.weights, ht]
  exact DataW.weights_mem_each (j := i) (t := f.type) (d := xs[i].1) (by simp [hi]) (by simp [hxi]) x hx
theorem Rd.field {w : World} {t : TypeId} {cs : List Value} {fs : Array Field} (h : Rd w t cs) (ht : Try.prog.underlying t = some (.struct fs)) (i : Nat) {ty : TypeId} (off k : Nat) (hi : (fs[i]?).map (fun f => (f.type, f.offset)) = some (ty, off)) (hk : Try.prog.cellsOf ty = k) :
    Rd w ty ((cs.drop off).take k) := by
  obtain ⟨f, hf, he⟩ := Option.map_eq_some_iff.1 hi
  injection he with e1 e2
  subst e1 e2 hk
  exact (h.struct ht).2 i f hf
theorem weightsAll_mem {H : Type} {P : Program} {e : TypeId} {d : DataW H} : ∀ {l : List (DataW H)}, d ∈ l → ∀ x ∈ d.weights P e, x ∈ DataW.weightsAll P e l
  | d0 :: l, hd, x, hx => by
    simp only [DataW.weightsAll, List.mem_append]
    rcases List.mem_cons.1 hd with rfl | hd
    · exact .inl hx
    · exact .inr (weightsAll_mem hd x hx)
theorem Rd.slice {w : World} {t e : TypeId} {cs : List Value} (h : Rd w t cs) (ht : Try.prog.underlying t = some (.slice e)) :
    cs = [.slice none 0 0] ∨ ∃ (a : Addr) (len cap : Nat), cs = [.slice (some a) len cap] ∧ len ≤ cap ∧ cap ≤ maxLen ∧ cap * Try.prog.bytesOf e ≤ 140737488351232 ∧
      ∀ i, i < cap → ∃ cs', w.cells? 0 (a.add (i * Try.prog.cellsOf e)) (Try.prog.cellsOf e) = some cs' ∧ Rd w e cs' := by
  obtain ⟨H, enc, n, d, ps, ht', hw⟩ := h
  rcases Deep.open_slice ht ht' with ⟨h0, _⟩ | ⟨a, len, cap, m, n', D, Pl, hcs, hb, hl, hm, hmm, hx, hi⟩
  · exact .inl h0
  · right
    simp only [if_true] at hmm
    subst hmm
    injection hx with h1 h2
    subst h1
    simp only [DataW.weights, ht] at hw
    refine ⟨a, len, m, hcs, hl, hm, ?_, fun i hi' => ?_⟩
    · have := hw _ (List.mem_cons_self ..)
      simp only [List.length_map, List.length_range] at this
      rwa [show len + (m - len) = m by omega] at this
    · obtain ⟨cs', hc, htr⟩ := hi i hi'
      refine ⟨cs', hc, H, enc, n', D i, Pl i, htr, fun x hx => hw x (List.mem_cons_of_mem _ (List.mem_append.2 ?_))⟩
      by_cases hlt : i < len
      · exact .inl (weightsAll_mem (List.mem_map.2 ⟨i, by simpa using hlt, rfl⟩) x hx)
      · exact .inr (weightsAll_mem (List.mem_map.2 ⟨i - len, by simp; omega, by rw [show len + (i - len) = i by omega]⟩) x hx)

/-- the value v, an argument, reads so. -/
def RdV (w : World) (t : TypeId) (v : Value) : Prop := (∃ base, Value.okWide Try.prog w .any base t v) ∧ Rd w t v.cells.toList
theorem RdV.int {w : World} {t : TypeId} {v : Value} {k : IntKind} (h : RdV w t v) (ht : Try.prog.underlying t = some (.int k)) : ∃ n, v = .int k n ∧ (Lit.int k n).wf = true := by
  obtain ⟨⟨b, ho⟩, hr⟩ := h
  obtain ⟨n, rfl⟩ := okWide_int ht ho
  obtain ⟨m, e, hm⟩ := hr.int ht
  simp [Value.cells] at e
  subst e
  exact ⟨n, rfl, hm⟩
theorem RdV.bool {w : World} {t : TypeId} {v : Value} (h : RdV w t v) (ht : Try.prog.underlying t = some .bool) : ∃ b, v = .bool b := by
  obtain ⟨⟨b, ho⟩, hr⟩ := h
  obtain ⟨n, rfl⟩ := okWide_bool ht ho
  exact ⟨n, rfl⟩
theorem RdV.string {w : World} {t : TypeId} {v : Value} (h : RdV w t v) (ht : Try.prog.underlying t = some .string) : ∃ s : ByteArray, v = .string s ∧ s.size ≤ 140737488351232 := by
  obtain ⟨⟨b, ho⟩, hr⟩ := h
  obtain ⟨n, rfl⟩ := okWide_string ht ho
  obtain ⟨m, e, hm⟩ := hr.string ht
  simp [Value.cells] at e
  subst e
  exact ⟨n, rfl, hm⟩
theorem RdV.struct {w : World} {t : TypeId} {v : Value} {fs : Array Field} (h : RdV w t v) (ht : Try.prog.underlying t = some (.struct fs)) : ∃ cs : List Value, v = .agg cs.toArray ∧ Rd w t cs := by
  obtain ⟨⟨b, ho⟩, hr⟩ := h
  obtain ⟨cs, rfl, _⟩ := okWide_struct ht ho
  exact ⟨cs.toList, rfl, hr⟩
theorem RdV.slice {w : World} {t e : TypeId} {v : Value} (h : RdV w t v) (ht : Try.prog.underlying t = some (.slice e)) : ∃ A n c, v = .slice A n c ∧ Rd w t [.slice A n c] := by
  obtain ⟨⟨b, ho⟩, hr⟩ := h
  obtain ⟨A, n, c, rfl⟩ := okWide_slice ht ho
  exact ⟨A, n, c, rfl, hr⟩

theorem args1 {a : Array Value} (h : a.size = 1) : ∃ x, a = #[x] := by
  obtain ⟨l⟩ := a
  match l, h with
  | [x], _ => exact ⟨x, rfl⟩
theorem args2 {a : Array Value} (h : a.size = 2) : ∃ x y, a = #[x, y] := by
  obtain ⟨l⟩ := a
  match l, h with
  | [x, y], _ => exact ⟨x, y, rfl⟩
theorem args3 {a : Array Value} (h : a.size = 3) : ∃ x y z, a = #[x, y, z] := by
  obtain ⟨l⟩ := a
  match l, h with
  | [x, y, z], _ => exact ⟨x, y, z, rfl⟩
theorem args4 {a : Array Value} (h : a.size = 4) : ∃ x y z u, a = #[x, y, z, u] := by
  obtain ⟨l⟩ := a
  match l, h with
  | [x, y, z, u], _ => exact ⟨x, y, z, u, rfl⟩
theorem laidOut_ : laidOutB Try.prog = true := by kernel_rfl
theorem ownKnob_ : ownKnob Try.prog.godebug = none := by kernel_rfl

theorem trodAll_keep {H : Type} {enc : TypeId × Value → H} {W W' : World} (hb : Q W W') : ∀ (ts : List TypeId) (vs : List Value) (ds : List (DataW H)) (ps : List MemPlace), (∀ t ∈ ts, Try.prog.readableRec t = true ∧ t < Try.prog.types.size) →
    DataW.TrodAll enc Try.prog W 0 (fun _ => true) true ts vs ds ps → (∀ x ∈ ps, x.block < W.heap.size) → DataW.TrodAll enc Try.prog W' 0 (fun b => decide (b < W.heap.size)) true ts vs ds ps
  | [], vs, ds, ps, _, h, _ => by
    obtain ⟨rfl, rfl, rfl⟩ := trodAll_nil h
    exact trodAll_mk0
  | t :: ts, vs, ds, ps, ht, h, hlt => by
    obtain ⟨v, vs', d, ds', p, q, rfl, rfl, rfl, h1, h2⟩ := trodAll_cons h
    exact ⟨p, q, Below.trod laidOut_ (ht t (by simp)).1 (ht t (by simp)).2 h1 hb.below (fun x hx => hlt x (by simp [hx])), trodAll_keep hb ts vs' ds' q (fun u hu => ht u (by simp [hu])) h2 (fun x hx => hlt x (by simp [hx])), rfl⟩

theorem trodAll_len {H : Type} {enc : TypeId × Value → H} {W : World} : ∀ (ts : List TypeId) (vs : List Value) (ds : List (DataW H)) (ps : List MemPlace), DataW.TrodAll enc Try.prog W 0 (fun _ => true) true ts vs ds ps → vs.length = ts.length ∧ ds.length = ts.length ∧
    ∀ (j : Nat) t v, ts[j]? = some t → vs[j]? = some v → ∃ d p, ds[j]? = some d ∧ DataW.Trod enc Try.prog W 0 (fun _ => true) true t v d p
  | [], vs, ds, ps, h => by
    obtain ⟨rfl, rfl, rfl⟩ := trodAll_nil h
    exact ⟨rfl, rfl, fun j t v hj => by simp at hj⟩
  | t :: ts, vs, ds, ps, h => by
    obtain ⟨v, vs', d, ds', p, q, rfl, rfl, rfl, h1, h2⟩ := trodAll_cons h
    obtain ⟨e1, e2, h3⟩ := trodAll_len ts vs' ds' q h2
    refine ⟨by simp [e1], by simp [e2], fun j t' v' hj hv => ?_⟩
    cases j with
    | zero =>
      simp only [List.getElem?_cons_zero, Option.some.injEq] at hj hv
      subst hj hv
      exact ⟨d, p, rfl, h1⟩
    | succ j => exact h3 j t' v' (by simpa using hj) (by simpa using hv)

/-- A walk of a law, whatever its arguments read as, gives what its row asks. -/
theorem framed {f : FuncId} {fn : Func} {s : ChangeSpec} {conds : List PathCond} (n : Nat) (hfn : Try.prog.funcs[f]? = some fn) (hn : fn.params.size = n) (hvars : s.vars = []) (hrt : fn.resultTypes = #[4])
    (noInit : Try.prog.inits.idxOf? f = none) (hread0 : fn.params.toList.all (fun t => Try.prog.readableRec t && decide (t < Try.prog.types.size)) = true)
    (hs : ∀ (H : Type) (ds : List (DataW H)), ds.length = n → (s.fn H ds).results = [.lit (.bool true)] ∧ (s.fn H ds).args = ds ∧ (s.fn H ds).vars = [])
    (walk : ∀ (W : World) (args : Array Value), args.size = n → (∀ (j : Nat) t v, fn.params[j]? = some t → args[j]? = some v → RdV W t v) → Calls Try.prog f args W fun e W' => e = .returned (.bool true) ∧ Q W W')
    (os : Os) (started : os.Started) (H : Type) (enc : TypeId × Value → H)
    (witness : ∃ (w : World) (tape : Tape) (i : Input), w.os = os ∧ (w.forCall tape i).Shaped Try.prog ∧ i.vars = [] ∧ Input.okWide Try.prog (w.forCall tape i) .any w.heap.size f i ∧
      s.pre6 enc Try.prog fn conds false (w.forCall tape i).memory i.args ∧ ({} : Assume).holds Try.prog (lone (Frame.enter Try.prog f i.args .normal) [] (w.forCall tape i))) :
    ReturnsInHanded {} Try.checked os f .any (s.pre6 enc Try.prog fn conds false) (s.post enc Try.prog fn false true false false) := by
  have hread : ∀ t ∈ fn.params.toList, Try.prog.readableRec t = true ∧ t < Try.prog.types.size := fun t ht => by
    have := List.all_eq_true.1 hread0 t ht
    simpa using this
  refine returnsInHanded_of_change_sized (C := Try.checked) ownKnob_ started noInit hfn witness ?_
  intro W base args ds gs before hval hW hcnd hsz _
  have hW' := hW
  have hlt : ∀ x ∈ before, x.block < W.heap.size := fun x hx => by simpa using hW.lt x hx
  obtain ⟨p, q, hA, hV, rfl, hfz, hnd⟩ := hW
  rw [hvars] at hV
  obtain ⟨rfl, rfl⟩ := trodVars_none hV
  obtain ⟨e1, e2, h3⟩ := trodAll_len _ _ _ _ hA
  have hps : fn.params.toList.length = n := by simpa using hn
  have hds : ds.length = n := by omega
  have hsz2 : ∀ x ∈ DataW.weightsEach Try.prog (fn.params.toList ++ s.plain.varTypes Try.prog) (ds ++ []), x ≤ 140737488351232 := fun x hx => by
    have := List.all_eq_true.1 hsz x hx
    simpa [reachBytes] using of_decide_eq_true this
  refine (walk W args (by rw [← hps, ← e1]; simp) fun j t v hj hv => ⟨⟨base, hval j t v hj hv⟩, ?_⟩).mono fun e W' ⟨he, hg⟩ => ?_
  · obtain ⟨d, p', hd, fuel, htr⟩ := h3 j t v (by simpa using hj) (by simpa using hv)
    have hjl : j < n := by
      have := (Array.getElem?_eq_some_iff.1 hj).1; omega
    refine ⟨H, enc, fuel, d, p', htr, fun x hx => hsz2 x (DataW.weights_mem_each (j := j) (t := t) (d := d) ?_ (by simpa using hd) x hx)⟩
    rw [List.getElem?_append_left (by omega)]
    simpa using hj
  · subst he
    simp only [List.append_nil] at hW' hlt
    obtain ⟨a1, a2, a3⟩ := hs H ds hds
    refine ⟨_, rfl, ds, [], p, [], p, [], hW', ?_, ?_, ?_, hg.below.frame _, fun h => by cases h⟩
    · rw [List.append_nil, a1, hrt]
      exact trodAll_mk1 (shut_bool Try.underlying4 _)
    · rw [List.append_nil, a2]
      exact trodAll_keep hg _ _ _ _ hread hA hlt
    · rw [List.append_nil, a3, hvars]
      rfl
end Go.Proofs.Ytodfdklcioafmaa

/- What a law's arguments read as, where their bulk is bounded; a walk under that reading gives what the row asks. -/
namespace Go.Proofs.Ytodfdklcioafmaa
set_option maxRecDepth 100000
open Go.ChangeShapes Go.WideShapes Go.ChangeAt Go.RowKit
set_option linter.unusedVariables false

/-- the cells cs read as something of type t of a bulk of at most 2^20. -/
def RdU (w : World) (t : TypeId) (cs : List Value) : Prop :=
  ∃ (H : Type) (enc : TypeId × Value → H) (n : Nat) (d : DataW H) (ps : List MemPlace), DataW.trod enc Try.prog w 0 (fun _ => true) true n t cs = some (d, ps) ∧ Rows.uptoBulk d ≤ 1048576
theorem bulk_one {H : Type} (d : DataW H) : 1 ≤ Rows.uptoBulk d := by
  cases d with
  | lit l => cases l <;> simp [Rows.uptoBulk]
  | nil => simp [Rows.uptoBulk]
  | ptr d => simp [Rows.uptoBulk]
  | slice elems spare => simp [Rows.uptoBulk]
  | agg parts => simp [Rows.uptoBulk]
  | iface t d => simp [Rows.uptoBulk]
  | map entries => simp [Rows.uptoBulk]
  | held h => simp [Rows.uptoBulk]
theorem bulk_part {H : Type} {d : DataW H} {l : List (DataW H)} (h : d ∈ l) : Rows.uptoBulk d ≤ Rows.uptoBulkAll l := by
  induction l with
  | nil => cases h
  | cons x r ih =>
    simp only [Rows.uptoBulkAll]
    cases List.mem_cons.1 h with
    | inl e => subst e; omega
    | inr e => have := ih e; omega
theorem bulk_len {H : Type} (l : List (DataW H)) : l.length ≤ Rows.uptoBulkAll l := by
  induction l with
  | nil => simp [Rows.uptoBulkAll]
  | cons x r ih => have := bulk_one x; simp only [Rows.uptoBulkAll, List.length_cons]; omega
theorem RdU.string {w : World} {t : TypeId} {s : ByteArray} (h : RdU w t [.string s]) (ht : Try.prog.underlying t = some .string) : s.size ≤ 1048576 := by
  obtain ⟨H, enc, n, d, ps, ht', hw⟩ := h
  obtain ⟨s', e, hx, hm⟩ := DataW.trod_string ht ht'
  injection hx with h1 h2
  subst h1
  simp only [List.cons.injEq, Value.string.injEq, and_true] at e
  subst e
  simp only [Rows.uptoBulk] at hw
  have : s.data.toList.length = s.size := by simp
  omega
theorem RdU.field {w : World} {t : TypeId} {cs : List Value} {fs : Array Field} (h : RdU w t cs) (ht : Try.prog.underlying t = some (.struct fs)) (i : Nat) {ty : TypeId} (off k : Nat) (hi : (fs[i]?).map (fun f => (f.type, f.offset)) = some (ty, off)) (hk : Try.prog.cellsOf ty = k) :
    RdU w ty ((cs.drop off).take k) := by
  obtain ⟨f, hf, he⟩ := Option.map_eq_some_iff.1 hi
  injection he with e1 e2
  subst e1 e2 hk
  obtain ⟨H, enc, n, d, ps, ht', hw⟩ := h
  obtain ⟨xs, m, rfl, hx, hl, hlen, hg⟩ := DataW.trod_struct ht ht'
  injection hx with h1 h2
  subst h1
  have hil : i < fs.size := (Array.getElem?_eq_some_iff.1 hf).1
  have hxi : xs[i]? = some xs[i] := List.getElem?_eq_getElem (by omega)
  refine ⟨H, enc, m, xs[i].1, xs[i].2, (hg i f hf).trans hxi, ?_⟩
  simp only [Rows.uptoBulk] at hw
  have := bulk_part (l := xs.map (·.1)) (List.mem_map.2 ⟨xs[i], List.getElem_mem _, rfl⟩)
  omega
theorem RdU.slice {w : World} {t e : TypeId} {a : Addr} {len cap : Nat} (h : RdU w t [.slice (some a) len cap]) (ht : Try.prog.underlying t = some (.slice e)) :
    cap ≤ 1048576 ∧ ∀ i, i < cap → ∃ cs', w.cells? 0 (a.add (i * Try.prog.cellsOf e)) (Try.prog.cellsOf e) = some cs' ∧ RdU w e cs' := by
  obtain ⟨H, enc, n, d, ps, ht', hw⟩ := h
  rcases Deep.open_slice ht ht' with ⟨h0, _⟩ | ⟨a', len', cap', m, n', D, Pl, hcs, hb, hl, hm, hmm, hx, hi⟩
  · simp at h0
  · simp only [List.cons.injEq, Value.slice.injEq, Option.some.injEq, and_true] at hcs
    obtain ⟨rfl, rfl, rfl⟩ := hcs
    simp only [if_true] at hmm
    subst hmm
    injection hx with h1 h2
    subst h1
    simp only [Rows.uptoBulk] at hw
    have l1 := bulk_len ((List.range len).map D)
    have l2 := bulk_len ((List.range (m - len)).map fun i => D (len + i))
    refine ⟨by simp only [List.length_map, List.length_range] at l1 l2; omega, fun i hi' => ?_⟩
    obtain ⟨cs', hc, htr⟩ := hi i hi'
    refine ⟨cs', hc, H, enc, n', D i, Pl i, htr, ?_⟩
    by_cases hlt : i < len
    · have := bulk_part (l := (List.range len).map D) (List.mem_map.2 ⟨i, by simpa using hlt, rfl⟩)
      omega
    · have := bulk_part (d := D i) (l := (List.range (m - len)).map fun i => D (len + i)) (List.mem_map.2 ⟨i - len, by simp; omega, by rw [show len + (i - len) = i by omega]⟩)
      omega

theorem RdU.cap {w : World} {t e : TypeId} {a : Addr} {len cap : Nat} (h : RdU w t [.slice (some a) len cap]) (ht : Try.prog.underlying t = some (.slice e)) : cap ≤ 1048576 := (h.slice ht).1
/-- A walk of a law in one world, whatever its arguments read as, gives what its row asks; 'up': its second form. -/
theorem coreU {f : FuncId} {fn : Func} {s : ChangeSpec} (up : Bool) (n : Nat) (hn : fn.params.size = n) (hvars : s.vars = []) (hrt : fn.resultTypes = #[4])
    (hread0 : fn.params.toList.all (fun t => Try.prog.readableRec t && decide (t < Try.prog.types.size)) = true)
    (hs : ∀ (H : Type) (ds : List (DataW H)), ds.length = n → (s.fn H ds).results = [.lit (.bool true)] ∧ (s.fn H ds).args = ds ∧ (s.fn H ds).vars = [])
    (H : Type) (enc : TypeId × Value → H) (W : World) (base : Nat) (args : Array Value) (ds gs : List (DataW H)) (before : List MemPlace)
    (hval : ∀ (j : Nat) t v, fn.params[j]? = some t → args[j]? = some v → Value.okWide Try.prog W .any base t v)
    (hW : DataW.Whole enc Try.prog fn.params.toList s.vars false W args.toList ds gs before)
    (hcond : up = true → Rows.uptoBulkAll (ds ++ gs) ≤ 1048576)
    (hsz : (DataW.weightsEach Try.prog (fn.params.toList ++ s.plain.varTypes Try.prog) (ds ++ gs)).all (· ≤ reachBytes) = true)
    (walk : args.size = n → (∀ (j : Nat) t v, fn.params[j]? = some t → args[j]? = some v → RdV W t v ∧ (up = true → RdU W t v.cells.toList)) → Calls Try.prog f args W fun e W' => e = .returned (.bool true) ∧ Q W W') :
    Calls Try.prog f args W fun e W' => ∃ v, e = .returned v ∧ s.post enc Try.prog fn false true false false W args v W' := by
  have hread : ∀ t ∈ fn.params.toList, Try.prog.readableRec t = true ∧ t < Try.prog.types.size := fun t ht => by
    have := List.all_eq_true.1 hread0 t ht
    simpa using this
  have hW' := hW
  have hlt : ∀ x ∈ before, x.block < W.heap.size := fun x hx => by simpa using hW.lt x hx
  obtain ⟨p, q, hA, hV, rfl, hfz, hnd⟩ := hW
  rw [hvars] at hV
  obtain ⟨rfl, rfl⟩ := trodVars_none hV
  obtain ⟨e1, e2, h3⟩ := trodAll_len _ _ _ _ hA
  have hps : fn.params.toList.length = n := by simpa using hn
  have hds : ds.length = n := by omega
  have hsz2 : ∀ x ∈ DataW.weightsEach Try.prog (fn.params.toList ++ s.plain.varTypes Try.prog) (ds ++ []), x ≤ 140737488351232 := fun x hx => by
    have := List.all_eq_true.1 hsz x hx
    simpa [reachBytes] using of_decide_eq_true this
  refine (walk (by rw [← hps, ← e1]; simp) (fun j t v hj hv => ?_)).mono fun e W' ⟨he, hg⟩ => ?_
  · obtain ⟨d, p', hd, fuel, htr⟩ := h3 j t v (by simpa using hj) (by simpa using hv)
    have hjl : j < n := by
      have := (Array.getElem?_eq_some_iff.1 hj).1; omega
    refine ⟨⟨⟨base, hval j t v hj hv⟩, H, enc, fuel, d, p', htr, fun x hx => hsz2 x (DataW.weights_mem_each (j := j) (t := t) (d := d) ?_ (by simpa using hd) x hx)⟩, fun hup => ⟨H, enc, fuel, d, p', htr, ?_⟩⟩
    · rw [List.getElem?_append_left (by omega)]
      simpa using hj
    · have h1 := hcond hup
      have h2 := bulk_part (d := d) (l := ds ++ []) (List.mem_append_left _ (List.mem_of_getElem? hd))
      omega
  · subst he
    simp only [List.append_nil] at hW' hlt
    obtain ⟨a1, a2, a3⟩ := hs H ds hds
    refine ⟨_, rfl, ds, [], p, [], p, [], hW', ?_, ?_, ?_, hg.below.frame _, fun h => by cases h⟩
    · rw [List.append_nil, a1, hrt]
      exact trodAll_mk1 (shut_bool Try.underlying4 _)
    · rw [List.append_nil, a2]
      exact trodAll_keep hg _ _ _ _ hread hA hlt
    · rw [List.append_nil, a3, hvars]
      rfl
end Go.Proofs.Ytodfdklcioafmaa

/- The frame of a law's second form, where its row lists no table. -/
namespace Go.Proofs.Ytodfdklcioafmaa
set_option maxRecDepth 100000
open Go.ChangeShapes Go.WideShapes Go.ChangeAt Go.RowKit
set_option linter.unusedVariables false

theorem framedU {f : FuncId} {fn : Func} {s : ChangeSpec} {conds : List PathCond} (n : Nat) (hfn : Try.prog.funcs[f]? = some fn) (hn : fn.params.size = n) (hvars : s.vars = []) (hrt : fn.resultTypes = #[4])
    (noInit : Try.prog.inits.idxOf? f = none) (hread0 : fn.params.toList.all (fun t => Try.prog.readableRec t && decide (t < Try.prog.types.size)) = true)
    (hs : ∀ (H : Type) (ds : List (DataW H)), ds.length = n → (s.fn H ds).results = [.lit (.bool true)] ∧ (s.fn H ds).args = ds ∧ (s.fn H ds).vars = [])
    (walk : ∀ (W : World) (args : Array Value), args.size = n → (∀ (j : Nat) t v, fn.params[j]? = some t → args[j]? = some v → RdV W t v ∧ (true = true → RdU W t v.cells.toList)) → Calls Try.prog f args W fun e W' => e = .returned (.bool true) ∧ Q W W')
    (os : Os) (started : os.Started) (H : Type) (enc : TypeId × Value → H) (F : Stop.Interp)
    (witness : ∃ (w : World) (tape : Tape) (i : Input), w.os = os ∧ (w.forCall tape i).Shaped Try.prog ∧ i.vars = [] ∧ Input.okWide Try.prog (w.forCall tape i) .any w.heap.size f i ∧
      (Rows.OpenSpec.upto s).pre6 enc Try.prog fn conds false (w.forCall tape i).memory i.args ∧ ({} : Assume).holds Try.prog (lone (Frame.enter Try.prog f i.args .normal) [] (w.forCall tape i))) :
    ReturnsInHanded {} Try.checked os f .any ((Rows.OpenSpec.upto s).pre6 enc Try.prog fn conds false) (((Rows.OpenSpec.upto s).at F).post enc Try.prog fn false true false false) := by
  refine returnsInHanded_of_cond_sized (C := Try.checked) (s := Rows.OpenSpec.upto s) (k := Rows.uptoSmall) rfl ownKnob_ started noInit hfn witness ?_
  intro W base args ds gs before hval hW _ hk hsz _
  exact coreU (s := s) true n hn hvars hrt hread0 hs H enc W base args ds gs before hval hW (fun _ => of_decide_eq_true hk) hsz fun h1 h2 => walk W args h1 h2
end Go.Proofs.Ytodfdklcioafmaa

/- Pairs, writes and what writes make of pairs: plain mathematics. -/
namespace Go.Proofs.Ytodfdklcioafmaa.Prm
set_option maxRecDepth 100000
set_option linter.unusedVariables false

/-- the order of texts, by their bytes. -/
def lt (a b : ByteArray) : Bool := Op.bytesLess a.data.toList b.data.toList
theorem lt_data (a b : ByteArray) : Op.bytesLess a.toList b.toList = lt a b := by unfold lt; rw [ByteArray.toList_eq, ByteArray.toList_eq]
theorem less_eq : ∀ (x y : List UInt8), Op.bytesLess x y = decide (x < y)
  | [], y => by cases y <;> simp [Op.bytesLess]
  | a :: x, [] => by simp [Op.bytesLess]
  | a :: x, b :: y => by
    simp only [Op.bytesLess, less_eq x y, List.cons_lt_cons_iff, Bool.decide_or, Bool.decide_and]
    rfl
theorem lt_iff (a b : ByteArray) : lt a b = true ↔ a.data.toList < b.data.toList := by unfold lt; rw [less_eq]; simp
theorem lt_irrefl (a : ByteArray) : lt a a = false := by
  cases h : lt a a with
  | false => rfl
  | true => exact absurd ((lt_iff a a).1 h) (List.lt_irrefl _)
theorem lt_trans {a b c : ByteArray} (h : lt a b = true) (k : lt b c = true) : lt a c = true := (lt_iff a c).2 (List.lt_trans ((lt_iff a b).1 h) ((lt_iff b c).1 k))
theorem lt_asymm {a b : ByteArray} (h : lt a b = true) : lt b a = false := by
  cases k : lt b a with
  | false => rfl
  | true => have := lt_trans h k; rw [lt_irrefl] at this; cases this
theorem lt_ne {a b : ByteArray} (h : lt a b = true) : a ≠ b := fun e => by subst e; rw [lt_irrefl] at h; cases h
theorem lt_tri {a b : ByteArray} (h : a ≠ b) (k : lt a b = false) : lt b a = true := by
  rcases Std.lt_trichotomy (α := List UInt8) a.data.toList b.data.toList with h1 | h1 | h1
  · rw [(lt_iff a b).2 h1] at k; cases k
  · exact absurd (ByteArray.ext (Array.ext' h1)) h
  · exact (lt_iff b a).2 h1
theorem ge_trans {a b c : ByteArray} (h : lt a b = false) (k : lt b c = false) : lt a c = false := by
  cases e : lt a c with
  | false => rfl
  | true =>
    by_cases hab : a = b
    · subst hab; rw [e] at k; cases k
    · have := lt_trans (lt_tri hab h) e; rw [this] at k; cases k

structure Pr where
  key : ByteArray
  val : ByteArray
deriving DecidableEq
structure Wr where
  key : ByteArray
  val : ByteArray
  del : Bool
deriving DecidableEq

/-- the place of the first one, or -1. -/
def idx {α : Type} (p : α → Bool) (l : List α) (i : Nat) : Int :=
  match l with
  | [] => -1
  | a :: l => if p a then i else idx p l (i + 1)
theorem idx_drop {α : Type} (p : α → Bool) (l : List α) {k : Nat} (hk : k < l.length) : idx p (l.drop k) k = if p l[k] then (k : Int) else idx p (l.drop (k + 1)) (k + 1) := by
  rw [List.drop_eq_getElem_cons hk]; rfl
theorem idx_end {α : Type} (p : α → Bool) (l : List α) {k : Nat} (hk : l.length ≤ k) : idx p (l.drop k) k = -1 := by rw [List.drop_of_length_le hk]; rfl
theorem idx_cases {α : Type} (p : α → Bool) : ∀ (l : List α) (i : Nat), (idx p l i = -1 ∧ ∀ a ∈ l, p a = false) ∨ ∃ k, ∃ h : k < l.length, idx p l i = ((i + k : Nat) : Int) ∧ p l[k] = true ∧ ∀ j, ∀ hj : j < l.length, j < k → p l[j] = false
  | [], i => .inl ⟨rfl, by simp⟩
  | a :: l, i => by
    by_cases h : p a = true
    · exact .inr ⟨0, by simp, by simp [idx, h], by simpa using h, fun j _ hj => by omega⟩
    · have h' : p a = false := by simpa using h
      rcases idx_cases p l (i + 1) with ⟨e, hall⟩ | ⟨k, hk, e, hp, hfirst⟩
      · refine .inl ⟨by simp [idx, h', e], fun b hb => ?_⟩
        rcases List.mem_cons.1 hb with rfl | hb
        · exact h'
        · exact hall b hb
      · refine .inr ⟨k + 1, by simpa using hk, by simp only [idx, h', e]; simp; omega, by simpa using hp, fun j hj hjk => ?_⟩
        cases j with
        | zero => simpa using h'
        | succ j => simpa using hfirst j (by simpa using hj) (by omega)

def hasK (k : ByteArray) (p : Pr) : Bool := decide (p.key = k)
def aboveK (k : ByteArray) (p : Pr) : Bool := lt k p.key

/-- a key's value. -/
def find (k : ByteArray) : List Pr → ByteArray × Bool
  | [] => (⟨#[]⟩, false)
  | p :: l => if hasK k p then (p.val, true) else find k l
theorem find_none {k : ByteArray} : ∀ {l : List Pr}, (∀ a ∈ l, hasK k a = false) → find k l = (⟨#[]⟩, false)
  | [], _ => rfl
  | p :: l, h => by rw [find, h p (by simp)]; exact find_none fun a ha => h a (by simp [ha])
theorem find_at {k : ByteArray} : ∀ {l : List Pr} {i : Nat} (hi : i < l.length), hasK k l[i] = true → (∀ j, ∀ hj : j < l.length, j < i → hasK k l[j] = false) → find k l = (l[i].val, true)
  | p :: l, 0, _, h, _ => by rw [find, if_pos (by simpa using h)]; rfl
  | p :: l, i + 1, hi, h, hf => by
    have h0 := hf 0 (by simp) (by omega)
    simp only [List.getElem_cons_zero] at h0
    rw [find, h0]
    exact find_at (l := l) (i := i) (by simpa using hi) (by simpa using h) fun j hj hji => hf (j + 1) (by simpa using hj) (by omega)

/-- a pair that is put: in the place of the first one of its key; else ahead of the first one above it. -/
def ins (p : Pr) : List Pr → List Pr
  | [] => [p]
  | q :: l => if lt p.key q.key then p :: q :: l else q :: ins p l
def setF (p : Pr) : List Pr → List Pr
  | [] => []
  | q :: l => if hasK p.key q then p :: l else q :: setF p l
def put (l : List Pr) (p : Pr) : List Pr := if (find p.key l).2 then setF p l else ins p l
def drop (l : List Pr) (k : ByteArray) : List Pr := l.filter fun q => !hasK k q
def act (l : List Pr) (w : Wr) : List Pr := if w.del then drop l w.key else put l ⟨w.key, w.val⟩
def apply (l : List Pr) (ws : List Wr) : List Pr := ws.foldl act l
def btw (lo hi : ByteArray) (k : ByteArray) : Bool := !lt k lo && (decide (hi = ⟨#[]⟩) || lt k hi)
def range (l : List Pr) (lo hi : ByteArray) (most : Int) : List Pr := (l.filter fun p => btw lo hi p.key).take most.toNat
def right : List Pr → Bool
  | [] => true
  | p :: l => (match l with | [] => true | q :: _ => lt p.key q.key) && right l

theorem ins_len (p : Pr) (l : List Pr) : (ins p l).length = l.length + 1 := by
  induction l with
  | nil => rfl
  | cons q l ih => simp only [ins]; split <;> simp [ih]
theorem setF_len (p : Pr) (l : List Pr) : (setF p l).length = l.length := by
  induction l with
  | nil => rfl
  | cons q l ih => simp only [setF]; split <;> simp [ih]
theorem put_len (l : List Pr) (p : Pr) : (put l p).length ≤ l.length + 1 := by
  unfold put; split
  · rw [setF_len]; omega
  · rw [ins_len]; exact Nat.le_refl _
theorem drop_len (l : List Pr) (k : ByteArray) : (drop l k).length ≤ l.length := List.length_filter_le _ _
theorem act_len (l : List Pr) (w : Wr) : (act l w).length ≤ l.length + 1 := by
  unfold act; split
  · have := drop_len l w.key; omega
  · exact put_len _ _
theorem apply_snoc (l : List Pr) (ws : List Wr) {k : Nat} (hk : k < ws.length) : apply l (ws.take (k + 1)) = act (apply l (ws.take k)) ws[k] := by
  unfold apply
  rw [List.take_succ_eq_append_getElem hk, List.foldl_append]; rfl
theorem apply_len (l : List Pr) (ws : List Wr) : (apply l ws).length ≤ l.length + ws.length := by
  induction ws generalizing l with
  | nil => simp [apply]
  | cons w ws ih =>
    have h1 := ih (act l w)
    have h2 := act_len l w
    simp only [apply, List.foldl_cons, List.length_cons] at h1 ⊢
    omega
theorem apply_one (l : List Pr) (w : Wr) : apply l [w] = act l w := rfl

/-- by the places of what the program looks for. -/
theorem put_has {l : List Pr} {p : Pr} {i : Nat} (hi : i < l.length) (h : hasK p.key l[i] = true) (hf : ∀ j, ∀ hj : j < l.length, j < i → hasK p.key l[j] = false) : put l p = l.set i p := by
  unfold put
  rw [find_at hi h hf]
  simp only [if_true]
  induction l generalizing i with
  | nil => simp at hi
  | cons q l ih =>
    cases i with
    | zero => simp only [List.getElem_cons_zero] at h; simp [setF, h]
    | succ i =>
      have h0 := hf 0 (by simp) (by omega)
      simp only [List.getElem_cons_zero] at h0
      simp only [setF, h0, List.set_cons_succ]
      rw [← ih (i := i) (by simpa using hi) (by simpa using h) fun j hj hji => hf (j + 1) (by simpa using hj) (by omega)]
      simp
theorem put_new {l : List Pr} {p : Pr} (h : ∀ a ∈ l, hasK p.key a = false) : put l p = ins p l := by
  unfold put; rw [find_none h]; simp
theorem ins_at {l : List Pr} {p : Pr} {i : Nat} (hi : i ≤ l.length) (h : ∀ hi : i < l.length, aboveK p.key l[i] = true) (hf : ∀ j, ∀ hj : j < l.length, j < i → aboveK p.key l[j] = false) : ins p l = l.take i ++ p :: l.drop i := by
  induction l generalizing i with
  | nil => have : i = 0 := by simpa using hi
           subst this; rfl
  | cons q l ih =>
    cases i with
    | zero =>
      have h1 := h (by simp)
      simp only [List.getElem_cons_zero, aboveK] at h1
      simp [ins, h1]
    | succ i =>
      have h0 := hf 0 (by simp) (by omega)
      simp only [List.getElem_cons_zero, aboveK] at h0
      simp only [ins, h0, List.take_succ_cons, List.drop_succ_cons, List.cons_append]
      rw [← ih (i := i) (by simpa using hi) (fun hi' => h (by simpa using hi')) fun j hj hji => hf (j + 1) (by simpa using hj) (by omega)]
      simp
end Go.Proofs.Ytodfdklcioafmaa.Prm

/- Pairs: what the laws say of them, plain mathematics. -/
namespace Go.Proofs.Ytodfdklcioafmaa.Prm
set_option maxRecDepth 100000
set_option linter.unusedVariables false

theorem hasK_same (p : Pr) : hasK p.key p = true := by simp [hasK]
theorem hasK_other {p : Pr} {o : ByteArray} (h : p.key ≠ o) : hasK o p = false := by simp [hasK, h]
theorem find_cons (o : ByteArray) (p : Pr) (l : List Pr) : find o (p :: l) = if hasK o p then (p.val, true) else find o l := rfl

theorem find_ins_other {o : ByteArray} {p : Pr} (h : p.key ≠ o) : ∀ (l : List Pr), find o (ins p l) = find o l
  | [] => by simp [ins, find_cons, hasK_other h]
  | q :: l => by
    simp only [ins]
    split
    · rw [find_cons, hasK_other h]; rfl
    · rw [find_cons, find_cons, find_ins_other h l]
theorem find_setF_other {o : ByteArray} {p : Pr} (h : p.key ≠ o) : ∀ (l : List Pr), find o (setF p l) = find o l
  | [] => rfl
  | q :: l => by
    simp only [setF]
    by_cases hq : hasK p.key q = true
    · rw [if_pos hq, find_cons, find_cons, hasK_other h, hasK_other (p := q) (by simp [hasK] at hq; rw [hq]; exact h)]
      simp
    · rw [if_neg hq, find_cons, find_cons, find_setF_other h l]
theorem find_put_other {o : ByteArray} {p : Pr} (h : p.key ≠ o) (l : List Pr) : find o (put l p) = find o l := by
  unfold put; split
  · exact find_setF_other h l
  · exact find_ins_other h l
theorem find_drop_other {o k : ByteArray} (h : k ≠ o) : ∀ (l : List Pr), find o (drop l k) = find o l
  | [] => rfl
  | q :: l => by
    have ih := find_drop_other h l
    unfold drop at ih ⊢
    rw [List.filter_cons]
    by_cases hq : hasK k q = true
    · rw [hq, find_cons, hasK_other (p := q) (by simp [hasK] at hq; rw [hq]; exact h)]
      simpa using ih
    · have hq' : hasK k q = false := by simpa using hq
      rw [hq']
      simp only [Bool.not_false, if_true]
      rw [find_cons, find_cons, ih]
theorem find_ins_same {p : Pr} : ∀ (l : List Pr), (∀ a ∈ l, hasK p.key a = false) → find p.key (ins p l) = (p.val, true)
  | [], _ => by simp [ins, find_cons, hasK_same]
  | q :: l, h => by
    simp only [ins]
    split
    · rw [find_cons, hasK_same]; rfl
    · rw [find_cons, h q (by simp), find_ins_same l fun a ha => h a (by simp [ha])]; rfl
theorem find_some_or {k : ByteArray} : ∀ (l : List Pr), (find k l).2 = false → ∀ a ∈ l, hasK k a = false
  | [], _, a, ha => by simp at ha
  | q :: l, h, a, ha => by
    rw [find_cons] at h
    by_cases hq : hasK k q = true
    · rw [if_pos hq] at h; cases h
    · rw [if_neg hq] at h
      rcases List.mem_cons.1 ha with rfl | ha
      · simpa using hq
      · exact find_some_or l h a ha
theorem find_setF_same {p : Pr} : ∀ (l : List Pr), (find p.key l).2 = true → find p.key (setF p l) = (p.val, true)
  | [], h => by cases h
  | q :: l, h => by
    simp only [setF]
    by_cases hq : hasK p.key q = true
    · rw [if_pos hq, find_cons, hasK_same]; rfl
    · rw [if_neg hq, find_cons, if_neg hq]
      rw [find_cons, if_neg hq] at h
      exact find_setF_same l h
theorem find_put_same (l : List Pr) (p : Pr) : find p.key (put l p) = (p.val, true) := by
  unfold put
  cases h : (find p.key l).2 with
  | true => exact find_setF_same l h
  | false => exact find_ins_same l (find_some_or l h)
theorem find_drop_same (l : List Pr) (k : ByteArray) : find k (drop l k) = (⟨#[]⟩, false) := find_none fun a ha => by
  have := (List.mem_filter.1 ha).2
  simpa using this

/-- what the last write of a key says. -/
def lastW (key : ByteArray) (r : ByteArray × Bool) (w : Wr) : ByteArray × Bool := if w.key = key then (if w.del then ⟨#[]⟩ else w.val, !w.del) else r
theorem find_act (key : ByteArray) (l : List Pr) (w : Wr) : find key (act l w) = lastW key (find key l) w := by
  unfold act lastW
  by_cases h : w.key = key
  · subst h
    cases hd : w.del with
    | true => simp only [if_true]; rw [find_drop_same]; rfl
    | false =>
      have := find_put_same l ⟨w.key, w.val⟩
      simpa using this
  · rw [if_neg h]
    split
    · exact find_drop_other h l
    · exact find_put_other (p := ⟨w.key, w.val⟩) h l
theorem find_apply (key : ByteArray) (ws : List Wr) : ∀ (l : List Pr), find key (apply l ws) = ws.foldl (lastW key) (find key l) := by
  induction ws with
  | nil => intro l; rfl
  | cons w ws ih => intro l; show find key (apply (act l w) ws) = _; rw [ih, find_act]; rfl

/-- two puts of one key. -/
theorem hasK_key {k : ByteArray} {q : Pr} (h : hasK k q = true) : q.key = k := by simpa [hasK] using h
theorem setF_setF {p p' : Pr} (hk : p.key = p'.key) : ∀ (l : List Pr), setF p' (setF p l) = setF p' l
  | [] => rfl
  | q :: l => by
    simp only [setF]
    by_cases hq : hasK p.key q = true
    · rw [if_pos hq, if_pos (by rw [← hk]; exact hq)]
      simp only [setF]
      rw [if_pos (by rw [← hk]; exact hasK_same p)]
    · rw [if_neg hq, if_neg (by rw [← hk]; exact hq)]
      simp only [setF]
      rw [if_neg (by rw [← hk]; exact hq), setF_setF hk l]
theorem setF_ins {p p' : Pr} (hk : p.key = p'.key) : ∀ (l : List Pr), (∀ a ∈ l, hasK p.key a = false) → setF p' (ins p l) = ins p' l
  | [], _ => by simp only [ins, setF]; rw [if_pos (by rw [← hk]; exact hasK_same p)]
  | q :: l, h => by
    simp only [ins, ← hk]
    by_cases hq : lt p.key q.key = true
    · rw [if_pos hq, if_pos hq]; simp only [setF]; rw [if_pos (by rw [← hk]; exact hasK_same p)]
    · rw [if_neg hq, if_neg hq]
      simp only [setF]
      rw [if_neg (by rw [← hk, h q (by simp)]; simp), setF_ins hk l fun a ha => h a (by simp [ha])]
theorem put_put (l : List Pr) {p p' : Pr} (hk : p.key = p'.key) : put (put l p) p' = put l p' := by
  have h2 : (find p'.key (put l p)).2 = true := by rw [← hk, find_put_same]
  rw [put, if_pos h2]
  unfold put
  cases h : (find p.key l).2 with
  | true => rw [if_pos rfl, if_pos (by rw [← hk]; exact h), setF_setF hk]
  | false => rw [if_neg (by simp), if_neg (by rw [← hk, h]; simp), setF_ins hk l (find_some_or l h)]
theorem put_there {l : List Pr} {k v : ByteArray} (h : find k l = (v, true)) : put l ⟨k, v⟩ = l := by
  have hs : ∀ (l : List Pr), find k l = (v, true) → setF ⟨k, v⟩ l = l := by
    intro l
    induction l with
    | nil => intro h; cases h
    | cons q l ih =>
      intro h
      simp only [setF]
      rw [find_cons] at h
      by_cases hq : hasK k q = true
      · rw [if_pos hq] at h ⊢
        injection h with h _
        subst h
        rw [show (⟨k, q.val⟩ : Pr) = q by rw [← hasK_key hq]]
      · rw [if_neg hq] at h ⊢
        rw [ih h]
  rw [put, if_pos (by rw [h])]
  exact hs l h

/-- right rows. -/
def Sorted (l : List Pr) : Prop := l.Pairwise fun a b => lt a.key b.key = true
theorem right_iff : ∀ (l : List Pr), right l = true ↔ Sorted l
  | [] => by simp [right, Sorted]
  | [p] => by simp [right, Sorted]
  | p :: q :: l => by
    have ih := right_iff (q :: l)
    rw [show right (p :: q :: l) = (lt p.key q.key && right (q :: l)) from rfl, Bool.and_eq_true, ih]
    unfold Sorted
    rw [List.pairwise_cons (a := p)]
    constructor
    · rintro ⟨h1, h2⟩
      refine ⟨fun b hb => ?_, h2⟩
      rcases List.mem_cons.1 hb with rfl | hb
      · exact h1
      · exact lt_trans h1 ((List.pairwise_cons.1 h2).1 b hb)
    · rintro ⟨h1, h2⟩
      exact ⟨h1 q (by simp), h2⟩
theorem sorted_filter {l : List Pr} (f : Pr → Bool) (h : Sorted l) : Sorted (l.filter f) := h.filter f
theorem right_filter {l : List Pr} (f : Pr → Bool) (h : right l = true) : right (l.filter f) = true := (right_iff _).2 (sorted_filter f ((right_iff _).1 h))
theorem right_drop {l : List Pr} (k : ByteArray) (h : right l = true) : right (drop l k) = true := right_filter _ h
theorem right_range {l : List Pr} (lo hi : ByteArray) (most : Int) (h : right l = true) : right (range l lo hi most) = true :=
  (right_iff _).2 (List.Pairwise.sublist (List.take_sublist _ _) (sorted_filter _ ((right_iff _).1 h)))
theorem mem_ins {p a : Pr} : ∀ {l : List Pr}, a ∈ ins p l → a = p ∨ a ∈ l
  | [], h => by simp [ins] at h; exact .inl h
  | q :: l, h => by
    simp only [ins] at h
    split at h
    · rcases List.mem_cons.1 h with rfl | h
      · exact .inl rfl
      · exact .inr h
    · rcases List.mem_cons.1 h with rfl | h
      · exact .inr (by simp)
      · rcases mem_ins h with rfl | h
        · exact .inl rfl
        · exact .inr (by simp [h])
theorem sorted_ins {p : Pr} : ∀ {l : List Pr}, Sorted l → (∀ a ∈ l, hasK p.key a = false) → Sorted (ins p l)
  | [], _, _ => by simp [ins, Sorted]
  | q :: l, h, hn => by
    obtain ⟨h1, h2⟩ := List.pairwise_cons.1 h
    simp only [ins]
    by_cases hq : lt p.key q.key = true
    · rw [if_pos hq]
      refine List.pairwise_cons.2 ⟨fun b hb => ?_, h⟩
      rcases List.mem_cons.1 hb with rfl | hb
      · exact hq
      · exact lt_trans hq (h1 b hb)
    · rw [if_neg hq]
      have hqp : lt q.key p.key = true := lt_tri (fun e => by have := hn q (by simp); simp [hasK, ← e] at this) (by simpa using hq)
      refine List.pairwise_cons.2 ⟨fun b hb => ?_, sorted_ins h2 fun a ha => hn a (by simp [ha])⟩
      rcases mem_ins hb with rfl | hb
      · exact hqp
      · exact h1 b hb
theorem keys_setF (p : Pr) : ∀ (l : List Pr), (setF p l).map (·.key) = l.map (·.key)
  | [] => rfl
  | q :: l => by
    simp only [setF]
    by_cases hq : hasK p.key q = true
    · rw [if_pos hq]; simp [hasK_key hq]
    · rw [if_neg hq]; simp [keys_setF p l]
theorem sorted_keys (l : List Pr) : Sorted l ↔ (l.map (·.key)).Pairwise fun a b => lt a b = true := by unfold Sorted; rw [List.pairwise_map]
theorem right_put {l : List Pr} (p : Pr) (h : right l = true) : right (put l p) = true := by
  have hs := (right_iff l).1 h
  refine (right_iff _).2 ?_
  unfold put
  cases hf : (find p.key l).2 with
  | true => rw [if_pos rfl, sorted_keys, keys_setF, ← sorted_keys]; exact hs
  | false => rw [if_neg (by simp)]; exact sorted_ins hs (find_some_or l hf)
theorem right_act {l : List Pr} (w : Wr) (h : right l = true) : right (act l w) = true := by
  unfold act; split
  · exact right_drop _ h
  · exact right_put _ h
theorem right_apply (ws : List Wr) : ∀ {l : List Pr}, right l = true → right (apply l ws) = true := by
  induction ws with
  | nil => intro l h; exact h
  | cons w ws ih => intro l h; exact ih (l := act l w) (right_act w h)

/-- ranges. -/
theorem range_len (l : List Pr) (lo hi : ByteArray) : range l lo hi (l.length : Int) = l.filter fun p => btw lo hi p.key := by
  unfold range
  exact List.take_of_length_le (by have := List.length_filter_le (fun p => btw lo hi p.key) l; omega)
theorem parts_filter {lo mid hi : ByteArray} (h0 : mid ≠ ⟨#[]⟩) (h1 : lt mid lo = false) (h2 : hi = ⟨#[]⟩ ∨ lt hi mid = false) : ∀ {l : List Pr}, Sorted l →
    (l.filter fun p => btw lo mid p.key) ++ (l.filter fun p => btw mid hi p.key) = l.filter fun p => btw lo hi p.key
  | [], _ => rfl
  | q :: l, h => by
    obtain ⟨ha, hb⟩ := List.pairwise_cons.1 h
    have ih := parts_filter h0 h1 h2 hb
    have b0 : btw lo mid q.key = (!lt q.key lo && lt q.key mid) := by simp [btw, h0]
    by_cases hm : lt q.key mid = true
    · have e1 : btw mid hi q.key = false := by simp [btw, hm]
      have e2 : btw lo mid q.key = btw lo hi q.key := by
        rw [b0, hm, Bool.and_true]
        rcases h2 with rfl | h2
        · simp [btw]
        · have : lt q.key hi = true := by
            cases k : lt q.key hi with
            | true => rfl
            | false =>
              have := ge_trans (a := q.key) (b := hi) (c := mid) k h2
              rw [hm] at this; cases this
          simp [btw, this]
      rw [List.filter_cons, List.filter_cons, List.filter_cons, e1, e2]
      by_cases hb2 : btw lo hi q.key = true
      · rw [hb2]; simp only [if_true, List.cons_append]; simp [ih]
      · rw [show btw lo hi q.key = false by simpa using hb2]; simpa using ih
    · have hm' : lt q.key mid = false := by simpa using hm
      have hnone : ∀ a ∈ q :: l, btw lo mid a.key = false := by
        intro a ha'
        have : lt a.key mid = false := by
          rcases List.mem_cons.1 ha' with rfl | hal
          · exact hm'
          · cases k : lt a.key mid with
            | false => rfl
            | true => have := lt_trans (ha a hal) k; rw [hm'] at this; cases this
        simp [btw, h0, this]
      rw [List.filter_eq_nil_iff.2 (fun a ha' => by rw [hnone a ha']; simp), List.nil_append]
      refine List.filter_congr fun a ha' => ?_
      have hge : lt a.key mid = false := by
        rcases List.mem_cons.1 ha' with rfl | hal
        · exact hm'
        · cases k : lt a.key mid with
          | false => rfl
          | true => have := lt_trans (ha a hal) k; rw [hm'] at this; cases this
      have hgl : lt a.key lo = false := ge_trans hge h1
      simp [btw, hge, hgl]
theorem range_parts {l : List Pr} {lo mid hi : ByteArray} (h : right l = true) (h0 : mid ≠ ⟨#[]⟩) (h1 : lt mid lo = false) (h2 : hi = ⟨#[]⟩ ∨ lt hi mid = false) :
    range l lo mid l.length ++ range l mid hi l.length = range l lo hi l.length := by
  rw [range_len, range_len, range_len]
  exact parts_filter h0 h1 h2 ((right_iff l).1 h)
end Go.Proofs.Ytodfdklcioafmaa.Prm
