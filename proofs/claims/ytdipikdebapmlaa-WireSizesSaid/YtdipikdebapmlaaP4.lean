/- Frame, Flat, KindIn, TableRef3, TableRef4, TableRef5, TableShown, PairIn, ReqIn, WiIn, WiShown, WiEq, WiRepO: merged. -/
import Derived.Test.YtdipikdebapmlaaP1
import Derived.SizedLaws
import Derived.Carry
import Derived.Deep.Slices
import Derived.ChangeMaps5
import Derived.Deep.DeepCutAuto
import Derived.StillTailTactics
import Derived.Test.YtdipikdebapmlaaP3
/- The frame of every law: what an argument reads as (with its sizes), opened by its type; a walk under that reading gives the given statement. -/
namespace Go.Proofs.Ytdipikdebapmlaa
set_option maxRecDepth 100000
open Go.ChangeShapes Go.WideShapes Go.ChangeAt Go.RowKit
set_option linter.unusedVariables false

/-- the cells cs read as something of type t, and no part of it is beyond the reach. -/
def Rd (w : World) (t : TypeId) (cs : List Value) : Prop :=
  ∃ (H : Type) (enc : TypeId × Value → H) (n : Nat) (d : DataW H) (ps : List MemPlace), DataW.trod enc Try.prog w 0 (fun _ => true) true n t cs = some (d, ps) ∧ ∀ x ∈ d.weights Try.prog t, x ≤ 140737488351232

theorem Rd.int {w : World} {t : TypeId} {cs : List Value} {k : IntKind} (h : Rd w t cs) (ht : Try.prog.underlying t = some (.int k)) : ∃ n, cs = [.int k n] ∧ (Lit.int k n).wf = true := by
  obtain ⟨H, enc, n, d, ps, ht', hw⟩ := h
  obtain ⟨m, rfl, _, hm⟩ := DataW.trod_int ht ht'
  exact ⟨m, rfl, hm⟩
theorem Rd.bool {w : World} {t : TypeId} {cs : List Value} (h : Rd w t cs) (ht : Try.prog.underlying t = some .bool) : ∃ b, cs = [.bool b] := by
  obtain ⟨H, enc, n, d, ps, ht', hw⟩ := h
  obtain ⟨m, rfl, _⟩ := DataW.trod_bool ht ht'
  exact ⟨m, rfl⟩
theorem Rd.string {w : World} {t : TypeId} {cs : List Value} (h : Rd w t cs) (ht : Try.prog.underlying t = some .string) : ∃ s : ByteArray, cs = [.string s] ∧ s.size ≤ 140737488351232 := by
  obtain ⟨H, enc, n, d, ps, ht', hw⟩ := h
  obtain ⟨s, rfl, hx, hm⟩ := DataW.trod_string ht ht'
  injection hx with h1 h2
  subst h1
  have := hw s.data.toList.length (by simp [DataW.weights])
  exact ⟨s, rfl, by simpa using this⟩
theorem Rd.struct {w : World} {t : TypeId} {cs : List Value} {fs : Array Field} (h : Rd w t cs) (ht : Try.prog.underlying t = some (.struct fs)) :
    cs.length = Try.prog.cellsOf t ∧ ∀ (i : Nat) (f : Field), fs[i]? = some f → Rd w f.type ((cs.drop f.offset).take (Try.prog.cellsOf f.type)) := by
  obtain ⟨H, enc, n, d, ps, ht', hw⟩ := h
  obtain ⟨xs, m, rfl, hx, hl, hlen, hg⟩ := DataW.trod_struct ht ht'
  injection hx with h1 h2
  subst h1
  refine ⟨hl, fun i f hi => ?_⟩
  have hil : i < fs.size := (Array.getElem?_eq_some_iff.1 hi).1
  have hxi : xs[i]? = some xs[i] := List.getElem?_eq_getElem (by omega)
  refine ⟨H, enc, m, xs[i].1, xs[i].2, (hg i f hi).trans hxi, fun x hx => hw x ?_⟩
  simp only [DataW.weights, ht]
  exact DataW.weights_mem_each (j := i) (t := f.type) (d := xs[i].1) (by simp [hi]) (by simp [hxi]) x hx
theorem Rd.field {w : World} {t : TypeId} {cs : List Value} {fs : Array Field} (h : Rd w t cs) (ht : Try.prog.underlying t = some (.struct fs)) (i : Nat) {ty : TypeId} (off k : Nat) (hi : (fs[i]?).map (fun f => (f.type, f.offset)) = some (ty, off)) (hk : Try.prog.cellsOf ty = k) :
    Rd w ty ((cs.drop off).take k) := by
  obtain ⟨f, hf, he⟩ := Option.map_eq_some_iff.1 hi
  injection he with e1 e2
  subst e1 e2 hk
  exact (h.struct ht).2 i f hf
theorem weightsAll_mem {H : Type} {P : Program} {e : TypeId} {d : DataW H} : ∀ {l : List (DataW H)}, d ∈ l → ∀ x ∈ d.weights P e, x ∈ DataW.weightsAll P e l
  | d0 :: l, hd, x, hx => by
    simp only [DataW.weightsAll, List.mem_append]
    rcases List.mem_cons.1 hd with rfl | hd
    · exact .inl hx
    · exact .inr (weightsAll_mem hd x hx)
theorem Rd.slice {w : World} {t e : TypeId} {cs : List Value} (h : Rd w t cs) (ht : Try.prog.underlying t = some (.slice e)) :
    cs = [.slice none 0 0] ∨ ∃ (a : Addr) (len cap : Nat), cs = [.slice (some a) len cap] ∧ len ≤ cap ∧ cap ≤ maxLen ∧ cap * Try.prog.bytesOf e ≤ 140737488351232 ∧
      ∀ i, i < cap → ∃ cs', w.cells? 0 (a.add (i * Try.prog.cellsOf e)) (Try.prog.cellsOf e) = some cs' ∧ Rd w e cs' := by
  obtain ⟨H, enc, n, d, ps, ht', hw⟩ := h
  rcases Deep.open_slice ht ht' with ⟨h0, _⟩ | ⟨a, len, cap, m, n', D, Pl, hcs, hb, hl, hm, hmm, hx, hi⟩
  · exact .inl h0
  · right
    simp only [if_true] at hmm
    subst hmm
    injection hx with h1 h2
    subst h1
    simp only [DataW.weights, ht] at hw
    refine ⟨a, len, m, hcs, hl, hm, ?_, fun i hi' => ?_⟩
    · have := hw _ (List.mem_cons_self ..)
      simp only [List.length_map, List.length_range] at this
      rwa [show len + (m - len) = m by omega] at this
    · obtain ⟨cs', hc, htr⟩ := hi i hi'
      refine ⟨cs', hc, H, enc, n', D i, Pl i, htr, fun x hx => hw x (List.mem_cons_of_mem _ (List.mem_append.2 ?_))⟩
      by_cases hlt : i < len
      · exact .inl (weightsAll_mem (List.mem_map.2 ⟨i, by simpa using hlt, rfl⟩) x hx)
      · exact .inr (weightsAll_mem (List.mem_map.2 ⟨i - len, by simp; omega, by rw [show len + (i - len) = i by omega]⟩) x hx)

/-- the value v, an argument, reads so. -/
def RdV (w : World) (t : TypeId) (v : Value) : Prop := (∃ base, Value.okWide Try.prog w .any base t v) ∧ Rd w t v.cells.toList
theorem RdV.int {w : World} {t : TypeId} {v : Value} {k : IntKind} (h : RdV w t v) (ht : Try.prog.underlying t = some (.int k)) : ∃ n, v = .int k n ∧ (Lit.int k n).wf = true := by
  obtain ⟨⟨b, ho⟩, hr⟩ := h
  obtain ⟨n, rfl⟩ := okWide_int ht ho
  obtain ⟨m, e, hm⟩ := hr.int ht
  simp [Value.cells] at e
  subst e
  exact ⟨n, rfl, hm⟩
theorem RdV.bool {w : World} {t : TypeId} {v : Value} (h : RdV w t v) (ht : Try.prog.underlying t = some .bool) : ∃ b, v = .bool b := by
  obtain ⟨⟨b, ho⟩, hr⟩ := h
  obtain ⟨n, rfl⟩ := okWide_bool ht ho
  exact ⟨n, rfl⟩
theorem RdV.string {w : World} {t : TypeId} {v : Value} (h : RdV w t v) (ht : Try.prog.underlying t = some .string) : ∃ s : ByteArray, v = .string s ∧ s.size ≤ 140737488351232 := by
  obtain ⟨⟨b, ho⟩, hr⟩ := h
  obtain ⟨n, rfl⟩ := okWide_string ht ho
  obtain ⟨m, e, hm⟩ := hr.string ht
  simp [Value.cells] at e
  subst e
  exact ⟨n, rfl, hm⟩
theorem RdV.struct {w : World} {t : TypeId} {v : Value} {fs : Array Field} (h : RdV w t v) (ht : Try.prog.underlying t = some (.struct fs)) : ∃ cs : List Value, v = .agg cs.toArray ∧ Rd w t cs := by
  obtain ⟨⟨b, ho⟩, hr⟩ := h
  obtain ⟨cs, rfl, _⟩ := okWide_struct ht ho
  exact ⟨cs.toList, rfl, hr⟩
theorem RdV.slice {w : World} {t e : TypeId} {v : Value} (h : RdV w t v) (ht : Try.prog.underlying t = some (.slice e)) : ∃ A n c, v = .slice A n c ∧ Rd w t [.slice A n c] := by
  obtain ⟨⟨b, ho⟩, hr⟩ := h
  obtain ⟨A, n, c, rfl⟩ := okWide_slice ht ho
  exact ⟨A, n, c, rfl, hr⟩

theorem args2 {a : Array Value} (h : a.size = 2) : ∃ x y, a = #[x, y] := by
  obtain ⟨l⟩ := a
  match l, h with
  | [x, y], _ => exact ⟨x, y, rfl⟩
theorem laidOut_ : laidOutB Try.prog = true := by kernel_rfl
theorem ownKnob_ : ownKnob Try.prog.godebug = none := by kernel_rfl

theorem trodAll_keep {H : Type} {enc : TypeId × Value → H} {W W' : World} (hb : Q W W') : ∀ (ts : List TypeId) (vs : List Value) (ds : List (DataW H)) (ps : List MemPlace), (∀ t ∈ ts, Try.prog.readableRec t = true ∧ t < Try.prog.types.size) →
    DataW.TrodAll enc Try.prog W 0 (fun _ => true) true ts vs ds ps → (∀ x ∈ ps, x.block < W.heap.size) → DataW.TrodAll enc Try.prog W' 0 (fun b => decide (b < W.heap.size)) true ts vs ds ps
  | [], vs, ds, ps, _, h, _ => by
    obtain ⟨rfl, rfl, rfl⟩ := trodAll_nil h
    exact trodAll_mk0
  | t :: ts, vs, ds, ps, ht, h, hlt => by
    obtain ⟨v, vs', d, ds', p, q, rfl, rfl, rfl, h1, h2⟩ := trodAll_cons h
    exact ⟨p, q, Below.trod laidOut_ (ht t (by simp)).1 (ht t (by simp)).2 h1 hb.below (fun x hx => hlt x (by simp [hx])), trodAll_keep hb ts vs' ds' q (fun u hu => ht u (by simp [hu])) h2 (fun x hx => hlt x (by simp [hx])), rfl⟩

theorem trodAll_len {H : Type} {enc : TypeId × Value → H} {W : World} : ∀ (ts : List TypeId) (vs : List Value) (ds : List (DataW H)) (ps : List MemPlace), DataW.TrodAll enc Try.prog W 0 (fun _ => true) true ts vs ds ps → vs.length = ts.length ∧ ds.length = ts.length ∧
    ∀ (j : Nat) t v, ts[j]? = some t → vs[j]? = some v → ∃ d p, ds[j]? = some d ∧ DataW.Trod enc Try.prog W 0 (fun _ => true) true t v d p
  | [], vs, ds, ps, h => by
    obtain ⟨rfl, rfl, rfl⟩ := trodAll_nil h
    exact ⟨rfl, rfl, fun j t v hj => by simp at hj⟩
  | t :: ts, vs, ds, ps, h => by
    obtain ⟨v, vs', d, ds', p, q, rfl, rfl, rfl, h1, h2⟩ := trodAll_cons h
    obtain ⟨e1, e2, h3⟩ := trodAll_len ts vs' ds' q h2
    refine ⟨by simp [e1], by simp [e2], fun j t' v' hj hv => ?_⟩
    cases j with
    | zero =>
      simp only [List.getElem?_cons_zero, Option.some.injEq] at hj hv
      subst hj hv
      exact ⟨d, p, rfl, h1⟩
    | succ j => exact h3 j t' v' (by simpa using hj) (by simpa using hv)

/-- A walk of a law, whatever its arguments read as, gives what its row asks. -/
theorem framed {f : FuncId} {fn : Func} {s : ChangeSpec} {conds : List PathCond} (n : Nat) (hfn : Try.prog.funcs[f]? = some fn) (hn : fn.params.size = n) (hvars : s.vars = []) (hrt : fn.resultTypes = #[4])
    (noInit : Try.prog.inits.idxOf? f = none) (hread0 : fn.params.toList.all (fun t => Try.prog.readableRec t && decide (t < Try.prog.types.size)) = true)
    (hs : ∀ (H : Type) (ds : List (DataW H)), ds.length = n → (s.fn H ds).results = [.lit (.bool true)] ∧ (s.fn H ds).args = ds ∧ (s.fn H ds).vars = [])
    (walk : ∀ (W : World) (args : Array Value), args.size = n → (∀ (j : Nat) t v, fn.params[j]? = some t → args[j]? = some v → RdV W t v) → Calls Try.prog f args W fun e W' => e = .returned (.bool true) ∧ Q W W')
    (os : Os) (started : os.Started) (H : Type) (enc : TypeId × Value → H)
    (witness : ∃ (w : World) (tape : Tape) (i : Input), w.os = os ∧ (w.forCall tape i).Shaped Try.prog ∧ i.vars = [] ∧ Input.okWide Try.prog (w.forCall tape i) .any w.heap.size f i ∧
      s.pre6 enc Try.prog fn conds false (w.forCall tape i).memory i.args ∧ ({} : Assume).holds Try.prog (lone (Frame.enter Try.prog f i.args .normal) [] (w.forCall tape i))) :
    ReturnsInHanded {} Try.checked os f .any (s.pre6 enc Try.prog fn conds false) (s.post enc Try.prog fn false true false false) := by
  have hread : ∀ t ∈ fn.params.toList, Try.prog.readableRec t = true ∧ t < Try.prog.types.size := fun t ht => by
    have := List.all_eq_true.1 hread0 t ht
    simpa using this
  refine returnsInHanded_of_change_sized (C := Try.checked) ownKnob_ started noInit hfn witness ?_
  intro W base args ds gs before hval hW hcnd hsz _
  have hW' := hW
  have hlt : ∀ x ∈ before, x.block < W.heap.size := fun x hx => by simpa using hW.lt x hx
  obtain ⟨p, q, hA, hV, rfl, hfz, hnd⟩ := hW
  rw [hvars] at hV
  obtain ⟨rfl, rfl⟩ := trodVars_none hV
  obtain ⟨e1, e2, h3⟩ := trodAll_len _ _ _ _ hA
  have hps : fn.params.toList.length = n := by simpa using hn
  have hds : ds.length = n := by omega
  have hsz2 : ∀ x ∈ DataW.weightsEach Try.prog (fn.params.toList ++ s.plain.varTypes Try.prog) (ds ++ []), x ≤ 140737488351232 := fun x hx => by
    have := List.all_eq_true.1 hsz x hx
    simpa [reachBytes] using of_decide_eq_true this
  refine (walk W args (by rw [← hps, ← e1]; simp) fun j t v hj hv => ⟨⟨base, hval j t v hj hv⟩, ?_⟩).mono fun e W' ⟨he, hg⟩ => ?_
  · obtain ⟨d, p', hd, fuel, htr⟩ := h3 j t v (by simpa using hj) (by simpa using hv)
    have hjl : j < n := by
      have := (Array.getElem?_eq_some_iff.1 hj).1; omega
    refine ⟨H, enc, fuel, d, p', htr, fun x hx => hsz2 x (DataW.weights_mem_each (j := j) (t := t) (d := d) ?_ (by simpa using hd) x hx)⟩
    rw [List.getElem?_append_left (by omega)]
    simpa using hj
  · subst he
    simp only [List.append_nil] at hW' hlt
    obtain ⟨a1, a2, a3⟩ := hs H ds hds
    refine ⟨_, rfl, ds, [], p, [], p, [], hW', ?_, ?_, ?_, hg.below.frame _, fun h => by cases h⟩
    · rw [List.append_nil, a1, hrt]
      exact trodAll_mk1 (shut_bool Try.underlying4 _)
    · rw [List.append_nil, a2]
      exact trodAll_keep hg _ _ _ _ hread hA hlt
    · rw [List.append_nil, a3, hvars]
      rfl
end Go.Proofs.Ytdipikdebapmlaa

/- Lists whose elements lie flat in memory, out of what is known of each element. -/
namespace Go.Proofs.Ytdipikdebapmlaa
set_option maxRecDepth 100000
open Go.ChangeShapes Go.WideShapes Go.RowKit
set_option linter.unusedVariables false

theorem choose_list {α : Type} {R : Nat → α → Prop} : ∀ (n : Nat), (∀ i, i < n → ∃ a, R i a) → ∃ l : List α, l.length = n ∧ ∀ i (hi : i < l.length), R i l[i]
  | 0, _ => ⟨[], rfl, fun i hi => by simp at hi⟩
  | n + 1, h => by
    obtain ⟨l, hl, hr⟩ := choose_list n (fun i hi => h i (by omega))
    obtain ⟨a, ha⟩ := h n (by omega)
    refine ⟨l ++ [a], by simp [hl], fun i hi => ?_⟩
    by_cases hlt : i < l.length
    · rw [List.getElem_append_left hlt]; exact hr i hlt
    · have e : i = l.length := by simp at hi; omega
      subst e
      rw [List.getElem_append_right (Nat.le_refl _)]
      simpa [hl] using ha

theorem flat_at {α : Type} (g : α → List Value) (k : Nat) (hg : ∀ a, (g a).length = k) : ∀ (l : List α) (j : Nat) (u : Value), (l.flatMap g)[j]? = some u → ∃ i r, ∃ hi : i < l.length, j = i * k + r ∧ r < k ∧ (g l[i])[r]? = some u
  | [], j, u, h => by simp at h
  | a :: l, j, u, h => by
    rw [List.flatMap_cons] at h
    by_cases hj : j < k
    · rw [List.getElem?_append_left (by rw [hg]; exact hj)] at h
      exact ⟨0, j, by simp, by omega, hj, by simpa using h⟩
    · rw [List.getElem?_append_right (by rw [hg]; omega), hg] at h
      obtain ⟨i, r, hi, he, hr, hu⟩ := flat_at g k hg l (j - k) u h
      refine ⟨i + 1, r, by simpa using hi, ?_, hr, by simpa using hu⟩
      rw [Nat.succ_mul]; omega
theorem flat_len {α : Type} (g : α → List Value) (k : Nat) (hg : ∀ a, (g a).length = k) : ∀ (l : List α), (l.flatMap g).length = l.length * k
  | [] => by simp
  | a :: l => by rw [List.flatMap_cons, List.length_append, hg, flat_len g k hg l, List.length_cons, Nat.succ_mul]; omega
theorem holds_flat {α : Type} (g : α → List Value) (k : Nat) (hg : ∀ a, (g a).length = k) (w : World) (ad : Addr) (l : List α) (h : ∀ i (hi : i < l.length), w.cells? 0 (ad.add (i * k)) k = some (g l[i])) :
    Holds w w.heap.size k (some ad) l.length (l.flatMap g) := by
  refine ⟨flat_len g k hg l, fun j u hu => ?_⟩
  obtain ⟨i, r, hi, rfl, hr, hv⟩ := flat_at g k hg l j u hu
  obtain ⟨_, _, hat⟩ := World.cells?_some (h i hi)
  have hc := hat r hr
  rw [hv, addr_add] at hc
  refine ⟨ad, rfl, ?_, hc⟩
  have := block_lt_of_cell hc
  rwa [addr_block] at this

theorem wf_i64 {x : Int} (h : (Lit.int .i64 x).wf = true) : -9223372036854775808 ≤ x ∧ x ≤ 9223372036854775807 := by
  simp only [Lit.wf, Bool.and_eq_true, decide_eq_true_eq] at h
  have e1 : IntKind.i64.min = -9223372036854775808 := by decide
  have e2 : IntKind.i64.max = 9223372036854775807 := by decide
  omega
end Go.Proofs.Ytdipikdebapmlaa

/- What comes in: a list of a kind of elements, opened out of a reading. -/
namespace Go.Proofs.Ytdipikdebapmlaa
set_option maxRecDepth 100000
open Go.ChangeShapes Go.WideShapes Go.RowKit
set_option linter.unusedVariables false

theorem Kind.rows_flat {α : Type} (K : Kind α) (l : List α) : K.rows l = l.flatMap K.row := by
  induction l with
  | nil => rfl
  | cons f l ih => rw [Kind.rows, ih, List.flatMap_cons]
theorem open_kind {α : Type} (K : Kind α) (P : α → Prop) {w : World} (hel : ∀ cs, Rd w K.T cs → ∃ a, cs = K.row a ∧ P a) (hby : Try.prog.bytesOf K.T = K.bs) (hce : Try.prog.cellsOf K.T = K.k) {cs : List Value} (h : Rd w K.S cs) :
    ∃ A n c l, cs = [.slice A n c] ∧ In_ K w A n c l ∧ n * K.bs ≤ 140737488351232 ∧ ∀ a ∈ l, P a := by
  rcases h.slice K.und with rfl | ⟨a, len, cap, rfl, hlc, hcm, hb, hi⟩
  · exact ⟨none, 0, 0, [], rfl, In_.none_ K w, by simp, by simp⟩
  · rw [hby] at hb
    rw [hce] at hi
    have hlb : len * K.bs ≤ cap * K.bs := Nat.mul_le_mul_right _ hlc
    obtain ⟨l, hl, hr⟩ := choose_list (R := fun i (f : α) => w.cells? 0 (a.add (i * K.k)) K.k = some (K.row f) ∧ P f) len (fun i hlt => by
      obtain ⟨cs', hc, hrd⟩ := hi i (by omega)
      obtain ⟨f, rfl, hf⟩ := hel cs' hrd
      exact ⟨f, hc, hf⟩)
    refine ⟨some a, len, cap, l, rfl, ⟨?_, fun e => by (cases e), hlc, hcm, by omega⟩, by omega, fun f hf => ?_⟩
    · have := holds_flat K.row K.k K.len w a l (fun i hi => (hr i hi).1)
      rw [hl, ← K.rows_flat] at this
      exact this
    · obtain ⟨i, hi, rfl⟩ := List.getElem_of_mem hf
      exact (hr i hi).2
end Go.Proofs.Ytdipikdebapmlaa

/- Contracts: the document's answer for pairs: Put, Apply. -/
namespace Go.Proofs.Ytdipikdebapmlaa
set_option maxRecDepth 100000
open Go.RowKit Prm
set_option linter.unusedVariables false
set_option linter.unusedSimpArgs false

end Go.Proofs.Ytdipikdebapmlaa

/- Contracts: the document's answer for pairs: Put where the key is new. -/
namespace Go.Proofs.Ytdipikdebapmlaa
set_option maxRecDepth 100000
open Go.RowKit Prm
set_option linter.unusedVariables false
set_option linter.unusedSimpArgs false

end Go.Proofs.Ytdipikdebapmlaa

/- Contracts: the document's answer for pairs: Put, Apply. -/
namespace Go.Proofs.Ytdipikdebapmlaa
set_option maxRecDepth 100000
open Go.RowKit Prm
set_option linter.unusedVariables false
set_option linter.unusedSimpArgs false

end Go.Proofs.Ytdipikdebapmlaa

/- The examples of chapter 5, at the head of each law. -/
namespace Go.Proofs.Ytdipikdebapmlaa
set_option maxRecDepth 100000
open Go.RowKit Prm
set_option linter.unusedVariables false
set_option linter.unusedSimpArgs false

end Go.Proofs.Ytdipikdebapmlaa

/- What comes in: lists of pairs and of writes. -/
namespace Go.Proofs.Ytdipikdebapmlaa
set_option maxRecDepth 100000
open Go.ChangeShapes Go.WideShapes Go.RowKit Prm
set_option linter.unusedVariables false

def PrIn (p : Pr) : Prop := p.key.size ≤ 140737488351232 ∧ p.val.size ≤ 140737488351232
theorem open_pair {w : World} {cs : List Value} (h : Rd w 41 cs) : ∃ p : Pr, cs = pairK.row p ∧ PrIn p := by
  obtain ⟨hl, hf⟩ := h.struct Try.underlying41
  rw [show Try.prog.cellsOf 41 = 2 by kernel_rfl] at hl
  match cs, hl with
  | [a, b], _ =>
    obtain ⟨s0, e0, r0⟩ := (h.field Try.underlying41 0 (ty := 9) 0 1 rfl (by kernel_rfl)).string Try.underlying9
    obtain ⟨s1, e1, r1⟩ := (h.field Try.underlying41 1 (ty := 9) 1 1 rfl (by kernel_rfl)).string Try.underlying9
    simp at e0 e1
    subst e0 e1
    exact ⟨⟨s0, s1⟩, rfl, r0, r1⟩
theorem open_pairs {w : World} {cs : List Value} (h : Rd w 27 cs) : ∃ A n c l, cs = [.slice A n c] ∧ In_ pairK w A n c l ∧ n * 32 ≤ 140737488351232 ∧ ∀ p ∈ l, PrIn p :=
  open_kind pairK PrIn (fun cs hc => open_pair hc) (by kernel_rfl) (by kernel_rfl) h
theorem keys_in {l : List Pr} (h : ∀ p ∈ l, PrIn p) : KeysIn l := fun p hp => by have := (h p hp).1; unfold maxLen; omega
end Go.Proofs.Ytdipikdebapmlaa

/- What comes in: a request. -/
namespace Go.Proofs.Ytdipikdebapmlaa
set_option maxRecDepth 100000
open Go.ChangeShapes Go.WideShapes Go.RowKit
set_option linter.unusedVariables false
set_option linter.unusedSimpArgs false
namespace Wi

def I64 (x : Int) : Prop := -9223372036854775808 ≤ x ∧ x ≤ 9223372036854775807
structure RqIn (q : Rq) : Prop where
  k : I64 q.kind
  t : q.tok.size ≤ 140737488351232
theorem open_op {w : World} {cs : List Value} (h : Rd w 23 cs) : ∃ o : Op, cs = [.int .i64 o.kind, .string o.key, .string o.val, .string o.lo, .string o.hi, .int .i64 o.most] := by
  obtain ⟨hl, hf⟩ := h.struct Try.underlying23
  rw [show Try.prog.cellsOf 23 = 6 by kernel_rfl] at hl
  match cs, hl with
  | [x0, x1, x2, x3, x4, x5], _ =>
    obtain ⟨ok, e0, r0⟩ := (h.field Try.underlying23 0 (ty := 3) 0 1 rfl (by kernel_rfl)).int Try.underlying3
    obtain ⟨ky, e1, r1⟩ := (h.field Try.underlying23 1 (ty := 9) 1 1 rfl (by kernel_rfl)).string Try.underlying9
    obtain ⟨vl, e2, r2⟩ := (h.field Try.underlying23 2 (ty := 9) 2 1 rfl (by kernel_rfl)).string Try.underlying9
    obtain ⟨lo, e3, r3⟩ := (h.field Try.underlying23 3 (ty := 9) 3 1 rfl (by kernel_rfl)).string Try.underlying9
    obtain ⟨hi, e4, r4⟩ := (h.field Try.underlying23 4 (ty := 9) 4 1 rfl (by kernel_rfl)).string Try.underlying9
    obtain ⟨m, e5, r5⟩ := (h.field Try.underlying23 5 (ty := 3) 5 1 rfl (by kernel_rfl)).int Try.underlying3
    simp at e0 e1 e2 e3 e4 e5
    subst e0 e1 e2 e3 e4 e5
    exact ⟨⟨ok, ky, vl, lo, hi, m⟩, rfl⟩
theorem open_req {w : World} {cs : List Value} (h : Rd w 25 cs) : ∃ q : Rq, cs = rqL q ∧ RqIn q := by
  obtain ⟨hl, hf⟩ := h.struct Try.underlying25
  rw [show Try.prog.cellsOf 25 = 11 by kernel_rfl] at hl
  match cs, hl with
  | [x0, x1, x2, x3, x4, x5, x6, x7, x8, x9, x10], _ =>
    obtain ⟨k, e0, r0⟩ := (h.field Try.underlying25 0 (ty := 3) 0 1 rfl (by kernel_rfl)).int Try.underlying3
    obtain ⟨e, e1, r1⟩ := (h.field Try.underlying25 1 (ty := 3) 1 1 rfl (by kernel_rfl)).int Try.underlying3
    obtain ⟨s, e2, r2⟩ := (h.field Try.underlying25 2 (ty := 3) 2 1 rfl (by kernel_rfl)).int Try.underlying3
    obtain ⟨n, e3, r3⟩ := (h.field Try.underlying25 3 (ty := 3) 3 1 rfl (by kernel_rfl)).int Try.underlying3
    obtain ⟨t, e4, r4⟩ := (h.field Try.underlying25 4 (ty := 9) 4 1 rfl (by kernel_rfl)).string Try.underlying9
    obtain ⟨o, e5⟩ := open_op (h.field Try.underlying25 5 (ty := 23) 5 6 rfl (by kernel_rfl))
    simp at e0 e1 e2 e3 e4 e5
    subst e0 e1 e2 e3 e4
    obtain ⟨rfl, rfl, rfl, rfl, rfl, rfl⟩ := e5
    exact ⟨⟨k, e, s, n, t, o⟩, rfl, ⟨wf_i64 r0, r4⟩⟩
end Wi
end Go.Proofs.Ytdipikdebapmlaa

/- What comes in: requests, replies (chapter 16). -/
namespace Go.Proofs.Ytdipikdebapmlaa
set_option maxRecDepth 100000
open Go.ChangeShapes Go.WideShapes Go.RowKit Prm
set_option linter.unusedVariables false
set_option linter.unusedSimpArgs false
namespace Wi

structure RpIn (p : Rp) : Prop where
  v : p.val.size ≤ 140737488351232
  r : ∀ x ∈ p.rows, PrIn x
theorem open_reply {w : World} {cs : List Value} (h : Rd w 29 cs) : ∃ (p : Rp) (A : Option Addr) (N c : Nat), cs = rpL p A N c ∧ In_ pairK w A N c p.rows ∧ N * 32 ≤ 140737488351232 ∧ RpIn p := by
  obtain ⟨hl, hf⟩ := h.struct Try.underlying29
  rw [show Try.prog.cellsOf 29 = 8 by kernel_rfl] at hl
  match cs, hl with
  | [x0, x1, x2, x3, x4, x5, x6, x7], _ =>
    obtain ⟨e, e0, r0⟩ := (h.field Try.underlying29 0 (ty := 3) 0 1 rfl (by kernel_rfl)).int Try.underlying3
    obtain ⟨s, e1, r1⟩ := (h.field Try.underlying29 1 (ty := 3) 1 1 rfl (by kernel_rfl)).int Try.underlying3
    obtain ⟨n, e2, r2⟩ := (h.field Try.underlying29 2 (ty := 3) 2 1 rfl (by kernel_rfl)).int Try.underlying3
    obtain ⟨er, e3, r3⟩ := (h.field Try.underlying29 3 (ty := 26) 3 1 rfl (by kernel_rfl)).int Try.underlying26
    obtain ⟨v, e4, r4⟩ := (h.field Try.underlying29 4 (ty := 9) 4 1 rfl (by kernel_rfl)).string Try.underlying9
    obtain ⟨fd, e5⟩ := (h.field Try.underlying29 5 (ty := 4) 5 1 rfl (by kernel_rfl)).bool Try.underlying4
    obtain ⟨A, N, c, l, e6, hd, hb, hp⟩ := open_pairs (h.field Try.underlying29 6 (ty := 27) 6 1 rfl (by kernel_rfl))
    obtain ⟨ov, e7⟩ := (h.field Try.underlying29 7 (ty := 4) 7 1 rfl (by kernel_rfl)).bool Try.underlying4
    simp at e0 e1 e2 e3 e4 e5 e6 e7
    subst e0 e1 e2 e3 e4 e5 e6 e7
    exact ⟨⟨e, s, n, er, v, fd, ov, l⟩, A, N, c, rfl, hd, hb, ⟨r4, hp⟩⟩
end Wi
end Go.Proofs.Ytdipikdebapmlaa

/- The example of chapter 16, at the head of each law. -/
namespace Go.Proofs.Ytdipikdebapmlaa
set_option maxRecDepth 100000
open Go.RowKit
set_option linter.unusedVariables false
set_option linter.unusedSimpArgs false
namespace Wi
theorem ex_req : reqM ⟨4, 1, 2, 3, ⟨#[116]⟩, op0⟩ = ([52, 59, 49, 59, 50, 59, 51, 59, 49, 59, 116], 0) := by
  have h : may ⟨4, 1, 2, 3, ⟨#[116]⟩, op0⟩ = true := by decide
  unfold reqM
  rw [if_pos h]
  have n1 : Dm.num 1 = [49, 59] := by unfold Dm.num Dm.dg; rfl
  have n2 : Dm.num 2 = [50, 59] := by unfold Dm.num Dm.dg; rfl
  have n3 : Dm.num 3 = [51, 59] := by unfold Dm.num Dm.dg; rfl
  have n4 : Dm.num 4 = [52, 59] := by unfold Dm.num Dm.dg; rfl
  have e : req ⟨4, 1, 2, 3, ⟨#[116]⟩, op0⟩ = Dm.num 4 ++ (Dm.num 1 ++ (Dm.num 2 ++ (Dm.num 3 ++ ((Dm.num 1 ++ [116]) ++ [])))) := rfl
  rw [e, n1, n2, n3, n4]
  rfl
set_option maxHeartbeats 2000000 in
theorem wishown_any (w : World) : Calls Try.prog 4 #[] w fun e w' => e = .returned (.bool true) ∧ Q w w' := by
  have A1 : ∀ W, Calls Try.prog 5 #[.agg #[.int .i64 4, .int .i64 1, .int .i64 2, .int .i64 3, .string ⟨#[116]⟩, .int .i64 0, .string ⟨#[]⟩, .string ⟨#[]⟩, .string ⟨#[]⟩, .string ⟨#[]⟩, .int .i64 0]] W fun e w' => e = .returned (.tuple #[.string ⟨#[52, 59, 49, 59, 50, 59, 51, 59, 49, 59, 116]⟩, .int .i64 0]) ∧ Q W w' := fun W => by
    have := preq_any ⟨4, 1, 2, 3, ⟨#[116]⟩, op0⟩ W
    rw [ex_req] at this; exact this
  have H1 := Lib.hid A1
  clear A1
  go_enter Try.func4, Try.ntmps4
  go_wp2_with fail
  refine (H1.out _).mono ?_
  rintro e w1 ⟨rfl, q1⟩
  go_wp2
  go_ret
  exact ⟨by first | rfl | simp, q1⟩
end Wi
end Go.Proofs.Ytdipikdebapmlaa

/- Requests compared (chapter 16). -/
namespace Go.Proofs.Ytdipikdebapmlaa
set_option maxRecDepth 100000
open Go.RowKit
set_option linter.unusedVariables false
set_option linter.unusedSimpArgs false
namespace Wi

theorem rq_eq (f g : Rq) : decide (f = g) = (decide (f.kind = g.kind) && decide (f.epoch = g.epoch) && decide (f.sess = g.sess) && decide (f.seq = g.seq) && decide (f.tok = g.tok) && decide (f.op.kind = g.op.kind) && decide (f.op.key = g.op.key) && decide (f.op.val = g.op.val) && decide (f.op.lo = g.op.lo) && decide (f.op.hi = g.op.hi) && decide (f.op.most = g.op.most)) := by
  obtain ⟨k, e, s, n, t, ⟨ok, ky, vl, lo, hi, m⟩⟩ := f
  obtain ⟨k', e', s', n', t', ⟨ok', ky', vl', lo', hi', m'⟩⟩ := g
  rw [Bool.eq_iff_iff]
  simp [and_assoc]
set_option maxHeartbeats 4000000 in
theorem eqin_rq (W : World) (f g : Rq) : (Op.equalIn 10000 25 (rqV f) (rqV g)).run Try.prog W = .ok (decide (f = g)) W := by
  have f0 : Try.prog.underlying 3 = some (.int .i64) := by kernel_rfl
  have f1 : Try.prog.underlying 9 = some .string := by kernel_rfl
  rw [rq_eq, show (10000 : Nat) = 9998 + 1 + 1 from rfl, run_equalIn_agg _ _ _ _ _ (by kernel_rfl) (by kernel_rfl)]
  simp only [Program.fieldsOf, Try.underlying25]
  rw [← same_str, ← same_str, ← same_str, ← same_str, ← same_str]
  obtain ⟨k, e, s, n, t, ⟨ok, ky, vl, lo, hi, m⟩⟩ := f
  obtain ⟨k', e', s', n', t', ⟨ok', ky', vl', lo', hi', m'⟩⟩ := g
  have hw := run_equalIn_agg (P := Try.prog) W 9997 23 #[.int .i64 ok, .string ky, .string vl, .string lo, .string hi, .int .i64 m] #[.int .i64 ok', .string ky', .string vl', .string lo', .string hi', .int .i64 m'] (by kernel_rfl) (by kernel_rfl)
  simp only [Program.fieldsOf, Try.underlying23] at hw
  simp [Op.eqFields, go_sem, run_equalIn_int (h := f0), run_equalIn_string (h := f1)]
  by_cases h0 : k = k'
  case neg => simp [h0]
  by_cases h1 : e = e'
  case neg => simp [h0, h1]
  by_cases h2 : s = s'
  case neg => simp [h0, h1, h2]
  by_cases h3 : n = n'
  case neg => simp [h0, h1, h2, h3]
  by_cases h4 : t.toList = t'.toList
  case neg => simp [h0, h1, h2, h3, h4]
  by_cases h5 : ok = ok'
  case neg => simp [h0, h1, h2, h3, h4, h5]
  by_cases h6 : ky.toList = ky'.toList
  case neg => simp [h0, h1, h2, h3, h4, h5, h6]
  by_cases h7 : vl.toList = vl'.toList
  case neg => simp [h0, h1, h2, h3, h4, h5, h6, h7]
  by_cases h8 : lo.toList = lo'.toList
  case neg => simp [h0, h1, h2, h3, h4, h5, h6, h7, h8]
  by_cases h9 : hi.toList = hi'.toList
  case neg => simp [h0, h1, h2, h3, h4, h5, h6, h7, h8, h9]
  by_cases h10 : m = m'
  case neg => simp [h0, h1, h2, h3, h4, h5, h6, h7, h8, h9, h10]
  simp [h0, h1, h2, h3, h4, h5, h6, h7, h8, h9, h10]
@[go_sem high] theorem run_eql_rq (w : World) (f g : Rq) : (binOp .eql 25 (.agg (rqL f).toArray) (.agg (rqL g).toArray)).run Try.prog w = .ok (.bool (decide (f = g))) w := by
  rw [run_eql_struct, eqin_rq]; rfl
@[go_sem high] theorem run_neq_rq (w : World) (f g : Rq) : (binOp .neq 25 (.agg (rqL f).toArray) (.agg (rqL g).toArray)).run Try.prog w = .ok (.bool (!decide (f = g))) w := by
  rw [run_neq_struct, eqin_rq]; rfl
end Wi
end Go.Proofs.Ytdipikdebapmlaa

/- The contract of the package's Reply. -/
namespace Go.Proofs.Ytdipikdebapmlaa
set_option maxRecDepth 100000
open Go.RowKit Prm
set_option linter.unusedVariables false
set_option linter.unusedSimpArgs false
namespace Wi

set_option maxRecDepth 100000 in
set_option maxHeartbeats 8000000 in
theorem prep_any (p : Rp) (A : Option Addr) (N c : Nat) (w : World) (hA : Lst pairK w A N p.rows) (hmx : N ≤ maxLen) (hks : KeysIn p.rows) :
    Calls Try.prog 6 #[rpV p A N c] w fun e w' => e = .returned (.tuple #[.string (ba (repM p).1), .int .i64 (repM p).2]) ∧ Q w w' := by
  have KM0 := fun W (q : Q w W) => pmayP_any p A N c W (hA.q q) hmx
  have HMay := Lib.hid (fun h => mayP_of (p := p) h)
  obtain ⟨e, s, n, er, v, fd, ov, l⟩ := p
  simp only at hA hks
  have HA := Lib.hid hA
  have HL := Lib.hid hA.len
  have KM : Hid (∀ W, Q w W → Calls Try.prog 10 #[.agg #[.int .i64 e, .int .i64 s, .int .i64 n, .int .i64 er, .string v, .bool fd, .slice A N c, .bool ov]] W fun e' w' => e' = .returned (.bool (mayP ⟨e, s, n, er, v, fd, ov, l⟩)) ∧ Q W w') := Lib.hid KM0
  have HR : Hid (repM ⟨e, s, n, er, v, fd, ov, l⟩ = if mayP ⟨e, s, n, er, v, fd, ov, l⟩ = true then (rep ⟨e, s, n, er, v, fd, ov, l⟩, 0) else ([], 1)) := Lib.hid rfl
  have X0 : Hid (Bx (w.alloc (.cells #[.int .i64 e, .int .i64 s, .int .i64 n, .int .i64 er, .string v, .bool fd, .slice A N c, .bool ov] 29)) w.heap.size [.int .i64 e, .int .i64 s, .int .i64 n, .int .i64 er, .string v, .bool fd, .slice A N c, .bool ov]) := Lib.hid (Bx.new w [.int .i64 e, .int .i64 s, .int .i64 n, .int .i64 er, .string v, .bool fd, .slice A N c, .bool ov] 29)
  have QF := Lib.hid ((Q.refl w).alloc (.cells #[.int .i64 e, .int .i64 s, .int .i64 n, .int .i64 er, .string v, .bool fd, .slice A N c, .bool ov] 29))
  clear hA hks KM0 hmx
  show Calls _ _ #[.agg #[.int .i64 e, .int .i64 s, .int .i64 n, .int .i64 er, .string v, .bool fd, .slice A N c, .bool ov]] _ _
  generalize repM ⟨e, s, n, er, v, fd, ov, l⟩ = res at HR ⊢
  cases hm : mayP ⟨e, s, n, er, v, fd, ov, l⟩ with
  | false =>
    rw [hm] at KM HR
    clear HMay hm
    go_enter Try.func6, Try.ntmps6
    go_upto_region 1 with (fail)
    generalize w.alloc (.cells #[.int .i64 e, .int .i64 s, .int .i64 n, .int .i64 er, .string v, .bool fd, .slice A N c, .bool ov] 29) = W0 at X0 QF ⊢
    generalize w.heap.size = b0 at X0 ⊢
    have x0 := (X0.out 0 _ rfl).1
    have x1 := (X0.out 1 _ rfl).1
    have x2 := (X0.out 2 _ rfl).1
    have x3 := (X0.out 3 _ rfl).1
    have x4 := (X0.out 4 _ rfl).1
    have x5 := (X0.out 5 _ rfl).1
    have x6 := (X0.out 6 _ rfl).1
    have x7 := (X0.out 7 _ rfl).1
    go_wp2_with fail
    refine (KM.out _ QF.out).mono ?_
    rintro e1 w1 ⟨rfl, q1⟩
    go_wp2
    go_ret2
    exact ⟨by rw [HR.out]; rfl, QF.out.trans q1⟩
  | true =>
    have hr := HR.out
    rw [if_pos hm] at hr
    have HR2 := Lib.hid hr
    have M := Lib.hid (HMay.out hm)
    rw [hm] at KM
    clear HMay hm hr HR
    have he : small e = true := M.out.e
    have hs : small s = true := M.out.s
    have hn : small n = true := M.out.n
    have her : small er = true := small_iff.2 (by have := M.out.e0; have := M.out.e1; simp only at *; omega)
    have hv : v.size ≤ 64 := M.out.v
    have hN : N ≤ 16 := by rw [← HL.out]; exact M.out.m
    have hfd : small (fl fd : Nat) = true := small_iff.2 (by have := fl_le fd; omega)
    have hov : small (fl ov : Nat) = true := small_iff.2 (by have := fl_le ov; omega)
    have hNs : small (N : Int) = true := small_iff.2 (by omega)
    have K1 : Hid (∀ W b, Lst numK W (some ⟨b, 0, none⟩) 4 [e, s, n, er] → Calls Try.prog 8 #[.slice (some ⟨b, 0, none⟩) 4 4] W fun e' w' => e' = .returned (.string (ba (catN [e, s, n, er]))) ∧ Q W w') := Lib.hid (fun W b h => onums_any _ 4 4 _ W h (by omega) (by simp only [List.mem_cons, List.not_mem_nil, or_false]; rintro x (rfl | rfl | rfl | rfl) <;> assumption))
    have K2 : Hid (∀ W b, Lst strK W (some ⟨b, 0, none⟩) 1 [v] → Calls Try.prog 9 #[.slice (some ⟨b, 0, none⟩) 1 1] W fun e' w' => e' = .returned (.string (ba (catT [v]))) ∧ Q W w') := Lib.hid (fun W b h => otexts_any _ 1 1 _ W h (by omega) (by simp only [List.mem_cons, List.not_mem_nil, or_false]; rintro x rfl; exact hv))
    have K3 : Hid (∀ W b, Lst numK W (some ⟨b, 0, none⟩) 3 [((fl fd : Nat) : Int), ((fl ov : Nat) : Int), (N : Int)] → Calls Try.prog 8 #[.slice (some ⟨b, 0, none⟩) 3 3] W fun e' w' => e' = .returned (.string (ba (catN [((fl fd : Nat) : Int), ((fl ov : Nat) : Int), (N : Int)]))) ∧ Q W w') := Lib.hid (fun W b h => onums_any _ 3 3 _ W h (by omega) (by simp only [List.mem_cons, List.not_mem_nil, or_false]; rintro x (rfl | rfl | rfl) <;> assumption))
    have KW1 := Lib.hid (fun W => word_any fd W)
    have KW2 := Lib.hid (fun W => word_any ov W)
    have HHd : Hid (∀ R, ba (catN [e, s, n, er]) ++ ba (catT [v]) ++ ba (catN [((fl fd : Nat) : Int), ((fl ov : Nat) : Int), (N : Int)]) ++ ba (rowsB l R) = ba (repR ⟨e, s, n, er, v, fd, ov, l⟩ R)) := Lib.hid (fun R => by
      unfold repR catN catT
      have hn : num (N : Int) = Dm.num l.length := by unfold num; rw [HL.out]; rfl
      simp only [List.flatMap_cons, List.flatMap_nil, List.append_nil]
      rw [hn, show num ((fl fd : Nat) : Int) = Dm.num (fl fd) from rfl, show num ((fl ov : Nat) : Int) = Dm.num (fl ov) from rfl]
      simp only [ba_app, List.append_assoc])
    have l1 : (ba (catN [e, s, n, er])).size ≤ 84 := by rw [ba_size]; exact catN_len _ (by simp only [List.mem_cons, List.not_mem_nil, or_false]; rintro x (rfl | rfl | rfl | rfl) <;> assumption)
    have l2 : (ba (catT [v])).size ≤ 67 := by rw [ba_size]; exact catT_len _ (by simp only [List.mem_cons, List.not_mem_nil, or_false]; rintro x rfl; exact hv)
    have l3 : (ba (catN [((fl fd : Nat) : Int), ((fl ov : Nat) : Int), (N : Int)])).size ≤ 63 := by rw [ba_size]; exact catN_len _ (by simp only [List.mem_cons, List.not_mem_nil, or_false]; rintro x (rfl | rfl | rfl) <;> assumption)
    generalize ba (catN [e, s, n, er]) = S1 at K1 l1 HHd
    generalize ba (catT [v]) = S2 at K2 l2 HHd
    generalize ba (catN [((fl fd : Nat) : Int), ((fl ov : Nat) : Int), (N : Int)]) = S3 at K3 l3 HHd
    have c1 : ¬ 9223372036854775807 < S1.size + S2.size := by omega
    have c2 : ¬ 9223372036854775807 < S1.size + S2.size + S3.size := by omega
    have HSZ : Hid ((S1 ++ S2 ++ S3).size ≤ 250) := Lib.hid (by simp only [ByteArray.size_append]; omega)
    clear he hs hn her hv hfd hov hNs
    generalize hf1 : ((fl fd : Nat) : Int) = f1 at K3 KW1
    generalize hf2 : ((fl ov : Nat) : Int) = f2 at K3 KW2
    clear hf1 hf2
    go_enter Try.func6, Try.ntmps6
    go_upto_region 1 with (fail)
    generalize w.alloc (.cells #[.int .i64 e, .int .i64 s, .int .i64 n, .int .i64 er, .string v, .bool fd, .slice A N c, .bool ov] 29) = W0 at X0 QF ⊢
    generalize hb0 : w.heap.size = b0 at X0 ⊢
    clear hb0
    have x0 := (X0.out 0 _ rfl).1
    have x1 := (X0.out 1 _ rfl).1
    have x2 := (X0.out 2 _ rfl).1
    have x3 := (X0.out 3 _ rfl).1
    have x4 := (X0.out 4 _ rfl).1
    have x5 := (X0.out 5 _ rfl).1
    have x6 := (X0.out 6 _ rfl).1
    have x7 := (X0.out 7 _ rfl).1
    go_wp2_with fail
    refine (KM.out _ QF.out).mono ?_
    rintro e1 w1 ⟨rfl, q1⟩
    replace X0 := Lib.hid (X0.out.q q1)
    replace QF := Lib.hid (QF.out.trans q1)
    clear x0 x1 x2 x3 x4 x5 x6 x7
    clear q1 KM
    have x0 := (X0.out 0 _ rfl).1
    have x1 := (X0.out 1 _ rfl).1
    have x2 := (X0.out 2 _ rfl).1
    have x3 := (X0.out 3 _ rfl).1
    have x4 := (X0.out 4 _ rfl).1
    have x5 := (X0.out 5 _ rfl).1
    have x6 := (X0.out 6 _ rfl).1
    have x7 := (X0.out 7 _ rfl).1
    go_upto_region 3 with (fail)
    go_cut [4] (fun s4 wx => s4 = .string (S1 ++ S2 ++ S3) ∧ Q w1 wx)
    case first =>
      refine wp_region_held_drew (S := Q w1) (by kernel_rfl) ?szz169 (fun hHeld => ?rzz169)
      case szz169 =>
        exact (Q.refl w1).drew
      case' rzz169 => skip
      generalize hgen : w1.drew = D0 at hHeld ⊢
      clear hgen
      refine wpAnyH_take (i := 0) (oi := ?ozz170) (v := ?vzz170) ?hzz170 ?azz170 ?bzz170 ?czz170 ?qzz170 ?yzz170 ?szz170 ?rzz170
      case hzz170 => simp only [List.getElem?_toArray, List.getElem?_cons_zero]; rfl
      case azz170 => kernel_rfl
      case bzz170 => kernel_rfl
      case czz170 => kernel_rfl
      case yzz170 =>
        refine Or.inl ⟨by rfl, ?_⟩
        intro w hSw
        skip
        go_simp
        try with_reducible rfl
      case qzz170 => exact fun _ _ _ h => h
      case szz170 => first | assumption | trivial
      case' rzz170 => simp only [Act.put, List.setIfInBounds_toArray, List.set_cons_zero, List.set_cons_succ]
      refine wpAnyH_take (i := 1) (oi := ?ozz171) (v := ?vzz171) ?hzz171 ?azz171 ?bzz171 ?czz171 ?qzz171 ?yzz171 ?szz171 ?rzz171
      case hzz171 => simp only [List.getElem?_toArray, List.getElem?_cons_zero, List.getElem?_cons_succ]; rfl
      case azz171 => kernel_rfl
      case bzz171 => kernel_rfl
      case czz171 => kernel_rfl
      case yzz171 =>
        refine Or.inl ⟨by rfl, ?_⟩
        intro w hSw
        have a0 := box_ hSw x0; have a1 := box_ hSw x1; have a2 := box_ hSw x2; have a3 := box_ hSw x3; have a4 := box_ hSw x4; have a5 := box_ hSw x5; have a6 := box_ hSw x6; have a7 := box_ hSw x7; clear hSw
        go_simp
        try with_reducible rfl
      case qzz171 => exact fun _ _ _ h => h
      case szz171 => first | assumption | trivial
      case' rzz171 => simp only [Act.put, List.setIfInBounds_toArray, List.set_cons_zero, List.set_cons_succ]
      refine wpAnyH_take (i := 2) (oi := ?ozz172) (v := ?vzz172) ?hzz172 ?azz172 ?bzz172 ?czz172 ?qzz172 ?yzz172 ?szz172 ?rzz172
      case hzz172 => simp only [List.getElem?_toArray, List.getElem?_cons_zero, List.getElem?_cons_succ]; rfl
      case azz172 => kernel_rfl
      case bzz172 => kernel_rfl
      case czz172 => kernel_rfl
      case yzz172 =>
        refine Or.inl ⟨by rfl, ?_⟩
        intro w hSw
        skip
        go_simp
        try with_reducible rfl
      case qzz172 => exact fun _ _ _ h => h
      case szz172 => first | assumption | trivial
      case' rzz172 => simp only [Act.put, List.setIfInBounds_toArray, List.set_cons_zero, List.set_cons_succ]
      refine wpAnyH_take (i := 3) (oi := ?ozz173) (v := ?vzz173) ?hzz173 ?azz173 ?bzz173 ?czz173 ?qzz173 ?yzz173 ?szz173 ?rzz173
      case hzz173 => simp only [List.getElem?_toArray, List.getElem?_cons_zero, List.getElem?_cons_succ]; rfl
      case azz173 => kernel_rfl
      case bzz173 => kernel_rfl
      case czz173 => kernel_rfl
      case yzz173 =>
        refine Or.inl ⟨by rfl, ?_⟩
        intro w hSw
        have a0 := box_ hSw x0; have a1 := box_ hSw x1; have a2 := box_ hSw x2; have a3 := box_ hSw x3; have a4 := box_ hSw x4; have a5 := box_ hSw x5; have a6 := box_ hSw x6; have a7 := box_ hSw x7; clear hSw
        go_simp
        try with_reducible rfl
      case qzz173 => exact fun _ _ _ h => h
      case szz173 => first | assumption | trivial
      case' rzz173 => simp only [Act.put, List.setIfInBounds_toArray, List.set_cons_zero, List.set_cons_succ]
      refine wpAnyH_take (i := 4) (oi := ?ozz174) (v := ?vzz174) ?hzz174 ?azz174 ?bzz174 ?czz174 ?qzz174 ?yzz174 ?szz174 ?rzz174
      case hzz174 => simp only [List.getElem?_toArray, List.getElem?_cons_zero, List.getElem?_cons_succ]; rfl
      case azz174 => kernel_rfl
      case bzz174 => kernel_rfl
      case czz174 => kernel_rfl
      case yzz174 =>
        refine Or.inl ⟨by rfl, ?_⟩
        intro w hSw
        skip
        go_simp
        try with_reducible rfl
      case qzz174 => exact fun _ _ _ h => h
      case szz174 => first | assumption | trivial
      case' rzz174 => simp only [Act.put, List.setIfInBounds_toArray, List.set_cons_zero, List.set_cons_succ]
      refine wpAnyH_take (i := 5) (oi := ?ozz175) (v := ?vzz175) ?hzz175 ?azz175 ?bzz175 ?czz175 ?qzz175 ?yzz175 ?szz175 ?rzz175
      case hzz175 => simp only [List.getElem?_toArray, List.getElem?_cons_zero, List.getElem?_cons_succ]; rfl
      case azz175 => kernel_rfl
      case bzz175 => kernel_rfl
      case czz175 => kernel_rfl
      case yzz175 =>
        refine Or.inl ⟨by rfl, ?_⟩
        intro w hSw
        have a0 := box_ hSw x0; have a1 := box_ hSw x1; have a2 := box_ hSw x2; have a3 := box_ hSw x3; have a4 := box_ hSw x4; have a5 := box_ hSw x5; have a6 := box_ hSw x6; have a7 := box_ hSw x7; clear hSw
        go_simp
        try with_reducible rfl
      case qzz175 => exact fun _ _ _ h => h
      case szz175 => first | assumption | trivial
      case' rzz175 => simp only [Act.put, List.setIfInBounds_toArray, List.set_cons_zero, List.set_cons_succ]
      refine wpAnyH_take (i := 6) (oi := ?ozz176) (v := ?vzz176) ?hzz176 ?azz176 ?bzz176 ?czz176 ?qzz176 ?yzz176 ?szz176 ?rzz176
      case hzz176 => simp only [List.getElem?_toArray, List.getElem?_cons_zero, List.getElem?_cons_succ]; rfl
      case azz176 => kernel_rfl
      case bzz176 => kernel_rfl
      case czz176 => kernel_rfl
      case yzz176 =>
        refine Or.inl ⟨by rfl, ?_⟩
        intro w hSw
        skip
        go_simp
        try with_reducible rfl
      case qzz176 => exact fun _ _ _ h => h
      case szz176 => first | assumption | trivial
      case' rzz176 => simp only [Act.put, List.setIfInBounds_toArray, List.set_cons_zero, List.set_cons_succ]
      refine wpAnyH_take (i := 7) (oi := ?ozz177) (v := ?vzz177) ?hzz177 ?azz177 ?bzz177 ?czz177 ?qzz177 ?yzz177 ?szz177 ?rzz177
      case hzz177 => simp only [List.getElem?_toArray, List.getElem?_cons_zero, List.getElem?_cons_succ]; rfl
      case azz177 => kernel_rfl
      case bzz177 => kernel_rfl
      case czz177 => kernel_rfl
      case yzz177 =>
        refine Or.inl ⟨by rfl, ?_⟩
        intro w hSw
        have a0 := box_ hSw x0; have a1 := box_ hSw x1; have a2 := box_ hSw x2; have a3 := box_ hSw x3; have a4 := box_ hSw x4; have a5 := box_ hSw x5; have a6 := box_ hSw x6; have a7 := box_ hSw x7; clear hSw
        go_simp
        try with_reducible rfl
      case qzz177 => exact fun _ _ _ h => h
      case szz177 => first | assumption | trivial
      case' rzz177 => simp only [Act.put, List.setIfInBounds_toArray, List.set_cons_zero, List.set_cons_succ]
      refine wpAnyH_take (i := 10) (oi := ?ozz178) (v := ?vzz178) ?hzz178 ?azz178 ?bzz178 ?czz178 ?qzz178 ?yzz178 ?szz178 ?rzz178
      case hzz178 => simp only [List.getElem?_toArray, List.getElem?_cons_zero, List.getElem?_cons_succ]; rfl
      case azz178 => kernel_rfl
      case bzz178 => kernel_rfl
      case czz178 => kernel_rfl
      case yzz178 =>
        refine Or.inl ⟨by rfl, ?_⟩
        intro w hSw
        skip
        go_simp
        try with_reducible rfl
      case qzz178 => exact fun _ _ _ h => h
      case szz178 => first | assumption | trivial
      case' rzz178 => simp only [Act.put, List.setIfInBounds_toArray, List.set_cons_zero, List.set_cons_succ]
      refine wpAnyH_take (i := 11) (oi := ?ozz179) (v := ?vzz179) ?hzz179 ?azz179 ?bzz179 ?czz179 ?qzz179 ?yzz179 ?szz179 ?rzz179
      case hzz179 => simp only [List.getElem?_toArray, List.getElem?_cons_zero, List.getElem?_cons_succ]; rfl
      case azz179 => kernel_rfl
      case bzz179 => kernel_rfl
      case czz179 => kernel_rfl
      case yzz179 =>
        refine Or.inl ⟨by rfl, ?_⟩
        intro w hSw
        have a0 := box_ hSw x0; have a1 := box_ hSw x1; have a2 := box_ hSw x2; have a3 := box_ hSw x3; have a4 := box_ hSw x4; have a5 := box_ hSw x5; have a6 := box_ hSw x6; have a7 := box_ hSw x7; clear hSw
        go_simp
        try with_reducible rfl
      case qzz179 => exact fun _ _ _ h => h
      case szz179 => first | assumption | trivial
      case' rzz179 => simp only [Act.put, List.setIfInBounds_toArray, List.set_cons_zero, List.set_cons_succ]
      refine wpAnyH_take (i := 15) (oi := ?ozz180) (v := ?vzz180) ?hzz180 ?azz180 ?bzz180 ?czz180 ?qzz180 ?yzz180 ?szz180 ?rzz180
      case hzz180 => simp only [List.getElem?_toArray, List.getElem?_cons_zero, List.getElem?_cons_succ]; rfl
      case azz180 => kernel_rfl
      case bzz180 => kernel_rfl
      case czz180 => kernel_rfl
      case yzz180 =>
        refine Or.inl ⟨by rfl, ?_⟩
        intro w hSw
        skip
        go_simp
        try with_reducible rfl
      case qzz180 => exact fun _ _ _ h => h
      case szz180 => first | assumption | trivial
      case' rzz180 => simp only [Act.put, List.setIfInBounds_toArray, List.set_cons_zero, List.set_cons_succ]
      refine wpAnyH_take (i := 16) (oi := ?ozz181) (v := ?vzz181) ?hzz181 ?azz181 ?bzz181 ?czz181 ?qzz181 ?yzz181 ?szz181 ?rzz181
      case hzz181 => simp only [List.getElem?_toArray, List.getElem?_cons_zero, List.getElem?_cons_succ]; rfl
      case azz181 => kernel_rfl
      case bzz181 => kernel_rfl
      case czz181 => kernel_rfl
      case yzz181 =>
        refine Or.inl ⟨by rfl, ?_⟩
        intro w hSw
        have a0 := box_ hSw x0; have a1 := box_ hSw x1; have a2 := box_ hSw x2; have a3 := box_ hSw x3; have a4 := box_ hSw x4; have a5 := box_ hSw x5; have a6 := box_ hSw x6; have a7 := box_ hSw x7; clear hSw
        go_simp
        try with_reducible rfl
      case qzz181 => exact fun _ _ _ h => h
      case szz181 => first | assumption | trivial
      case' rzz181 => simp only [Act.put, List.setIfInBounds_toArray, List.set_cons_zero, List.set_cons_succ]
      refine wpAnyH_take (i := 18) (oi := ?ozz182) (v := ?vzz182) ?hzz182 ?azz182 ?bzz182 ?czz182 ?qzz182 ?yzz182 ?szz182 ?rzz182
      case hzz182 => simp only [List.getElem?_toArray, List.getElem?_cons_zero, List.getElem?_cons_succ]; rfl
      case azz182 => kernel_rfl
      case bzz182 => kernel_rfl
      case czz182 => kernel_rfl
      case yzz182 =>
        refine Or.inl ⟨by rfl, ?_⟩
        intro w hSw
        skip
        go_simp
        try with_reducible rfl
      case qzz182 => exact fun _ _ _ h => h
      case szz182 => first | assumption | trivial
      case' rzz182 => simp only [Act.put, List.setIfInBounds_toArray, List.set_cons_zero, List.set_cons_succ]
      refine wpAnyH_take (i := 19) (oi := ?ozz183) (v := ?vzz183) ?hzz183 ?azz183 ?bzz183 ?czz183 ?qzz183 ?yzz183 ?szz183 ?rzz183
      case hzz183 => simp only [List.getElem?_toArray, List.getElem?_cons_zero, List.getElem?_cons_succ]; rfl
      case azz183 => kernel_rfl
      case bzz183 => kernel_rfl
      case czz183 => kernel_rfl
      case yzz183 =>
        refine Or.inl ⟨by rfl, ?_⟩
        intro w hSw
        have a0 := box_ hSw x0; have a1 := box_ hSw x1; have a2 := box_ hSw x2; have a3 := box_ hSw x3; have a4 := box_ hSw x4; have a5 := box_ hSw x5; have a6 := box_ hSw x6; have a7 := box_ hSw x7; clear hSw
        go_simp
        try with_reducible rfl
      case qzz183 => exact fun _ _ _ h => h
      case szz183 => first | assumption | trivial
      case' rzz183 => simp only [Act.put, List.setIfInBounds_toArray, List.set_cons_zero, List.set_cons_succ]
      refine wpAnyH_take (i := 21) (oi := ?ozz184) (v := ?vzz184) ?hzz184 ?azz184 ?bzz184 ?czz184 ?qzz184 ?yzz184 ?szz184 ?rzz184
      case hzz184 => simp only [List.getElem?_toArray, List.getElem?_cons_zero, List.getElem?_cons_succ]; rfl
      case azz184 => kernel_rfl
      case bzz184 => kernel_rfl
      case czz184 => kernel_rfl
      case yzz184 =>
        refine Or.inl ⟨by rfl, ?_⟩
        intro w hSw
        skip
        go_simp
        try with_reducible rfl
      case qzz184 => exact fun _ _ _ h => h
      case szz184 => first | assumption | trivial
      case' rzz184 => simp only [Act.put, List.setIfInBounds_toArray, List.set_cons_zero, List.set_cons_succ]
      refine wpAnyH_take (i := 22) (oi := ?ozz185) (v := ?vzz185) ?hzz185 ?azz185 ?bzz185 ?czz185 ?qzz185 ?yzz185 ?szz185 ?rzz185
      case hzz185 => simp only [List.getElem?_toArray, List.getElem?_cons_zero, List.getElem?_cons_succ]; rfl
      case azz185 => kernel_rfl
      case bzz185 => kernel_rfl
      case czz185 => kernel_rfl
      case yzz185 =>
        refine Or.inl ⟨by rfl, ?_⟩
        intro w hSw
        have a0 := box_ hSw x0; have a1 := box_ hSw x1; have a2 := box_ hSw x2; have a3 := box_ hSw x3; have a4 := box_ hSw x4; have a5 := box_ hSw x5; have a6 := box_ hSw x6; have a7 := box_ hSw x7; clear hSw
        go_simp
        try with_reducible rfl
      case qzz185 => exact fun _ _ _ h => h
      case szz185 => first | assumption | trivial
      case' rzz185 => simp only [Act.put, List.setIfInBounds_toArray, List.set_cons_zero, List.set_cons_succ]
      refine wpAnyH_take (i := 23) (oi := ?ozz186) (v := ?vzz186) ?hzz186 ?azz186 ?bzz186 ?czz186 ?qzz186 ?yzz186 ?szz186 ?rzz186
      case hzz186 => simp only [List.getElem?_toArray, List.getElem?_cons_zero, List.getElem?_cons_succ]; rfl
      case azz186 => kernel_rfl
      case bzz186 => kernel_rfl
      case czz186 => kernel_rfl
      case yzz186 =>
        refine Or.inl ⟨by rfl, ?_⟩
        intro w hSw
        skip
        go_simp
        try with_reducible rfl
      case qzz186 => exact fun _ _ _ h => h
      case szz186 => first | assumption | trivial
      case' rzz186 => simp only [Act.put, List.setIfInBounds_toArray, List.set_cons_zero, List.set_cons_succ]
      refine wpAnyH_ready (rs := [8, 12]) (by kernel_rfl) (by simp) ?_
      refine AllReadyH.cons (o := ?ozz217) ?hzz217 (fun K hK => ?kzz217) ?mzz217
      case hzz217 => simp only [List.getElem?_toArray, List.getElem?_cons_zero, List.getElem?_cons_succ]; rfl
      case kzz217 =>
        go_simp
        have qa := (Q.refl D0).alloc (.cells #[.int .i64 e, .int .i64 s, .int .i64 n, .int .i64 er] 3)
        have BN1 : Hid (Lst numK (D0.alloc (.cells #[.int .i64 e, .int .i64 s, .int .i64 n, .int .i64 er] 3)) (some ⟨D0.heap.size, 0, none⟩) 4 [e, s, n, er]) := Lib.hid (lst_litn D0 [e, s, n, er])
        generalize D0.alloc (.cells #[.int .i64 e, .int .i64 s, .int .i64 n, .int .i64 er] 3) = Y0 at qa BN1 ⊢
        generalize D0.heap.size = nbN1 at BN1 ⊢
        refine hK.out _ _ ?Szz217 (fun hHeld => ?Rzz217)
        case Szz217 =>
          exact hHeld.trans qa
        case Rzz217 =>
          clear hK K
          try simp only [Act.put, List.setIfInBounds_toArray, List.set_cons_zero, List.set_cons_succ]
          refine wpAnyH_ready (rs := [9, 12]) (by kernel_rfl) (by simp) ?_
          refine AllReadyH.cons (o := ?ozz205) ?hzz205 (fun K hK => ?kzz205) ?mzz205
          case hzz205 => simp only [List.getElem?_toArray, List.getElem?_cons_zero, List.getElem?_cons_succ]; rfl
          case kzz205 =>
            go_simp
            refine (K1.out _ nbN1 BN1.out).mono ?_
            rintro e5 v5 ⟨rfl, q5⟩
            replace BN1 := Lib.hid (BN1.out.q q5)
            go_wp2_with fail
            refine hK.out _ _ ?Szz205 (fun hHeld => ?Rzz205)
            case Szz205 =>
              exact hHeld.trans q5
            case Rzz205 =>
              clear hK K
              try simp only [Act.put, List.setIfInBounds_toArray, List.set_cons_zero, List.set_cons_succ]
              refine wpAnyH_ready (rs := [12]) (by kernel_rfl) (by simp) ?_
              refine AllReadyH.cons (o := ?ozz195) ?hzz195 (fun K hK => ?kzz195) ?mzz195
              case hzz195 => simp only [List.getElem?_toArray, List.getElem?_cons_zero, List.getElem?_cons_succ]; rfl
              case kzz195 =>
                go_simp
                have qa := (Q.refl v5).alloc (.cells #[.string v] 9)
                have BT2 : Hid (Lst strK (v5.alloc (.cells #[.string v] 9)) (some ⟨v5.heap.size, 0, none⟩) 1 [v]) := Lib.hid (lst_lits v5 [v])
                replace BN1 := Lib.hid (BN1.out.q qa)
                generalize v5.alloc (.cells #[.string v] 9) = Y1 at qa BT2 BN1 ⊢
                generalize v5.heap.size = nbT2 at BT2 ⊢
                refine hK.out _ _ ?Szz195 (fun hHeld => ?Rzz195)
                case Szz195 =>
                  exact hHeld.trans qa
                case Rzz195 =>
                  clear hK K
                  try simp only [Act.put, List.setIfInBounds_toArray, List.set_cons_zero, List.set_cons_succ]
                  refine wpAnyH_ready (rs := [13]) (by kernel_rfl) (by simp) ?_
                  refine AllReadyH.cons (o := ?ozz194) ?hzz194 (fun K hK => ?kzz194) ?mzz194
                  case hzz194 => simp only [List.getElem?_toArray, List.getElem?_cons_zero, List.getElem?_cons_succ]; rfl
                  case kzz194 =>
                    go_simp
                    refine (K2.out _ nbT2 BT2.out).mono ?_
                    rintro e6 v6 ⟨rfl, q6⟩
                    replace BN1 := Lib.hid (BN1.out.q q6)
                    replace BT2 := Lib.hid (BT2.out.q q6)
                    go_wp2_with fail
                    refine hK.out _ _ ?Szz194 (fun hHeld => ?Rzz194)
                    case Szz194 =>
                      exact hHeld.trans q6
                    case Rzz194 =>
                      clear hK K
                      try simp only [Act.put, List.setIfInBounds_toArray, List.set_cons_zero, List.set_cons_succ]
                      refine wpAnyH_take (i := 14) (oi := ?ozz187) (v := ?vzz187) ?hzz187 ?azz187 ?bzz187 ?czz187 ?qzz187 ?yzz187 ?szz187 ?rzz187
                      case hzz187 => simp only [List.getElem?_toArray, List.getElem?_cons_zero, List.getElem?_cons_succ]; rfl
                      case azz187 => kernel_rfl
                      case bzz187 => kernel_rfl
                      case czz187 => kernel_rfl
                      case yzz187 =>
                        refine Or.inl ⟨by rfl, ?_⟩
                        intro w hSw
                        skip
                        go_simp
                        try with_reducible rfl
                      case qzz187 => exact fun _ _ _ h => h
                      case szz187 => first | assumption | trivial
                      case' rzz187 => simp only [Act.put, List.setIfInBounds_toArray, List.set_cons_zero, List.set_cons_succ]
                      refine wpAnyH_ready (rs := [17]) (by kernel_rfl) (by simp) ?_
                      refine AllReadyH.cons (o := ?ozz193) ?hzz193 (fun K hK => ?kzz193) ?mzz193
                      case hzz193 => simp only [List.getElem?_toArray, List.getElem?_cons_zero, List.getElem?_cons_succ]; rfl
                      case kzz193 =>
                        go_simp
                        refine (KW1.out _).mono ?_
                        rintro e7 v7 ⟨rfl, q7⟩
                        replace BN1 := Lib.hid (BN1.out.q q7)
                        replace BT2 := Lib.hid (BT2.out.q q7)
                        go_wp2_with fail
                        refine hK.out _ _ ?Szz193 (fun hHeld => ?Rzz193)
                        case Szz193 =>
                          exact hHeld.trans q7
                        case Rzz193 =>
                          clear hK K
                          try simp only [Act.put, List.setIfInBounds_toArray, List.set_cons_zero, List.set_cons_succ]
                          refine wpAnyH_ready (rs := [20]) (by kernel_rfl) (by simp) ?_
                          refine AllReadyH.cons (o := ?ozz192) ?hzz192 (fun K hK => ?kzz192) ?mzz192
                          case hzz192 => simp only [List.getElem?_toArray, List.getElem?_cons_zero, List.getElem?_cons_succ]; rfl
                          case kzz192 =>
                            go_simp
                            refine (KW2.out _).mono ?_
                            rintro e8 v8 ⟨rfl, q8⟩
                            replace BN1 := Lib.hid (BN1.out.q q8)
                            replace BT2 := Lib.hid (BT2.out.q q8)
                            go_wp2_with fail
                            refine hK.out _ _ ?Szz192 (fun hHeld => ?Rzz192)
                            case Szz192 =>
                              exact hHeld.trans q8
                            case Rzz192 =>
                              clear hK K
                              try simp only [Act.put, List.setIfInBounds_toArray, List.set_cons_zero, List.set_cons_succ]
                              refine wpAnyH_ready (rs := [24]) (by kernel_rfl) (by simp) ?_
                              refine AllReadyH.cons (o := ?ozz191) ?hzz191 (fun K hK => ?kzz191) ?mzz191
                              case hzz191 => simp only [List.getElem?_toArray, List.getElem?_cons_zero, List.getElem?_cons_succ]; rfl
                              case kzz191 =>
                                go_simp
                                have qa := (Q.refl v8).alloc (.cells #[.int .i64 f1, .int .i64 f2, .int .i64 (N : Int)] 3)
                                have BN3 : Hid (Lst numK (v8.alloc (.cells #[.int .i64 f1, .int .i64 f2, .int .i64 (N : Int)] 3)) (some ⟨v8.heap.size, 0, none⟩) 3 [f1, f2, (N : Int)]) := Lib.hid (lst_litn v8 [f1, f2, (N : Int)])
                                replace BN1 := Lib.hid (BN1.out.q qa)
                                replace BT2 := Lib.hid (BT2.out.q qa)
                                generalize v8.alloc (.cells #[.int .i64 f1, .int .i64 f2, .int .i64 (N : Int)] 3) = Y2 at qa BN3 BN1 BT2 ⊢
                                generalize v8.heap.size = nbN3 at BN3 ⊢
                                refine hK.out _ _ ?Szz191 (fun hHeld => ?Rzz191)
                                case Szz191 =>
                                  exact hHeld.trans qa
                                case Rzz191 =>
                                  clear hK K
                                  try simp only [Act.put, List.setIfInBounds_toArray, List.set_cons_zero, List.set_cons_succ]
                                  refine wpAnyH_ready (rs := [25]) (by kernel_rfl) (by simp) ?_
                                  refine AllReadyH.cons (o := ?ozz190) ?hzz190 (fun K hK => ?kzz190) ?mzz190
                                  case hzz190 => simp only [List.getElem?_toArray, List.getElem?_cons_zero, List.getElem?_cons_succ]; rfl
                                  case kzz190 =>
                                    go_simp
                                    refine (K3.out _ nbN3 BN3.out).mono ?_
                                    rintro e9 v9 ⟨rfl, q9⟩
                                    replace BN1 := Lib.hid (BN1.out.q q9)
                                    replace BT2 := Lib.hid (BT2.out.q q9)
                                    replace BN3 := Lib.hid (BN3.out.q q9)
                                    go_wp2_with fail
                                    refine hK.out _ _ ?Szz190 (fun hHeld => ?Rzz190)
                                    case Szz190 =>
                                      exact hHeld.trans q9
                                    case Rzz190 =>
                                      clear hK K
                                      try simp only [Act.put, List.setIfInBounds_toArray, List.set_cons_zero, List.set_cons_succ]
                                      refine wpAnyH_take (i := 26) (oi := ?ozz188) (v := ?vzz188) ?hzz188 ?azz188 ?bzz188 ?czz188 ?qzz188 ?yzz188 ?szz188 ?rzz188
                                      case hzz188 => simp only [List.getElem?_toArray, List.getElem?_cons_zero, List.getElem?_cons_succ]; rfl
                                      case azz188 => kernel_rfl
                                      case bzz188 => kernel_rfl
                                      case czz188 => kernel_rfl
                                      case yzz188 =>
                                        refine Or.inl ⟨by rfl, ?_⟩
                                        intro w hSw
                                        skip
                                        go_simp
                                        try with_reducible rfl
                                      case qzz188 => exact fun _ _ _ h => h
                                      case szz188 => first | assumption | trivial
                                      case' rzz188 => simp only [Act.put, List.setIfInBounds_toArray, List.set_cons_zero, List.set_cons_succ]
                                      refine wpAnyH_take (i := 27) (oi := ?ozz189) (v := ?vzz189) ?hzz189 ?azz189 ?bzz189 ?czz189 ?qzz189 ?yzz189 ?szz189 ?rzz189
                                      case hzz189 => simp only [List.getElem?_toArray, List.getElem?_cons_zero, List.getElem?_cons_succ]; rfl
                                      case azz189 => kernel_rfl
                                      case bzz189 => kernel_rfl
                                      case czz189 => kernel_rfl
                                      case yzz189 =>
                                        refine Or.inl ⟨by rfl, ?_⟩
                                        intro w hSw
                                        skip
                                        go_simp
                                        try with_reducible rfl
                                      case qzz189 => exact fun _ _ _ h => h
                                      case szz189 => first | assumption | trivial
                                      case' rzz189 => simp only [Act.put, List.setIfInBounds_toArray, List.set_cons_zero, List.set_cons_succ]
                                      refine wpAnyH_done (by kernel_rfl) ?_ _
                                      go_wp2_with fail
                                      go_meet
                                      exact ⟨rfl, hHeld⟩
                                  case' mzz190 => skip
                                  exact AllReadyH.nil
                              case' mzz191 => skip
                              exact AllReadyH.nil
                          case' mzz192 => skip
                          exact AllReadyH.nil
                      case' mzz193 => skip
                      exact AllReadyH.nil
                  case' mzz194 => skip
                  exact AllReadyH.nil
              case' mzz195 => skip
              exact AllReadyH.nil
          case' mzz205 => skip
          refine AllReadyH.cons (o := ?ozz206) ?hzz206 (fun K hK => ?kzz206) ?mzz206
          case hzz206 => simp only [List.getElem?_toArray, List.getElem?_cons_zero, List.getElem?_cons_succ]; rfl
          case kzz206 =>
            go_simp
            have qa := (Q.refl Y0).alloc (.cells #[.string v] 9)
            have BT2 : Hid (Lst strK (Y0.alloc (.cells #[.string v] 9)) (some ⟨Y0.heap.size, 0, none⟩) 1 [v]) := Lib.hid (lst_lits Y0 [v])
            replace BN1 := Lib.hid (BN1.out.q qa)
            generalize Y0.alloc (.cells #[.string v] 9) = Y3 at qa BT2 BN1 ⊢
            generalize Y0.heap.size = nbT2 at BT2 ⊢
            refine hK.out _ _ ?Szz206 (fun hHeld => ?Rzz206)
            case Szz206 =>
              exact hHeld.trans qa
            case Rzz206 =>
              clear hK K
              try simp only [Act.put, List.setIfInBounds_toArray, List.set_cons_zero, List.set_cons_succ]
              refine wpAnyH_ready (rs := [9]) (by kernel_rfl) (by simp) ?_
              refine AllReadyH.cons (o := ?ozz204) ?hzz204 (fun K hK => ?kzz204) ?mzz204
              case hzz204 => simp only [List.getElem?_toArray, List.getElem?_cons_zero, List.getElem?_cons_succ]; rfl
              case kzz204 =>
                go_simp
                refine (K1.out _ nbN1 BN1.out).mono ?_
                rintro e5 v5 ⟨rfl, q5⟩
                replace BN1 := Lib.hid (BN1.out.q q5)
                replace BT2 := Lib.hid (BT2.out.q q5)
                go_wp2_with fail
                refine hK.out _ _ ?Szz204 (fun hHeld => ?Rzz204)
                case Szz204 =>
                  exact hHeld.trans q5
                case Rzz204 =>
                  clear hK K
                  try simp only [Act.put, List.setIfInBounds_toArray, List.set_cons_zero, List.set_cons_succ]
                  refine wpAnyH_ready (rs := [13]) (by kernel_rfl) (by simp) ?_
                  refine AllReadyH.cons (o := ?ozz203) ?hzz203 (fun K hK => ?kzz203) ?mzz203
                  case hzz203 => simp only [List.getElem?_toArray, List.getElem?_cons_zero, List.getElem?_cons_succ]; rfl
                  case kzz203 =>
                    go_simp
                    refine (K2.out _ nbT2 BT2.out).mono ?_
                    rintro e6 v6 ⟨rfl, q6⟩
                    replace BN1 := Lib.hid (BN1.out.q q6)
                    replace BT2 := Lib.hid (BT2.out.q q6)
                    go_wp2_with fail
                    refine hK.out _ _ ?Szz203 (fun hHeld => ?Rzz203)
                    case Szz203 =>
                      exact hHeld.trans q6
                    case Rzz203 =>
                      clear hK K
                      try simp only [Act.put, List.setIfInBounds_toArray, List.set_cons_zero, List.set_cons_succ]
                      refine wpAnyH_take (i := 14) (oi := ?ozz196) (v := ?vzz196) ?hzz196 ?azz196 ?bzz196 ?czz196 ?qzz196 ?yzz196 ?szz196 ?rzz196
                      case hzz196 => simp only [List.getElem?_toArray, List.getElem?_cons_zero, List.getElem?_cons_succ]; rfl
                      case azz196 => kernel_rfl
                      case bzz196 => kernel_rfl
                      case czz196 => kernel_rfl
                      case yzz196 =>
                        refine Or.inl ⟨by rfl, ?_⟩
                        intro w hSw
                        skip
                        go_simp
                        try with_reducible rfl
                      case qzz196 => exact fun _ _ _ h => h
                      case szz196 => first | assumption | trivial
                      case' rzz196 => simp only [Act.put, List.setIfInBounds_toArray, List.set_cons_zero, List.set_cons_succ]
                      refine wpAnyH_ready (rs := [17]) (by kernel_rfl) (by simp) ?_
                      refine AllReadyH.cons (o := ?ozz202) ?hzz202 (fun K hK => ?kzz202) ?mzz202
                      case hzz202 => simp only [List.getElem?_toArray, List.getElem?_cons_zero, List.getElem?_cons_succ]; rfl
                      case kzz202 =>
                        go_simp
                        refine (KW1.out _).mono ?_
                        rintro e7 v7 ⟨rfl, q7⟩
                        replace BN1 := Lib.hid (BN1.out.q q7)
                        replace BT2 := Lib.hid (BT2.out.q q7)
                        go_wp2_with fail
                        refine hK.out _ _ ?Szz202 (fun hHeld => ?Rzz202)
                        case Szz202 =>
                          exact hHeld.trans q7
                        case Rzz202 =>
                          clear hK K
                          try simp only [Act.put, List.setIfInBounds_toArray, List.set_cons_zero, List.set_cons_succ]
                          refine wpAnyH_ready (rs := [20]) (by kernel_rfl) (by simp) ?_
                          refine AllReadyH.cons (o := ?ozz201) ?hzz201 (fun K hK => ?kzz201) ?mzz201
                          case hzz201 => simp only [List.getElem?_toArray, List.getElem?_cons_zero, List.getElem?_cons_succ]; rfl
                          case kzz201 =>
                            go_simp
                            refine (KW2.out _).mono ?_
                            rintro e8 v8 ⟨rfl, q8⟩
                            replace BN1 := Lib.hid (BN1.out.q q8)
                            replace BT2 := Lib.hid (BT2.out.q q8)
                            go_wp2_with fail
                            refine hK.out _ _ ?Szz201 (fun hHeld => ?Rzz201)
                            case Szz201 =>
                              exact hHeld.trans q8
                            case Rzz201 =>
                              clear hK K
                              try simp only [Act.put, List.setIfInBounds_toArray, List.set_cons_zero, List.set_cons_succ]
                              refine wpAnyH_ready (rs := [24]) (by kernel_rfl) (by simp) ?_
                              refine AllReadyH.cons (o := ?ozz200) ?hzz200 (fun K hK => ?kzz200) ?mzz200
                              case hzz200 => simp only [List.getElem?_toArray, List.getElem?_cons_zero, List.getElem?_cons_succ]; rfl
                              case kzz200 =>
                                go_simp
                                have qa := (Q.refl v8).alloc (.cells #[.int .i64 f1, .int .i64 f2, .int .i64 (N : Int)] 3)
                                have BN3 : Hid (Lst numK (v8.alloc (.cells #[.int .i64 f1, .int .i64 f2, .int .i64 (N : Int)] 3)) (some ⟨v8.heap.size, 0, none⟩) 3 [f1, f2, (N : Int)]) := Lib.hid (lst_litn v8 [f1, f2, (N : Int)])
                                replace BN1 := Lib.hid (BN1.out.q qa)
                                replace BT2 := Lib.hid (BT2.out.q qa)
                                generalize v8.alloc (.cells #[.int .i64 f1, .int .i64 f2, .int .i64 (N : Int)] 3) = Y4 at qa BN3 BN1 BT2 ⊢
                                generalize v8.heap.size = nbN3 at BN3 ⊢
                                refine hK.out _ _ ?Szz200 (fun hHeld => ?Rzz200)
                                case Szz200 =>
                                  exact hHeld.trans qa
                                case Rzz200 =>
                                  clear hK K
                                  try simp only [Act.put, List.setIfInBounds_toArray, List.set_cons_zero, List.set_cons_succ]
                                  refine wpAnyH_ready (rs := [25]) (by kernel_rfl) (by simp) ?_
                                  refine AllReadyH.cons (o := ?ozz199) ?hzz199 (fun K hK => ?kzz199) ?mzz199
                                  case hzz199 => simp only [List.getElem?_toArray, List.getElem?_cons_zero, List.getElem?_cons_succ]; rfl
                                  case kzz199 =>
                                    go_simp
                                    refine (K3.out _ nbN3 BN3.out).mono ?_
                                    rintro e9 v9 ⟨rfl, q9⟩
                                    replace BN1 := Lib.hid (BN1.out.q q9)
                                    replace BT2 := Lib.hid (BT2.out.q q9)
                                    replace BN3 := Lib.hid (BN3.out.q q9)
                                    go_wp2_with fail
                                    refine hK.out _ _ ?Szz199 (fun hHeld => ?Rzz199)
                                    case Szz199 =>
                                      exact hHeld.trans q9
                                    case Rzz199 =>
                                      clear hK K
                                      try simp only [Act.put, List.setIfInBounds_toArray, List.set_cons_zero, List.set_cons_succ]
                                      refine wpAnyH_take (i := 26) (oi := ?ozz197) (v := ?vzz197) ?hzz197 ?azz197 ?bzz197 ?czz197 ?qzz197 ?yzz197 ?szz197 ?rzz197
                                      case hzz197 => simp only [List.getElem?_toArray, List.getElem?_cons_zero, List.getElem?_cons_succ]; rfl
                                      case azz197 => kernel_rfl
                                      case bzz197 => kernel_rfl
                                      case czz197 => kernel_rfl
                                      case yzz197 =>
                                        refine Or.inl ⟨by rfl, ?_⟩
                                        intro w hSw
                                        skip
                                        go_simp
                                        try with_reducible rfl
                                      case qzz197 => exact fun _ _ _ h => h
                                      case szz197 => first | assumption | trivial
                                      case' rzz197 => simp only [Act.put, List.setIfInBounds_toArray, List.set_cons_zero, List.set_cons_succ]
                                      refine wpAnyH_take (i := 27) (oi := ?ozz198) (v := ?vzz198) ?hzz198 ?azz198 ?bzz198 ?czz198 ?qzz198 ?yzz198 ?szz198 ?rzz198
                                      case hzz198 => simp only [List.getElem?_toArray, List.getElem?_cons_zero, List.getElem?_cons_succ]; rfl
                                      case azz198 => kernel_rfl
                                      case bzz198 => kernel_rfl
                                      case czz198 => kernel_rfl
                                      case yzz198 =>
                                        refine Or.inl ⟨by rfl, ?_⟩
                                        intro w hSw
                                        skip
                                        go_simp
                                        try with_reducible rfl
                                      case qzz198 => exact fun _ _ _ h => h
                                      case szz198 => first | assumption | trivial
                                      case' rzz198 => simp only [Act.put, List.setIfInBounds_toArray, List.set_cons_zero, List.set_cons_succ]
                                      refine wpAnyH_done (by kernel_rfl) ?_ _
                                      go_wp2_with fail
                                      go_meet
                                      exact ⟨rfl, hHeld⟩
                                  case' mzz199 => skip
                                  exact AllReadyH.nil
                              case' mzz200 => skip
                              exact AllReadyH.nil
                          case' mzz201 => skip
                          exact AllReadyH.nil
                      case' mzz202 => skip
                      exact AllReadyH.nil
                  case' mzz203 => skip
                  exact AllReadyH.nil
              case' mzz204 => skip
              exact AllReadyH.nil
          case' mzz206 => skip
          exact AllReadyH.nil
      case' mzz217 => skip
      refine AllReadyH.cons (o := ?ozz218) ?hzz218 (fun K hK => ?kzz218) ?mzz218
      case hzz218 => simp only [List.getElem?_toArray, List.getElem?_cons_zero, List.getElem?_cons_succ]; rfl
      case kzz218 =>
        go_simp
        have qa := (Q.refl D0).alloc (.cells #[.string v] 9)
        have BT2 : Hid (Lst strK (D0.alloc (.cells #[.string v] 9)) (some ⟨D0.heap.size, 0, none⟩) 1 [v]) := Lib.hid (lst_lits D0 [v])
        generalize D0.alloc (.cells #[.string v] 9) = Y5 at qa BT2 ⊢
        generalize D0.heap.size = nbT2 at BT2 ⊢
        refine hK.out _ _ ?Szz218 (fun hHeld => ?Rzz218)
        case Szz218 =>
          exact hHeld.trans qa
        case Rzz218 =>
          clear hK K
          try simp only [Act.put, List.setIfInBounds_toArray, List.set_cons_zero, List.set_cons_succ]
          refine wpAnyH_ready (rs := [8]) (by kernel_rfl) (by simp) ?_
          refine AllReadyH.cons (o := ?ozz216) ?hzz216 (fun K hK => ?kzz216) ?mzz216
          case hzz216 => simp only [List.getElem?_toArray, List.getElem?_cons_zero, List.getElem?_cons_succ]; rfl
          case kzz216 =>
            go_simp
            have qa := (Q.refl Y5).alloc (.cells #[.int .i64 e, .int .i64 s, .int .i64 n, .int .i64 er] 3)
            have BN1 : Hid (Lst numK (Y5.alloc (.cells #[.int .i64 e, .int .i64 s, .int .i64 n, .int .i64 er] 3)) (some ⟨Y5.heap.size, 0, none⟩) 4 [e, s, n, er]) := Lib.hid (lst_litn Y5 [e, s, n, er])
            replace BT2 := Lib.hid (BT2.out.q qa)
            generalize Y5.alloc (.cells #[.int .i64 e, .int .i64 s, .int .i64 n, .int .i64 er] 3) = Y6 at qa BN1 BT2 ⊢
            generalize Y5.heap.size = nbN1 at BN1 ⊢
            refine hK.out _ _ ?Szz216 (fun hHeld => ?Rzz216)
            case Szz216 =>
              exact hHeld.trans qa
            case Rzz216 =>
              clear hK K
              try simp only [Act.put, List.setIfInBounds_toArray, List.set_cons_zero, List.set_cons_succ]
              refine wpAnyH_ready (rs := [9]) (by kernel_rfl) (by simp) ?_
              refine AllReadyH.cons (o := ?ozz215) ?hzz215 (fun K hK => ?kzz215) ?mzz215
              case hzz215 => simp only [List.getElem?_toArray, List.getElem?_cons_zero, List.getElem?_cons_succ]; rfl
              case kzz215 =>
                go_simp
                refine (K1.out _ nbN1 BN1.out).mono ?_
                rintro e5 v5 ⟨rfl, q5⟩
                replace BT2 := Lib.hid (BT2.out.q q5)
                replace BN1 := Lib.hid (BN1.out.q q5)
                go_wp2_with fail
                refine hK.out _ _ ?Szz215 (fun hHeld => ?Rzz215)
                case Szz215 =>
                  exact hHeld.trans q5
                case Rzz215 =>
                  clear hK K
                  try simp only [Act.put, List.setIfInBounds_toArray, List.set_cons_zero, List.set_cons_succ]
                  refine wpAnyH_ready (rs := [13]) (by kernel_rfl) (by simp) ?_
                  refine AllReadyH.cons (o := ?ozz214) ?hzz214 (fun K hK => ?kzz214) ?mzz214
                  case hzz214 => simp only [List.getElem?_toArray, List.getElem?_cons_zero, List.getElem?_cons_succ]; rfl
                  case kzz214 =>
                    go_simp
                    refine (K2.out _ nbT2 BT2.out).mono ?_
                    rintro e6 v6 ⟨rfl, q6⟩
                    replace BT2 := Lib.hid (BT2.out.q q6)
                    replace BN1 := Lib.hid (BN1.out.q q6)
                    go_wp2_with fail
                    refine hK.out _ _ ?Szz214 (fun hHeld => ?Rzz214)
                    case Szz214 =>
                      exact hHeld.trans q6
                    case Rzz214 =>
                      clear hK K
                      try simp only [Act.put, List.setIfInBounds_toArray, List.set_cons_zero, List.set_cons_succ]
                      refine wpAnyH_take (i := 14) (oi := ?ozz207) (v := ?vzz207) ?hzz207 ?azz207 ?bzz207 ?czz207 ?qzz207 ?yzz207 ?szz207 ?rzz207
                      case hzz207 => simp only [List.getElem?_toArray, List.getElem?_cons_zero, List.getElem?_cons_succ]; rfl
                      case azz207 => kernel_rfl
                      case bzz207 => kernel_rfl
                      case czz207 => kernel_rfl
                      case yzz207 =>
                        refine Or.inl ⟨by rfl, ?_⟩
                        intro w hSw
                        skip
                        go_simp
                        try with_reducible rfl
                      case qzz207 => exact fun _ _ _ h => h
                      case szz207 => first | assumption | trivial
                      case' rzz207 => simp only [Act.put, List.setIfInBounds_toArray, List.set_cons_zero, List.set_cons_succ]
                      refine wpAnyH_ready (rs := [17]) (by kernel_rfl) (by simp) ?_
                      refine AllReadyH.cons (o := ?ozz213) ?hzz213 (fun K hK => ?kzz213) ?mzz213
                      case hzz213 => simp only [List.getElem?_toArray, List.getElem?_cons_zero, List.getElem?_cons_succ]; rfl
                      case kzz213 =>
                        go_simp
                        refine (KW1.out _).mono ?_
                        rintro e7 v7 ⟨rfl, q7⟩
                        replace BT2 := Lib.hid (BT2.out.q q7)
                        replace BN1 := Lib.hid (BN1.out.q q7)
                        go_wp2_with fail
                        refine hK.out _ _ ?Szz213 (fun hHeld => ?Rzz213)
                        case Szz213 =>
                          exact hHeld.trans q7
                        case Rzz213 =>
                          clear hK K
                          try simp only [Act.put, List.setIfInBounds_toArray, List.set_cons_zero, List.set_cons_succ]
                          refine wpAnyH_ready (rs := [20]) (by kernel_rfl) (by simp) ?_
                          refine AllReadyH.cons (o := ?ozz212) ?hzz212 (fun K hK => ?kzz212) ?mzz212
                          case hzz212 => simp only [List.getElem?_toArray, List.getElem?_cons_zero, List.getElem?_cons_succ]; rfl
                          case kzz212 =>
                            go_simp
                            refine (KW2.out _).mono ?_
                            rintro e8 v8 ⟨rfl, q8⟩
                            replace BT2 := Lib.hid (BT2.out.q q8)
                            replace BN1 := Lib.hid (BN1.out.q q8)
                            go_wp2_with fail
                            refine hK.out _ _ ?Szz212 (fun hHeld => ?Rzz212)
                            case Szz212 =>
                              exact hHeld.trans q8
                            case Rzz212 =>
                              clear hK K
                              try simp only [Act.put, List.setIfInBounds_toArray, List.set_cons_zero, List.set_cons_succ]
                              refine wpAnyH_ready (rs := [24]) (by kernel_rfl) (by simp) ?_
                              refine AllReadyH.cons (o := ?ozz211) ?hzz211 (fun K hK => ?kzz211) ?mzz211
                              case hzz211 => simp only [List.getElem?_toArray, List.getElem?_cons_zero, List.getElem?_cons_succ]; rfl
                              case kzz211 =>
                                go_simp
                                have qa := (Q.refl v8).alloc (.cells #[.int .i64 f1, .int .i64 f2, .int .i64 (N : Int)] 3)
                                have BN3 : Hid (Lst numK (v8.alloc (.cells #[.int .i64 f1, .int .i64 f2, .int .i64 (N : Int)] 3)) (some ⟨v8.heap.size, 0, none⟩) 3 [f1, f2, (N : Int)]) := Lib.hid (lst_litn v8 [f1, f2, (N : Int)])
                                replace BT2 := Lib.hid (BT2.out.q qa)
                                replace BN1 := Lib.hid (BN1.out.q qa)
                                generalize v8.alloc (.cells #[.int .i64 f1, .int .i64 f2, .int .i64 (N : Int)] 3) = Y7 at qa BN3 BT2 BN1 ⊢
                                generalize v8.heap.size = nbN3 at BN3 ⊢
                                refine hK.out _ _ ?Szz211 (fun hHeld => ?Rzz211)
                                case Szz211 =>
                                  exact hHeld.trans qa
                                case Rzz211 =>
                                  clear hK K
                                  try simp only [Act.put, List.setIfInBounds_toArray, List.set_cons_zero, List.set_cons_succ]
                                  refine wpAnyH_ready (rs := [25]) (by kernel_rfl) (by simp) ?_
                                  refine AllReadyH.cons (o := ?ozz210) ?hzz210 (fun K hK => ?kzz210) ?mzz210
                                  case hzz210 => simp only [List.getElem?_toArray, List.getElem?_cons_zero, List.getElem?_cons_succ]; rfl
                                  case kzz210 =>
                                    go_simp
                                    refine (K3.out _ nbN3 BN3.out).mono ?_
                                    rintro e9 v9 ⟨rfl, q9⟩
                                    replace BT2 := Lib.hid (BT2.out.q q9)
                                    replace BN1 := Lib.hid (BN1.out.q q9)
                                    replace BN3 := Lib.hid (BN3.out.q q9)
                                    go_wp2_with fail
                                    refine hK.out _ _ ?Szz210 (fun hHeld => ?Rzz210)
                                    case Szz210 =>
                                      exact hHeld.trans q9
                                    case Rzz210 =>
                                      clear hK K
                                      try simp only [Act.put, List.setIfInBounds_toArray, List.set_cons_zero, List.set_cons_succ]
                                      refine wpAnyH_take (i := 26) (oi := ?ozz208) (v := ?vzz208) ?hzz208 ?azz208 ?bzz208 ?czz208 ?qzz208 ?yzz208 ?szz208 ?rzz208
                                      case hzz208 => simp only [List.getElem?_toArray, List.getElem?_cons_zero, List.getElem?_cons_succ]; rfl
                                      case azz208 => kernel_rfl
                                      case bzz208 => kernel_rfl
                                      case czz208 => kernel_rfl
                                      case yzz208 =>
                                        refine Or.inl ⟨by rfl, ?_⟩
                                        intro w hSw
                                        skip
                                        go_simp
                                        try with_reducible rfl
                                      case qzz208 => exact fun _ _ _ h => h
                                      case szz208 => first | assumption | trivial
                                      case' rzz208 => simp only [Act.put, List.setIfInBounds_toArray, List.set_cons_zero, List.set_cons_succ]
                                      refine wpAnyH_take (i := 27) (oi := ?ozz209) (v := ?vzz209) ?hzz209 ?azz209 ?bzz209 ?czz209 ?qzz209 ?yzz209 ?szz209 ?rzz209
                                      case hzz209 => simp only [List.getElem?_toArray, List.getElem?_cons_zero, List.getElem?_cons_succ]; rfl
                                      case azz209 => kernel_rfl
                                      case bzz209 => kernel_rfl
                                      case czz209 => kernel_rfl
                                      case yzz209 =>
                                        refine Or.inl ⟨by rfl, ?_⟩
                                        intro w hSw
                                        skip
                                        go_simp
                                        try with_reducible rfl
                                      case qzz209 => exact fun _ _ _ h => h
                                      case szz209 => first | assumption | trivial
                                      case' rzz209 => simp only [Act.put, List.setIfInBounds_toArray, List.set_cons_zero, List.set_cons_succ]
                                      refine wpAnyH_done (by kernel_rfl) ?_ _
                                      go_wp2_with fail
                                      go_meet
                                      exact ⟨rfl, hHeld⟩
                                  case' mzz210 => skip
                                  exact AllReadyH.nil
                              case' mzz211 => skip
                              exact AllReadyH.nil
                          case' mzz212 => skip
                          exact AllReadyH.nil
                      case' mzz213 => skip
                      exact AllReadyH.nil
                  case' mzz214 => skip
                  exact AllReadyH.nil
              case' mzz215 => skip
              exact AllReadyH.nil
          case' mzz216 => skip
          exact AllReadyH.nil
      case' mzz218 => skip
      exact AllReadyH.nil
    case rest =>
      obtain ⟨rfl, q2⟩ := hcut
      replace X0 := Lib.hid (X0.out.q q2)
      replace QF := Lib.hid (QF.out.trans q2)
      clear q2 c1 c2 l1 l2 l3 K1 K2 K3 KW1 KW2
      clear x0 x1 x2 x3 x4 x5 x6 x7
      generalize S1 ++ S2 ++ S3 = HD at HHd HSZ ⊢
      have x0 := (X0.out 0 _ rfl).1
      have x1 := (X0.out 1 _ rfl).1
      have x2 := (X0.out 2 _ rfl).1
      have x3 := (X0.out 3 _ rfl).1
      have x4 := (X0.out 4 _ rfl).1
      have x5 := (X0.out 5 _ rfl).1
      have x6 := (X0.out 6 _ rfl).1
      have x7 := (X0.out 7 _ rfl).1
      go_upto_region 5 with (fail)
      go_loopw [4, 40] (fun sv iv wr => ∃ k : Nat, k ≤ N ∧ iv = .int .i64 (k : Nat) ∧ sv = .string (HD ++ ba (rowsB (l.take k) [])) ∧ Q w wr) (fun _ i _ => N - (intOf i).toNat)
      case atStart => exact ⟨0, Nat.zero_le _, rfl, by rw [List.take_zero]; show _ = Value.string (HD ++ ba []); rw [show HD ++ ba [] = HD from by apply ByteArray.ext; apply Array.ext'; unfold ba; simp], QF.out⟩
      case round =>
        obtain ⟨k, hk, rfl, rfl, hq⟩ := hrel
        have QR := Lib.hid hq
        clear hq QF X0
        clear x0 x1 x2 x3 x4 x5 x6 x7
        by_cases hlt : k < N
        case neg =>
          have HE : Hid (HD ++ ba (rowsB (l.take k) []) = ba (rep ⟨e, s, n, er, v, fd, ov, l⟩)) := Lib.hid (by
            rw [List.take_of_length_le (by rw [HL.out]; omega)]
            exact HHd.out [])
          have hkn : ¬ (k : Int) < (N : Int) := by omega
          go_wp2
          go_ret2
          exact ⟨by rw [HR2.out]; rw [HE.out]; rfl, QR.out⟩
        have hkn : (k : Int) < (N : Int) := by omega
        have hkl : k < l.length := by rw [HL.out]; exact hlt
        obtain ⟨ad, rfl, hab, y0, y1⟩ := load_pair (HA.out.q QR.out) hlt hkl
        have hkey := M.out.ok l[k] (List.getElem_mem hkl)
        have hsn : rowsB (l.take (k + 1)) [] = rowsB (l.take k) [] ++ (ptx l[k].key ++ ptx l[k].val) := by
          rw [List.take_succ_eq_append_getElem hkl, rowsB_snoc, List.append_nil]
          have := rowsB_app (l.take k) [] (ptx l[k].key ++ ptx l[k].val)
          rw [List.nil_append] at this
          exact this
        have hrl : (ba (rowsB (l.take k) [])).size ≤ 1700 := by
          rw [ba_size]
          have h1 := rowsB_len (l.take k) (fun x hx => M.out.ok x (List.mem_of_mem_take hx))
          have h2 : (l.take k).length ≤ 16 := by rw [List.length_take]; omega
          omega
        have HSN : Hid (HD ++ ba (rowsB (l.take k) []) ++ ba (catT [l[k].key, l[k].val]) = HD ++ ba (rowsB (l.take (k + 1)) [])) := Lib.hid (by
          rw [hsn, ← ba_app]
          unfold catT
          simp only [List.flatMap_cons, List.flatMap_nil, List.append_nil]
          apply ByteArray.ext
          apply Array.ext'
          simp)
        generalize l[k] = x at y0 y1 hkey HSN
        have hsz : (HD ++ ba (rowsB (l.take k) [])).size ≤ 2000 := by rw [ByteArray.size_append]; have := HSZ.out; omega
        have KT : Hid (∀ W b, Lst strK W (some ⟨b, 0, none⟩) 2 [x.key, x.val] → Calls Try.prog 9 #[.slice (some ⟨b, 0, none⟩) 2 2] W fun e' w' => e' = .returned (.string (ba (catT [x.key, x.val]))) ∧ Q W w') := Lib.hid (fun W b h => otexts_any _ 2 2 _ W h (by omega) (by simp only [List.mem_cons, List.not_mem_nil, or_false]; rintro y (rfl | rfl) <;> omega))
        have m1 : (ba (catT [x.key, x.val])).size ≤ 134 := by rw [ba_size]; exact catT_len _ (by simp only [List.mem_cons, List.not_mem_nil, or_false]; rintro y (rfl | rfl) <;> omega)
        clear hrl hsn hkl hkey
        generalize HD ++ ba (rowsB (l.take k) []) = AC at hsz HSN ⊢
        generalize ba (catT [x.key, x.val]) = S4 at KT m1 HSN
        have c1 : ¬ 9223372036854775807 < AC.size + S4.size := by omega
        clear hsz m1
        have X6 : Hid (Bx (wr.alloc (.cells #[.string x.key, .string x.val] 41)) wr.heap.size [.string x.key, .string x.val]) := Lib.hid (Bx.new wr [.string x.key, .string x.val] 41)
        replace QR := Lib.hid (QR.out.trans ((Q.refl wr).alloc (.cells #[.string x.key, .string x.val] 41)))
        go_upto_region 7 with (fail)
        generalize wr.alloc (.cells #[.string x.key, .string x.val] 41) = W6 at X6 QR ⊢
        generalize wr.heap.size = b6 at X6 ⊢
        clear y0 y1
        have z0 := (X6.out 0 _ rfl).1
        have z1 := (X6.out 1 _ rfl).1
        have HT := Lib.hid (lst_lits W6 [x.key, x.val])
        have qa := Lib.hid ((Q.refl W6).alloc (.cells #[.string x.key, .string x.val] 9))
        go_wp2_with fail
        refine (KT.out _ _ HT.out).mono ?_
        rintro e7 w7 ⟨rfl, q7⟩
        have Q7 := Lib.hid (QR.out.trans (qa.out.trans q7))
        clear q7 qa HT KT
        go_wp2
        rw [HSN.out]
        go_roundw
        case rel => exact ⟨k + 1, by omega, by go_num, rfl, Q7.out⟩
        case measure => simp [intOf]; omega
end Wi
end Go.Proofs.Ytdipikdebapmlaa
