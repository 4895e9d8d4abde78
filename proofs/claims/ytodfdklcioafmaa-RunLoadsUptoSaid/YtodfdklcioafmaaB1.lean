/- Base, Frame, Mem, Flat, DiskMath, Files, DiskMath2, DiskFind, DiskOwn, DiskIn, Bulk, SumMath, SumWalks: merged. -/
import Derived.Test.YtodfdklcioafmaaRows
import Derived.WalkKit
import Derived.WalkSpells
import Derived.WalkLawsBesides
import Derived.ProofKit
import Derived.OpenShut
import Derived.ShutString
import Derived.Lib.Hide
import Derived.Deep.QuietTactic
import Derived.BigQuiet
import Derived.SizedLaws
import Derived.Carry
import Derived.Deep.Slices
import Derived.ChangeMaps5
import Derived.Laws.IdiomStrings
import Derived.Laws.OwnMore
import Derived.Laws.Rows
import Derived.Deep.MidRow
import Derived.Deep.AppendLies
import Derived.Deep.Fields
import Derived.OwnWalk
import Derived.Maps.AppendAt
import Derived.Laws.AppendOwnNone
import Derived.Laws.BitsLemmas
/- The words that all contracts share: 'Q w w'': behind the call all that was there is as it was. -/
namespace Go.Proofs.Ytodfdklcioafmaa
set_option maxRecDepth 100000
open Go.RowKit

def Q (w w' : World) : Prop := Below w.heap.size w w'
theorem Q.below {w w' : World} (h : Q w w') : Below w.heap.size w w' := h
theorem Q.refl (w : World) : Q w w := Below.refl _ _
theorem Q.trans {a b c : World} (h : Q a b) (k : Q b c) : Q a c := Below.trans h (Below.mono k h.below.size)
theorem Q.drew {a w : World} (h : Q a w) : Q a w.drew := Below.drew h
theorem Q.drewN {a w : World} (h : Q a w) (n : Nat) : Q a (w.drewN n) := ⟨h.below.os, h.below.tape, h.below.output, h.below.size, h.below.block⟩
theorem Q.alloc {a w : World} (h : Q a w) (o : Obj) : Q a (w.alloc o) := Below.alloc h h.below.size o
theorem Q.setCell {a w : World} (h : Q a w) {p : Addr} (hp : a.heap.size ≤ p.block) (u : Value) : Q a (w.setCell p u) := Below.setCell h hp u
theorem Q.set3 {a w : World} (h : Q a w) {b : Nat} (hb : a.heap.size ≤ b) (x y z : Value) : Q a (((w.setCell ⟨b, 0, none⟩ x).setCell ⟨b, 1, none⟩ y).setCell ⟨b, 2, none⟩ z) :=
  ((h.setCell (p := ⟨b, 0, none⟩) hb x).setCell (p := ⟨b, 1, none⟩) hb y).setCell (p := ⟨b, 2, none⟩) hb z
theorem Q.set4 {a w : World} (h : Q a w) {b : Nat} (hb : a.heap.size ≤ b) (x y z u : Value) : Q a ((((w.setCell ⟨b, 0, none⟩ x).setCell ⟨b, 1, none⟩ y).setCell ⟨b, 2, none⟩ z).setCell ⟨b, 3, none⟩ u) :=
  (h.set3 hb x y z).setCell (p := ⟨b, 3, none⟩) hb u
theorem Q.size {w w' : World} (h : Q w w') : w.heap.size ≤ w'.heap.size := h.below.size

theorem ret_int {k : IntKind} {a b : Int} (h : a = b) : Ending.returned (.int k a) = .returned (.int k b) := by rw [h]
theorem ret_bool {a b : Bool} (h : a = b) : Ending.returned (.bool a) = .returned (.bool b) := by rw [h]
end Go.Proofs.Ytodfdklcioafmaa

/- The frame of every law: what an argument reads as (with its sizes), opened by its type; a walk under that reading gives the given statement. -/
namespace Go.Proofs.Ytodfdklcioafmaa
set_option maxRecDepth 100000
open Go.ChangeShapes Go.WideShapes Go.ChangeAt Go.RowKit
set_option linter.unusedVariables false

/-- the cells cs read as something of type t, and no part of it is beyond the reach. -/
def Rd (w : World) (t : TypeId) (cs : List Value) : Prop :=
  ∃ (H : Type) (enc : TypeId × Value → H) (n : Nat) (d : DataW H) (ps : List MemPlace), DataW.trod enc Try.prog w 0 (fun _ => true) true n t cs = some (d, ps) ∧ ∀ x ∈ d.weights Try.prog t, x ≤ 140737488351232

theorem Rd.int {w : World} {t : TypeId} {cs : List Value} {k : IntKind} (h : Rd w t cs) (ht : Try.prog.underlying t = some (.int k)) : ∃ n, cs = [.int k n] ∧ (Lit.int k n).wf = true := by
  obtain ⟨H, enc, n, d, ps, ht', hw⟩ := h
  obtain ⟨m, rfl, _, hm⟩ := DataW.trod_int ht ht'
  exact ⟨m, rfl, hm⟩
theorem Rd.bool {w : World} {t : TypeId} {cs : List Value} (h : Rd w t cs) (ht : Try.prog.underlying t = some .bool) : ∃ b, cs = [.bool b] := by
  obtain ⟨H, enc, n, d, ps, ht', hw⟩ := h
  obtain ⟨m, rfl, _⟩ := DataW.trod_bool ht ht'
  exact ⟨m, rfl⟩
theorem Rd.string {w : World} {t : TypeId} {cs : List Value} (h : Rd w t cs) (ht : Try.prog.underlying t = some .string) : ∃ s : ByteArray, cs = [.string s] ∧ s.size ≤ 140737488351232 := by
  obtain ⟨H, enc, n, d, ps, ht', hw⟩ := h
  obtain ⟨s, rfl, hx, hm⟩ := DataW.trod_string ht ht'
  injection hx with h1 h2
  subst h1
  have := hw s.data.toList.length (by simp [DataW.weights])
  exact ⟨s, rfl, by simpa using this⟩
theorem Rd.struct {w : World} {t : TypeId} {cs : List Value} {fs : Array Field} (h : Rd w t cs) (ht : Try.prog.underlying t = some (.struct fs)) :
    cs.length = Try.prog.cellsOf t ∧ ∀ (i : Nat) (f : Field), fs[i]? = some f → Rd w f.type ((cs.drop f.offset).take (Try.prog.cellsOf f.type)) := by
  obtain ⟨H, enc, n, d, ps, ht', hw⟩ := h
  obtain ⟨xs, m, rfl, hx, hl, hlen, hg⟩ := DataW.trod_struct ht ht'
  injection hx with h1 h2
  subst h1
  refine ⟨hl, fun i f hi => ?_⟩
  have hil : i < fs.size := (Array.getElem?_eq_some_iff.1 hi).1
  have hxi : xs[i]? = some xs[i] := List.getElem?_eq_getElem (by omega)
  refine ⟨H, enc, m, xs[i].1, xs[i].2, (hg i f hi).trans hxi, fun x hx => hw x ?_⟩
  simp only [DataW.weights, ht]
  exact DataW.weights_mem_each (j := i) (t := f.type) (d := xs[i].1) (by simp [hi]) (by simp [hxi]) x hx
theorem Rd.field {w : World} {t : TypeId} {cs : List Value} {fs : Array Field} (h : Rd w t cs) (ht : Try.prog.underlying t = some (.struct fs)) (i : Nat) {ty : TypeId} (off k : Nat) (hi : (fs[i]?).map (fun f => (f.type, f.offset)) = some (ty, off)) (hk : Try.prog.cellsOf ty = k) :
    Rd w ty ((cs.drop off).take k) := by
  obtain ⟨f, hf, he⟩ := Option.map_eq_some_iff.1 hi
  injection he with e1 e2
  subst e1 e2 hk
  exact (h.struct ht).2 i f hf
theorem weightsAll_mem {H : Type} {P : Program} {e : TypeId} {d : DataW H} : ∀ {l : List (DataW H)}, d ∈ l → ∀ x ∈ d.weights P e, x ∈ DataW.weightsAll P e l
  | d0 :: l, hd, x, hx => by
    simp only [DataW.weightsAll, List.mem_append]
    rcases List.mem_cons.1 hd with rfl | hd
    · exact .inl hx
    · exact .inr (weightsAll_mem hd x hx)
theorem Rd.slice {w : World} {t e : TypeId} {cs : List Value} (h : Rd w t cs) (ht : Try.prog.underlying t = some (.slice e)) :
    cs = [.slice none 0 0] ∨ ∃ (a : Addr) (len cap : Nat), cs = [.slice (some a) len cap] ∧ len ≤ cap ∧ cap ≤ maxLen ∧ cap * Try.prog.bytesOf e ≤ 140737488351232 ∧
      ∀ i, i < cap → ∃ cs', w.cells? 0 (a.add (i * Try.prog.cellsOf e)) (Try.prog.cellsOf e) = some cs' ∧ Rd w e cs' := by
  obtain ⟨H, enc, n, d, ps, ht', hw⟩ := h
  rcases Deep.open_slice ht ht' with ⟨h0, _⟩ | ⟨a, len, cap, m, n', D, Pl, hcs, hb, hl, hm, hmm, hx, hi⟩
  · exact .inl h0
  · right
    simp only [if_true] at hmm
    subst hmm
    injection hx with h1 h2
    subst h1
    simp only [DataW.weights, ht] at hw
    refine ⟨a, len, m, hcs, hl, hm, ?_, fun i hi' => ?_⟩
    · have := hw _ (List.mem_cons_self ..)
      simp only [List.length_map, List.length_range] at this
      rwa [show len + (m - len) = m by omega] at this
    · obtain ⟨cs', hc, htr⟩ := hi i hi'
      refine ⟨cs', hc, H, enc, n', D i, Pl i, htr, fun x hx => hw x (List.mem_cons_of_mem _ (List.mem_append.2 ?_))⟩
      by_cases hlt : i < len
      · exact .inl (weightsAll_mem (List.mem_map.2 ⟨i, by simpa using hlt, rfl⟩) x hx)
      · exact .inr (weightsAll_mem (List.mem_map.2 ⟨i - len, by simp; omega, by rw [show len + (i - len) = i by omega]⟩) x hx)

/-- the value v, an argument, reads so. -/
def RdV (w : World) (t : TypeId) (v : Value) : Prop := (∃ base, Value.okWide Try.prog w .any base t v) ∧ Rd w t v.cells.toList
theorem RdV.int {w : World} {t : TypeId} {v : Value} {k : IntKind} (h : RdV w t v) (ht : Try.prog.underlying t = some (.int k)) : ∃ n, v = .int k n ∧ (Lit.int k n).wf = true := by
  obtain ⟨⟨b, ho⟩, hr⟩ := h
  obtain ⟨n, rfl⟩ := okWide_int ht ho
  obtain ⟨m, e, hm⟩ := hr.int ht
  simp [Value.cells] at e
  subst e
  exact ⟨n, rfl, hm⟩
theorem RdV.bool {w : World} {t : TypeId} {v : Value} (h : RdV w t v) (ht : Try.prog.underlying t = some .bool) : ∃ b, v = .bool b := by
  obtain ⟨⟨b, ho⟩, hr⟩ := h
  obtain ⟨n, rfl⟩ := okWide_bool ht ho
  exact ⟨n, rfl⟩
theorem RdV.string {w : World} {t : TypeId} {v : Value} (h : RdV w t v) (ht : Try.prog.underlying t = some .string) : ∃ s : ByteArray, v = .string s ∧ s.size ≤ 140737488351232 := by
  obtain ⟨⟨b, ho⟩, hr⟩ := h
  obtain ⟨n, rfl⟩ := okWide_string ht ho
  obtain ⟨m, e, hm⟩ := hr.string ht
  simp [Value.cells] at e
  subst e
  exact ⟨n, rfl, hm⟩
theorem RdV.struct {w : World} {t : TypeId} {v : Value} {fs : Array Field} (h : RdV w t v) (ht : Try.prog.underlying t = some (.struct fs)) : ∃ cs : List Value, v = .agg cs.toArray ∧ Rd w t cs := by
  obtain ⟨⟨b, ho⟩, hr⟩ := h
  obtain ⟨cs, rfl, _⟩ := okWide_struct ht ho
  exact ⟨cs.toList, rfl, hr⟩
theorem RdV.slice {w : World} {t e : TypeId} {v : Value} (h : RdV w t v) (ht : Try.prog.underlying t = some (.slice e)) : ∃ A n c, v = .slice A n c ∧ Rd w t [.slice A n c] := by
  obtain ⟨⟨b, ho⟩, hr⟩ := h
  obtain ⟨A, n, c, rfl⟩ := okWide_slice ht ho
  exact ⟨A, n, c, rfl, hr⟩

theorem args1 {a : Array Value} (h : a.size = 1) : ∃ x, a = #[x] := by
  obtain ⟨l⟩ := a
  match l, h with
  | [x], _ => exact ⟨x, rfl⟩
theorem args2 {a : Array Value} (h : a.size = 2) : ∃ x y, a = #[x, y] := by
  obtain ⟨l⟩ := a
  match l, h with
  | [x, y], _ => exact ⟨x, y, rfl⟩
theorem args3 {a : Array Value} (h : a.size = 3) : ∃ x y z, a = #[x, y, z] := by
  obtain ⟨l⟩ := a
  match l, h with
  | [x, y, z], _ => exact ⟨x, y, z, rfl⟩
theorem args4 {a : Array Value} (h : a.size = 4) : ∃ x y z u, a = #[x, y, z, u] := by
  obtain ⟨l⟩ := a
  match l, h with
  | [x, y, z, u], _ => exact ⟨x, y, z, u, rfl⟩
theorem laidOut_ : laidOutB Try.prog = true := by kernel_rfl
theorem ownKnob_ : ownKnob Try.prog.godebug = none := by kernel_rfl

theorem trodAll_keep {H : Type} {enc : TypeId × Value → H} {W W' : World} (hb : Q W W') : ∀ (ts : List TypeId) (vs : List Value) (ds : List (DataW H)) (ps : List MemPlace), (∀ t ∈ ts, Try.prog.readableRec t = true ∧ t < Try.prog.types.size) →
    DataW.TrodAll enc Try.prog W 0 (fun _ => true) true ts vs ds ps → (∀ x ∈ ps, x.block < W.heap.size) → DataW.TrodAll enc Try.prog W' 0 (fun b => decide (b < W.heap.size)) true ts vs ds ps
  | [], vs, ds, ps, _, h, _ => by
    obtain ⟨rfl, rfl, rfl⟩ := trodAll_nil h
    exact trodAll_mk0
  | t :: ts, vs, ds, ps, ht, h, hlt => by
    obtain ⟨v, vs', d, ds', p, q, rfl, rfl, rfl, h1, h2⟩ := trodAll_cons h
    exact ⟨p, q, Below.trod laidOut_ (ht t (by simp)).1 (ht t (by simp)).2 h1 hb.below (fun x hx => hlt x (by simp [hx])), trodAll_keep hb ts vs' ds' q (fun u hu => ht u (by simp [hu])) h2 (fun x hx => hlt x (by simp [hx])), rfl⟩

theorem trodAll_len {H : Type} {enc : TypeId × Value → H} {W : World} : ∀ (ts : List TypeId) (vs : List Value) (ds : List (DataW H)) (ps : List MemPlace), DataW.TrodAll enc Try.prog W 0 (fun _ => true) true ts vs ds ps → vs.length = ts.length ∧ ds.length = ts.length ∧
    ∀ (j : Nat) t v, ts[j]? = some t → vs[j]? = some v → ∃ d p, ds[j]? = some d ∧ DataW.Trod enc Try.prog W 0 (fun _ => true) true t v d p
  | [], vs, ds, ps, h => by
    obtain ⟨rfl, rfl, rfl⟩ := trodAll_nil h
    exact ⟨rfl, rfl, fun j t v hj => by simp at hj⟩
  | t :: ts, vs, ds, ps, h => by
    obtain ⟨v, vs', d, ds', p, q, rfl, rfl, rfl, h1, h2⟩ := trodAll_cons h
    obtain ⟨e1, e2, h3⟩ := trodAll_len ts vs' ds' q h2
    refine ⟨by simp [e1], by simp [e2], fun j t' v' hj hv => ?_⟩
    cases j with
    | zero =>
      simp only [List.getElem?_cons_zero, Option.some.injEq] at hj hv
      subst hj hv
      exact ⟨d, p, rfl, h1⟩
    | succ j => exact h3 j t' v' (by simpa using hj) (by simpa using hv)

/-- A walk of a law, whatever its arguments read as, gives what its row asks. -/
theorem framed {f : FuncId} {fn : Func} {s : ChangeSpec} {conds : List PathCond} (n : Nat) (hfn : Try.prog.funcs[f]? = some fn) (hn : fn.params.size = n) (hvars : s.vars = []) (hrt : fn.resultTypes = #[4])
    (noInit : Try.prog.inits.idxOf? f = none) (hread0 : fn.params.toList.all (fun t => Try.prog.readableRec t && decide (t < Try.prog.types.size)) = true)
    (hs : ∀ (H : Type) (ds : List (DataW H)), ds.length = n → (s.fn H ds).results = [.lit (.bool true)] ∧ (s.fn H ds).args = ds ∧ (s.fn H ds).vars = [])
    (walk : ∀ (W : World) (args : Array Value), args.size = n → (∀ (j : Nat) t v, fn.params[j]? = some t → args[j]? = some v → RdV W t v) → Calls Try.prog f args W fun e W' => e = .returned (.bool true) ∧ Q W W')
    (os : Os) (started : os.Started) (H : Type) (enc : TypeId × Value → H)
    (witness : ∃ (w : World) (tape : Tape) (i : Input), w.os = os ∧ (w.forCall tape i).Shaped Try.prog ∧ i.vars = [] ∧ Input.okWide Try.prog (w.forCall tape i) .any w.heap.size f i ∧
      s.pre6 enc Try.prog fn conds false (w.forCall tape i).memory i.args ∧ ({} : Assume).holds Try.prog (lone (Frame.enter Try.prog f i.args .normal) [] (w.forCall tape i))) :
    ReturnsInHanded {} Try.checked os f .any (s.pre6 enc Try.prog fn conds false) (s.post enc Try.prog fn false true false false) := by
  have hread : ∀ t ∈ fn.params.toList, Try.prog.readableRec t = true ∧ t < Try.prog.types.size := fun t ht => by
    have := List.all_eq_true.1 hread0 t ht
    simpa using this
  refine returnsInHanded_of_change_sized (C := Try.checked) ownKnob_ started noInit hfn witness ?_
  intro W base args ds gs before hval hW hcnd hsz _
  have hW' := hW
  have hlt : ∀ x ∈ before, x.block < W.heap.size := fun x hx => by simpa using hW.lt x hx
  obtain ⟨p, q, hA, hV, rfl, hfz, hnd⟩ := hW
  rw [hvars] at hV
  obtain ⟨rfl, rfl⟩ := trodVars_none hV
  obtain ⟨e1, e2, h3⟩ := trodAll_len _ _ _ _ hA
  have hps : fn.params.toList.length = n := by simpa using hn
  have hds : ds.length = n := by omega
  have hsz2 : ∀ x ∈ DataW.weightsEach Try.prog (fn.params.toList ++ s.plain.varTypes Try.prog) (ds ++ []), x ≤ 140737488351232 := fun x hx => by
    have := List.all_eq_true.1 hsz x hx
    simpa [reachBytes] using of_decide_eq_true this
  refine (walk W args (by rw [← hps, ← e1]; simp) fun j t v hj hv => ⟨⟨base, hval j t v hj hv⟩, ?_⟩).mono fun e W' ⟨he, hg⟩ => ?_
  · obtain ⟨d, p', hd, fuel, htr⟩ := h3 j t v (by simpa using hj) (by simpa using hv)
    have hjl : j < n := by
      have := (Array.getElem?_eq_some_iff.1 hj).1; omega
    refine ⟨H, enc, fuel, d, p', htr, fun x hx => hsz2 x (DataW.weights_mem_each (j := j) (t := t) (d := d) ?_ (by simpa using hd) x hx)⟩
    rw [List.getElem?_append_left (by omega)]
    simpa using hj
  · subst he
    simp only [List.append_nil] at hW' hlt
    obtain ⟨a1, a2, a3⟩ := hs H ds hds
    refine ⟨_, rfl, ds, [], p, [], p, [], hW', ?_, ?_, ?_, hg.below.frame _, fun h => by cases h⟩
    · rw [List.append_nil, a1, hrt]
      exact trodAll_mk1 (shut_bool Try.underlying4 _)
    · rw [List.append_nil, a2]
      exact trodAll_keep hg _ _ _ _ hread hA hlt
    · rw [List.append_nil, a3, hvars]
      rfl
end Go.Proofs.Ytodfdklcioafmaa

/- Memory: addresses, what a slice holds, cells that are as they were; strings that are the same. -/
namespace Go.Proofs.Ytodfdklcioafmaa
set_option maxRecDepth 100000
open Go.RowKit
set_option linter.unusedVariables false

theorem addr_add (a : Addr) (i j : Nat) : (a.add i).add j = a.add (i + j) := by
  unfold Addr.add
  by_cases hi : i = 0 <;> by_cases hj : j = 0 <;> simp [hi, hj, Nat.add_assoc]
theorem addr_block (a : Addr) (i : Nat) : (a.add i).block = a.block := by
  unfold Addr.add; split <;> rfl

/-- The slice '.slice A n c' holds the cells xs (k of them each element), below block B. -/
def Holds (w : World) (B k : Nat) (A : Option Addr) (n : Nat) (xs : List Value) : Prop :=
  xs.length = n * k ∧ ∀ j u, xs[j]? = some u → ∃ ad, A = some ad ∧ ad.block < B ∧ w.cell? (ad.add j) = some u

theorem Holds.carry {w w' : World} {B B' k : Nat} {A : Option Addr} {n : Nat} {xs : List Value} (h : Holds w B k A n xs) (hB : B ≤ B') (hc : ∀ p : Addr, p.block < B → w'.cell? p = w.cell? p) : Holds w' B' k A n xs :=
  ⟨h.1, fun j u hu => by
    obtain ⟨ad, e, hb, hx⟩ := h.2 j u hu
    exact ⟨ad, e, by omega, (hc _ (by rw [addr_block]; exact hb)).trans hx⟩⟩
theorem Holds.q {w w' : World} {k : Nat} {A : Option Addr} {n : Nat} {xs : List Value} (h : Holds w w.heap.size k A n xs) (hq : Q w w') : Holds w' w'.heap.size k A n xs :=
  h.carry hq.size fun _ hp => hq.below.cell hp
theorem Holds.none_ (w : World) (B k : Nat) (A : Option Addr) : Holds w B k A 0 [] := ⟨by simp, fun j u h => by simp at h⟩

theorem bcell {W w1 : World} (hb : Below W.heap.size W w1) : (∀ b o, b < W.heap.size → w1.cell? ⟨b, o, none⟩ = W.cell? ⟨b, o, none⟩) ∧ (∀ b o, b < W.heap.size → w1.frozen? ⟨b, o, none⟩ = W.frozen? ⟨b, o, none⟩) :=
  ⟨fun b o h => hb.cell (p := ⟨b, o, none⟩) h, fun b o h => hb.frozen (p := ⟨b, o, none⟩) h⟩

theorem same_str (a b : ByteArray) : (a.toList == b.toList) = decide (a = b) := by
  by_cases h : a = b
  · subst h; simp
  · have : ¬ a.toList = b.toList := fun e => h (by
      have e1 : a.data.toList = b.data.toList := by simpa [ByteArray.toList_eq] using e
      exact ByteArray.ext (Array.ext' e1))
    simp [h, this]

theorem str_inj (a b : ByteArray) : (a.toList = b.toList) = (a = b) := by
  refine propext ⟨fun h => ?_, fun h => by rw [h]⟩
  have e := same_str a b
  rw [h] at e
  simpa using e

theorem box_ {W w1 : World} (q : Q W w1) {p : Addr} {v : Value} (h : W.cell? p = some v) : w1.cell? p = some v := (q.below.cell (block_lt_of_cell h)).trans h
theorem box4 {W w1 : World} (q : Q W w1) {b : Nat} {x y z u : Value} (h0 : W.cell? ⟨b, 0, none⟩ = some x) (h1 : W.cell? ⟨b, 1, none⟩ = some y) (h2 : W.cell? ⟨b, 2, none⟩ = some z) (h3 : W.cell? ⟨b, 3, none⟩ = some u) :
    w1.cell? ⟨b, 0, none⟩ = some x ∧ w1.cell? ⟨b, 1, none⟩ = some y ∧ w1.cell? ⟨b, 2, none⟩ = some z ∧ w1.cell? ⟨b, 3, none⟩ = some u := ⟨box_ q h0, box_ q h1, box_ q h2, box_ q h3⟩
theorem box3 {W w1 : World} (q : Q W w1) {b : Nat} {x y z : Value} (h0 : W.cell? ⟨b, 0, none⟩ = some x) (h1 : W.cell? ⟨b, 1, none⟩ = some y) (h2 : W.cell? ⟨b, 2, none⟩ = some z) :
    w1.cell? ⟨b, 0, none⟩ = some x ∧ w1.cell? ⟨b, 1, none⟩ = some y ∧ w1.cell? ⟨b, 2, none⟩ = some z := ⟨box_ q h0, box_ q h1, box_ q h2⟩

end Go.Proofs.Ytodfdklcioafmaa

/- Lists whose elements lie flat in memory, out of what is known of each element. -/
namespace Go.Proofs.Ytodfdklcioafmaa
set_option maxRecDepth 100000
open Go.ChangeShapes Go.WideShapes Go.RowKit
set_option linter.unusedVariables false

theorem choose_list {α : Type} {R : Nat → α → Prop} : ∀ (n : Nat), (∀ i, i < n → ∃ a, R i a) → ∃ l : List α, l.length = n ∧ ∀ i (hi : i < l.length), R i l[i]
  | 0, _ => ⟨[], rfl, fun i hi => by simp at hi⟩
  | n + 1, h => by
    obtain ⟨l, hl, hr⟩ := choose_list n (fun i hi => h i (by omega))
    obtain ⟨a, ha⟩ := h n (by omega)
    refine ⟨l ++ [a], by simp [hl], fun i hi => ?_⟩
    by_cases hlt : i < l.length
    · rw [List.getElem_append_left hlt]; exact hr i hlt
    · have e : i = l.length := by simp at hi; omega
      subst e
      rw [List.getElem_append_right (Nat.le_refl _)]
      simpa [hl] using ha

theorem flat_at {α : Type} (g : α → List Value) (k : Nat) (hg : ∀ a, (g a).length = k) : ∀ (l : List α) (j : Nat) (u : Value), (l.flatMap g)[j]? = some u → ∃ i r, ∃ hi : i < l.length, j = i * k + r ∧ r < k ∧ (g l[i])[r]? = some u
  | [], j, u, h => by simp at h
  | a :: l, j, u, h => by
    rw [List.flatMap_cons] at h
    by_cases hj : j < k
    · rw [List.getElem?_append_left (by rw [hg]; exact hj)] at h
      exact ⟨0, j, by simp, by omega, hj, by simpa using h⟩
    · rw [List.getElem?_append_right (by rw [hg]; omega), hg] at h
      obtain ⟨i, r, hi, he, hr, hu⟩ := flat_at g k hg l (j - k) u h
      refine ⟨i + 1, r, by simpa using hi, ?_, hr, by simpa using hu⟩
      rw [Nat.succ_mul]; omega
theorem flat_len {α : Type} (g : α → List Value) (k : Nat) (hg : ∀ a, (g a).length = k) : ∀ (l : List α), (l.flatMap g).length = l.length * k
  | [] => by simp
  | a :: l => by rw [List.flatMap_cons, List.length_append, hg, flat_len g k hg l, List.length_cons, Nat.succ_mul]; omega
theorem holds_flat {α : Type} (g : α → List Value) (k : Nat) (hg : ∀ a, (g a).length = k) (w : World) (ad : Addr) (l : List α) (h : ∀ i (hi : i < l.length), w.cells? 0 (ad.add (i * k)) k = some (g l[i])) :
    Holds w w.heap.size k (some ad) l.length (l.flatMap g) := by
  refine ⟨flat_len g k hg l, fun j u hu => ?_⟩
  obtain ⟨i, r, hi, rfl, hr, hv⟩ := flat_at g k hg l j u hu
  obtain ⟨_, _, hat⟩ := World.cells?_some (h i hi)
  have hc := hat r hr
  rw [hv, addr_add] at hc
  refine ⟨ad, rfl, ?_, hc⟩
  have := block_lt_of_cell hc
  rwa [addr_block] at this

theorem wf_i64 {x : Int} (h : (Lit.int .i64 x).wf = true) : -9223372036854775808 ≤ x ∧ x ≤ 9223372036854775807 := by
  simp only [Lit.wf, Bool.and_eq_true, decide_eq_true_eq] at h
  have e1 : IntKind.i64.min = -9223372036854775808 := by decide
  have e2 : IntKind.i64.max = 9223372036854775807 := by decide
  omega
end Go.Proofs.Ytodfdklcioafmaa

/- The disk of chapter 3 in plain mathematics: files, places, what each call makes of a disk. -/
namespace Go.Proofs.Ytodfdklcioafmaa.Dkm
set_option maxRecDepth 100000

structure Fil where
  nm : ByteArray
  sf : ByteArray
  wt : ByteArray

theorem Fil.ext_ {f g : Fil} (a : f.nm = g.nm) (b : f.sf = g.sf) (c : f.wt = g.wt) : f = g := by
  cases f; cases g; simp_all

/-- the first place, k on, of a name. -/
def plc (nm : ByteArray) : List Fil → Nat → Int
  | [], _ => -1
  | f :: l, k => if f.nm = nm then k else plc nm l (k + 1)

theorem plc_drop (nm : ByteArray) (l : List Fil) (k : Nat) (h : k < l.length) : plc nm (l.drop k) k = if l[k].nm = nm then (k : Int) else plc nm (l.drop (k + 1)) (k + 1) := by
  rw [List.drop_eq_getElem_cons h]; rfl
theorem plc_end (nm : ByteArray) (l : List Fil) (k : Nat) (h : l.length ≤ k) : plc nm (l.drop k) k = -1 := by
  rw [List.drop_eq_nil_of_le h]; rfl
theorem plc_from (nm : ByteArray) (l : List Fil) : ∀ m, (plc nm l m = -1 ∧ ∀ f ∈ l, f.nm ≠ nm) ∨ ∃ k, ∃ h : k < l.length, plc nm l m = ((m + k : Nat) : Int) ∧ l[k].nm = nm ∧ ∀ j, ∀ h : j < l.length, j < k → l[j].nm ≠ nm := by
  induction l with
  | nil => intro m; left; exact ⟨rfl, by simp⟩
  | cons f l ih =>
    intro m
    by_cases hf : f.nm = nm
    · right; exact ⟨0, by simp, by simp [plc, hf], by simpa using hf, fun j h hj => by omega⟩
    · rcases ih (m + 1) with ⟨h1, h2⟩ | ⟨k, hk, h1, h2, h3⟩
      · left
        refine ⟨by simp [plc, hf, h1], ?_⟩
        intro g hg
        rcases List.mem_cons.1 hg with rfl | hg
        · exact hf
        · exact h2 g hg
      · right
        refine ⟨k + 1, by simpa using hk, by simp only [plc, hf, if_false, h1]; omega, by simpa using h2, ?_⟩
        intro j hj hjk
        cases j with
        | zero => simpa using hf
        | succ j => simpa using h3 j (by simpa using hj) (by omega)
theorem plc_cases (nm : ByteArray) (l : List Fil) : (plc nm l 0 = -1 ∧ ∀ f ∈ l, f.nm ≠ nm) ∨ ∃ k, ∃ h : k < l.length, plc nm l 0 = (k : Int) ∧ l[k].nm = nm ∧ ∀ j, ∀ h : j < l.length, j < k → l[j].nm ≠ nm := by
  rcases plc_from nm l 0 with h | ⟨k, h, e, r⟩
  · exact .inl h
  · exact .inr ⟨k, h, by simpa using e, r⟩

structure Dk where
  fs : List Fil
  room : Int
  fuse : Int
  off : Bool

/-- the file of a name, or an empty one behind all, and its place. -/
def opn (nm : ByteArray) (l : List Fil) : Fil × Nat :=
  match l.findIdx? (fun f => decide (f.nm = nm)) with
  | some k => (l.getD k ⟨nm, ⟨#[]⟩, ⟨#[]⟩⟩, k)
  | none => (⟨nm, ⟨#[]⟩, ⟨#[]⟩⟩, l.length)
theorem idx_none {nm : ByteArray} {l : List Fil} (h : ∀ f ∈ l, f.nm ≠ nm) : l.findIdx? (fun f => decide (f.nm = nm)) = none := by
  rw [List.findIdx?_eq_none_iff]; simpa using h
theorem idx_at {nm : ByteArray} {l : List Fil} {k : Nat} (hk : k < l.length) (hn : l[k].nm = nm) (hf : ∀ j, ∀ h : j < l.length, j < k → l[j].nm ≠ nm) : l.findIdx? (fun f => decide (f.nm = nm)) = some k := by
  rw [List.findIdx?_eq_some_iff_getElem]
  exact ⟨hk, by simpa using hn, fun j hj => by simpa using hf j (by omega) hj⟩
theorem opn_none {nm : ByteArray} {l : List Fil} (h : ∀ f ∈ l, f.nm ≠ nm) : opn nm l = (⟨nm, ⟨#[]⟩, ⟨#[]⟩⟩, l.length) := by
  unfold opn; rw [idx_none h]
theorem opn_at {nm : ByteArray} {l : List Fil} {k : Nat} (hk : k < l.length) (hn : l[k].nm = nm) (hf : ∀ j, ∀ h : j < l.length, j < k → l[j].nm ≠ nm) : opn nm l = (l[k], k) := by
  unfold opn; rw [idx_at hk hn hf]; simp [hk]

/-- a change needs power: the fuse, off, and why not. -/
def chg (at_ fuse : Int) (off : Bool) : Int × Bool × Int :=
  if at_ < 0 ∧ off = false then (fuse, off, 7) else if off = true ∨ fuse = 0 then (fuse, true, 6) else if 0 < fuse then (fuse - 1, off, 0) else (fuse, off, 0)

/-- the file of a name, and whether there is one. -/
def hit (nm : ByteArray) (l : List Fil) : Fil × Bool :=
  match l.find? (fun f => decide (f.nm = nm)) with
  | some f => (f, true)
  | none => (⟨⟨#[]⟩, ⟨#[]⟩, ⟨#[]⟩⟩, false)

theorem hit_none {nm : ByteArray} {l : List Fil} (h : ∀ f ∈ l, f.nm ≠ nm) : hit nm l = (⟨⟨#[]⟩, ⟨#[]⟩, ⟨#[]⟩⟩, false) := by
  unfold hit
  rw [List.find?_eq_none.2 (by simpa using h)]
theorem hit_at {nm : ByteArray} {l : List Fil} {k : Nat} (hk : k < l.length) (hn : l[k].nm = nm) (hf : ∀ j, ∀ h : j < l.length, j < k → l[j].nm ≠ nm) : hit nm l = (l[k], true) := by
  unfold hit
  have : l.find? (fun f => decide (f.nm = nm)) = some l[k] := by
    rw [List.find?_eq_some_iff_getElem]
    exact ⟨by simpa using hn, k, hk, rfl, fun j hj => by simpa using hf j (by omega) hj⟩
  rw [this]

/-- what Sync makes of a disk. -/
def syn (d : Dk) (nm : ByteArray) : Dk × Int :=
  if d.off then (d, 6)
  else if (hit nm d.fs).2 then ({ d with fs := d.fs.set (opn nm d.fs).2 ⟨(hit nm d.fs).1.nm, (hit nm d.fs).1.sf ++ (hit nm d.fs).1.wt, ⟨#[]⟩⟩ }, 0) else (d, 7)
theorem syn_none {nm : ByteArray} {l : List Fil} {room fuse : Int} (h : ∀ f ∈ l, f.nm ≠ nm) : syn ⟨l, room, fuse, false⟩ nm = (⟨l, room, fuse, false⟩, 7) := by
  simp [syn, hit_none h]
theorem syn_at {nm : ByteArray} {l : List Fil} {room fuse : Int} {k : Nat} (hk : k < l.length) (hn : l[k].nm = nm) (hf : ∀ j, ∀ h : j < l.length, j < k → l[j].nm ≠ nm) :
    syn ⟨l, room, fuse, false⟩ nm = (⟨l.set k ⟨l[k].nm, l[k].sf ++ l[k].wt, ⟨#[]⟩⟩, room, fuse, false⟩, 0) := by
  simp [syn, hit_at hk hn hf, opn_at hk hn hf]

def nmOk (nm : ByteArray) : Bool := decide (1 ≤ nm.size ∧ nm.size ≤ 16)

/-- a text cut by the fuse. -/
def short (fuse : Int) (s : ByteArray) : Bool := decide (0 ≤ fuse ∧ fuse < s.size)
def cut (fuse : Int) (s : ByteArray) : ByteArray := if short fuse s then s.extract 0 fuse.toNat else s
def put (l : List Fil) (k : Nat) (f : Fil) : List Fil := if k = l.length then l ++ [f] else l.set k f
/-- what Append makes of a disk. -/
def appd (d : Dk) (nm s : ByteArray) : Dk × Int :=
  if d.off then (d, 6)
  else if nmOk nm = false then (d, 1)
  else if ((opn nm d.fs).2 = d.fs.length ∧ 64 ≤ d.fs.length) ∨ d.room < s.size then (d, 5)
  else if 65536 < (opn nm d.fs).1.sf.size + (opn nm d.fs).1.wt.size + s.size then (d, 4)
  else (⟨put d.fs (opn nm d.fs).2 ⟨(opn nm d.fs).1.nm, (opn nm d.fs).1.sf, (opn nm d.fs).1.wt ++ cut d.fuse s⟩, d.room - (cut d.fuse s).size, if 0 ≤ d.fuse then d.fuse - (cut d.fuse s).size else d.fuse, short d.fuse s⟩, if short d.fuse s then 6 else 0)
theorem opn_le (nm : ByteArray) (l : List Fil) : (opn nm l).2 ≤ l.length := by
  rcases plc_cases nm l with ⟨_, h⟩ | ⟨k, hk, _, hn, hf⟩
  · rw [opn_none h]; exact Nat.le_refl _
  · rw [opn_at hk hn hf]; exact Nat.le_of_lt hk

/-- what is read: the file's bytes, or 7. -/
def redd (nm : ByteArray) (l : List Fil) : ByteArray × Int :=
  if (hit nm l).2 then ((hit nm l).1.sf ++ (hit nm l).1.wt, 0) else (⟨#[]⟩, 7)
theorem redd_none {nm : ByteArray} {l : List Fil} (h : ∀ f ∈ l, f.nm ≠ nm) : redd nm l = (⟨#[]⟩, 7) := by
  unfold redd; rw [hit_none h]; rfl
theorem redd_at {nm : ByteArray} {l : List Fil} {k : Nat} (hk : k < l.length) (hn : l[k].nm = nm) (hf : ∀ j, ∀ h : j < l.length, j < k → l[j].nm ≠ nm) : redd nm l = (l[k].sf ++ l[k].wt, 0) := by
  unfold redd; rw [hit_at hk hn hf]; rfl
end Go.Proofs.Ytodfdklcioafmaa.Dkm

/- Files in memory: a list of files as the cells of a slice; what is read of it. -/
namespace Go.Proofs.Ytodfdklcioafmaa
set_option maxRecDepth 100000
open Go.RowKit Dkm
set_option linter.unusedVariables false

def Dkm.Fil.row (f : Fil) : List Value := [.string f.nm, .string f.sf, .string f.wt]
abbrev Dkm.Fil.val (f : Fil) : Value := .agg #[.string f.nm, .string f.sf, .string f.wt]
def rows : List Fil → List Value
  | [] => []
  | f :: l => f.row ++ rows l

theorem rows_length (l : List Fil) : (rows l).length = l.length * 3 := by
  induction l with
  | nil => rfl
  | cons f l ih => simp only [rows, List.length_append, ih, List.length_cons, Fil.row, List.length_nil]; omega
theorem rows_append (l m : List Fil) : rows (l ++ m) = rows l ++ rows m := by
  induction l with
  | nil => rfl
  | cons f l ih => simp [rows, ih]
theorem rows_at (l : List Fil) (k : Nat) (h : k < l.length) (j : Nat) (hj : j < 3) : (rows l)[k * 3 + j]? = (l[k]).row[j]? := by
  induction l generalizing k with
  | nil => simp at h
  | cons f l ih =>
    cases k with
    | zero =>
      simp only [rows, Nat.zero_mul, Nat.zero_add, List.getElem_cons_zero]
      exact List.getElem?_append_left (by simpa [Fil.row] using hj)
    | succ k =>
      simp only [rows, List.getElem_cons_succ]
      rw [List.getElem?_append_right (by simp [Fil.row]; omega), ← ih k (by simpa using h)]
      congr 1
      simp [Fil.row]; omega
theorem rows_one (l : List Fil) : ∀ u ∈ rows l, u.oneCell' = true := by
  induction l with
  | nil => simp [rows]
  | cons f l ih =>
    intro u hu
    rcases List.mem_append.1 hu with h | h
    · simp only [Fil.row, List.mem_cons, List.not_mem_nil, or_false] at h
      rcases h with rfl | rfl | rfl <;> rfl
    · exact ih u h

def Files (w : World) (A : Option Addr) (n : Nat) (l : List Fil) : Prop := Holds w w.heap.size 3 A n (rows l)
theorem Files.q {w w' : World} {A : Option Addr} {n : Nat} {l : List Fil} (h : Files w A n l) (hq : Q w w') : Files w' A n l := Holds.q h hq
theorem Files.len {w : World} {A : Option Addr} {n : Nat} {l : List Fil} (h : Files w A n l) : l.length = n := by
  have := h.1; rw [rows_length] at this; omega

/-- What a load of the file in place k reads. -/
theorem Files.load {w : World} {A : Option Addr} {n : Nat} {l : List Fil} (h : Files w A n l) {k : Nat} (hk : k < n) (hl : k < l.length) :
    ∃ ad, A = some ad ∧ ad.block < w.heap.size ∧ w.cell? (ad.add (k * 3)) = some (.string l[k].nm) ∧ w.cell? ⟨(ad.add (k * 3)).block, (ad.add (k * 3)).off + 1, none⟩ = some (.string l[k].sf) ∧
      w.cell? ⟨(ad.add (k * 3)).block, (ad.add (k * 3)).off + 2, none⟩ = some (.string l[k].wt) := by
  have h0 := h.2 (k * 3 + 0) _ (rows_at l k hl 0 (by omega))
  have h1 := h.2 (k * 3 + 1) _ (rows_at l k hl 1 (by omega))
  have h2 := h.2 (k * 3 + 2) _ (rows_at l k hl 2 (by omega))
  obtain ⟨ad, rfl, hb, c0⟩ := h0
  obtain ⟨_, e1, _, c1⟩ := h1
  obtain ⟨_, e2, _, c2⟩ := h2
  injection e1 with e1; subst e1
  injection e2 with e2; subst e2
  rw [← addr_add] at c1 c2
  exact ⟨ad, rfl, hb, c0, c1, c2⟩
end Go.Proofs.Ytodfdklcioafmaa

/- The disk in plain mathematics: what a crash, a rename and a deletion make of it; lists of integers in memory. -/
namespace Go.Proofs.Ytodfdklcioafmaa
set_option maxRecDepth 100000
open Go.RowKit Dkm
namespace Dkm
/-- how many bytes of what waits a crash keeps. -/
def kp (ks : List Int) (i : Nat) (f : Fil) : Nat := if i < ks.length then (min (max (ks.getD i 0) 0) (f.wt.size : Int)).toNat else 0
theorem kp_le (ks : List Int) (i : Nat) (f : Fil) : kp ks i f ≤ f.wt.size := by unfold kp; split <;> omega
theorem kp_in {ks : List Int} {i : Nat} (f : Fil) (h : i < ks.length) : min (max ks[i] 0) (f.wt.size : Int) = (kp ks i f : Int) := by
  unfold kp; rw [if_pos h]; simp only [List.getD_eq_getElem?_getD, List.getElem?_eq_getElem h, Option.getD_some]; omega
theorem kp_out {ks : List Int} {i : Nat} (f : Fil) (h : ¬ i < ks.length) : kp ks i f = 0 := by unfold kp; rw [if_neg h]
def crf (ks : List Int) (i : Nat) (f : Fil) : Fil := ⟨f.nm, f.sf ++ f.wt.extract 0 (kp ks i f), ⟨#[]⟩⟩
theorem crf_zero {ks : List Int} {i : Nat} {f : Fil} (h : kp ks i f = 0) : crf ks i f = ⟨f.nm, f.sf, ⟨#[]⟩⟩ := by
  unfold crf; rw [h]
  have e : f.wt.extract 0 0 = ⟨#[]⟩ := by ext1; simp
  rw [e]
  congr 1
  ext1; simp
/-- the list of files, the first k of them behind the crash. -/
def crl (ks : List Int) (l : List Fil) (k : Nat) : List Fil := (l.take k).mapIdx (crf ks) ++ l.drop k
theorem crl_zero (ks : List Int) (l : List Fil) : crl ks l 0 = l := by simp [crl]
theorem crl_len (ks : List Int) (l : List Fil) (k : Nat) : (crl ks l k).length = l.length := by
  simp [crl]; omega
theorem crl_get? (ks : List Int) (l : List Fil) (k : Nat) (h : k < l.length) : (crl ks l k)[k]? = some l[k] := by
  unfold crl
  rw [List.getElem?_append_right (by simp; omega)]
  simp only [List.length_mapIdx, List.length_take, show k - min k l.length = 0 by omega, List.getElem?_drop, Nat.add_zero]
  exact List.getElem?_eq_getElem h
theorem crl_get (ks : List Int) (l : List Fil) (k : Nat) (h : k < l.length) (h' : k < (crl ks l k).length) : (crl ks l k)[k] = l[k] := by
  have e := crl_get? ks l k h
  rw [List.getElem?_eq_getElem h'] at e
  injection e
theorem crl_succ (ks : List Int) (l : List Fil) (k : Nat) (h : k < l.length) : crl ks l (k + 1) = (crl ks l k).set k (crf ks k l[k]) := by
  unfold crl
  have e : ((l.take k).mapIdx (crf ks)).length = k := by simp; omega
  rw [List.take_succ_eq_append_getElem h, List.mapIdx_append, List.set_append_right _ _ (by omega), List.append_assoc]
  congr 1
  rw [List.drop_eq_getElem_cons h, e, Nat.sub_self, List.set_cons_zero]
  simp [show min k l.length = k by omega]
/-- room behind the crash of the first k files. -/
def croom (ks : List Int) (l : List Fil) (room : Int) : Nat → Int
  | 0 => room
  | k + 1 => wrap64 (croom ks l room k + ((((l.getD k ⟨⟨#[]⟩, ⟨#[]⟩, ⟨#[]⟩⟩).wt.size : Nat) : Int) - (kp ks k (l.getD k ⟨⟨#[]⟩, ⟨#[]⟩, ⟨#[]⟩⟩) : Nat)))
theorem croom_succ (ks : List Int) (l : List Fil) (room : Int) (k : Nat) (h : k < l.length) : croom ks l room (k + 1) = wrap64 (croom ks l room k + ((l[k].wt.size : Int) - (kp ks k l[k] : Int))) := by
  simp only [croom, List.getD_eq_getElem?_getD, List.getElem?_eq_getElem h, Option.getD_some]
/-- what a crash makes of a disk. -/
def crs (d : Dk) (ks : List Int) : Dk := ⟨crl ks d.fs d.fs.length, croom ks d.fs d.room d.fs.length, -1, false⟩
end Dkm

/-- a slice of integers reads so. -/
def Ints (w : World) (A : Option Addr) (n : Nat) (ks : List Int) : Prop := Holds w w.heap.size 1 A n (ks.map (Value.int .i64))
theorem Ints.q {w w' : World} {A : Option Addr} {n : Nat} {l : List Int} (h : Ints w A n l) (hq : Q w w') : Ints w' A n l := Holds.q h hq
theorem Ints.len {w : World} {A : Option Addr} {n : Nat} {l : List Int} (h : Ints w A n l) : l.length = n := by
  have := h.1; simp at this; exact this
theorem Ints.load {w : World} {A : Option Addr} {n : Nat} {l : List Int} (h : Ints w A n l) {k : Nat} (hl : k < l.length) :
    ∃ ad, A = some ad ∧ ad.block < w.heap.size ∧ w.cell? (ad.add k) = some (.int .i64 l[k]) := h.2 k _ (by simp [hl])
theorem Ints.none_ (w : World) (A : Option Addr) : Ints w A 0 [] := Holds.none_ _ _ _ _
end Go.Proofs.Ytodfdklcioafmaa

/- Contracts: the place of a file, and the file, in the program and in the document's answer. -/
namespace Go.Proofs.Ytodfdklcioafmaa
set_option maxRecDepth 100000
open Go.RowKit Dkm
set_option linter.unusedVariables false

theorem place1 (f : Fil) (nm : ByteArray) (B : Nat) (w : World) (hB : B < w.heap.size) (hc : w.cell? ⟨B, 0, none⟩ = some (.string nm)) :
    Calls Try.prog 87 #[f.val, .pointer (some ⟨B, 0, none⟩)] w fun e w' => e = .returned (.bool (decide (f.nm = nm))) ∧ Q w w' := by
  obtain ⟨a, b, c⟩ := f
  go_enter Try.func87, Try.ntmps87
  go_wp2
  go_ret
  exact ⟨ret_bool (same_str a nm), (Q.refl _).alloc _⟩

set_option maxHeartbeats 1000000 in
theorem indexFunc (nm : ByteArray) (B : Nat) (A : Option Addr) (n c : Nat) (l : List Fil) (w : World) (hB : B < w.heap.size) (hc : w.cell? ⟨B, 0, none⟩ = some (.string nm)) (hf : Files w A n l) (hn : n ≤ maxLen) :
    Calls Try.prog 86 #[.slice A n c, .func (.func 87) #[] #[.pointer (some ⟨B, 0, none⟩)]] w fun e w' => e = .returned (.int .i64 (plc nm l 0)) ∧ Q w w' := by
  unfold maxLen at hn
  have HC := Lib.hid hc
  have HF := Lib.hid hf
  clear hc hf
  go_enter Try.func86, Try.ntmps86
  go_wp2
  go_loopw [8] (fun i wr => ∃ k : Nat, k ≤ n ∧ i = .int .i64 k ∧ Q w wr ∧ plc nm l 0 = plc nm (l.drop k) k) (fun i _ => n - (intOf i).toNat)
  case atStart => exact ⟨0, Nat.zero_le _, rfl, Q.refl _, rfl⟩
  case round =>
    obtain ⟨k, hk, rfl, hq, hp⟩ := hrel
    have HP := Lib.hid hp
    clear hp
    by_cases hlt : k < n
    · have hlen := HF.out.len
      have hkl : k < l.length := by omega
      obtain ⟨ad, rfl, hb, c0, c1, c2⟩ := (HF.out.q hq).load hlt hkl
      clear hlen
      have hcell : Hid (wr.cell? ⟨B, 0, none⟩ = some (.string nm)) := Lib.hid ((hq.below.cell (p := ⟨B, 0, none⟩) hB).trans HC.out)
      go_wp2_with fail
      refine (place1 l[k] nm B _ (Nat.lt_of_lt_of_le hB hq.size) hcell.out).mono ?_
      rintro e w1 ⟨rfl, q1⟩
      by_cases hh : l[k].nm = nm
      · have hd : decide (l[k].nm = nm) = true := by simpa using hh
        go_wp2
        go_ret
        exact ⟨ret_int (by rw [HP.out, plc_drop _ _ _ hkl, if_pos hh]), hq.trans q1⟩
      · have hd : decide (l[k].nm = nm) = false := by simpa using hh
        go_wp2
        go_roundw
        case rel => exact ⟨k + 1, by omega, by go_num, hq.trans q1, by rw [HP.out, plc_drop _ _ _ hkl, if_neg hh]⟩
        case measure => simp [intOf]; omega
    · have hlen := HF.out.len
      have HL := Lib.hid hlen
      clear hlen
      go_wp2
      go_ret
      exact ⟨ret_int (by rw [HP.out, plc_end _ _ _ (by have := HL.out; omega)]), hq⟩

abbrev dkv (A : Option Addr) (n c : Nat) (room fuse : Int) (off : Bool) : Value := .agg #[.slice A n c, .int .i64 room, .int .i64 fuse, .bool off]

set_option maxHeartbeats 1000000 in
theorem place (nm : ByteArray) (A : Option Addr) (n c : Nat) (room fuse : Int) (off : Bool) (l : List Fil) (w : World) (hf : Files w A n l) (hn : n ≤ maxLen) :
    Calls Try.prog 57 #[dkv A n c room fuse off, .string nm] w fun e w' => e = .returned (.int .i64 (plc nm l 0)) ∧ Q w w' := by
  have HF := Lib.hid hf
  clear hf
  go_enter Try.func57, Try.ntmps57
  go_wp2_with fail
  refine (indexFunc nm (w.heap.size + 1) A n c l _ (by simp) (by simp) (HF.out.q (((Q.refl _).alloc _).alloc _)) hn).mono ?_
  rintro e w1 ⟨rfl, q1⟩
  go_wp2
  go_ret
  exact ⟨rfl, (((Q.refl _).alloc _).alloc _).trans q1⟩

set_option maxHeartbeats 1000000 in
theorem ref_at (nm : ByteArray) (A : Option Addr) (n c : Nat) (room fuse : Int) (off : Bool) (l : List Fil) (w : World) (hf : Files w A n l) (hn : n ≤ maxLen) :
    Calls Try.prog 56 #[dkv A n c room fuse off, .string nm] w fun e w' => e = .returned (.int .i64 (plc nm l 0)) ∧ Q w w' := by
  unfold maxLen at hn
  have HF := Lib.hid hf
  clear hf
  go_enter Try.func56, Try.ntmps56
  go_wp2
  go_loop [5] (fun i => ∃ k : Nat, k ≤ n ∧ i = .int .i64 k ∧ plc nm l 0 = plc nm (l.drop k) k) (fun i => n - (intOf i).toNat)
  case atStart => exact ⟨0, Nat.zero_le _, rfl, rfl⟩
  case round =>
    obtain ⟨k, hk, rfl, hp⟩ := hrel
    have HP := Lib.hid hp
    have HL := Lib.hid HF.out.len
    clear hp
    by_cases hlt : k < n
    · have hkl : k < l.length := by have := HL.out; omega
      obtain ⟨ad, rfl, hb, c0, c1, c2⟩ := (HF.out.q ((Q.refl _).alloc (.cells #[.slice A n c, .int .i64 room, .int .i64 fuse, .bool off] 24))).load hlt hkl
      clear c1 c2
      by_cases hh : l[k].nm = nm
      · have hd : (l[k].nm.toList == nm.toList) = true := by rw [same_str]; simpa using hh
        have HH := Lib.hid hh
        clear hh
        go_wp2
        go_ret
        exact ⟨ret_int (by rw [HP.out, plc_drop _ _ _ hkl, if_pos HH.out]), (Q.refl _).alloc _⟩
      · have hd : (l[k].nm.toList == nm.toList) = false := by rw [same_str]; simpa using hh
        have HH := Lib.hid hh
        clear hh
        go_wp2
        go_round
        case rel => exact ⟨k + 1, by omega, by go_num, by rw [HP.out, plc_drop _ _ _ hkl, if_neg HH.out]⟩
        case measure => simp [intOf]; omega
    · go_wp2
      go_ret
      exact ⟨ret_int (by rw [HP.out, plc_end _ _ _ (by have := HL.out; omega)]), (Q.refl _).alloc _⟩

theorem named_any (nm : ByteArray) (w : World) :
    Calls Try.prog 62 #[.string nm] w fun e w' => e = .returned (.bool (nmOk nm)) ∧ w = w' := by
  by_cases h0 : nm.size = 0
  · obtain rfl : nm = ⟨#[]⟩ := ByteArray.ext (by apply Array.eq_empty_of_size_eq_zero; simpa using h0)
    have h : nmOk ⟨#[]⟩ = false := by decide
    rw [h]
    go_enter Try.func62, Try.ntmps62
    go_wp2
    go_ret
    exact ⟨rfl, rfl⟩
  · have h1 : nm.toList ≠ [] := by
      intro e
      have : nm.data.toList = [] := by simpa [ByteArray.toList_eq] using e
      have e2 : nm.data = #[] := by simpa using this
      exact h0 (by show nm.data.size = 0; rw [e2]; rfl)
    have h2 : nm.toList.isEmpty = false := by simpa using h1
    have h3 : (nm.toList == []) = false := by simpa using h1
    by_cases h4 : nm.size ≤ 16
    · have h : nmOk nm = true := by unfold nmOk; simp; omega
      rw [h]; clear h
      go_enter Try.func62, Try.ntmps62
      go_wp2
      go_ret
      exact ⟨ret_bool (by simp; omega), rfl⟩
    · have h : nmOk nm = false := by unfold nmOk; simp; omega
      rw [h]; clear h
      go_enter Try.func62, Try.ntmps62
      go_wp2
      go_ret
      exact ⟨ret_bool (by simp; omega), rfl⟩
theorem size_any (f : Fil) (w : World) (h : f.sf.size + f.wt.size ≤ maxLen) :
    Calls Try.prog 63 #[f.val] w fun e w' => e = .returned (.int .i64 ((f.sf.size + f.wt.size : Nat) : Int)) ∧ Q w w' := by
  unfold maxLen at h
  obtain ⟨a, b, c⟩ := f
  simp only at h
  go_enter Try.func63, Try.ntmps63
  go_wp2
  go_ret
  exact ⟨ret_int (by simp), (Q.refl _).alloc _⟩

set_option maxHeartbeats 1000000 in
theorem find_any (nm : ByteArray) (A : Option Addr) (n c : Nat) (room fuse : Int) (off : Bool) (l : List Fil) (w : World) (hf : Files w A n l) (hn : n ≤ maxLen) :
    Calls Try.prog 28 #[dkv A n c room fuse off, .string nm] w fun e w' => e = .returned (.tuple #[(hit nm l).1.val, .bool (hit nm l).2]) ∧ Q w w' := by
  have HF := Lib.hid hf
  have HN := Lib.hid hn
  unfold maxLen at hn
  clear hf
  rcases plc_cases nm l with ⟨hp, hall⟩ | ⟨k, hk, hp, hkn, hfirst⟩
  · rw [hit_none hall]
    have HP := Lib.hid hp
    clear hp hall
    go_enter Try.func28, Try.ntmps28
    go_wp2_with fail
    refine (place nm A n c room fuse off l _ (HF.out.q (((Q.refl _).alloc _).alloc _)) HN.out).mono ?_
    rintro e w1 ⟨rfl, q1⟩
    rw [HP.out]
    obtain ⟨hc, hz⟩ := bcell q1.below
    go_wp2
    exact bodyPost_ret (v := .tuple #[Fil.val ⟨⟨#[]⟩, ⟨#[]⟩, ⟨#[]⟩⟩, .bool false]) (by simp [results, Try.results28, go_sem, hc]) rfl ⟨rfl, ((((Q.refl _).alloc _).alloc _).trans q1).set3 (by simp) _ _ _⟩
  · rw [hit_at hk hkn hfirst]
    have HL := Lib.hid HF.out.len
    have hkn' : k < n := by have := HL.out; omega
    have HP := Lib.hid hp
    clear hp hkn hfirst
    go_enter Try.func28, Try.ntmps28
    go_wp2_with fail
    refine (place nm A n c room fuse off l _ (HF.out.q (((Q.refl _).alloc _).alloc _)) HN.out).mono ?_
    rintro e w1 ⟨rfl, q1⟩
    rw [HP.out]
    obtain ⟨ad, rfl, hb, c0, c1, c2⟩ := (HF.out.q ((((Q.refl _).alloc _).alloc _).trans q1)).load hkn' hk
    obtain ⟨hc, hz⟩ := bcell q1.below
    go_wp2
    exact bodyPost_ret (v := .tuple #[(l[k]).val, .bool true]) (by simp [results, Try.results28, go_sem, hc]) rfl ⟨rfl, ((((Q.refl _).alloc _).alloc _).trans q1).set3 (by simp) _ _ _⟩

set_option maxHeartbeats 1000000 in
theorem ref_find (nm : ByteArray) (A : Option Addr) (n c : Nat) (room fuse : Int) (off : Bool) (l : List Fil) (w : World) (hf : Files w A n l) (hn : n ≤ maxLen) :
    Calls Try.prog 27 #[dkv A n c room fuse off, .string nm] w fun e w' => e = .returned (.tuple #[(hit nm l).1.val, .bool (hit nm l).2]) ∧ Q w w' := by
  have HF := Lib.hid hf
  have HN := Lib.hid hn
  unfold maxLen at hn
  clear hf
  rcases plc_cases nm l with ⟨hp, hall⟩ | ⟨k, hk, hp, hkn, hfirst⟩
  · rw [hit_none hall]
    have HP := Lib.hid hp
    clear hp hall
    go_enter Try.func27, Try.ntmps27
    go_wp2_with fail
    refine (ref_at nm A n c room fuse off l _ (HF.out.q (((Q.refl _).alloc _).alloc _)) HN.out).mono ?_
    rintro e w1 ⟨rfl, q1⟩
    rw [HP.out]
    obtain ⟨hc, hz⟩ := bcell q1.below
    go_wp2
    exact bodyPost_ret (v := .tuple #[Fil.val ⟨⟨#[]⟩, ⟨#[]⟩, ⟨#[]⟩⟩, .bool false]) (by simp [results, Try.results27, go_sem, hc]) rfl ⟨rfl, ((((Q.refl _).alloc _).alloc _).trans q1).set3 (by simp) _ _ _⟩
  · rw [hit_at hk hkn hfirst]
    have HL := Lib.hid HF.out.len
    have hkn' : k < n := by have := HL.out; omega
    have HP := Lib.hid hp
    clear hp hkn hfirst
    go_enter Try.func27, Try.ntmps27
    go_wp2_with fail
    refine (ref_at nm A n c room fuse off l _ (HF.out.q (((Q.refl _).alloc _).alloc _)) HN.out).mono ?_
    rintro e w1 ⟨rfl, q1⟩
    rw [HP.out]
    obtain ⟨ad, rfl, hb, c0, c1, c2⟩ := (HF.out.q ((((Q.refl _).alloc _).alloc _).trans q1)).load hkn' hk
    obtain ⟨hc, hz⟩ := bcell q1.below
    go_wp2
    exact bodyPost_ret (v := .tuple #[(l[k]).val, .bool true]) (by simp [results, Try.results27, go_sem, hc]) rfl ⟨rfl, ((((Q.refl _).alloc _).alloc _).trans q1).set3 (by simp) _ _ _⟩

set_option maxHeartbeats 1000000 in
theorem read_any (nm : ByteArray) (A : Option Addr) (n c : Nat) (room fuse : Int) (off : Bool) (l : List Fil) (w : World) (hf : Files w A n l) (hn : n ≤ maxLen) (hs : ∀ f ∈ l, f.sf.size + f.wt.size ≤ maxLen) :
    Calls Try.prog 37 #[dkv A n c room fuse off, .string nm] w fun e w' => e = .returned (.tuple #[.string (redd nm l).1, .int .i64 (redd nm l).2]) ∧ Q w w' := by
  have HF := Lib.hid hf
  have HN := Lib.hid hn
  unfold maxLen at hn
  clear hf
  rcases plc_cases nm l with ⟨hp, hall⟩ | ⟨k, hk, hp, hkn, hfirst⟩
  · have HH := Lib.hid (hit_none hall)
    rw [redd_none hall]
    clear hp hall hs
    go_enter Try.func37, Try.ntmps37
    go_wp2_with fail
    refine (find_any nm A n c room fuse off l _ (HF.out.q ((Q.refl _).alloc _)) HN.out).mono ?_
    rintro e w1 ⟨rfl, q1⟩
    rw [HH.out]
    go_wp2
    go_ret2
    exact ⟨rfl, (((Q.refl _).alloc _).trans q1).alloc _⟩
  · have HH := Lib.hid (hit_at hk hkn hfirst)
    have hs1 := hs l[k] (List.getElem_mem hk)
    unfold maxLen at hs1
    rw [redd_at hk hkn hfirst]
    clear hp hkn hfirst hs
    go_enter Try.func37, Try.ntmps37
    go_wp2_with fail
    refine (find_any nm A n c room fuse off l _ (HF.out.q ((Q.refl _).alloc _)) HN.out).mono ?_
    rintro e w1 ⟨rfl, q1⟩
    rw [HH.out]
    go_wp2
    go_ret2
    exact ⟨rfl, (((Q.refl _).alloc _).trans q1).alloc _⟩

set_option maxHeartbeats 1000000 in
theorem ref_read (nm : ByteArray) (A : Option Addr) (n c : Nat) (room fuse : Int) (off : Bool) (l : List Fil) (w : World) (hf : Files w A n l) (hn : n ≤ maxLen) (hs : ∀ f ∈ l, f.sf.size + f.wt.size ≤ maxLen) :
    Calls Try.prog 38 #[dkv A n c room fuse off, .string nm] w fun e w' => e = .returned (.tuple #[.string (redd nm l).1, .int .i64 (redd nm l).2]) ∧ Q w w' := by
  have HF := Lib.hid hf
  have HN := Lib.hid hn
  unfold maxLen at hn
  clear hf
  rcases plc_cases nm l with ⟨hp, hall⟩ | ⟨k, hk, hp, hkn, hfirst⟩
  · have HH := Lib.hid (hit_none hall)
    rw [redd_none hall]
    clear hp hall hs
    go_enter Try.func38, Try.ntmps38
    go_wp2_with fail
    refine (ref_find nm A n c room fuse off l _ (HF.out.q ((Q.refl _).alloc _)) HN.out).mono ?_
    rintro e w1 ⟨rfl, q1⟩
    rw [HH.out]
    go_wp2
    go_ret2
    exact ⟨rfl, (((Q.refl _).alloc _).trans q1).alloc _⟩
  · have HH := Lib.hid (hit_at hk hkn hfirst)
    have hs1 := hs l[k] (List.getElem_mem hk)
    unfold maxLen at hs1
    rw [redd_at hk hkn hfirst]
    clear hp hkn hfirst hs
    go_enter Try.func38, Try.ntmps38
    go_wp2_with fail
    refine (ref_find nm A n c room fuse off l _ (HF.out.q ((Q.refl _).alloc _)) HN.out).mono ?_
    rintro e w1 ⟨rfl, q1⟩
    rw [HH.out]
    go_wp2
    go_ret2
    exact ⟨rfl, (((Q.refl _).alloc _).trans q1).alloc _⟩

end Go.Proofs.Ytodfdklcioafmaa

/- Contracts: lists of files of the call's own: a clone, a file that is set. -/
namespace Go.Proofs.Ytodfdklcioafmaa
set_option maxRecDepth 100000
open Go.RowKit Dkm
set_option linter.unusedVariables false

/-- The slice is the call's own, from block 'base' on, and holds these files. -/
def Own (w : World) (base : Nat) (A : Option Addr) (n c : Nat) (l : List Fil) : Prop := w.ownsRow base 52 3 (.slice A n c) n (rows l)

/-- A slice of files as it comes in. -/
structure Dsk (w : World) (A : Option Addr) (n c : Nat) (l : List Fil) : Prop where
  files : Files w A n l
  nil : A = none → n = 0 ∧ c = 0
  le : n ≤ c
  cap : c ≤ maxLen
  few : n * 48 ≤ 140737488355328

theorem Dsk.len {w : World} {A : Option Addr} {n c : Nat} {l : List Fil} (h : Dsk w A n c l) : l.length = n := h.files.len
theorem Dsk.q {w w' : World} {A : Option Addr} {n c : Nat} {l : List Fil} (h : Dsk w A n c l) (hq : Q w w') : Dsk w' A n c l := ⟨h.files.q hq, h.nil, h.le, h.cap, h.few⟩
theorem Dsk.max {w : World} {A : Option Addr} {n c : Nat} {l : List Fil} (h : Dsk w A n c l) : n ≤ maxLen := Nat.le_trans h.le h.cap

theorem Own.parts {w : World} {base : Nat} {A : Option Addr} {n c : Nat} {l : List Fil} (h : Own w base A n c l) :
    (A = none ∧ n = 0 ∧ c = 0 ∧ l = []) ∨ ∃ g cur, A = some ⟨g, 0, none⟩ ∧ base ≤ g ∧ w.heap[g]? = some (.cells cur 52 (0, 0)) ∧ n ≤ c ∧ c ≤ maxLen ∧ cur.size = c * 3 ∧ cur.toList.take (n * 3) = rows l := by
  rcases h.2 with ⟨e, h0⟩ | ⟨g, cap, cur, e, hb, hh, hc, hm, hs, ht⟩
  · injection e with e1 e2 e3
    refine .inl ⟨e1, e2, e3, ?_⟩
    have := h.1; rw [rows_length] at this
    exact List.eq_nil_of_length_eq_zero (by omega)
  · injection e with e1 e2 e3
    subst e1 e3
    exact .inr ⟨g, cur, rfl, hb, hh, hc, hm, hs, ht⟩
theorem Own.len {w : World} {base : Nat} {A : Option Addr} {n c : Nat} {l : List Fil} (h : Own w base A n c l) : l.length = n := by
  have := h.1; rw [rows_length] at this; omega
theorem Own.files {w : World} {base : Nat} {A : Option Addr} {n c : Nat} {l : List Fil} (h : Own w base A n c l) : Files w A n l := by
  refine ⟨h.1, fun j u hu => ?_⟩
  rcases h.parts with ⟨rfl, rfl, rfl, rfl⟩ | ⟨g, cur, rfl, hb, hh, hc, hm, hs, ht⟩
  · simp [rows] at hu
  · have hj : j < n * 3 := by
      have := (List.getElem?_eq_some_iff.1 hu).1; rw [h.1] at this; exact this
    refine ⟨_, rfl, ?_, ?_⟩
    · rcases Nat.lt_or_ge g w.heap.size with hlt | hge
      · exact hlt
      · rw [Array.getElem?_eq_none hge] at hh; cases hh
    · rw [Addr.add_mid, Nat.zero_add, World.ownsRow.cellAt h j hj]; exact hu
theorem Own.dsk {w : World} {base : Nat} {A : Option Addr} {n c : Nat} {l : List Fil} (h : Own w base A n c l) (hn : n * 48 ≤ 140737488355328) : Dsk w A n c l := by
  refine ⟨h.files, ?_, ?_, ?_, hn⟩ <;> rcases h.parts with ⟨rfl, rfl, rfl, rfl⟩ | ⟨g, cur, rfl, hb, hh, hc, hm, hs, ht⟩
  · intro _; exact ⟨rfl, rfl⟩
  · intro e; cases e
  · exact Nat.le_refl _
  · exact hc
  · exact Nat.zero_le _
  · exact hm
theorem Own.keep {w w' : World} {base B : Nat} {A : Option Addr} {n c : Nat} {l : List Fil} (h : Own w base A n c l) (hb : Below B w w') (hB : w.heap.size ≤ B) : Own w' base A n c l := by
  refine ⟨h.1, ?_⟩
  rcases h.2 with ⟨e, h0⟩ | ⟨g, cap, cur, e, hg, hh, r⟩
  · exact .inl ⟨e, h0⟩
  · have hlt : g < w.heap.size := by
      rcases Nat.lt_or_ge g w.heap.size with hlt | hge
      · exact hlt
      · rw [Array.getElem?_eq_none hge] at hh; cases hh
    exact .inr ⟨g, cap, cur, e, hg, (hb.block g (by omega)).trans hh, r⟩
theorem Own.q {w w' : World} {base : Nat} {A : Option Addr} {n c : Nat} {l : List Fil} (h : Own w base A n c l) (hq : Q w w') : Own w' base A n c l := h.keep hq.below (Nat.le_refl _)
theorem Own.setCell {w : World} {base : Nat} {A : Option Addr} {n c : Nat} {l : List Fil} (h : Own w base A n c l) {p : Addr} (hp : p.block < base) (u : Value) : Own (w.setCell p u) base A n c l := by
  refine ⟨h.1, ?_⟩
  rcases h.2 with ⟨e, h0⟩ | ⟨g, cap, cur, e, hg, hh, r⟩
  · exact .inl ⟨e, h0⟩
  · exact .inr ⟨g, cap, cur, e, hg, (heap_setCell_other w p g u (by omega)).trans hh, r⟩
theorem Own.alloc {w : World} {base : Nat} {A : Option Addr} {n c : Nat} {l : List Fil} (h : Own w base A n c l) (o : Obj) : Own (w.alloc o) base A n c l := h.q ((Q.refl _).alloc o)
theorem Own.lower {w : World} {base b2 : Nat} {A : Option Addr} {n c : Nat} {l : List Fil} (h : Own w base A n c l) (hb : b2 ≤ base) : Own w b2 A n c l := by
  refine ⟨h.1, ?_⟩
  rcases h.2 with ⟨e, h0⟩ | ⟨g, cap, cur, e, hg, hh, r⟩
  · exact .inl ⟨e, h0⟩
  · exact .inr ⟨g, cap, cur, e, by omega, hh, r⟩

theorem file_info : (Try.prog.info? 52).map (fun i => (i.zero, i.size, i.bytes)) = some (some (.agg #[.string ⟨#[]⟩, .string ⟨#[]⟩, .string ⟨#[]⟩]), 3, 48) := by kernel_rfl

/-- 'append(own, more...)', the source nil or not. -/
theorem run_app (w : World) (base : Nat) (A : Option Addr) (n c : Nat) (l : List Fil) (h : Own w base A n c l) (A2 : Option Addr) (m c2 : Nat) (l2 : List Fil) (h2 : Files w A2 m l2) (hnil : A2 = none → m = 0 ∧ c2 = 0)
    (hb : (n + m) * 48 ≤ 140737488355328) (hbase : base ≤ w.heap.size) (ty : TypeId) :
    ∃ A' c' w', (Builtin.append_ #[22, 22] ty #[.slice A n c, .slice A2 m c2]).run Try.prog w = .ok (.slice A' (n + m) c') w' ∧ Own w' base A' (n + m) c' (l ++ l2) ∧ Below base w w' := by
  obtain ⟨i, hi, hz, hs, hy⟩ := info_parts file_info
  have hmax : n + m ≤ maxLen := by unfold maxLen; omega
  cases A2 with
  | none =>
    obtain ⟨rfl, rfl⟩ := hnil rfl
    have e2 : l2 = [] := List.eq_nil_of_length_eq_zero h2.len
    subst e2
    refine ⟨A, c, w, run_append_owned_none (P := Try.prog) (w := w) base _ ty 52 i 3 Try.underlying22 hi _ n (rows l) h, by simpa using h, Below.refl _ _⟩
  | some ad =>
    obtain ⟨v', w', hr, ho, hg, hn, hat⟩ := run_append_own_at (P := Try.prog) w base 22 ty 52 i _ 3 48 Try.underlying22 hi hz hs hy rfl (by omega) (.slice A n c) n (rows l) h ad m c2 (rows l2) h2.1
      (fun j u hu => by obtain ⟨a', e, _, hc⟩ := h2.2 j u hu; injection e with e; subst e; exact hc) (rows_one l2) hmax hb hbase
    rw [← rows_append] at ho
    have hbl : Below base w w' := (Below.refl _ _).grown hg hbase (fun k hk => by
      rcases h.parts with ⟨rfl, _⟩ | ⟨g, cur, rfl, hb, _⟩
      · cases hk
      · simp only [Value.ownBlock, Option.some.injEq] at hk; omega)
    rcases ho.2 with ⟨e, h0⟩ | ⟨g, cap, cur, e, _⟩
    · have h00 : Value.slice none 0 0 = .slice none (n + m) 0 := by rw [h0]
      rw [h00] at e
      subst e
      exact ⟨none, 0, w', hr, ho, hbl⟩
    · subst e
      exact ⟨_, cap, w', hr, ho, hbl⟩

/-- The same, for a plain region's list. -/
theorem wpl_app {w : World} {ops : Array Oper} {rest : List Oper} {o : Oper} {a : Act} {R : Exit → Act → World → Prop} (hgd : o.guard = none) (s x : Operand)
    (ho : o.op = .call { callee := .builtin .append, args := #[s, x], argTypes := #[22, 22] })
    (base : Nat) (A : Option Addr) (n c : Nat) (l : List Fil) (hs : a.eval s = .slice A n c) (h : Own w base A n c l) (A2 : Option Addr) (m c2 : Nat) (l2 : List Fil) (hx : a.eval x = .slice A2 m c2) (h2 : Files w A2 m l2) (hnil : A2 = none → m = 0 ∧ c2 = 0)
    (hb : (n + m) * 48 ≤ 140737488355328) (hbase : base ≤ w.heap.size)
    (hk : ∀ A' c' w', Own w' base A' (n + m) c' (l ++ l2) → Below base w w' → wpList Try.prog ops R rest (a.put o.dst (.slice A' (n + m) c')) w') : wpList Try.prog ops R (o :: rest) a w := by
  refine wpList_plain hgd fun K hK => ?_
  obtain ⟨A', c', w', hr, h3, h4⟩ := run_app w base A n c l h A2 m c2 l2 h2 hnil hb hbase o.type
  unfold Oper.wp execOp
  simp only [ho, resolve, invoke, builtin, Sem.run_bind, Sem.run_pure, Result.andThen_ok, List.map_toArray, List.map_cons, List.map_nil, hs, hx, hr]
  exact hK _ _ (hk A' c' w' h3 h4)

def RetOwn (w : World) (n : Nat) (l : List Fil) (e : Ending) (w' : World) : Prop :=
  ∃ A' c', e = .returned (.slice A' n c') ∧ Own w' w.heap.size A' n c' l ∧ Q w w'

theorem own_lit0 (w : World) (base : Nat) (hb : base ≤ w.heap.size) : Own (w.alloc (.cells #[] 52)) base (some ⟨w.heap.size, 0, none⟩) 0 0 [] :=
  World.ownsRow_lit w #[] 0 hb (Nat.zero_le _) rfl

theorem eql_nil (W : World) (A : Option Addr) (n c : Nat) : (binOp .eql 22 (.slice A n c) (.slice none 0 0)).run Try.prog W = .ok (.bool A.isNone) W := by
  have h : ∀ d, (Op.equalIn (d + 1) 22 (.slice A n c) (.slice none 0 0)).run Try.prog W = .ok A.isNone W := by
    intro d
    cases A <;> simp [Op.equalIn, run_underlying Try.underlying22]
  have h2 : (Op.equal 22 (.slice A n c) (.slice none 0 0)).run Try.prog W = .ok A.isNone W := h 9999
  simp [binOp, h2]

set_option maxHeartbeats 1000000 in
theorem clone (A : Option Addr) (n c : Nat) (l : List Fil) (w : World) (hd : Dsk w A n c l) :
    Calls Try.prog 88 #[.slice A n c] w fun e w' => RetOwn w n l e w' := by
  have HD := Lib.hid hd
  clear hd
  cases A with
  | none =>
    obtain ⟨h1, h2⟩ := HD.out.nil rfl
    subst h1 h2
    have hl : l = [] := List.eq_nil_of_length_eq_zero HD.out.len
    subst hl
    have hnil := fun W : World => eql_nil W none 0 0
    go_enter Try.func88, Try.ntmps88
    go_wp2
    go_ret
    exact ⟨none, 0, rfl, ⟨rfl, .inl ⟨rfl, rfl⟩⟩, Q.refl _⟩
  | some ad =>
    have hnil := fun W : World => eql_nil W (some ad) n c
    go_enter Try.func88, Try.ntmps88
    go_wp2_with (at_builtin
                 refine wpl_app rfl (.tmp 5) (.tmp 6) rfl w.heap.size (some ⟨w.heap.size, 0, none⟩) 0 0 [] rfl (own_lit0 w _ (Nat.le_refl _)) (some ad) n c l rfl (HD.out.files.q ((Q.refl _).alloc _)) (fun e => by cases e) (by have := HD.out.few; omega) (by simp) ?_
                 intro A1 c1 w1 ho1 hb1)
    go_ret
    refine ⟨A1, c1, by simp, by simpa using ho1, ((Q.refl _).alloc _).below.trans hb1⟩

def RetOwnD (w : World) (n : Nat) (room fuse : Int) (off : Bool) (l : List Fil) (e : Ending) (w' : World) : Prop :=
  ∃ A' c', e = .returned (dkv A' n c' room fuse off) ∧ Own w' w.heap.size A' n c' l ∧ Q w w'

set_option maxHeartbeats 1000000 in
theorem own_any (A : Option Addr) (n c : Nat) (room fuse : Int) (off : Bool) (l : List Fil) (w : World) (hd : Dsk w A n c l) :
    Calls Try.prog 58 #[dkv A n c room fuse off] w fun e w' => RetOwnD w n room fuse off l e w' := by
  have HD := Lib.hid hd
  clear hd
  go_enter Try.func58, Try.ntmps58
  go_wp2_with fail
  refine (clone A n c l _ (HD.out.q (((Q.refl _).alloc _).alloc _))).mono ?_
  rintro e w1 ⟨A1, c1, rfl, ho, q1⟩
  have HO := Lib.hid ho
  clear ho
  obtain ⟨e0, e1, e2, e3⟩ := box4 q1 (b := w.heap.size) (x := .slice A n c) (y := .int .i64 room) (z := .int .i64 fuse) (u := .bool off) (by simp) (by simp) (by simp) (by simp)
  obtain ⟨r0, r1, r2, r3⟩ := box4 q1 (b := w.heap.size + 1) (x := .slice none 0 0) (y := .int .i64 0) (z := .int .i64 0) (u := .bool false) (by simp) (by simp) (by simp) (by simp)
  obtain ⟨hc, hz⟩ := bcell q1.below
  clear hc
  go_wp2
  refine bodyPost_ret (v := dkv A1 n c1 room fuse off) (by simp [results, Try.results58, go_sem, r0, r1, r2, r3]) rfl ⟨A1, c1, rfl, ?_, ?_⟩
  · exact (((((HO.out.setCell (p := ⟨_, _, none⟩) (by simp <;> omega) _).setCell (p := ⟨_, _, none⟩) (by simp <;> omega) _).setCell (p := ⟨_, _, none⟩) (by simp <;> omega) _).setCell (p := ⟨_, _, none⟩) (by simp <;> omega) _).setCell (p := ⟨_, _, none⟩) (by simp <;> omega) _).lower (by simp <;> omega)
  · exact ((((Q.refl _).alloc _).alloc _).trans q1).setCell (by simp) _ |>.set4 (by simp) _ _ _ _

theorem rows_set (l : List Fil) (k : Nat) (h : k < l.length) (f : Fil) : (((rows l).set (k * 3) (.string f.nm)).set (k * 3 + 1) (.string f.sf)).set (k * 3 + 2) (.string f.wt) = rows (l.set k f) := by
  induction l generalizing k with
  | nil => simp at h
  | cons g l ih =>
    cases k with
    | zero => simp [rows, Fil.row]
    | succ k =>
      have e := ih k (by simpa using h)
      have e0 : (k + 1) * 3 = k * 3 + 3 := by omega
      simp only [rows, List.set_cons_succ, Fil.row, e0, List.cons_append, List.nil_append, ← e]

theorem Own.set3 {w : World} {base g n c : Nat} {l : List Fil} (h : Own w base (some ⟨g, 0, none⟩) n c l) {k : Nat} (hk : k < n) (f : Fil) :
    Own (((w.setCell ⟨g, k * 3, none⟩ (.string f.nm)).setCell ⟨g, k * 3 + 1, none⟩ (.string f.sf)).setCell ⟨g, k * 3 + 2, none⟩ (.string f.wt)) base (some ⟨g, 0, none⟩) n c (l.set k f) ∧
    Below base w (((w.setCell ⟨g, k * 3, none⟩ (.string f.nm)).setCell ⟨g, k * 3 + 1, none⟩ (.string f.sf)).setCell ⟨g, k * 3 + 2, none⟩ (.string f.wt)) := by
  have h1 := World.ownsRow.stored h (k * 3) (.string f.nm)
  have h2 := World.ownsRow.stored h1.1 (k * 3 + 1) (.string f.sf)
  have h3 := World.ownsRow.stored h2.1 (k * 3 + 2) (.string f.wt)
  have hl : k < l.length := by have := h.len; omega
  have hg : base ≤ g := by
    rcases h.parts with ⟨e, _⟩ | ⟨g', cur, e, hb, _⟩
    · cases e
    · injection e with e; injection e with e; omega
  refine ⟨?_, (((Below.refl _ _).setCell (p := ⟨g, _, none⟩) hg _).setCell (p := ⟨g, _, none⟩) hg _).setCell (p := ⟨g, _, none⟩) hg _⟩
  have := h3.1
  rw [rows_set l k hl f] at this
  exact this

set_option maxHeartbeats 1000000 in
theorem set_mid (base : Nat) (A : Option Addr) (n c : Nat) (k : Nat) (f : Fil) (l : List Fil) (w : World) (h : Own w base A n c l) (hk : k < n) :
    Calls Try.prog 64 #[.slice A n c, .int .i64 k, f.val] w fun e w' => e = .returned (.slice A n c) ∧ Own w' base A n c (l.set k f) ∧ Below base w w' := by
  rcases h.parts with ⟨rfl, rfl, _⟩ | ⟨g, cur, rfl, hb, hh, hc, hm, hs, ht⟩
  · omega
  have hgw : g < w.heap.size := by
    rcases Nat.lt_or_ge g w.heap.size with hlt | hge
    · exact hlt
    · rw [Array.getElem?_eq_none hge] at hh; cases hh
  have hkl : k < l.length := by have := h.len; omega
  have c0 : w.cell? ⟨g, k * 3, none⟩ = some (.string l[k].nm) := by rw [World.ownsRow.cellAt h _ (by omega)]; exact rows_at l k hkl 0 (by omega)
  have c1 : w.cell? ⟨g, k * 3 + 1, none⟩ = some (.string l[k].sf) := by rw [World.ownsRow.cellAt h _ (by omega)]; exact rows_at l k hkl 1 (by omega)
  have c2 : w.cell? ⟨g, k * 3 + 2, none⟩ = some (.string l[k].wt) := by rw [World.ownsRow.cellAt h _ (by omega)]; exact rows_at l k hkl 2 (by omega)
  have f0 : w.frozen? ⟨g, k * 3, none⟩ = false := World.ownsRow.frozenAt h _
  have f1 : w.frozen? ⟨g, k * 3 + 1, none⟩ = false := World.ownsRow.frozenAt h _
  have f2 : w.frozen? ⟨g, k * 3 + 2, none⟩ = false := World.ownsRow.frozenAt h _
  unfold maxLen at hm
  have HO := Lib.hid h
  have hkn : ((k : Int) == (n : Int)) = false := by simp; omega
  have hkn2 : (k == n) = false := by simp; omega
  clear h hh hs ht
  obtain ⟨a, b, d⟩ := f
  go_enter Try.func64, Try.ntmps64
  go_wp2
  go_ret
  exact ⟨rfl, (HO.out.set3 hk ⟨a, b, d⟩).1.alloc _, (HO.out.set3 hk ⟨a, b, d⟩).2.alloc (by simp <;> omega) _⟩

theorem files_lit1 (w : World) (f : Fil) : Files (w.alloc (.cells #[.string f.nm, .string f.sf, .string f.wt] 52)) (some ⟨w.heap.size, 0, none⟩) 1 [f] :=
  Own.files (base := 0) (c := 1) (World.ownsRow_lit w #[.string f.nm, .string f.sf, .string f.wt] 1 (Nat.zero_le _) (by unfold maxLen; omega) rfl)

def RetOwnB (w : World) (base n : Nat) (l : List Fil) (e : Ending) (w' : World) : Prop :=
  ∃ A' c', e = .returned (.slice A' n c') ∧ Own w' base A' n c' l ∧ Below base w w'

set_option maxHeartbeats 1000000 in
theorem set_end (base : Nat) (A : Option Addr) (n c : Nat) (f : Fil) (l : List Fil) (w : World) (h : Own w base A n c l) (hn : (n + 1) * 48 ≤ 140737488355328) (hbase : base ≤ w.heap.size) :
    Calls Try.prog 64 #[.slice A n c, .int .i64 n, f.val] w fun e w' => RetOwnB w base (n + 1) (l ++ [f]) e w' := by
  have HO := Lib.hid h
  clear h
  obtain ⟨a, b, d⟩ := f
  go_enter Try.func64, Try.ntmps64
  go_wp2_with (at_builtin
               refine wpl_app rfl (.tmp 11) (.tmp 13) rfl base A n c l rfl ((HO.out.alloc _).alloc _) (some ⟨w.heap.size + 1, 0, none⟩) 1 1 [⟨a, b, d⟩] rfl (by have := files_lit1 (w.alloc (.cells #[.string a, .string b, .string d] 52)) ⟨a, b, d⟩; simpa using this) (fun e => by cases e) hn (by simp <;> omega) ?_
               intro A1 c1 w1 ho1 hb1)
  go_ret
  exact ⟨A1, c1, rfl, ho1, (((Below.refl _ _).alloc hbase _).alloc (by simp <;> omega) _).trans hb1⟩
end Go.Proofs.Ytodfdklcioafmaa

/- What comes in: files, disks, lists of integers, opened out of a reading. -/
namespace Go.Proofs.Ytodfdklcioafmaa
set_option maxRecDepth 100000
open Go.ChangeShapes Go.WideShapes Go.RowKit Dkm
set_option linter.unusedVariables false

theorem rows_flat (l : List Fil) : rows l = l.flatMap Fil.row := by
  induction l with
  | nil => rfl
  | cons f l ih => rw [rows, ih, List.flatMap_cons]

/-- a file's texts are within the reach. -/
def FilIn (f : Fil) : Prop := f.nm.size ≤ 140737488351232 ∧ f.sf.size ≤ 140737488351232 ∧ f.wt.size ≤ 140737488351232

theorem open_file {w : World} {cs : List Value} (h : Rd w 52 cs) : ∃ f : Fil, cs = f.row ∧ FilIn f := by
  obtain ⟨hl, hf⟩ := h.struct Try.underlying52
  rw [show Try.prog.cellsOf 52 = 3 by kernel_rfl] at hl
  match cs, hl with
  | [a, b, c], _ =>
    obtain ⟨s0, e0, r0⟩ := (h.field Try.underlying52 0 (ty := 9) 0 1 rfl (by kernel_rfl)).string Try.underlying9
    obtain ⟨s1, e1, r1⟩ := (h.field Try.underlying52 1 (ty := 9) 1 1 rfl (by kernel_rfl)).string Try.underlying9
    obtain ⟨s2, e2, r2⟩ := (h.field Try.underlying52 2 (ty := 9) 2 1 rfl (by kernel_rfl)).string Try.underlying9
    simp at e0 e1 e2
    subst e0 e1 e2
    exact ⟨⟨s0, s1, s2⟩, rfl, r0, r1, r2⟩

theorem open_files {w : World} {cs : List Value} (h : Rd w 22 cs) : ∃ A n c l, cs = [.slice A n c] ∧ Dsk w A n c l ∧ ∀ f ∈ l, FilIn f := by
  rcases h.slice Try.underlying22 with rfl | ⟨a, len, cap, rfl, hlc, hcm, hby, hi⟩
  · exact ⟨none, 0, 0, [], rfl, ⟨Holds.none_ _ _ _ _, fun _ => ⟨rfl, rfl⟩, Nat.le_refl _, Nat.zero_le _, by omega⟩, by simp⟩
  · rw [show Try.prog.bytesOf 52 = 48 by kernel_rfl] at hby
    rw [show Try.prog.cellsOf 52 = 3 by kernel_rfl] at hi
    obtain ⟨l, hl, hr⟩ := choose_list (R := fun i (f : Fil) => w.cells? 0 (a.add (i * 3)) 3 = some f.row ∧ FilIn f) len (fun i hlt => by
      obtain ⟨cs', hc, hrd⟩ := hi i (by omega)
      obtain ⟨f, rfl, hf⟩ := open_file hrd
      exact ⟨f, hc, hf⟩)
    refine ⟨some a, len, cap, l, rfl, ⟨?_, fun e => by (cases e), hlc, hcm, by omega⟩, fun f hf => ?_⟩
    · have := holds_flat Fil.row 3 (fun f => rfl) w a l (fun i hi => (hr i hi).1)
      rw [hl, ← rows_flat] at this
      exact this
    · obtain ⟨i, hi, rfl⟩ := List.getElem_of_mem hf
      exact (hr i hi).2

theorem flat_one (f : Int → Value) : ∀ (l : List Int), l.flatMap (fun x : Int => [f x]) = l.map f
  | [] => rfl
  | a :: l => by rw [List.flatMap_cons, flat_one f l]; rfl
theorem open_ints {w : World} {cs : List Value} (h : Rd w 48 cs) : ∃ A n c ks, cs = [.slice A n c] ∧ Ints w A n ks ∧ n * 8 ≤ 140737488351232 ∧ n ≤ c ∧ ∀ x ∈ ks, (Lit.int .i64 x).wf = true := by
  rcases h.slice Try.underlying48 with rfl | ⟨a, len, cap, rfl, hlc, hcm, hby, hi⟩
  · exact ⟨none, 0, 0, [], rfl, Holds.none_ _ _ _ _, by omega, by omega, by simp⟩
  · rw [show Try.prog.bytesOf 3 = 8 by kernel_rfl] at hby
    rw [show Try.prog.cellsOf 3 = 1 by kernel_rfl] at hi
    obtain ⟨l, hl, hr⟩ := choose_list (R := fun i (x : Int) => w.cells? 0 (a.add (i * 1)) 1 = some [.int .i64 x] ∧ (Lit.int .i64 x).wf = true) len (fun i hlt => by
      obtain ⟨cs', hc, hrd⟩ := hi i (by omega)
      obtain ⟨x, rfl, hx⟩ := hrd.int Try.underlying3
      exact ⟨x, hc, hx⟩)
    refine ⟨some a, len, cap, l, rfl, ?_, by omega, hlc, fun x hx => ?_⟩
    · have := holds_flat (fun x : Int => [Value.int .i64 x]) 1 (fun f => rfl) w a l (fun i hi => (hr i hi).1)
      rw [hl, flat_one] at this
      exact this
    · obtain ⟨i, hi, rfl⟩ := List.getElem_of_mem hx
      exact (hr i hi).2

/-- a disk as it comes in. -/
structure DkIn (w : World) (A : Option Addr) (n c : Nat) (d : Dk) : Prop where
  dsk : Dsk w A n c d.fs
  fil : ∀ f ∈ d.fs, FilIn f
  room : -9223372036854775808 ≤ d.room ∧ d.room ≤ 9223372036854775807
  fuse : -9223372036854775808 ≤ d.fuse ∧ d.fuse ≤ 9223372036854775807
theorem open_disk {w : World} {cs : List Value} (h : Rd w 24 cs) : ∃ A n c d, cs = [.slice A n c, .int .i64 d.room, .int .i64 d.fuse, .bool d.off] ∧ DkIn w A n c d := by
  obtain ⟨hl, hf⟩ := h.struct Try.underlying24
  rw [show Try.prog.cellsOf 24 = 4 by kernel_rfl] at hl
  match cs, hl with
  | [x, y, z, u], _ =>
    obtain ⟨A, n, c, l, e0, hd, hi⟩ := open_files (h.field Try.underlying24 0 (ty := 22) 0 1 rfl (by kernel_rfl))
    obtain ⟨r, e1, hr⟩ := (h.field Try.underlying24 1 (ty := 3) 1 1 rfl (by kernel_rfl)).int Try.underlying3
    obtain ⟨s, e2, hs⟩ := (h.field Try.underlying24 2 (ty := 3) 2 1 rfl (by kernel_rfl)).int Try.underlying3
    obtain ⟨b, e3⟩ := (h.field Try.underlying24 3 (ty := 4) 3 1 rfl (by kernel_rfl)).bool Try.underlying4
    simp at e0 e1 e2 e3
    subst e0 e1 e2 e3
    exact ⟨A, n, c, ⟨l, r, s, b⟩, rfl, hd, hi, wf_i64 hr, wf_i64 hs⟩

/-- an act. -/
structure Ac where
  kind : Int
  num : Int
  nm : ByteArray
  s : ByteArray
def Ac.row (a : Ac) : List Value := [.int .i64 a.kind, .int .i64 a.num, .string a.nm, .string a.s]
def AcIn (a : Ac) : Prop := (-9223372036854775808 ≤ a.num ∧ a.num ≤ 9223372036854775807) ∧ a.nm.size ≤ 140737488351232 ∧ a.s.size ≤ 140737488351232
/-- a slice of acts reads so. -/
def Acts (w : World) (A : Option Addr) (n : Nat) (l : List Ac) : Prop := Holds w w.heap.size 4 A n (l.flatMap Ac.row)
theorem Acts.q {w w' : World} {A : Option Addr} {n : Nat} {l : List Ac} (h : Acts w A n l) (hq : Q w w') : Acts w' A n l := Holds.q h hq
theorem Acts.len {w : World} {A : Option Addr} {n : Nat} {l : List Ac} (h : Acts w A n l) : l.length = n := by
  have := h.1; rw [flat_len Ac.row 4 (fun _ => rfl)] at this; omega
theorem flat_get {α : Type} (g : α → List Value) (k : Nat) (hg : ∀ a, (g a).length = k) : ∀ (l : List α) (i : Nat) (hi : i < l.length) (r : Nat), r < k → (l.flatMap g)[i * k + r]? = (g l[i])[r]?
  | a :: l, 0, hi, r, hr => by
    rw [List.flatMap_cons, Nat.zero_mul, Nat.zero_add, List.getElem?_append_left (by rw [hg]; exact hr)]; rfl
  | a :: l, i + 1, hi, r, hr => by
    rw [List.flatMap_cons, List.getElem?_append_right (by rw [hg, Nat.succ_mul]; omega), hg, show (i + 1) * k + r - k = i * k + r by rw [Nat.succ_mul]; omega]
    exact flat_get g k hg l i (by simpa using hi) r hr
theorem Acts.load {w : World} {A : Option Addr} {n : Nat} {l : List Ac} (h : Acts w A n l) {k : Nat} (hl : k < l.length) :
    ∃ ad, A = some ad ∧ ad.block < w.heap.size ∧ w.cell? (ad.add (k * 4)) = some (.int .i64 l[k].kind) ∧ w.cell? ⟨(ad.add (k * 4)).block, (ad.add (k * 4)).off + 1, none⟩ = some (.int .i64 l[k].num) ∧
      w.cell? ⟨(ad.add (k * 4)).block, (ad.add (k * 4)).off + 2, none⟩ = some (.string l[k].nm) ∧ w.cell? ⟨(ad.add (k * 4)).block, (ad.add (k * 4)).off + 3, none⟩ = some (.string l[k].s) := by
  have g := fun r hr => flat_get Ac.row 4 (fun _ => rfl) l k hl r hr
  obtain ⟨ad, rfl, hb, c0⟩ := h.2 (k * 4 + 0) _ (g 0 (by omega))
  obtain ⟨_, e1, _, c1⟩ := h.2 (k * 4 + 1) _ (g 1 (by omega))
  obtain ⟨_, e2, _, c2⟩ := h.2 (k * 4 + 2) _ (g 2 (by omega))
  obtain ⟨_, e3, _, c3⟩ := h.2 (k * 4 + 3) _ (g 3 (by omega))
  injection e1 with e1; subst e1
  injection e2 with e2; subst e2
  injection e3 with e3; subst e3
  rw [← addr_add] at c1 c2 c3
  exact ⟨ad, rfl, hb, c0, c1, c2, c3⟩
end Go.Proofs.Ytodfdklcioafmaa

/- What a law's arguments read as, where their bulk is bounded; a walk under that reading gives what the row asks. -/
namespace Go.Proofs.Ytodfdklcioafmaa
set_option maxRecDepth 100000
open Go.ChangeShapes Go.WideShapes Go.ChangeAt Go.RowKit
set_option linter.unusedVariables false

/-- the cells cs read as something of type t of a bulk of at most 2^20. -/
def RdU (w : World) (t : TypeId) (cs : List Value) : Prop :=
  ∃ (H : Type) (enc : TypeId × Value → H) (n : Nat) (d : DataW H) (ps : List MemPlace), DataW.trod enc Try.prog w 0 (fun _ => true) true n t cs = some (d, ps) ∧ Rows.uptoBulk d ≤ 1048576
theorem bulk_one {H : Type} (d : DataW H) : 1 ≤ Rows.uptoBulk d := by
  cases d with
  | lit l => cases l <;> simp [Rows.uptoBulk]
  | nil => simp [Rows.uptoBulk]
  | ptr d => simp [Rows.uptoBulk]
  | slice elems spare => simp [Rows.uptoBulk]
  | agg parts => simp [Rows.uptoBulk]
  | iface t d => simp [Rows.uptoBulk]
  | map entries => simp [Rows.uptoBulk]
  | held h => simp [Rows.uptoBulk]
theorem bulk_part {H : Type} {d : DataW H} {l : List (DataW H)} (h : d ∈ l) : Rows.uptoBulk d ≤ Rows.uptoBulkAll l := by
  induction l with
  | nil => cases h
  | cons x r ih =>
    simp only [Rows.uptoBulkAll]
    cases List.mem_cons.1 h with
    | inl e => subst e; omega
    | inr e => have := ih e; omega
theorem bulk_len {H : Type} (l : List (DataW H)) : l.length ≤ Rows.uptoBulkAll l := by
  induction l with
  | nil => simp [Rows.uptoBulkAll]
  | cons x r ih => have := bulk_one x; simp only [Rows.uptoBulkAll, List.length_cons]; omega
theorem RdU.string {w : World} {t : TypeId} {s : ByteArray} (h : RdU w t [.string s]) (ht : Try.prog.underlying t = some .string) : s.size ≤ 1048576 := by
  obtain ⟨H, enc, n, d, ps, ht', hw⟩ := h
  obtain ⟨s', e, hx, hm⟩ := DataW.trod_string ht ht'
  injection hx with h1 h2
  subst h1
  simp only [List.cons.injEq, Value.string.injEq, and_true] at e
  subst e
  simp only [Rows.uptoBulk] at hw
  have : s.data.toList.length = s.size := by simp
  omega
theorem RdU.field {w : World} {t : TypeId} {cs : List Value} {fs : Array Field} (h : RdU w t cs) (ht : Try.prog.underlying t = some (.struct fs)) (i : Nat) {ty : TypeId} (off k : Nat) (hi : (fs[i]?).map (fun f => (f.type, f.offset)) = some (ty, off)) (hk : Try.prog.cellsOf ty = k) :
    RdU w ty ((cs.drop off).take k) := by
  obtain ⟨f, hf, he⟩ := Option.map_eq_some_iff.1 hi
  injection he with e1 e2
  subst e1 e2 hk
  obtain ⟨H, enc, n, d, ps, ht', hw⟩ := h
  obtain ⟨xs, m, rfl, hx, hl, hlen, hg⟩ := DataW.trod_struct ht ht'
  injection hx with h1 h2
  subst h1
  have hil : i < fs.size := (Array.getElem?_eq_some_iff.1 hf).1
  have hxi : xs[i]? = some xs[i] := List.getElem?_eq_getElem (by omega)
  refine ⟨H, enc, m, xs[i].1, xs[i].2, (hg i f hf).trans hxi, ?_⟩
  simp only [Rows.uptoBulk] at hw
  have := bulk_part (l := xs.map (·.1)) (List.mem_map.2 ⟨xs[i], List.getElem_mem _, rfl⟩)
  omega
theorem RdU.slice {w : World} {t e : TypeId} {a : Addr} {len cap : Nat} (h : RdU w t [.slice (some a) len cap]) (ht : Try.prog.underlying t = some (.slice e)) :
    cap ≤ 1048576 ∧ ∀ i, i < cap → ∃ cs', w.cells? 0 (a.add (i * Try.prog.cellsOf e)) (Try.prog.cellsOf e) = some cs' ∧ RdU w e cs' := by
  obtain ⟨H, enc, n, d, ps, ht', hw⟩ := h
  rcases Deep.open_slice ht ht' with ⟨h0, _⟩ | ⟨a', len', cap', m, n', D, Pl, hcs, hb, hl, hm, hmm, hx, hi⟩
  · simp at h0
  · simp only [List.cons.injEq, Value.slice.injEq, Option.some.injEq, and_true] at hcs
    obtain ⟨rfl, rfl, rfl⟩ := hcs
    simp only [if_true] at hmm
    subst hmm
    injection hx with h1 h2
    subst h1
    simp only [Rows.uptoBulk] at hw
    have l1 := bulk_len ((List.range len).map D)
    have l2 := bulk_len ((List.range (m - len)).map fun i => D (len + i))
    refine ⟨by simp only [List.length_map, List.length_range] at l1 l2; omega, fun i hi' => ?_⟩
    obtain ⟨cs', hc, htr⟩ := hi i hi'
    refine ⟨cs', hc, H, enc, n', D i, Pl i, htr, ?_⟩
    by_cases hlt : i < len
    · have := bulk_part (l := (List.range len).map D) (List.mem_map.2 ⟨i, by simpa using hlt, rfl⟩)
      omega
    · have := bulk_part (d := D i) (l := (List.range (m - len)).map fun i => D (len + i)) (List.mem_map.2 ⟨i - len, by simp; omega, by rw [show len + (i - len) = i by omega]⟩)
      omega

theorem RdU.cap {w : World} {t e : TypeId} {a : Addr} {len cap : Nat} (h : RdU w t [.slice (some a) len cap]) (ht : Try.prog.underlying t = some (.slice e)) : cap ≤ 1048576 := (h.slice ht).1
/-- A walk of a law in one world, whatever its arguments read as, gives what its row asks; 'up': its second form. -/
theorem coreU {f : FuncId} {fn : Func} {s : ChangeSpec} (up : Bool) (n : Nat) (hn : fn.params.size = n) (hvars : s.vars = []) (hrt : fn.resultTypes = #[4])
    (hread0 : fn.params.toList.all (fun t => Try.prog.readableRec t && decide (t < Try.prog.types.size)) = true)
    (hs : ∀ (H : Type) (ds : List (DataW H)), ds.length = n → (s.fn H ds).results = [.lit (.bool true)] ∧ (s.fn H ds).args = ds ∧ (s.fn H ds).vars = [])
    (H : Type) (enc : TypeId × Value → H) (W : World) (base : Nat) (args : Array Value) (ds gs : List (DataW H)) (before : List MemPlace)
    (hval : ∀ (j : Nat) t v, fn.params[j]? = some t → args[j]? = some v → Value.okWide Try.prog W .any base t v)
    (hW : DataW.Whole enc Try.prog fn.params.toList s.vars false W args.toList ds gs before)
    (hcond : up = true → Rows.uptoBulkAll (ds ++ gs) ≤ 1048576)
    (hsz : (DataW.weightsEach Try.prog (fn.params.toList ++ s.plain.varTypes Try.prog) (ds ++ gs)).all (· ≤ reachBytes) = true)
    (walk : args.size = n → (∀ (j : Nat) t v, fn.params[j]? = some t → args[j]? = some v → RdV W t v ∧ (up = true → RdU W t v.cells.toList)) → Calls Try.prog f args W fun e W' => e = .returned (.bool true) ∧ Q W W') :
    Calls Try.prog f args W fun e W' => ∃ v, e = .returned v ∧ s.post enc Try.prog fn false true false false W args v W' := by
  have hread : ∀ t ∈ fn.params.toList, Try.prog.readableRec t = true ∧ t < Try.prog.types.size := fun t ht => by
    have := List.all_eq_true.1 hread0 t ht
    simpa using this
  have hW' := hW
  have hlt : ∀ x ∈ before, x.block < W.heap.size := fun x hx => by simpa using hW.lt x hx
  obtain ⟨p, q, hA, hV, rfl, hfz, hnd⟩ := hW
  rw [hvars] at hV
  obtain ⟨rfl, rfl⟩ := trodVars_none hV
  obtain ⟨e1, e2, h3⟩ := trodAll_len _ _ _ _ hA
  have hps : fn.params.toList.length = n := by simpa using hn
  have hds : ds.length = n := by omega
  have hsz2 : ∀ x ∈ DataW.weightsEach Try.prog (fn.params.toList ++ s.plain.varTypes Try.prog) (ds ++ []), x ≤ 140737488351232 := fun x hx => by
    have := List.all_eq_true.1 hsz x hx
    simpa [reachBytes] using of_decide_eq_true this
  refine (walk (by rw [← hps, ← e1]; simp) (fun j t v hj hv => ?_)).mono fun e W' ⟨he, hg⟩ => ?_
  · obtain ⟨d, p', hd, fuel, htr⟩ := h3 j t v (by simpa using hj) (by simpa using hv)
    have hjl : j < n := by
      have := (Array.getElem?_eq_some_iff.1 hj).1; omega
    refine ⟨⟨⟨base, hval j t v hj hv⟩, H, enc, fuel, d, p', htr, fun x hx => hsz2 x (DataW.weights_mem_each (j := j) (t := t) (d := d) ?_ (by simpa using hd) x hx)⟩, fun hup => ⟨H, enc, fuel, d, p', htr, ?_⟩⟩
    · rw [List.getElem?_append_left (by omega)]
      simpa using hj
    · have h1 := hcond hup
      have h2 := bulk_part (d := d) (l := ds ++ []) (List.mem_append_left _ (List.mem_of_getElem? hd))
      omega
  · subst he
    simp only [List.append_nil] at hW' hlt
    obtain ⟨a1, a2, a3⟩ := hs H ds hds
    refine ⟨_, rfl, ds, [], p, [], p, [], hW', ?_, ?_, ?_, hg.below.frame _, fun h => by cases h⟩
    · rw [List.append_nil, a1, hrt]
      exact trodAll_mk1 (shut_bool Try.underlying4 _)
    · rw [List.append_nil, a2]
      exact trodAll_keep hg _ _ _ _ hread hA hlt
    · rw [List.append_nil, a3, hvars]
      rfl
end Go.Proofs.Ytodfdklcioafmaa

/- Plain mathematics of Adler-32: nothing of the program. -/
namespace Go.Proofs.Ytodfdklcioafmaa.Sm
set_option maxRecDepth 100000

def step (p : Int × Int) (c : UInt8) : Int × Int := ((p.1 + (c.toNat : Int)) % 65521, (p.2 + (p.1 + (c.toNat : Int))) % 65521)
def adF (p : Int × Int) (l : List UInt8) : Int × Int := l.foldl step p
def ad (l : List UInt8) : Int × Int := adF (1, 0) l
def lo (l : List UInt8) : Int := (ad l).1
def hi (l : List UInt8) : Int := (ad l).2
def adler (l : List UInt8) : Int := hi l * 65536 + lo l

/-- the sum of the bytes, and the sum of the sums. -/
def S : List UInt8 → Int
  | [] => 0
  | c :: l => (c.toNat : Int) + S l
def T : List UInt8 → Int
  | [] => 0
  | c :: l => ((l.length : Int) + 1) * (c.toNat : Int) + T l

theorem mod_of {x y : Int} (k : Int) (h : x = y + 65521 * k) : x % 65521 = y % 65521 := by
  rw [h]; exact Int.add_mul_emod_self_left _ _ _

theorem adF_closed (l : List UInt8) : ∀ a b : Int, 0 ≤ a → a < 65521 → 0 ≤ b → b < 65521 →
    (adF (a, b) l).1 = (a + S l) % 65521 ∧ (adF (a, b) l).2 = (b + (l.length : Int) * a + T l) % 65521 := by
  induction l with
  | nil => intro a b h0 h1 h2 h3; simp only [adF, List.foldl, S, T, List.length]; omega
  | cons c l ih =>
    intro a b h0 h1 h2 h3
    have e : adF (a, b) (c :: l) = adF ((a + (c.toNat : Int)) % 65521, (b + (a + (c.toNat : Int))) % 65521) l := rfl
    obtain ⟨i1, i2⟩ := ih ((a + (c.toNat : Int)) % 65521) ((b + (a + (c.toNat : Int))) % 65521) (by omega) (by omega) (by omega) (by omega)
    rw [e, i1, i2]
    refine ⟨by simp only [S]; omega, ?_⟩
    simp only [T, List.length_cons]
    have q1 : (a + (c.toNat : Int)) % 65521 = (a + (c.toNat : Int)) - 65521 * ((a + (c.toNat : Int)) / 65521) := by omega
    have q2 : (b + (a + (c.toNat : Int))) % 65521 = (b + (a + (c.toNat : Int))) - 65521 * ((b + (a + (c.toNat : Int))) / 65521) := by omega
    rw [q1, q2]
    generalize (a + (c.toNat : Int)) / 65521 = u
    generalize (b + (a + (c.toNat : Int))) / 65521 = v
    refine mod_of (-v - (l.length : Int) * u) ?_
    push_cast
    generalize (l.length : Int) = n
    generalize (c.toNat : Int) = d
    grind

theorem lo_eq (l : List UInt8) : lo l = (1 + S l) % 65521 := (adF_closed l 1 0 (by omega) (by omega) (by omega) (by omega)).1
theorem hi_eq (l : List UInt8) : hi l = ((l.length : Int) + T l) % 65521 := by
  have h := (adF_closed l 1 0 (by omega) (by omega) (by omega) (by omega)).2
  unfold hi ad; rw [h]; congr 1; omega
theorem lo_range (l : List UInt8) : 0 ≤ lo l ∧ lo l < 65521 := by rw [lo_eq]; omega
theorem hi_range (l : List UInt8) : 0 ≤ hi l ∧ hi l < 65521 := by rw [hi_eq]; omega
theorem adler_range (l : List UInt8) : 0 ≤ adler l ∧ adler l < 4294967296 := by
  have := lo_range l; have := hi_range l; unfold adler; omega
theorem adler_lo (l : List UInt8) : adler l % 65536 = lo l := by
  have := lo_range l; have := hi_range l; unfold adler; omega
theorem adler_hi (l : List UInt8) : adler l / 65536 = hi l := by
  have := lo_range l; have := hi_range l; unfold adler; omega
theorem lo_nil : lo [] = 1 := rfl
theorem hi_nil : hi [] = 0 := rfl
theorem lo_snoc (l : List UInt8) (c : UInt8) : lo (l ++ [c]) = (lo l + (c.toNat : Int)) % 65521 := by
  unfold lo ad adF; rw [List.foldl_append]; rfl
theorem hi_snoc (l : List UInt8) (c : UInt8) : hi (l ++ [c]) = (hi l + (lo l + (c.toNat : Int))) % 65521 := by
  unfold hi lo ad adF; rw [List.foldl_append]; rfl

theorem S_append (a b : List UInt8) : S (a ++ b) = S a + S b := by
  induction a with
  | nil => simp [S]
  | cons c l ih => simp only [List.cons_append, S, ih]; omega
theorem T_append (a b : List UInt8) : T (a ++ b) = T a + (b.length : Int) * S a + T b := by
  induction a with
  | nil => simp [S, T]
  | cons c l ih =>
    simp only [List.cons_append, T, S, ih, List.length_append]
    push_cast
    generalize (l.length : Int) = n
    generalize (b.length : Int) = m
    generalize (c.toNat : Int) = d
    grind

/-- the halves of two texts, one behind the other. -/
theorem lo_append (a b : List UInt8) : lo (a ++ b) = (lo a + lo b + 65520) % 65521 := by
  simp only [lo_eq, S_append]; omega
theorem hi_append (a b : List UInt8) : hi (a ++ b) = (hi a + hi b + (b.length : Int) % 65521 * (lo a + 65520)) % 65521 := by
  have e1 := hi_eq (a ++ b)
  rw [e1, T_append]
  rw [hi_eq a, hi_eq b, lo_eq a]
  have q1 : ((a.length : Int) + T a) % 65521 = ((a.length : Int) + T a) - 65521 * (((a.length : Int) + T a) / 65521) := by omega
  have q2 : ((b.length : Int) + T b) % 65521 = ((b.length : Int) + T b) - 65521 * (((b.length : Int) + T b) / 65521) := by omega
  have q3 : (1 + S a) % 65521 = (1 + S a) - 65521 * ((1 + S a) / 65521) := by omega
  have q4 : (b.length : Int) % 65521 = (b.length : Int) - 65521 * ((b.length : Int) / 65521) := by omega
  rw [q1, q2, q3, q4]
  generalize ((a.length : Int) + T a) / 65521 = u1
  generalize ((b.length : Int) + T b) / 65521 = u2
  generalize (1 + S a) / 65521 = u3
  generalize hu : (b.length : Int) / 65521 = u4
  rw [List.length_append]
  push_cast
  generalize (a.length : Int) = m
  generalize (b.length : Int) = n
  symm
  refine mod_of (-u1 - u2 - n * u3 + n - u4 * (1 + S a - 65521 * u3 + 65520)) ?_
  grind

/-- one byte changed. -/
theorem tells (x y : List UInt8) (c d : UInt8) (h : c ≠ d) : adler (x ++ d :: y) ≠ adler (x ++ c :: y) := by
  intro e
  have e1 : lo (x ++ d :: y) = lo (x ++ c :: y) := by rw [← adler_lo, e, adler_lo]
  rw [lo_eq, lo_eq, S_append, S_append] at e1
  simp only [S] at e1
  have hc := c.toNat_lt
  have hd := d.toNat_lt
  have hn : c.toNat ≠ d.toNat := fun k => h (UInt8.toNat_inj.1 k)
  omega

/-- two that stand together changed places. -/
theorem swaps (x y : List UInt8) (c d : UInt8) (h : c ≠ d) : adler (x ++ d :: c :: y) ≠ adler (x ++ c :: d :: y) := by
  intro e
  have e1 : hi (x ++ d :: c :: y) = hi (x ++ c :: d :: y) := by rw [← adler_hi, e, adler_hi]
  rw [hi_eq, hi_eq, T_append, T_append] at e1
  simp only [T, List.length_append, List.length_cons] at e1
  have hc := c.toNat_lt
  have hd := d.toNat_lt
  have hn : c.toNat ≠ d.toNat := fun k => h (UInt8.toNat_inj.1 k)
  push_cast at e1
  have p1 : ((y.length : Int) + 1 + 1) * (d.toNat : Int) = (y.length : Int) * (d.toNat : Int) + 2 * (d.toNat : Int) := by grind
  have p2 : ((y.length : Int) + 1 + 1) * (c.toNat : Int) = (y.length : Int) * (c.toNat : Int) + 2 * (c.toNat : Int) := by grind
  have p3 : ((y.length : Int) + 1) * (d.toNat : Int) = (y.length : Int) * (d.toNat : Int) + (d.toNat : Int) := by grind
  have p4 : ((y.length : Int) + 1) * (c.toNat : Int) = (y.length : Int) * (c.toNat : Int) + (c.toNat : Int) := by grind
  rw [p1, p2, p3, p4] at e1
  generalize (y.length : Int) * (d.toNat : Int) = r1 at e1
  generalize (y.length : Int) * (c.toNat : Int) = r2 at e1
  generalize ((y.length : Int) + 1 + 1) * S x = r3 at e1
  omega
end Go.Proofs.Ytodfdklcioafmaa.Sm

/- Contracts of package sum's Of and of the document's own. -/
namespace Go.Proofs.Ytodfdklcioafmaa
set_option maxRecDepth 100000
open Go.RowKit

theorem or_halves (a b : Int) (h0 : 0 ≤ a) (h1 : a < 65536) (h2 : 0 ≤ b) (h3 : b < 65536) : bits BinOp.or IntKind.u64 (b * 65536) a % 4294967296 = b * 65536 + a := by
  have e : bits BinOp.or IntKind.u64 (b * 65536) a = b * 65536 + a := by
    refine bits_join .u64 40 (by decide) (fun n p q => IntWalk.u64_in n ⟨p, by omega⟩) 16 (b * 65536) a ?_ ?_ ?_ ?_ ?_ ?_ <;> omega
  rw [e]; omega

set_option maxHeartbeats 400000 in
theorem whole_any (a b : Int) (w : World) (h0 : 0 ≤ a) (h1 : a < 65536) (h2 : 0 ≤ b) (h3 : b < 65536) :
    Calls Try.prog 107 #[.agg #[.int .u64 a, .int .u64 b]] w fun e w' => e = .returned (.int .u32 (b * 65536 + a)) ∧ Q w w' := by
  go_enter Try.func107, Try.ntmps107
  go_wp2
  go_ret
  exact ⟨ret_int (or_halves a b h0 h1 h2 h3), (Q.refl _).alloc _⟩

theorem take_snoc (s : ByteArray) (k : Nat) (h : k < s.size) : s.data.toList.take (k + 1) = s.data.toList.take k ++ [s[k]] := by
  rw [List.take_succ_eq_append_getElem (by simpa using h)]; rfl
theorem take_all (s : ByteArray) (k : Nat) (h : s.size ≤ k) : s.data.toList.take k = s.data.toList := List.take_of_length_le (by simpa using h)

set_option maxHeartbeats 400000 in
theorem refOf_any (s : ByteArray) (w : World) (hs : s.size ≤ maxLen) :
    Calls Try.prog 90 #[.string s] w fun e w' => e = .returned (.int .u32 (Sm.adler s.data.toList)) ∧ Q w w' := by
  unfold maxLen at hs
  go_enter Try.func90, Try.ntmps90
  go_wp2
  go_loop [3, 4, 5] (fun a b i => ∃ k : Nat, k ≤ s.size ∧ i = .int .i64 k ∧ a = .int .i64 (Sm.lo (s.data.toList.take k)) ∧ b = .int .i64 (Sm.hi (s.data.toList.take k))) (fun _ _ i => s.size - (intOf i).toNat)
  case atStart => exact ⟨0, Nat.zero_le _, rfl, rfl, rfl⟩
  case round =>
    obtain ⟨k, hk, rfl, rfl, rfl⟩ := hrel
    have r1 := Sm.lo_range (s.data.toList.take k)
    have r2 := Sm.hi_range (s.data.toList.take k)
    by_cases hlt : k < s.size
    · have hts := take_snoc s k hlt
      have e1 := Sm.lo_snoc (s.data.toList.take k) s[k]
      have e2 := Sm.hi_snoc (s.data.toList.take k) s[k]
      rw [← hts] at e1 e2
      have H1 := Lib.hid e1
      have H2 := Lib.hid e2
      clear e1 e2 hts
      generalize Sm.lo (s.data.toList.take k) = A at *
      generalize Sm.hi (s.data.toList.take k) = B at *
      have hb := s[k].toNat_lt
      go_wp2
      go_round
      case rel => exact ⟨k + 1, by omega, by go_num, by rw [H1.out], by rw [H2.out]; congr 1; omega⟩
      case measure => simp [intOf]; omega
    · have hall := take_all s k (by omega)
      have hf : Sm.adler s.data.toList = Sm.hi s.data.toList * 65536 + Sm.lo s.data.toList := rfl
      rw [hall] at r1 r2 ⊢
      have Hf := Lib.hid hf
      clear hf hall
      go_wp2
      go_ret
      exact ⟨ret_int (by rw [Hf.out]; omega), Q.refl _⟩

set_option maxHeartbeats 400000 in
theorem add_any (c a b : Int) (w : World) (h0 : 0 ≤ a) (h1 : a < 65521) (h2 : 0 ≤ b) (h3 : b < 65521) (h4 : 0 ≤ c) (h5 : c < 256) :
    Calls Try.prog 106 #[.int .u8 c, .pointer (some ⟨w.heap.size, 0, none⟩)] (w.alloc (.cells #[.int .u64 a, .int .u64 b] 147)) fun e w' => e = .returned (.tuple #[]) ∧ w.alloc (.cells #[.int .u64 ((a + c) % 65521), .int .u64 ((b + (a + c)) % 65521)] 147) = w' := by
  go_enter Try.func106, Try.ntmps106
  go_wp2
  go_end0
  exact ⟨rfl, rfl⟩

set_option maxHeartbeats 400000 in
theorem of_any (s : ByteArray) (w : World) (hs : s.size ≤ maxLen) :
    Calls Try.prog 82 #[.string s] w fun e w' => e = .returned (.int .u32 (Sm.adler s.data.toList)) ∧ Q w w' := by
  unfold maxLen at hs
  go_enter Try.func82, Try.ntmps82
  go_wp2
  go_loopw [10] (fun i wr => ∃ k : Nat, k ≤ s.size ∧ i = .int .i64 k ∧ w.alloc (.cells #[.int .u64 (Sm.lo (s.data.toList.take k)), .int .u64 (Sm.hi (s.data.toList.take k))] 147) = wr) (fun i _ => s.size - (intOf i).toNat)
  case atStart => exact ⟨0, Nat.zero_le _, rfl, rfl⟩
  case round =>
    obtain ⟨k, hk, rfl, rfl⟩ := hrel
    have r1 := Sm.lo_range (s.data.toList.take k)
    have r2 := Sm.hi_range (s.data.toList.take k)
    by_cases hlt : k < s.size
    · have hts := take_snoc s k hlt
      have e1 := Sm.lo_snoc (s.data.toList.take k) s[k]
      have e2 := Sm.hi_snoc (s.data.toList.take k) s[k]
      rw [← hts] at e1 e2
      have H1 := Lib.hid e1
      have H2 := Lib.hid e2
      clear e1 e2 hts
      generalize Sm.lo (s.data.toList.take k) = A at *
      generalize Sm.hi (s.data.toList.take k) = B at *
      have hb := s[k].toNat_lt
      go_wp2_with (go_at_call 106; refine (add_any _ _ _ _ (by omega) (by omega) (by omega) (by omega) (by omega) (by omega)).mono ?_; rintro e w' ⟨rfl, rfl⟩)
      go_roundw
      case rel => exact ⟨k + 1, by omega, by go_num, by rw [H1.out, H2.out]⟩
      case measure => simp [intOf]; omega
    · have hall := take_all s k (by omega)
      rw [hall] at r1 r2 ⊢
      clear hall
      have hf : Sm.adler s.data.toList = Sm.hi s.data.toList * 65536 + Sm.lo s.data.toList := rfl
      have Hf := Lib.hid hf
      clear hf
      go_wp2_with (go_at_call 107; refine (whole_any _ _ _ (by omega) (by omega) (by omega) (by omega)).mono ?_; rintro e w' ⟨rfl, hq⟩)
      go_ret
      exact ⟨ret_int (by rw [Hf.out]), ((Q.refl _).alloc _).trans hq⟩
end Go.Proofs.Ytodfdklcioafmaa
