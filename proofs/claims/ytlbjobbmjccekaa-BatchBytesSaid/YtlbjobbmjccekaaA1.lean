/- Base, Frame, Mem, Flat, OwnRows, Kind, KindIn, PairMath, Pair, KindRow, App, PairIns: merged. -/
import Derived.Test.YtlbjobbmjccekaaRows
import Derived.WalkKit
import Derived.WalkSpells
import Derived.WalkLawsBesides
import Derived.ProofKit
import Derived.OpenShut
import Derived.ShutString
import Derived.Lib.Hide
import Derived.Deep.QuietTactic
import Derived.BigQuiet
import Derived.SizedLaws
import Derived.Carry
import Derived.Deep.Slices
import Derived.ChangeMaps5
import Derived.Laws.IdiomStrings
import Derived.Laws.OwnMore
import Derived.Laws.Rows
import Derived.Deep.MidRow
import Derived.Deep.AppendLies
import Derived.Deep.Fields
import Derived.OwnWalk
import Derived.Laws.IdiomCopy
import Derived.Deep.Upon
import Derived.Lib.LazyBuf
import Derived.Maps.AppendAt
import Derived.Laws.AppendOwnNone
import Derived.Lib.AppendZerosOnto
import Derived.Deep.RegionLaw
import Derived.Lib.Overlaps
import Derived.Laws.Externs
/- The words that all contracts share: 'Q w w'': behind the call all that was there is as it was. -/
namespace Go.Proofs.Ytlbjobbmjccekaa
set_option maxRecDepth 100000
open Go.RowKit

def Q (w w' : World) : Prop := Below w.heap.size w w'
theorem Q.below {w w' : World} (h : Q w w') : Below w.heap.size w w' := h
theorem Q.refl (w : World) : Q w w := Below.refl _ _
theorem Q.trans {a b c : World} (h : Q a b) (k : Q b c) : Q a c := Below.trans h (Below.mono k h.below.size)
theorem Q.drew {a w : World} (h : Q a w) : Q a w.drew := Below.drew h
theorem Q.drewN {a w : World} (h : Q a w) (n : Nat) : Q a (w.drewN n) := ⟨h.below.os, h.below.tape, h.below.output, h.below.size, h.below.block⟩
theorem Q.alloc {a w : World} (h : Q a w) (o : Obj) : Q a (w.alloc o) := Below.alloc h h.below.size o
theorem Q.setCell {a w : World} (h : Q a w) {p : Addr} (hp : a.heap.size ≤ p.block) (u : Value) : Q a (w.setCell p u) := Below.setCell h hp u
theorem Q.set3 {a w : World} (h : Q a w) {b : Nat} (hb : a.heap.size ≤ b) (x y z : Value) : Q a (((w.setCell ⟨b, 0, none⟩ x).setCell ⟨b, 1, none⟩ y).setCell ⟨b, 2, none⟩ z) :=
  ((h.setCell (p := ⟨b, 0, none⟩) hb x).setCell (p := ⟨b, 1, none⟩) hb y).setCell (p := ⟨b, 2, none⟩) hb z
theorem Q.set4 {a w : World} (h : Q a w) {b : Nat} (hb : a.heap.size ≤ b) (x y z u : Value) : Q a ((((w.setCell ⟨b, 0, none⟩ x).setCell ⟨b, 1, none⟩ y).setCell ⟨b, 2, none⟩ z).setCell ⟨b, 3, none⟩ u) :=
  (h.set3 hb x y z).setCell (p := ⟨b, 3, none⟩) hb u
theorem Q.size {w w' : World} (h : Q w w') : w.heap.size ≤ w'.heap.size := h.below.size

theorem ret_int {k : IntKind} {a b : Int} (h : a = b) : Ending.returned (.int k a) = .returned (.int k b) := by rw [h]
theorem ret_bool {a b : Bool} (h : a = b) : Ending.returned (.bool a) = .returned (.bool b) := by rw [h]
end Go.Proofs.Ytlbjobbmjccekaa

/- The frame of every law: what an argument reads as (with its sizes), opened by its type; a walk under that reading gives the given statement. -/
namespace Go.Proofs.Ytlbjobbmjccekaa
set_option maxRecDepth 100000
open Go.ChangeShapes Go.WideShapes Go.ChangeAt Go.RowKit
set_option linter.unusedVariables false

/-- the cells cs read as something of type t, and no part of it is beyond the reach. -/
def Rd (w : World) (t : TypeId) (cs : List Value) : Prop :=
  ∃ (H : Type) (enc : TypeId × Value → H) (n : Nat) (d : DataW H) (ps : List MemPlace), DataW.trod enc Try.prog w 0 (fun _ => true) true n t cs = some (d, ps) ∧ ∀ x ∈ d.weights Try.prog t, x ≤ 140737488351232

theorem Rd.int {w : World} {t : TypeId} {cs : List Value} {k : IntKind} (h : Rd w t cs) (ht : Try.prog.underlying t = some (.int k)) : ∃ n, cs = [.int k n] ∧ (Lit.int k n).wf = true := by
  obtain ⟨H, enc, n, d, ps, ht', hw⟩ := h
  obtain ⟨m, rfl, _, hm⟩ := DataW.trod_int ht ht'
  exact ⟨m, rfl, hm⟩
theorem Rd.bool {w : World} {t : TypeId} {cs : List Value} (h : Rd w t cs) (ht : Try.prog.underlying t = some .bool) : ∃ b, cs = [.bool b] := by
  obtain ⟨H, enc, n, d, ps, ht', hw⟩ := h
  obtain ⟨m, rfl, _⟩ := DataW.trod_bool ht ht'
  exact ⟨m, rfl⟩
theorem Rd.string {w : World} {t : TypeId} {cs : List Value} (h : Rd w t cs) (ht : Try.prog.underlying t = some .string) : ∃ s : ByteArray, cs = [.string s] ∧ s.size ≤ 140737488351232 := by
  obtain ⟨H, enc, n, d, ps, ht', hw⟩ := h
  obtain ⟨s, rfl, hx, hm⟩ := DataW.trod_string ht ht'
  injection hx with h1 h2
  subst h1
  have := hw s.data.toList.length (by simp [DataW.weights])
  exact ⟨s, rfl, by simpa using this⟩
theorem Rd.struct {w : World} {t : TypeId} {cs : List Value} {fs : Array Field} (h : Rd w t cs) (ht : Try.prog.underlying t = some (.struct fs)) :
    cs.length = Try.prog.cellsOf t ∧ ∀ (i : Nat) (f : Field), fs[i]? = some f → Rd w f.type ((cs.drop f.offset).take (Try.prog.cellsOf f.type)) := by
  obtain ⟨H, enc, n, d, ps, ht', hw⟩ := h
  obtain ⟨xs, m, rfl, hx, hl, hlen, hg⟩ := DataW.trod_struct ht ht'
  injection hx with h1 h2
  subst h1
  refine ⟨hl, fun i f hi => ?_⟩
  have hil : i < fs.size := (Array.getElem?_eq_some_iff.1 hi).1
  have hxi : xs[i]? = some xs[i] := List.getElem?_eq_getElem (by omega)
  refine ⟨H, enc, m, xs[i].1, xs[i].2, (hg i f hi).trans hxi, fun x hx => hw x ?_⟩
  simp only [DataW.weights, ht]
  exact DataW.weights_mem_each (j := i) (t := f.type) (d := xs[i].1) (by simp [hi]) (by simp [hxi]) x hx
theorem Rd.field {w : World} {t : TypeId} {cs : List Value} {fs : Array Field} (h : Rd w t cs) (ht : Try.prog.underlying t = some (.struct fs)) (i : Nat) {ty : TypeId} (off k : Nat) (hi : (fs[i]?).map (fun f => (f.type, f.offset)) = some (ty, off)) (hk : Try.prog.cellsOf ty = k) :
    Rd w ty ((cs.drop off).take k) := by
  obtain ⟨f, hf, he⟩ := Option.map_eq_some_iff.1 hi
  injection he with e1 e2
  subst e1 e2 hk
  exact (h.struct ht).2 i f hf
theorem weightsAll_mem {H : Type} {P : Program} {e : TypeId} {d : DataW H} : ∀ {l : List (DataW H)}, d ∈ l → ∀ x ∈ d.weights P e, x ∈ DataW.weightsAll P e l
  | d0 :: l, hd, x, hx => by
    simp only [DataW.weightsAll, List.mem_append]
    rcases List.mem_cons.1 hd with rfl | hd
    · exact .inl hx
    · exact .inr (weightsAll_mem hd x hx)
theorem Rd.slice {w : World} {t e : TypeId} {cs : List Value} (h : Rd w t cs) (ht : Try.prog.underlying t = some (.slice e)) :
    cs = [.slice none 0 0] ∨ ∃ (a : Addr) (len cap : Nat), cs = [.slice (some a) len cap] ∧ len ≤ cap ∧ cap ≤ maxLen ∧ cap * Try.prog.bytesOf e ≤ 140737488351232 ∧
      ∀ i, i < cap → ∃ cs', w.cells? 0 (a.add (i * Try.prog.cellsOf e)) (Try.prog.cellsOf e) = some cs' ∧ Rd w e cs' := by
  obtain ⟨H, enc, n, d, ps, ht', hw⟩ := h
  rcases Deep.open_slice ht ht' with ⟨h0, _⟩ | ⟨a, len, cap, m, n', D, Pl, hcs, hb, hl, hm, hmm, hx, hi⟩
  · exact .inl h0
  · right
    simp only [if_true] at hmm
    subst hmm
    injection hx with h1 h2
    subst h1
    simp only [DataW.weights, ht] at hw
    refine ⟨a, len, m, hcs, hl, hm, ?_, fun i hi' => ?_⟩
    · have := hw _ (List.mem_cons_self ..)
      simp only [List.length_map, List.length_range] at this
      rwa [show len + (m - len) = m by omega] at this
    · obtain ⟨cs', hc, htr⟩ := hi i hi'
      refine ⟨cs', hc, H, enc, n', D i, Pl i, htr, fun x hx => hw x (List.mem_cons_of_mem _ (List.mem_append.2 ?_))⟩
      by_cases hlt : i < len
      · exact .inl (weightsAll_mem (List.mem_map.2 ⟨i, by simpa using hlt, rfl⟩) x hx)
      · exact .inr (weightsAll_mem (List.mem_map.2 ⟨i - len, by simp; omega, by rw [show len + (i - len) = i by omega]⟩) x hx)

/-- the value v, an argument, reads so. -/
def RdV (w : World) (t : TypeId) (v : Value) : Prop := (∃ base, Value.okWide Try.prog w .any base t v) ∧ Rd w t v.cells.toList
theorem RdV.int {w : World} {t : TypeId} {v : Value} {k : IntKind} (h : RdV w t v) (ht : Try.prog.underlying t = some (.int k)) : ∃ n, v = .int k n ∧ (Lit.int k n).wf = true := by
  obtain ⟨⟨b, ho⟩, hr⟩ := h
  obtain ⟨n, rfl⟩ := okWide_int ht ho
  obtain ⟨m, e, hm⟩ := hr.int ht
  simp [Value.cells] at e
  subst e
  exact ⟨n, rfl, hm⟩
theorem RdV.bool {w : World} {t : TypeId} {v : Value} (h : RdV w t v) (ht : Try.prog.underlying t = some .bool) : ∃ b, v = .bool b := by
  obtain ⟨⟨b, ho⟩, hr⟩ := h
  obtain ⟨n, rfl⟩ := okWide_bool ht ho
  exact ⟨n, rfl⟩
theorem RdV.string {w : World} {t : TypeId} {v : Value} (h : RdV w t v) (ht : Try.prog.underlying t = some .string) : ∃ s : ByteArray, v = .string s ∧ s.size ≤ 140737488351232 := by
  obtain ⟨⟨b, ho⟩, hr⟩ := h
  obtain ⟨n, rfl⟩ := okWide_string ht ho
  obtain ⟨m, e, hm⟩ := hr.string ht
  simp [Value.cells] at e
  subst e
  exact ⟨n, rfl, hm⟩
theorem RdV.struct {w : World} {t : TypeId} {v : Value} {fs : Array Field} (h : RdV w t v) (ht : Try.prog.underlying t = some (.struct fs)) : ∃ cs : List Value, v = .agg cs.toArray ∧ Rd w t cs := by
  obtain ⟨⟨b, ho⟩, hr⟩ := h
  obtain ⟨cs, rfl, _⟩ := okWide_struct ht ho
  exact ⟨cs.toList, rfl, hr⟩
theorem RdV.slice {w : World} {t e : TypeId} {v : Value} (h : RdV w t v) (ht : Try.prog.underlying t = some (.slice e)) : ∃ A n c, v = .slice A n c ∧ Rd w t [.slice A n c] := by
  obtain ⟨⟨b, ho⟩, hr⟩ := h
  obtain ⟨A, n, c, rfl⟩ := okWide_slice ht ho
  exact ⟨A, n, c, rfl, hr⟩

theorem args1 {a : Array Value} (h : a.size = 1) : ∃ x, a = #[x] := by
  obtain ⟨l⟩ := a
  match l, h with
  | [x], _ => exact ⟨x, rfl⟩
theorem args2 {a : Array Value} (h : a.size = 2) : ∃ x y, a = #[x, y] := by
  obtain ⟨l⟩ := a
  match l, h with
  | [x, y], _ => exact ⟨x, y, rfl⟩
theorem args3 {a : Array Value} (h : a.size = 3) : ∃ x y z, a = #[x, y, z] := by
  obtain ⟨l⟩ := a
  match l, h with
  | [x, y, z], _ => exact ⟨x, y, z, rfl⟩
theorem args4 {a : Array Value} (h : a.size = 4) : ∃ x y z u, a = #[x, y, z, u] := by
  obtain ⟨l⟩ := a
  match l, h with
  | [x, y, z, u], _ => exact ⟨x, y, z, u, rfl⟩
theorem laidOut_ : laidOutB Try.prog = true := by kernel_rfl
theorem ownKnob_ : ownKnob Try.prog.godebug = none := by kernel_rfl

theorem trodAll_keep {H : Type} {enc : TypeId × Value → H} {W W' : World} (hb : Q W W') : ∀ (ts : List TypeId) (vs : List Value) (ds : List (DataW H)) (ps : List MemPlace), (∀ t ∈ ts, Try.prog.readableRec t = true ∧ t < Try.prog.types.size) →
    DataW.TrodAll enc Try.prog W 0 (fun _ => true) true ts vs ds ps → (∀ x ∈ ps, x.block < W.heap.size) → DataW.TrodAll enc Try.prog W' 0 (fun b => decide (b < W.heap.size)) true ts vs ds ps
  | [], vs, ds, ps, _, h, _ => by
    obtain ⟨rfl, rfl, rfl⟩ := trodAll_nil h
    exact trodAll_mk0
  | t :: ts, vs, ds, ps, ht, h, hlt => by
    obtain ⟨v, vs', d, ds', p, q, rfl, rfl, rfl, h1, h2⟩ := trodAll_cons h
    exact ⟨p, q, Below.trod laidOut_ (ht t (by simp)).1 (ht t (by simp)).2 h1 hb.below (fun x hx => hlt x (by simp [hx])), trodAll_keep hb ts vs' ds' q (fun u hu => ht u (by simp [hu])) h2 (fun x hx => hlt x (by simp [hx])), rfl⟩

theorem trodAll_len {H : Type} {enc : TypeId × Value → H} {W : World} : ∀ (ts : List TypeId) (vs : List Value) (ds : List (DataW H)) (ps : List MemPlace), DataW.TrodAll enc Try.prog W 0 (fun _ => true) true ts vs ds ps → vs.length = ts.length ∧ ds.length = ts.length ∧
    ∀ (j : Nat) t v, ts[j]? = some t → vs[j]? = some v → ∃ d p, ds[j]? = some d ∧ DataW.Trod enc Try.prog W 0 (fun _ => true) true t v d p
  | [], vs, ds, ps, h => by
    obtain ⟨rfl, rfl, rfl⟩ := trodAll_nil h
    exact ⟨rfl, rfl, fun j t v hj => by simp at hj⟩
  | t :: ts, vs, ds, ps, h => by
    obtain ⟨v, vs', d, ds', p, q, rfl, rfl, rfl, h1, h2⟩ := trodAll_cons h
    obtain ⟨e1, e2, h3⟩ := trodAll_len ts vs' ds' q h2
    refine ⟨by simp [e1], by simp [e2], fun j t' v' hj hv => ?_⟩
    cases j with
    | zero =>
      simp only [List.getElem?_cons_zero, Option.some.injEq] at hj hv
      subst hj hv
      exact ⟨d, p, rfl, h1⟩
    | succ j => exact h3 j t' v' (by simpa using hj) (by simpa using hv)

/-- A walk of a law, whatever its arguments read as, gives what its row asks. -/
theorem framed {f : FuncId} {fn : Func} {s : ChangeSpec} {conds : List PathCond} (n : Nat) (hfn : Try.prog.funcs[f]? = some fn) (hn : fn.params.size = n) (hvars : s.vars = []) (hrt : fn.resultTypes = #[4])
    (noInit : Try.prog.inits.idxOf? f = none) (hread0 : fn.params.toList.all (fun t => Try.prog.readableRec t && decide (t < Try.prog.types.size)) = true)
    (hs : ∀ (H : Type) (ds : List (DataW H)), ds.length = n → (s.fn H ds).results = [.lit (.bool true)] ∧ (s.fn H ds).args = ds ∧ (s.fn H ds).vars = [])
    (walk : ∀ (W : World) (args : Array Value), args.size = n → (∀ (j : Nat) t v, fn.params[j]? = some t → args[j]? = some v → RdV W t v) → Calls Try.prog f args W fun e W' => e = .returned (.bool true) ∧ Q W W')
    (os : Os) (started : os.Started) (H : Type) (enc : TypeId × Value → H)
    (witness : ∃ (w : World) (tape : Tape) (i : Input), w.os = os ∧ (w.forCall tape i).Shaped Try.prog ∧ i.vars = [] ∧ Input.okWide Try.prog (w.forCall tape i) .any w.heap.size f i ∧
      s.pre6 enc Try.prog fn conds false (w.forCall tape i).memory i.args ∧ ({} : Assume).holds Try.prog (lone (Frame.enter Try.prog f i.args .normal) [] (w.forCall tape i))) :
    ReturnsInHanded {} Try.checked os f .any (s.pre6 enc Try.prog fn conds false) (s.post enc Try.prog fn false true false false) := by
  have hread : ∀ t ∈ fn.params.toList, Try.prog.readableRec t = true ∧ t < Try.prog.types.size := fun t ht => by
    have := List.all_eq_true.1 hread0 t ht
    simpa using this
  refine returnsInHanded_of_change_sized (C := Try.checked) ownKnob_ started noInit hfn witness ?_
  intro W base args ds gs before hval hW hcnd hsz _
  have hW' := hW
  have hlt : ∀ x ∈ before, x.block < W.heap.size := fun x hx => by simpa using hW.lt x hx
  obtain ⟨p, q, hA, hV, rfl, hfz, hnd⟩ := hW
  rw [hvars] at hV
  obtain ⟨rfl, rfl⟩ := trodVars_none hV
  obtain ⟨e1, e2, h3⟩ := trodAll_len _ _ _ _ hA
  have hps : fn.params.toList.length = n := by simpa using hn
  have hds : ds.length = n := by omega
  have hsz2 : ∀ x ∈ DataW.weightsEach Try.prog (fn.params.toList ++ s.plain.varTypes Try.prog) (ds ++ []), x ≤ 140737488351232 := fun x hx => by
    have := List.all_eq_true.1 hsz x hx
    simpa [reachBytes] using of_decide_eq_true this
  refine (walk W args (by rw [← hps, ← e1]; simp) fun j t v hj hv => ⟨⟨base, hval j t v hj hv⟩, ?_⟩).mono fun e W' ⟨he, hg⟩ => ?_
  · obtain ⟨d, p', hd, fuel, htr⟩ := h3 j t v (by simpa using hj) (by simpa using hv)
    have hjl : j < n := by
      have := (Array.getElem?_eq_some_iff.1 hj).1; omega
    refine ⟨H, enc, fuel, d, p', htr, fun x hx => hsz2 x (DataW.weights_mem_each (j := j) (t := t) (d := d) ?_ (by simpa using hd) x hx)⟩
    rw [List.getElem?_append_left (by omega)]
    simpa using hj
  · subst he
    simp only [List.append_nil] at hW' hlt
    obtain ⟨a1, a2, a3⟩ := hs H ds hds
    refine ⟨_, rfl, ds, [], p, [], p, [], hW', ?_, ?_, ?_, hg.below.frame _, fun h => by cases h⟩
    · rw [List.append_nil, a1, hrt]
      exact trodAll_mk1 (shut_bool Try.underlying4 _)
    · rw [List.append_nil, a2]
      exact trodAll_keep hg _ _ _ _ hread hA hlt
    · rw [List.append_nil, a3, hvars]
      rfl
end Go.Proofs.Ytlbjobbmjccekaa

/- Memory: addresses, what a slice holds, cells that are as they were; strings that are the same. -/
namespace Go.Proofs.Ytlbjobbmjccekaa
set_option maxRecDepth 100000
open Go.RowKit
set_option linter.unusedVariables false

theorem addr_add (a : Addr) (i j : Nat) : (a.add i).add j = a.add (i + j) := by
  unfold Addr.add
  by_cases hi : i = 0 <;> by_cases hj : j = 0 <;> simp [hi, hj, Nat.add_assoc]
theorem addr_block (a : Addr) (i : Nat) : (a.add i).block = a.block := by
  unfold Addr.add; split <;> rfl

/-- The slice '.slice A n c' holds the cells xs (k of them each element), below block B. -/
def Holds (w : World) (B k : Nat) (A : Option Addr) (n : Nat) (xs : List Value) : Prop :=
  xs.length = n * k ∧ ∀ j u, xs[j]? = some u → ∃ ad, A = some ad ∧ ad.block < B ∧ w.cell? (ad.add j) = some u

theorem Holds.carry {w w' : World} {B B' k : Nat} {A : Option Addr} {n : Nat} {xs : List Value} (h : Holds w B k A n xs) (hB : B ≤ B') (hc : ∀ p : Addr, p.block < B → w'.cell? p = w.cell? p) : Holds w' B' k A n xs :=
  ⟨h.1, fun j u hu => by
    obtain ⟨ad, e, hb, hx⟩ := h.2 j u hu
    exact ⟨ad, e, by omega, (hc _ (by rw [addr_block]; exact hb)).trans hx⟩⟩
theorem Holds.q {w w' : World} {k : Nat} {A : Option Addr} {n : Nat} {xs : List Value} (h : Holds w w.heap.size k A n xs) (hq : Q w w') : Holds w' w'.heap.size k A n xs :=
  h.carry hq.size fun _ hp => hq.below.cell hp
theorem Holds.none_ (w : World) (B k : Nat) (A : Option Addr) : Holds w B k A 0 [] := ⟨by simp, fun j u h => by simp at h⟩

theorem bcell {W w1 : World} (hb : Below W.heap.size W w1) : (∀ b o, b < W.heap.size → w1.cell? ⟨b, o, none⟩ = W.cell? ⟨b, o, none⟩) ∧ (∀ b o, b < W.heap.size → w1.frozen? ⟨b, o, none⟩ = W.frozen? ⟨b, o, none⟩) :=
  ⟨fun b o h => hb.cell (p := ⟨b, o, none⟩) h, fun b o h => hb.frozen (p := ⟨b, o, none⟩) h⟩

theorem same_str (a b : ByteArray) : (a.toList == b.toList) = decide (a = b) := by
  by_cases h : a = b
  · subst h; simp
  · have : ¬ a.toList = b.toList := fun e => h (by
      have e1 : a.data.toList = b.data.toList := by simpa [ByteArray.toList_eq] using e
      exact ByteArray.ext (Array.ext' e1))
    simp [h, this]

theorem str_inj (a b : ByteArray) : (a.toList = b.toList) = (a = b) := by
  refine propext ⟨fun h => ?_, fun h => by rw [h]⟩
  have e := same_str a b
  rw [h] at e
  simpa using e

theorem box_ {W w1 : World} (q : Q W w1) {p : Addr} {v : Value} (h : W.cell? p = some v) : w1.cell? p = some v := (q.below.cell (block_lt_of_cell h)).trans h
theorem box4 {W w1 : World} (q : Q W w1) {b : Nat} {x y z u : Value} (h0 : W.cell? ⟨b, 0, none⟩ = some x) (h1 : W.cell? ⟨b, 1, none⟩ = some y) (h2 : W.cell? ⟨b, 2, none⟩ = some z) (h3 : W.cell? ⟨b, 3, none⟩ = some u) :
    w1.cell? ⟨b, 0, none⟩ = some x ∧ w1.cell? ⟨b, 1, none⟩ = some y ∧ w1.cell? ⟨b, 2, none⟩ = some z ∧ w1.cell? ⟨b, 3, none⟩ = some u := ⟨box_ q h0, box_ q h1, box_ q h2, box_ q h3⟩
theorem box3 {W w1 : World} (q : Q W w1) {b : Nat} {x y z : Value} (h0 : W.cell? ⟨b, 0, none⟩ = some x) (h1 : W.cell? ⟨b, 1, none⟩ = some y) (h2 : W.cell? ⟨b, 2, none⟩ = some z) :
    w1.cell? ⟨b, 0, none⟩ = some x ∧ w1.cell? ⟨b, 1, none⟩ = some y ∧ w1.cell? ⟨b, 2, none⟩ = some z := ⟨box_ q h0, box_ q h1, box_ q h2⟩

end Go.Proofs.Ytlbjobbmjccekaa

/- Lists whose elements lie flat in memory, out of what is known of each element. -/
namespace Go.Proofs.Ytlbjobbmjccekaa
set_option maxRecDepth 100000
open Go.ChangeShapes Go.WideShapes Go.RowKit
set_option linter.unusedVariables false

theorem choose_list {α : Type} {R : Nat → α → Prop} : ∀ (n : Nat), (∀ i, i < n → ∃ a, R i a) → ∃ l : List α, l.length = n ∧ ∀ i (hi : i < l.length), R i l[i]
  | 0, _ => ⟨[], rfl, fun i hi => by simp at hi⟩
  | n + 1, h => by
    obtain ⟨l, hl, hr⟩ := choose_list n (fun i hi => h i (by omega))
    obtain ⟨a, ha⟩ := h n (by omega)
    refine ⟨l ++ [a], by simp [hl], fun i hi => ?_⟩
    by_cases hlt : i < l.length
    · rw [List.getElem_append_left hlt]; exact hr i hlt
    · have e : i = l.length := by simp at hi; omega
      subst e
      rw [List.getElem_append_right (Nat.le_refl _)]
      simpa [hl] using ha

theorem flat_at {α : Type} (g : α → List Value) (k : Nat) (hg : ∀ a, (g a).length = k) : ∀ (l : List α) (j : Nat) (u : Value), (l.flatMap g)[j]? = some u → ∃ i r, ∃ hi : i < l.length, j = i * k + r ∧ r < k ∧ (g l[i])[r]? = some u
  | [], j, u, h => by simp at h
  | a :: l, j, u, h => by
    rw [List.flatMap_cons] at h
    by_cases hj : j < k
    · rw [List.getElem?_append_left (by rw [hg]; exact hj)] at h
      exact ⟨0, j, by simp, by omega, hj, by simpa using h⟩
    · rw [List.getElem?_append_right (by rw [hg]; omega), hg] at h
      obtain ⟨i, r, hi, he, hr, hu⟩ := flat_at g k hg l (j - k) u h
      refine ⟨i + 1, r, by simpa using hi, ?_, hr, by simpa using hu⟩
      rw [Nat.succ_mul]; omega
theorem flat_len {α : Type} (g : α → List Value) (k : Nat) (hg : ∀ a, (g a).length = k) : ∀ (l : List α), (l.flatMap g).length = l.length * k
  | [] => by simp
  | a :: l => by rw [List.flatMap_cons, List.length_append, hg, flat_len g k hg l, List.length_cons, Nat.succ_mul]; omega
theorem holds_flat {α : Type} (g : α → List Value) (k : Nat) (hg : ∀ a, (g a).length = k) (w : World) (ad : Addr) (l : List α) (h : ∀ i (hi : i < l.length), w.cells? 0 (ad.add (i * k)) k = some (g l[i])) :
    Holds w w.heap.size k (some ad) l.length (l.flatMap g) := by
  refine ⟨flat_len g k hg l, fun j u hu => ?_⟩
  obtain ⟨i, r, hi, rfl, hr, hv⟩ := flat_at g k hg l j u hu
  obtain ⟨_, _, hat⟩ := World.cells?_some (h i hi)
  have hc := hat r hr
  rw [hv, addr_add] at hc
  refine ⟨ad, rfl, ?_, hc⟩
  have := block_lt_of_cell hc
  rwa [addr_block] at this

theorem wf_i64 {x : Int} (h : (Lit.int .i64 x).wf = true) : -9223372036854775808 ≤ x ∧ x ≤ 9223372036854775807 := by
  simp only [Lit.wf, Bool.and_eq_true, decide_eq_true_eq] at h
  have e1 : IntKind.i64.min = -9223372036854775808 := by decide
  have e2 : IntKind.i64.max = 9223372036854775807 := by decide
  omega
end Go.Proofs.Ytlbjobbmjccekaa

/- Rows of the call's own, whatever their elements: many cells written at once, a row cut short. -/
namespace Go.Proofs.Ytlbjobbmjccekaa
set_option maxRecDepth 100000
open Go.RowKit
set_option linter.unusedVariables false

theorem owns_setCells {e : TypeId} {sz base g n c : Nat} : ∀ (vs : List Value) (o : Nat) (w : World) (xs : List Value), w.ownsRow base e sz (.slice (some ⟨g, 0, none⟩) n c) n xs → o + vs.length ≤ xs.length →
    (w.setCells g o vs).ownsRow base e sz (.slice (some ⟨g, 0, none⟩) n c) n (xs.take o ++ vs ++ xs.drop (o + vs.length))
  | [], o, w, xs, h, hl => by simpa [World.setCells] using h
  | v :: r, o, w, xs, h, hl => by
    simp only [List.length_cons] at hl
    have h1 := (World.ownsRow.stored h o v).1
    have h2 := owns_setCells r (o + 1) (w.setCell ⟨g, o, none⟩ v) (xs.set o v) h1 (by simp; omega)
    have e : (xs.set o v).take (o + 1) ++ r ++ (xs.set o v).drop (o + 1 + r.length) = xs.take o ++ (v :: r) ++ xs.drop (o + (v :: r).length) := by
      have ho : o < xs.length := by omega
      rw [List.take_succ_eq_append_getElem (by simpa using ho), List.take_set_of_le (Nat.le_refl _), List.getElem_set_self, List.drop_set_of_lt (by omega), List.length_cons]
      simp [Nat.add_assoc, Nat.add_comm 1]
    rw [e] at h2
    exact h2
theorem owns_short {e : TypeId} {sz base g n c m : Nat} {w : World} {xs : List Value} (h : w.ownsRow base e sz (.slice (some ⟨g, 0, none⟩) n c) n xs) (hm : m ≤ n) :
    w.ownsRow base e sz (.slice (some ⟨g, 0, none⟩) m c) m (xs.take (m * sz)) := by
  have hmn : m * sz ≤ n * sz := Nat.mul_le_mul_right _ hm
  rcases h.2 with ⟨e0, h0⟩ | ⟨g', cap, cur, e0, hg, hh, hc, hmx, hs, ht⟩
  · cases e0
  · injection e0 with e1 e2 e3
    refine ⟨by rw [List.length_take, h.1]; omega, .inr ⟨g', cap, cur, by rw [e1, e3], hg, hh, by omega, hmx, hs, ?_⟩⟩
    rw [← ht, List.take_take, Nat.min_eq_left hmn]

/-- nothing that was there has turned but block g. -/
theorem only_refl (a : World) (g : Nat) : a.grownBy a (some g) := ⟨rfl, rfl, rfl, Nat.le_refl _, fun _ _ _ => rfl⟩
theorem only_drew {a w : World} {g : Nat} (h : a.grownBy w (some g)) : a.grownBy w.drew (some g) := ⟨h.os, h.tape, h.output, h.size, h.block⟩
theorem only_set {a w : World} {g : Nat} (h : a.grownBy w (some g)) (o : Nat) (u : Value) : a.grownBy (w.setCell ⟨g, o, none⟩ u) (some g) :=
  ⟨h.os, h.tape, h.output, by simpa [World.setCell] using h.size, fun i hi hne => (Below.heap_setCell w ⟨g, o, none⟩ u i (by rintro rfl; exact hne rfl)).trans (h.block i hi hne)⟩
theorem only_sets {a : World} {g : Nat} : ∀ (vs : List Value) (o : Nat) (w : World), a.grownBy w (some g) → a.grownBy (w.setCells g o vs) (some g)
  | [], o, w, h => h
  | v :: r, o, w, h => only_sets r (o + 1) _ (only_set h o v)
theorem only_q {a b : World} {g : Nat} (h : Q a b) : a.grownBy b (some g) := ⟨h.below.os, h.below.tape, h.below.output, h.below.size, fun i hi _ => h.below.block i hi⟩
theorem only_new {a w : World} {g : Nat} (h : a.grownBy w (some g)) {p : Addr} (hp : a.heap.size ≤ p.block) (u : Value) : a.grownBy (w.setCell p u) (some g) :=
  ⟨h.os, h.tape, h.output, by simpa [World.setCell] using h.size, fun i hi hne => (Below.heap_setCell w p u i (by omega)).trans (h.block i hi hne)⟩
theorem only_below {a w : World} {g B : Nat} (h : a.grownBy w (some g)) (hb : B ≤ g) (hB : B ≤ a.heap.size) : Below B a w :=
  ⟨h.os, h.tape, h.output, h.size, fun i hi => h.block i (by omega) (by intro e; injection e; omega)⟩
theorem only_cell {a w : World} {g : Nat} (h : a.grownBy w (some g)) {p : Addr} (hp : p.block < a.heap.size) (hne : p.block ≠ g) : w.cell? p = a.cell? p := World.cell?_of_block (h.block p.block hp (fun e => hne (by injection e)))
end Go.Proofs.Ytlbjobbmjccekaa

/- Kinds of elements that lie flat in memory: lists of them as they come in ('Lst', 'In_'), lists of the call's own ('OwnK'), append to these. -/
namespace Go.Proofs.Ytlbjobbmjccekaa
set_option maxRecDepth 100000
open Go.RowKit
set_option linter.unusedVariables false

structure Kind (α : Type) where
  T : TypeId
  S : TypeId
  k : Nat
  bs : Nat
  z : Value
  row : α → List Value
  pos : 0 < k
  bpos : 0 < bs
  len : ∀ a, (row a).length = k
  one : ∀ a, ∀ u ∈ row a, u.oneCell' = true
  und : Try.prog.underlying S = some (.slice T)
  info : (Try.prog.info? T).map (fun i => (i.zero, i.size, i.bytes)) = some (some z, k, bs)
  zc : z.cells.size = k

variable {α : Type}

def Kind.rows (K : Kind α) : List α → List Value
  | [] => []
  | a :: l => K.row a ++ K.rows l

theorem Kind.rows_len (K : Kind α) (l : List α) : (K.rows l).length = l.length * K.k := by
  induction l with
  | nil => simp [Kind.rows]
  | cons a l ih => simp only [Kind.rows, List.length_append, ih, List.length_cons, K.len, Nat.add_mul]; omega
theorem Kind.rows_app (K : Kind α) (l m : List α) : K.rows (l ++ m) = K.rows l ++ K.rows m := by
  induction l with
  | nil => rfl
  | cons a l ih => simp [Kind.rows, ih]
theorem Kind.rows_at (K : Kind α) (l : List α) (k : Nat) (h : k < l.length) (j : Nat) (hj : j < K.k) : (K.rows l)[k * K.k + j]? = (K.row l[k])[j]? := by
  induction l generalizing k with
  | nil => simp at h
  | cons a l ih =>
    cases k with
    | zero =>
      simp only [Kind.rows, Nat.zero_mul, Nat.zero_add, List.getElem_cons_zero]
      exact List.getElem?_append_left (by rw [K.len]; exact hj)
    | succ k =>
      simp only [Kind.rows, List.getElem_cons_succ]
      rw [List.getElem?_append_right (by rw [K.len, Nat.add_mul]; omega), ← ih k (by simpa using h)]
      congr 1
      rw [K.len, Nat.add_mul]; omega
theorem Kind.rows_one (K : Kind α) (l : List α) : ∀ u ∈ K.rows l, u.oneCell' = true := by
  induction l with
  | nil => simp [Kind.rows]
  | cons a l ih =>
    intro u hu
    rcases List.mem_append.1 hu with h | h
    · exact K.one a u h
    · exact ih u h
theorem Kind.rows_drop (K : Kind α) (l : List α) : ∀ (m : Nat), K.rows (l.drop m) = (K.rows l).drop (m * K.k) := by
  induction l with
  | nil => intro m; simp [Kind.rows]
  | cons f l ih =>
    intro m
    cases m with
    | zero => simp
    | succ m =>
      rw [List.drop_succ_cons, ih m, Kind.rows, show (m + 1) * K.k = (K.row f).length + m * K.k by rw [K.len, Nat.add_mul]; omega, List.drop_length_add_append]
theorem Kind.rows_take (K : Kind α) (l : List α) : ∀ (m : Nat), K.rows (l.take m) = (K.rows l).take (m * K.k) := by
  induction l with
  | nil => intro m; simp [Kind.rows]
  | cons f l ih =>
    intro m
    cases m with
    | zero => simp [Kind.rows]
    | succ m =>
      rw [List.take_succ_cons, Kind.rows, ih m, Kind.rows, show (m + 1) * K.k = (K.row f).length + m * K.k by rw [K.len, Nat.add_mul]; omega, List.take_length_add_append]
theorem Kind.rows_set (K : Kind α) (l : List α) (k : Nat) (h : k < l.length) (a : α) : (K.rows l).take (k * K.k) ++ K.row a ++ (K.rows l).drop (k * K.k + (K.row a).length) = K.rows (l.set k a) := by
  have e : l.set k a = l.take k ++ (a :: l.drop (k + 1)) := by
    rw [List.set_eq_take_append_cons_drop, if_pos h]
  rw [e, K.rows_app, Kind.rows, K.rows_take, K.rows_drop, K.len, Nat.add_mul]
  simp

/-- The slice '.slice A n _' reads as l. -/
def Lst (K : Kind α) (w : World) (A : Option Addr) (n : Nat) (l : List α) : Prop := Holds w w.heap.size K.k A n (K.rows l)
theorem Lst.q {K : Kind α} {w w' : World} {A : Option Addr} {n : Nat} {l : List α} (h : Lst K w A n l) (hq : Q w w') : Lst K w' A n l := Holds.q h hq
theorem Lst.len {K : Kind α} {w : World} {A : Option Addr} {n : Nat} {l : List α} (h : Lst K w A n l) : l.length = n := by
  have := h.1; rw [K.rows_len] at this
  exact Nat.eq_of_mul_eq_mul_right K.pos this
theorem Lst.nil {K : Kind α} (w : World) (A : Option Addr) : Lst K w A 0 [] := Holds.none_ _ _ _ _

/-- What a load of the element in place k reads. -/
theorem Lst.load {K : Kind α} {w : World} {A : Option Addr} {n : Nat} {l : List α} (h : Lst K w A n l) {k : Nat} (hk : k < n) (hl : k < l.length) :
    ∃ ad, A = some ad ∧ ad.block < w.heap.size ∧ ∀ j v, (K.row l[k])[j]? = some v → w.cell? ((ad.add (k * K.k)).add j) = some v := by
  have h0 : ∀ j v, (K.row l[k])[j]? = some v → ∃ ad, A = some ad ∧ ad.block < w.heap.size ∧ w.cell? (ad.add (k * K.k + j)) = some v := fun j v hj =>
    h.2 (k * K.k + j) _ (by rw [K.rows_at l k hl j (by rw [← K.len l[k]]; exact (List.getElem?_eq_some_iff.1 hj).1)]; exact hj)
  obtain ⟨ad, rfl, hb, _⟩ := h0 0 _ (List.getElem?_eq_getElem (by rw [K.len]; exact K.pos))
  refine ⟨ad, rfl, hb, fun j v hj => ?_⟩
  obtain ⟨_, e, _, hc⟩ := h0 j v hj
  injection e with e
  subst e
  rw [addr_add]; exact hc

/-- a list of the call's own. -/
def OwnK (K : Kind α) (w : World) (base : Nat) (A : Option Addr) (n c : Nat) (l : List α) : Prop := w.ownsRow base K.T K.k (.slice A n c) n (K.rows l)

/-- a list as it comes in. -/
structure In_ (K : Kind α) (w : World) (A : Option Addr) (n c : Nat) (l : List α) : Prop where
  lst : Lst K w A n l
  nil : A = none → n = 0 ∧ c = 0
  le : n ≤ c
  cap : c ≤ maxLen
  few : n * K.bs ≤ 140737488355328
theorem In_.len {K : Kind α} {w : World} {A : Option Addr} {n c : Nat} {l : List α} (h : In_ K w A n c l) : l.length = n := h.lst.len
theorem In_.q {K : Kind α} {w w' : World} {A : Option Addr} {n c : Nat} {l : List α} (h : In_ K w A n c l) (hq : Q w w') : In_ K w' A n c l := ⟨h.lst.q hq, h.nil, h.le, h.cap, h.few⟩
theorem In_.max {K : Kind α} {w : World} {A : Option Addr} {n c : Nat} {l : List α} (h : In_ K w A n c l) : n ≤ maxLen := Nat.le_trans h.le h.cap
theorem In_.none_ (K : Kind α) (w : World) : In_ K w none 0 0 [] := ⟨Lst.nil w _, fun _ => ⟨rfl, rfl⟩, Nat.le_refl _, Nat.zero_le _, by simp⟩

section
variable {K : Kind α} {w w' : World} {base : Nat} {A : Option Addr} {n c : Nat} {l : List α}
theorem OwnK.len (h : OwnK K w base A n c l) : l.length = n := by
  have := h.1; rw [K.rows_len] at this
  exact Nat.eq_of_mul_eq_mul_right K.pos this
theorem OwnK.parts (h : OwnK K w base A n c l) :
    (A = none ∧ n = 0 ∧ c = 0 ∧ l = []) ∨ ∃ g cur, A = some ⟨g, 0, none⟩ ∧ base ≤ g ∧ w.heap[g]? = some (.cells cur K.T (0, 0)) ∧ n ≤ c ∧ c ≤ maxLen ∧ cur.size = c * K.k ∧ cur.toList.take (n * K.k) = K.rows l := by
  rcases h.2 with ⟨e, h0⟩ | ⟨g, cap, cur, e, hb, hh, hc, hm, hs, ht⟩
  · injection e with e1 e2 e3
    exact .inl ⟨e1, e2, e3, List.eq_nil_of_length_eq_zero (by rw [h.len]; exact e2)⟩
  · injection e with e1 e2 e3
    subst e1 e3
    exact .inr ⟨g, cur, rfl, hb, hh, hc, hm, hs, ht⟩
theorem OwnK.lst (h : OwnK K w base A n c l) : Lst K w A n l := by
  refine ⟨h.1, fun j u hu => ?_⟩
  rcases h.parts with ⟨rfl, rfl, rfl, rfl⟩ | ⟨g, cur, rfl, hb, hh, hc, hm, hs, ht⟩
  · simp [Kind.rows] at hu
  · have hj : j < n * K.k := by
      have := (List.getElem?_eq_some_iff.1 hu).1; rw [h.1] at this; exact this
    refine ⟨_, rfl, ?_, ?_⟩
    · rcases Nat.lt_or_ge g w.heap.size with hlt | hge
      · exact hlt
      · rw [Array.getElem?_eq_none hge] at hh; cases hh
    · rw [Addr.add_mid, Nat.zero_add, World.ownsRow.cellAt h j hj]; exact hu
theorem OwnK.in_ (h : OwnK K w base A n c l) (hn : n * K.bs ≤ 140737488355328) : In_ K w A n c l := by
  refine ⟨h.lst, ?_, ?_, ?_, hn⟩ <;> rcases h.parts with ⟨rfl, rfl, rfl, rfl⟩ | ⟨g, cur, rfl, hb, hh, hc, hm, hs, ht⟩
  · intro _; exact ⟨rfl, rfl⟩
  · intro e; cases e
  · exact Nat.le_refl _
  · exact hc
  · exact Nat.zero_le _
  · exact hm
theorem OwnK.le (h : OwnK K w base A n c l) : n ≤ c := by
  rcases h.parts with ⟨rfl, rfl, rfl, rfl⟩ | ⟨g, cur, rfl, hb, hh, hc, hm, hs, ht⟩
  · exact Nat.le_refl _
  · exact hc
theorem OwnK.cap (h : OwnK K w base A n c l) : c ≤ maxLen := by
  rcases h.parts with ⟨rfl, rfl, rfl, rfl⟩ | ⟨g, cur, rfl, hb, hh, hc, hm, hs, ht⟩
  · exact Nat.zero_le _
  · exact hm
theorem OwnK.keep {B : Nat} (h : OwnK K w base A n c l) (hb : Below B w w') (hB : w.heap.size ≤ B) : OwnK K w' base A n c l := by
  refine ⟨h.1, ?_⟩
  rcases h.2 with ⟨e, h0⟩ | ⟨g, cap, cur, e, hg, hh, r⟩
  · exact .inl ⟨e, h0⟩
  · have hlt : g < w.heap.size := by
      rcases Nat.lt_or_ge g w.heap.size with hlt | hge
      · exact hlt
      · rw [Array.getElem?_eq_none hge] at hh; cases hh
    exact .inr ⟨g, cap, cur, e, hg, (hb.block g (by omega)).trans hh, r⟩
theorem OwnK.q (h : OwnK K w base A n c l) (hq : Q w w') : OwnK K w' base A n c l := h.keep hq.below (Nat.le_refl _)
theorem OwnK.setCell (h : OwnK K w base A n c l) {p : Addr} (hp : p.block < base) (u : Value) : OwnK K (w.setCell p u) base A n c l := by
  refine ⟨h.1, ?_⟩
  rcases h.2 with ⟨e, h0⟩ | ⟨g, cap, cur, e, hg, hh, r⟩
  · exact .inl ⟨e, h0⟩
  · exact .inr ⟨g, cap, cur, e, hg, (heap_setCell_other w p g u (by omega)).trans hh, r⟩
theorem OwnK.alloc (h : OwnK K w base A n c l) (o : Obj) : OwnK K (w.alloc o) base A n c l := h.q ((Q.refl _).alloc o)
theorem OwnK.drew (h : OwnK K w base A n c l) : OwnK K w.drew base A n c l := h
theorem OwnK.lower {b2 : Nat} (h : OwnK K w base A n c l) (hb : b2 ≤ base) : OwnK K w b2 A n c l := by
  refine ⟨h.1, ?_⟩
  rcases h.2 with ⟨e, h0⟩ | ⟨g, cap, cur, e, hg, hh, r⟩
  · exact .inl ⟨e, h0⟩
  · exact .inr ⟨g, cap, cur, e, by omega, hh, r⟩
theorem OwnK.nil_ (K : Kind α) (w : World) (base : Nat) : OwnK K w base none 0 0 [] := World.ownsRow_nil _ _ _ _
theorem OwnK.lit0 (K : Kind α) (w : World) (base : Nat) (hb : base ≤ w.heap.size) : OwnK K (w.alloc (.cells #[] K.T)) base (some ⟨w.heap.size, 0, none⟩) 0 0 [] :=
  World.ownsRow_lit w #[] 0 hb (Nat.zero_le _) (by simp)
theorem OwnK.lit1 (K : Kind α) (w : World) (base : Nat) (hb : base ≤ w.heap.size) (a : α) : OwnK K (w.alloc (.cells (K.row a).toArray K.T)) base (some ⟨w.heap.size, 0, none⟩) 1 1 [a] := by
  have := World.ownsRow_lit (e := K.T) (size := K.k) w (K.row a).toArray 1 hb (by unfold maxLen; omega) (by simp [K.len])
  unfold OwnK
  rw [show K.rows [a] = (K.row a).toArray.toList by simp [Kind.rows]]
  exact this
theorem OwnK.block_lt {g : Nat} (h : OwnK K w base (some ⟨g, 0, none⟩) n c l) : base ≤ g ∧ g < w.heap.size := by
  rcases h.parts with ⟨e, _⟩ | ⟨g', cur, e, hb, hh, _⟩
  · cases e
  · injection e with e
    injection e with e
    subst e
    refine ⟨hb, ?_⟩
    rcases Nat.lt_or_ge g w.heap.size with hlt | hge
    · exact hlt
    · rw [Array.getElem?_eq_none hge] at hh; cases hh
/-- the cells of the element in place k. -/
theorem OwnK.cells {g : Nat} (h : OwnK K w base (some ⟨g, 0, none⟩) n c l) {k : Nat} (hk : k < l.length) : ∀ j v, (K.row l[k])[j]? = some v → w.cell? ⟨g, k * K.k + j, none⟩ = some v := fun j v hj => by
  have hjk : j < K.k := by rw [← K.len l[k]]; exact (List.getElem?_eq_some_iff.1 hj).1
  have hn := h.len
  have : k * K.k + j < n * K.k := by
    have : (k + 1) * K.k ≤ n * K.k := Nat.mul_le_mul_right _ (by omega)
    rw [Nat.add_mul] at this; omega
  rw [World.ownsRow.cellAt h _ this, K.rows_at l k hk j hjk]
  exact hj
theorem OwnK.free {g : Nat} (h : OwnK K w base (some ⟨g, 0, none⟩) n c l) (j : Nat) : w.frozen? ⟨g, j, none⟩ = false := World.ownsRow.frozenAt h _
theorem OwnK.spare {g : Nat} (h : OwnK K w base (some ⟨g, 0, none⟩) n c l) (j : Nat) (hj : j < c * K.k) : (w.cell? ⟨g, j, none⟩).isSome = true := by
  rcases h.parts with ⟨e, _⟩ | ⟨g', cur, e, hb, hh, hc, hm, hs, ht⟩
  · cases e
  injection e with e
  injection e with e
  subst e
  rw [cell_of_row _ _ j _ K.T (0, 0) hh, Array.getElem?_eq_getElem (by omega)]
  rfl
/-- an element written in place. -/
theorem OwnK.put {g : Nat} (h : OwnK K w base (some ⟨g, 0, none⟩) n c l) {k : Nat} (hk : k < l.length) (a : α) :
    OwnK K (w.setCells g (k * K.k) (K.row a)) base (some ⟨g, 0, none⟩) n c (l.set k a) := by
  have hl : k * K.k + (K.row a).length ≤ (K.rows l).length := by
    rw [K.len, K.rows_len]
    have : (k + 1) * K.k ≤ l.length * K.k := Nat.mul_le_mul_right _ (by omega)
    rw [Nat.add_mul] at this; omega
  have := owns_setCells (e := K.T) (sz := K.k) (K.row a) (k * K.k) w (K.rows l) h hl
  rw [K.rows_set l k hk a] at this
  exact this
theorem OwnK.below_set {g : Nat} (h : OwnK K w base (some ⟨g, 0, none⟩) n c l) {a0 : World} (ha : Below base a0 w) : ∀ (vs : List Value) (o : Nat), Below base a0 (w.setCells g o vs) := by
  have hg := h.block_lt.1
  clear h
  intro vs
  induction vs generalizing w with
  | nil => intro o; exact ha
  | cons v r ih => intro o; exact ih (ha.setCell (p := ⟨g, o, none⟩) hg v) (o + 1)
end

/-- 'append(own, more...)', the source nil or not. -/
theorem run_appK (K : Kind α) (w : World) (base : Nat) (A : Option Addr) (n c : Nat) (l : List α) (h : OwnK K w base A n c l) (A2 : Option Addr) (m c2 : Nat) (l2 : List α) (h2 : Lst K w A2 m l2) (hnil : A2 = none → m = 0 ∧ c2 = 0)
    (hb : (n + m) * K.bs ≤ 140737488355328) (hbase : base ≤ w.heap.size) (ty : TypeId) :
    ∃ A' c' w', (Builtin.append_ #[K.S, K.S] ty #[.slice A n c, .slice A2 m c2]).run Try.prog w = .ok (.slice A' (n + m) c') w' ∧ OwnK K w' base A' (n + m) c' (l ++ l2) ∧ Below base w w' := by
  obtain ⟨i, hi, hz, hs, hy⟩ := info_parts K.info
  have hmax : n + m ≤ maxLen := by
    have : (n + m) * 1 ≤ (n + m) * K.bs := Nat.mul_le_mul_left _ K.bpos
    unfold maxLen; omega
  cases A2 with
  | none =>
    obtain ⟨rfl, rfl⟩ := hnil rfl
    have e2 : l2 = [] := List.eq_nil_of_length_eq_zero h2.len
    subst e2
    refine ⟨A, c, w, run_append_owned_none (P := Try.prog) (w := w) base _ ty K.T i K.k K.und hi _ n (K.rows l) h, by simpa using h, Below.refl _ _⟩
  | some ad =>
    obtain ⟨v', w', hr, ho, hg, hn, hat⟩ := run_append_own_at (P := Try.prog) w base K.S ty K.T i _ K.k K.bs K.und hi hz hs hy K.zc K.pos (.slice A n c) n (K.rows l) h ad m c2 (K.rows l2) h2.1
      (fun j u hu => by obtain ⟨a', e, _, hc⟩ := h2.2 j u hu; injection e with e; subst e; exact hc) (K.rows_one l2) hmax hb hbase
    rw [← K.rows_app] at ho
    have hbl : Below base w w' := (Below.refl _ _).grown hg hbase (fun k hk => by
      rcases h.parts with ⟨rfl, _⟩ | ⟨g, cur, rfl, hb, _⟩
      · cases hk
      · simp only [Value.ownBlock, Option.some.injEq] at hk; omega)
    rcases ho.2 with ⟨e, h0⟩ | ⟨g, cap, cur, e, _⟩
    · have h00 : Value.slice none 0 0 = .slice none (n + m) 0 := by rw [h0]
      rw [h00] at e
      subst e
      exact ⟨none, 0, w', hr, ho, hbl⟩
    · subst e
      exact ⟨_, cap, w', hr, ho, hbl⟩

/-- The same, for a plain region's list. -/
theorem wpl_appK (K : Kind α) {w : World} {ops : Array Oper} {rest : List Oper} {o : Oper} {a : Act} {R : Exit → Act → World → Prop} (hgd : o.guard = none) (s x : Operand) (t : TypeId) (ht : t = K.S)
    (ho : o.op = .call { callee := .builtin .append, args := #[s, x], argTypes := #[t, t] })
    (base : Nat) (A : Option Addr) (n c : Nat) (l : List α) (hs : a.eval s = .slice A n c) (h : OwnK K w base A n c l) (A2 : Option Addr) (m c2 : Nat) (l2 : List α) (hx : a.eval x = .slice A2 m c2) (h2 : Lst K w A2 m l2) (hnil : A2 = none → m = 0 ∧ c2 = 0)
    (hb : (n + m) * K.bs ≤ 140737488355328) (hbase : base ≤ w.heap.size)
    (hk : ∀ A' c' w', OwnK K w' base A' (n + m) c' (l ++ l2) → Below base w w' → wpList Try.prog ops R rest (a.put o.dst (.slice A' (n + m) c')) w') : wpList Try.prog ops R (o :: rest) a w := by
  subst ht
  refine wpList_plain hgd fun X hX => ?_
  obtain ⟨A', c', w', hr, h3, h4⟩ := run_appK K w base A n c l h A2 m c2 l2 h2 hnil hb hbase o.type
  unfold Oper.wp execOp
  simp only [ho, resolve, invoke, builtin, Sem.run_bind, Sem.run_pure, Result.andThen_ok, List.map_toArray, List.map_cons, List.map_nil, hs, hx, hr]
  exact hX _ _ (hk A' c' w' h3 h4)

/-- a call's own list, told by its ending. -/
def RetL (K : Kind α) (w : World) (n : Nat) (l : List α) (e : Ending) (w' : World) : Prop :=
  ∃ A' c', e = .returned (.slice A' n c') ∧ OwnK K w' w.heap.size A' n c' l ∧ Q w w'
def RetB (K : Kind α) (w : World) (base n : Nat) (l : List α) (e : Ending) (w' : World) : Prop :=
  ∃ A' c', e = .returned (.slice A' n c') ∧ OwnK K w' base A' n c' l ∧ Below base w w'

theorem eql_nilK (t : TypeId) (e : TypeId) (ht : Try.prog.underlying t = some (.slice e)) (W : World) (A : Option Addr) (n c : Nat) : (binOp .eql t (.slice A n c) (.slice none 0 0)).run Try.prog W = .ok (.bool A.isNone) W := by
  have h : ∀ d, (Op.equalIn (d + 1) t (.slice A n c) (.slice none 0 0)).run Try.prog W = .ok A.isNone W := by
    intro d
    cases A <;> simp [Op.equalIn, run_underlying ht]
  have h2 : (Op.equal t (.slice A n c) (.slice none 0 0)).run Try.prog W = .ok A.isNone W := h 9999
  simp [binOp, h2]
end Go.Proofs.Ytlbjobbmjccekaa

/- What comes in: a list of a kind of elements, opened out of a reading. -/
namespace Go.Proofs.Ytlbjobbmjccekaa
set_option maxRecDepth 100000
open Go.ChangeShapes Go.WideShapes Go.RowKit
set_option linter.unusedVariables false

theorem Kind.rows_flat {α : Type} (K : Kind α) (l : List α) : K.rows l = l.flatMap K.row := by
  induction l with
  | nil => rfl
  | cons f l ih => rw [Kind.rows, ih, List.flatMap_cons]
theorem open_kind {α : Type} (K : Kind α) (P : α → Prop) {w : World} (hel : ∀ cs, Rd w K.T cs → ∃ a, cs = K.row a ∧ P a) (hby : Try.prog.bytesOf K.T = K.bs) (hce : Try.prog.cellsOf K.T = K.k) {cs : List Value} (h : Rd w K.S cs) :
    ∃ A n c l, cs = [.slice A n c] ∧ In_ K w A n c l ∧ n * K.bs ≤ 140737488351232 ∧ ∀ a ∈ l, P a := by
  rcases h.slice K.und with rfl | ⟨a, len, cap, rfl, hlc, hcm, hb, hi⟩
  · exact ⟨none, 0, 0, [], rfl, In_.none_ K w, by simp, by simp⟩
  · rw [hby] at hb
    rw [hce] at hi
    have hlb : len * K.bs ≤ cap * K.bs := Nat.mul_le_mul_right _ hlc
    obtain ⟨l, hl, hr⟩ := choose_list (R := fun i (f : α) => w.cells? 0 (a.add (i * K.k)) K.k = some (K.row f) ∧ P f) len (fun i hlt => by
      obtain ⟨cs', hc, hrd⟩ := hi i (by omega)
      obtain ⟨f, rfl, hf⟩ := hel cs' hrd
      exact ⟨f, hc, hf⟩)
    refine ⟨some a, len, cap, l, rfl, ⟨?_, fun e => by (cases e), hlc, hcm, by omega⟩, by omega, fun f hf => ?_⟩
    · have := holds_flat K.row K.k K.len w a l (fun i hi => (hr i hi).1)
      rw [hl, ← K.rows_flat] at this
      exact this
    · obtain ⟨i, hi, rfl⟩ := List.getElem_of_mem hf
      exact (hr i hi).2
theorem small_list {α : Type} {K : Kind α} {w : World} {A : Option Addr} {n c : Nat} {l : List α} (h : In_ K w A n c l) (hc : ∀ a, A = some a → c ≤ 1048576) : n ≤ 1048576 := by
  have := h.le
  cases A with
  | none => have := (h.nil rfl).1; omega
  | some a => have := hc a rfl; omega
end Go.Proofs.Ytlbjobbmjccekaa

/- Pairs, writes and what writes make of pairs: plain mathematics. -/
namespace Go.Proofs.Ytlbjobbmjccekaa.Prm
set_option maxRecDepth 100000
set_option linter.unusedVariables false

/-- the order of texts, by their bytes. -/
def lt (a b : ByteArray) : Bool := Op.bytesLess a.data.toList b.data.toList
theorem lt_data (a b : ByteArray) : Op.bytesLess a.toList b.toList = lt a b := by unfold lt; rw [ByteArray.toList_eq, ByteArray.toList_eq]
theorem less_eq : ∀ (x y : List UInt8), Op.bytesLess x y = decide (x < y)
  | [], y => by cases y <;> simp [Op.bytesLess]
  | a :: x, [] => by simp [Op.bytesLess]
  | a :: x, b :: y => by
    simp only [Op.bytesLess, less_eq x y, List.cons_lt_cons_iff, Bool.decide_or, Bool.decide_and]
    rfl
theorem lt_iff (a b : ByteArray) : lt a b = true ↔ a.data.toList < b.data.toList := by unfold lt; rw [less_eq]; simp
theorem lt_irrefl (a : ByteArray) : lt a a = false := by
  cases h : lt a a with
  | false => rfl
  | true => exact absurd ((lt_iff a a).1 h) (List.lt_irrefl _)
theorem lt_trans {a b c : ByteArray} (h : lt a b = true) (k : lt b c = true) : lt a c = true := (lt_iff a c).2 (List.lt_trans ((lt_iff a b).1 h) ((lt_iff b c).1 k))
theorem lt_asymm {a b : ByteArray} (h : lt a b = true) : lt b a = false := by
  cases k : lt b a with
  | false => rfl
  | true => have := lt_trans h k; rw [lt_irrefl] at this; cases this
theorem lt_ne {a b : ByteArray} (h : lt a b = true) : a ≠ b := fun e => by subst e; rw [lt_irrefl] at h; cases h
theorem lt_tri {a b : ByteArray} (h : a ≠ b) (k : lt a b = false) : lt b a = true := by
  rcases Std.lt_trichotomy (α := List UInt8) a.data.toList b.data.toList with h1 | h1 | h1
  · rw [(lt_iff a b).2 h1] at k; cases k
  · exact absurd (ByteArray.ext (Array.ext' h1)) h
  · exact (lt_iff b a).2 h1
theorem ge_trans {a b c : ByteArray} (h : lt a b = false) (k : lt b c = false) : lt a c = false := by
  cases e : lt a c with
  | false => rfl
  | true =>
    by_cases hab : a = b
    · subst hab; rw [e] at k; cases k
    · have := lt_trans (lt_tri hab h) e; rw [this] at k; cases k

structure Pr where
  key : ByteArray
  val : ByteArray
deriving DecidableEq
structure Wr where
  key : ByteArray
  val : ByteArray
  del : Bool
deriving DecidableEq

/-- the place of the first one, or -1. -/
def idx {α : Type} (p : α → Bool) (l : List α) (i : Nat) : Int :=
  match l with
  | [] => -1
  | a :: l => if p a then i else idx p l (i + 1)
theorem idx_drop {α : Type} (p : α → Bool) (l : List α) {k : Nat} (hk : k < l.length) : idx p (l.drop k) k = if p l[k] then (k : Int) else idx p (l.drop (k + 1)) (k + 1) := by
  rw [List.drop_eq_getElem_cons hk]; rfl
theorem idx_end {α : Type} (p : α → Bool) (l : List α) {k : Nat} (hk : l.length ≤ k) : idx p (l.drop k) k = -1 := by rw [List.drop_of_length_le hk]; rfl
theorem idx_cases {α : Type} (p : α → Bool) : ∀ (l : List α) (i : Nat), (idx p l i = -1 ∧ ∀ a ∈ l, p a = false) ∨ ∃ k, ∃ h : k < l.length, idx p l i = ((i + k : Nat) : Int) ∧ p l[k] = true ∧ ∀ j, ∀ hj : j < l.length, j < k → p l[j] = false
  | [], i => .inl ⟨rfl, by simp⟩
  | a :: l, i => by
    by_cases h : p a = true
    · exact .inr ⟨0, by simp, by simp [idx, h], by simpa using h, fun j _ hj => by omega⟩
    · have h' : p a = false := by simpa using h
      rcases idx_cases p l (i + 1) with ⟨e, hall⟩ | ⟨k, hk, e, hp, hfirst⟩
      · refine .inl ⟨by simp [idx, h', e], fun b hb => ?_⟩
        rcases List.mem_cons.1 hb with rfl | hb
        · exact h'
        · exact hall b hb
      · refine .inr ⟨k + 1, by simpa using hk, by simp only [idx, h', e]; simp; omega, by simpa using hp, fun j hj hjk => ?_⟩
        cases j with
        | zero => simpa using h'
        | succ j => simpa using hfirst j (by simpa using hj) (by omega)

def hasK (k : ByteArray) (p : Pr) : Bool := decide (p.key = k)
def aboveK (k : ByteArray) (p : Pr) : Bool := lt k p.key

/-- a key's value. -/
def find (k : ByteArray) : List Pr → ByteArray × Bool
  | [] => (⟨#[]⟩, false)
  | p :: l => if hasK k p then (p.val, true) else find k l
theorem find_none {k : ByteArray} : ∀ {l : List Pr}, (∀ a ∈ l, hasK k a = false) → find k l = (⟨#[]⟩, false)
  | [], _ => rfl
  | p :: l, h => by rw [find, h p (by simp)]; exact find_none fun a ha => h a (by simp [ha])
theorem find_at {k : ByteArray} : ∀ {l : List Pr} {i : Nat} (hi : i < l.length), hasK k l[i] = true → (∀ j, ∀ hj : j < l.length, j < i → hasK k l[j] = false) → find k l = (l[i].val, true)
  | p :: l, 0, _, h, _ => by rw [find, if_pos (by simpa using h)]; rfl
  | p :: l, i + 1, hi, h, hf => by
    have h0 := hf 0 (by simp) (by omega)
    simp only [List.getElem_cons_zero] at h0
    rw [find, h0]
    exact find_at (l := l) (i := i) (by simpa using hi) (by simpa using h) fun j hj hji => hf (j + 1) (by simpa using hj) (by omega)

/-- a pair that is put: in the place of the first one of its key; else ahead of the first one above it. -/
def ins (p : Pr) : List Pr → List Pr
  | [] => [p]
  | q :: l => if lt p.key q.key then p :: q :: l else q :: ins p l
def setF (p : Pr) : List Pr → List Pr
  | [] => []
  | q :: l => if hasK p.key q then p :: l else q :: setF p l
def put (l : List Pr) (p : Pr) : List Pr := if (find p.key l).2 then setF p l else ins p l
def drop (l : List Pr) (k : ByteArray) : List Pr := l.filter fun q => !hasK k q
def act (l : List Pr) (w : Wr) : List Pr := if w.del then drop l w.key else put l ⟨w.key, w.val⟩
def apply (l : List Pr) (ws : List Wr) : List Pr := ws.foldl act l
def btw (lo hi : ByteArray) (k : ByteArray) : Bool := !lt k lo && (decide (hi = ⟨#[]⟩) || lt k hi)
def range (l : List Pr) (lo hi : ByteArray) (most : Int) : List Pr := (l.filter fun p => btw lo hi p.key).take most.toNat
def right : List Pr → Bool
  | [] => true
  | p :: l => (match l with | [] => true | q :: _ => lt p.key q.key) && right l

theorem ins_len (p : Pr) (l : List Pr) : (ins p l).length = l.length + 1 := by
  induction l with
  | nil => rfl
  | cons q l ih => simp only [ins]; split <;> simp [ih]
theorem setF_len (p : Pr) (l : List Pr) : (setF p l).length = l.length := by
  induction l with
  | nil => rfl
  | cons q l ih => simp only [setF]; split <;> simp [ih]
theorem put_len (l : List Pr) (p : Pr) : (put l p).length ≤ l.length + 1 := by
  unfold put; split
  · rw [setF_len]; omega
  · rw [ins_len]; exact Nat.le_refl _
theorem drop_len (l : List Pr) (k : ByteArray) : (drop l k).length ≤ l.length := List.length_filter_le _ _
theorem act_len (l : List Pr) (w : Wr) : (act l w).length ≤ l.length + 1 := by
  unfold act; split
  · have := drop_len l w.key; omega
  · exact put_len _ _
theorem apply_snoc (l : List Pr) (ws : List Wr) {k : Nat} (hk : k < ws.length) : apply l (ws.take (k + 1)) = act (apply l (ws.take k)) ws[k] := by
  unfold apply
  rw [List.take_succ_eq_append_getElem hk, List.foldl_append]; rfl
theorem apply_len (l : List Pr) (ws : List Wr) : (apply l ws).length ≤ l.length + ws.length := by
  induction ws generalizing l with
  | nil => simp [apply]
  | cons w ws ih =>
    have h1 := ih (act l w)
    have h2 := act_len l w
    simp only [apply, List.foldl_cons, List.length_cons] at h1 ⊢
    omega
theorem apply_one (l : List Pr) (w : Wr) : apply l [w] = act l w := rfl

/-- by the places of what the program looks for. -/
theorem put_has {l : List Pr} {p : Pr} {i : Nat} (hi : i < l.length) (h : hasK p.key l[i] = true) (hf : ∀ j, ∀ hj : j < l.length, j < i → hasK p.key l[j] = false) : put l p = l.set i p := by
  unfold put
  rw [find_at hi h hf]
  simp only [if_true]
  induction l generalizing i with
  | nil => simp at hi
  | cons q l ih =>
    cases i with
    | zero => simp only [List.getElem_cons_zero] at h; simp [setF, h]
    | succ i =>
      have h0 := hf 0 (by simp) (by omega)
      simp only [List.getElem_cons_zero] at h0
      simp only [setF, h0, List.set_cons_succ]
      rw [← ih (i := i) (by simpa using hi) (by simpa using h) fun j hj hji => hf (j + 1) (by simpa using hj) (by omega)]
      simp
theorem put_new {l : List Pr} {p : Pr} (h : ∀ a ∈ l, hasK p.key a = false) : put l p = ins p l := by
  unfold put; rw [find_none h]; simp
theorem ins_at {l : List Pr} {p : Pr} {i : Nat} (hi : i ≤ l.length) (h : ∀ hi : i < l.length, aboveK p.key l[i] = true) (hf : ∀ j, ∀ hj : j < l.length, j < i → aboveK p.key l[j] = false) : ins p l = l.take i ++ p :: l.drop i := by
  induction l generalizing i with
  | nil => have : i = 0 := by simpa using hi
           subst this; rfl
  | cons q l ih =>
    cases i with
    | zero =>
      have h1 := h (by simp)
      simp only [List.getElem_cons_zero, aboveK] at h1
      simp [ins, h1]
    | succ i =>
      have h0 := hf 0 (by simp) (by omega)
      simp only [List.getElem_cons_zero, aboveK] at h0
      simp only [ins, h0, List.take_succ_cons, List.drop_succ_cons, List.cons_append]
      rw [← ih (i := i) (by simpa using hi) (fun hi' => h (by simpa using hi')) fun j hj hji => hf (j + 1) (by simpa using hj) (by omega)]
      simp
end Go.Proofs.Ytlbjobbmjccekaa.Prm

/- Pairs and writes in memory; contracts: the closures that find pairs, slices.IndexFunc, slices.Clone, table.Find, Between, Right, and the document's Less. -/
namespace Go.Proofs.Ytlbjobbmjccekaa
set_option maxRecDepth 100000
open Go.RowKit Prm
set_option linter.unusedVariables false

abbrev Prm.Pr.v (p : Pr) : Value := .agg #[.string p.key, .string p.val]
abbrev Prm.Wr.v (w : Wr) : Value := .agg #[.string w.key, .string w.val, .bool w.del]
def pairK : Kind Pr where
  T := 99
  S := 38
  k := 2
  bs := 32
  z := .agg #[.string ⟨#[]⟩, .string ⟨#[]⟩]
  row := fun p => [.string p.key, .string p.val]
  pos := by omega
  bpos := by omega
  len := fun _ => rfl
  one := fun _ u hu => by simp at hu; rcases hu with rfl | rfl <;> rfl
  und := Try.underlying38
  info := by kernel_rfl
  zc := rfl
def writeK : Kind Wr where
  T := 63
  S := 22
  k := 3
  bs := 40
  z := .agg #[.string ⟨#[]⟩, .string ⟨#[]⟩, .bool false]
  row := fun p => [.string p.key, .string p.val, .bool p.del]
  pos := by omega
  bpos := by omega
  len := fun _ => rfl
  one := fun _ u hu => by simp at hu; rcases hu with rfl | rfl | rfl <;> rfl
  und := Try.underlying22
  info := by kernel_rfl
  zc := rfl

theorem load_pair {w : World} {A : Option Addr} {n : Nat} {l : List Pr} (h : Lst pairK w A n l) {k : Nat} (hk : k < n) (hl : k < l.length) :
    ∃ ad, A = some ad ∧ ad.block < w.heap.size ∧ w.cell? (ad.add (k * 2)) = some (.string l[k].key) ∧ w.cell? ⟨(ad.add (k * 2)).block, (ad.add (k * 2)).off + 1, none⟩ = some (.string l[k].val) := by
  obtain ⟨ad, e, hb, hc⟩ := h.load hk hl
  exact ⟨ad, e, hb, hc 0 _ rfl, hc 1 _ rfl⟩
theorem load_write {w : World} {A : Option Addr} {n : Nat} {l : List Wr} (h : Lst writeK w A n l) {k : Nat} (hk : k < n) (hl : k < l.length) :
    ∃ ad, A = some ad ∧ ad.block < w.heap.size ∧ w.cell? (ad.add (k * 3)) = some (.string l[k].key) ∧ w.cell? ⟨(ad.add (k * 3)).block, (ad.add (k * 3)).off + 1, none⟩ = some (.string l[k].val) ∧
      w.cell? ⟨(ad.add (k * 3)).block, (ad.add (k * 3)).off + 2, none⟩ = some (.bool l[k].del) := by
  obtain ⟨ad, e, hb, hc⟩ := h.load hk hl
  exact ⟨ad, e, hb, hc 0 _ rfl, hc 1 _ rfl, hc 2 _ rfl⟩

/-- the walk's words for '>' and '>=' on texts. -/
theorem gtr_lt (a b : ByteArray) : (!(Op.bytesLess a.toList b.toList || a.toList == b.toList)) = lt b a := by
  rw [lt_data, same_str]
  by_cases h : a = b
  · subst h; simp [lt_irrefl]
  · cases k : lt a b with
    | true => simp [lt_asymm k]
    | false => simp [h, lt_tri h k]
theorem leq_lt (a b : ByteArray) : (Op.bytesLess a.toList b.toList || a.toList == b.toList) = !lt b a := by
  have := gtr_lt a b
  cases h : (Op.bytesLess a.toList b.toList || a.toList == b.toList) <;> rw [h] at this <;> simp at this <;> simp [this]

theorem has1 (p : Pr) (key : ByteArray) (B : Nat) (w : World) (hB : B < w.heap.size) (hc : w.cell? ⟨B, 0, none⟩ = some (.string key)) :
    Calls Try.prog 82 #[p.v, .pointer (some ⟨B, 0, none⟩)] w fun e w' => e = .returned (.bool (hasK key p)) ∧ Q w w' := by
  obtain ⟨a, b⟩ := p
  go_enter Try.func82, Try.ntmps82
  go_wp2
  go_ret
  exact ⟨ret_bool (same_str a key), (Q.refl _).alloc _⟩
theorem above1 (p : Pr) (key : ByteArray) (B : Nat) (w : World) (hB : B < w.heap.size) (hc : w.cell? ⟨B, 0, none⟩ = some (.string key)) :
    Calls Try.prog 87 #[p.v, .pointer (some ⟨B, 0, none⟩)] w fun e w' => e = .returned (.bool (aboveK key p)) ∧ Q w w' := by
  obtain ⟨a, b⟩ := p
  go_enter Try.func87, Try.ntmps87
  go_wp2
  go_ret
  exact ⟨ret_bool (by have := gtr_lt a key; rw [Bool.not_or] at this; exact this), (Q.refl _).alloc _⟩
theorem thas_any (key : ByteArray) (w : World) :
    Calls Try.prog 74 #[.string key] w fun e w' => e = .returned (.func (.func 82) #[] #[.pointer (some ⟨w.heap.size, 0, none⟩)]) ∧ w' = w.alloc (.cells #[.string key] 9) := by
  go_enter Try.func74, Try.ntmps74
  go_wp2
  go_ret
  exact ⟨rfl, rfl⟩
theorem above_any (key : ByteArray) (w : World) :
    Calls Try.prog 85 #[.string key] w fun e w' => e = .returned (.func (.func 87) #[] #[.pointer (some ⟨w.heap.size, 0, none⟩)]) ∧ w' = w.alloc (.cells #[.string key] 9) := by
  go_enter Try.func85, Try.ntmps85
  go_wp2
  go_ret
  exact ⟨rfl, rfl⟩

/-- a closure over one text that tells pairs. -/
def Tells (F : FuncId) (key : ByteArray) (P : Pr → Bool) : Prop := ∀ (p : Pr) (B : Nat) (w : World), B < w.heap.size → w.cell? ⟨B, 0, none⟩ = some (.string key) →
  Calls Try.prog F #[p.v, .pointer (some ⟨B, 0, none⟩)] w fun e w' => e = .returned (.bool (P p)) ∧ Q w w'

set_option maxHeartbeats 1000000 in
theorem pindexFunc (F : FuncId) (P : Pr → Bool) (key : ByteArray) (hF : Tells F key P) (hFF : F = 82 ∨ F = 87) (B : Nat) (A : Option Addr) (n c : Nat) (l : List Pr) (w : World) (hB : B < w.heap.size) (hc : w.cell? ⟨B, 0, none⟩ = some (.string key)) (hf : Lst pairK w A n l) (hn : n ≤ maxLen) :
    Calls Try.prog 73 #[.slice A n c, .func (.func F) #[] #[.pointer (some ⟨B, 0, none⟩)]] w fun e w' => e = .returned (.int .i64 (idx P l 0)) ∧ Q w w' := by
  rcases hFF with rfl | rfl
  all_goals
    unfold maxLen at hn
    have HC := Lib.hid hc
    have HF := Lib.hid hf
    have HT := Lib.hid hF
    clear hc hf hF
    go_enter Try.func73, Try.ntmps73
    go_wp2
    go_loopw [8] (fun i wr => ∃ k : Nat, k ≤ n ∧ i = .int .i64 k ∧ Q w wr ∧ idx P l 0 = idx P (l.drop k) k) (fun i _ => n - (intOf i).toNat)
    case atStart => exact ⟨0, Nat.zero_le _, rfl, Q.refl _, rfl⟩
    case round =>
      obtain ⟨k, hk, rfl, hq, hp⟩ := hrel
      have HP := Lib.hid hp
      clear hp
      by_cases hlt : k < n
      · have hlen := HF.out.len
        have hkl : k < l.length := by omega
        obtain ⟨ad, rfl, hb, c0, c1⟩ := load_pair (HF.out.q hq) hlt hkl
        clear hlen
        have hcell : Hid (wr.cell? ⟨B, 0, none⟩ = some (.string key)) := Lib.hid ((hq.below.cell (p := ⟨B, 0, none⟩) hB).trans HC.out)
        go_wp2_with fail
        refine (HT.out l[k] B _ (Nat.lt_of_lt_of_le hB hq.size) hcell.out).mono ?_
        rintro e w1 ⟨rfl, q1⟩
        by_cases hh : P l[k] = true
        · go_wp2
          go_ret
          exact ⟨ret_int (by rw [HP.out, idx_drop _ _ hkl, if_pos hh]), hq.trans q1⟩
        · have hd : P l[k] = false := by simpa using hh
          go_wp2
          go_roundw
          case rel => exact ⟨k + 1, by omega, by go_num, hq.trans q1, by rw [HP.out, idx_drop _ _ hkl, if_neg hh]⟩
          case measure => simp [intOf]; omega
      · have hlen := HF.out.len
        have HL := Lib.hid hlen
        clear hlen
        go_wp2
        go_ret
        exact ⟨ret_int (by rw [HP.out, idx_end _ _ (by have := HL.out; omega)]), hq⟩

set_option maxHeartbeats 1000000 in
theorem clonePairs (A : Option Addr) (n c : Nat) (l : List Pr) (w : World) (hd : In_ pairK w A n c l) :
    Calls Try.prog 70 #[.slice A n c] w fun e w' => RetL pairK w n l e w' := by
  have HD := Lib.hid hd
  clear hd
  cases A with
  | none =>
    obtain ⟨h1, h2⟩ := HD.out.nil rfl
    subst h1 h2
    have hl : l = [] := List.eq_nil_of_length_eq_zero HD.out.len
    subst hl
    have hnil := fun W : World => eql_nilK 38 99 Try.underlying38 W none 0 0
    go_enter Try.func70, Try.ntmps70
    go_wp2
    go_ret
    exact ⟨none, 0, rfl, OwnK.nil_ _ _ _, Q.refl _⟩
  | some ad =>
    have hnil := fun W : World => eql_nilK 38 99 Try.underlying38 W (some ad) n c
    go_enter Try.func70, Try.ntmps70
    go_wp2_with (at_builtin
                 refine wpl_appK pairK rfl (.tmp 5) (.tmp 6) 38 rfl rfl w.heap.size (some ⟨w.heap.size, 0, none⟩) 0 0 [] rfl (OwnK.lit0 pairK w _ (Nat.le_refl _)) (some ad) n c l rfl (HD.out.lst.q ((Q.refl _).alloc _)) (fun e => by cases e) (by have := HD.out.few; simpa using this) (by simp) ?_
                 intro A1 c1 w1 ho1 hb1)
    go_ret
    refine ⟨A1, c1, by simp, by simpa using ho1, ((Q.refl _).alloc _).below.trans hb1⟩

set_option maxHeartbeats 1000000 in
theorem tfind_any (key : ByteArray) (A : Option Addr) (n c : Nat) (l : List Pr) (w : World) (hf : Lst pairK w A n l) (hn : n ≤ maxLen) :
    Calls Try.prog 54 #[.slice A n c, .string key] w fun e w' => e = .returned (.tuple #[.string (find key l).1, .bool (find key l).2]) ∧ Q w w' := by
  have HF := Lib.hid hf
  have HN := Lib.hid hn
  unfold maxLen at hn
  clear hf
  rcases idx_cases (hasK key) l 0 with ⟨hp, hall⟩ | ⟨k, hk, hp, hkn, hfirst⟩
  · rw [find_none hall]
    have HP := Lib.hid hp
    clear hp hall
    go_enter Try.func54, Try.ntmps54
    go_wp2_with fail
    refine (thas_any key _).mono ?_
    rintro e w1 ⟨rfl, rfl⟩
    go_wp2_with fail
    refine (pindexFunc _ _ key (fun p B w => has1 p key B w) (.inl rfl) w.heap.size A n c l _ (by simp) (by simp) (HF.out.q ((Q.refl _).alloc _)) HN.out).mono ?_
    rintro e w1 ⟨rfl, q1⟩
    rw [HP.out]
    go_wp2
    go_ret2
    exact ⟨rfl, ((Q.refl _).alloc _).trans q1⟩
  · rw [find_at hk hkn hfirst]
    have HL := Lib.hid HF.out.len
    have hkn' : k < n := by have := HL.out; omega
    have HP := Lib.hid (hp.trans (by simp : ((0 + k : Nat) : Int) = (k : Int)))
    clear hp hkn hfirst
    go_enter Try.func54, Try.ntmps54
    go_wp2_with fail
    refine (thas_any key _).mono ?_
    rintro e w1 ⟨rfl, rfl⟩
    go_wp2_with fail
    refine (pindexFunc _ _ key (fun p B w => has1 p key B w) (.inl rfl) w.heap.size A n c l _ (by simp) (by simp) (HF.out.q ((Q.refl _).alloc _)) HN.out).mono ?_
    rintro e w1 ⟨rfl, q1⟩
    rw [HP.out]
    obtain ⟨ad, rfl, hb, c0, c1⟩ := load_pair (HF.out.q (((Q.refl _).alloc _).trans q1)) hkn' hk
    go_wp2
    go_ret2
    exact ⟨rfl, ((Q.refl _).alloc _).trans q1⟩

theorem empty_no {s : ByteArray} (h : ¬ s = ⟨#[]⟩) : s.toList ≠ [] ∧ s.toList.isEmpty = false ∧ (s.toList == []) = false := by
  have h1 : s.toList ≠ [] := by
    intro e
    have e1 : s.data.toList = [] := by simpa [ByteArray.toList_eq] using e
    exact h (ByteArray.ext (by simpa using e1))
  exact ⟨h1, by simpa using h1, by simpa using h1⟩
end Go.Proofs.Ytlbjobbmjccekaa

/- Whole rows of a kind of elements: copy, clear, and an append of zero values, at elements of any size. -/
namespace Go.Proofs.Ytlbjobbmjccekaa
set_option maxRecDepth 100000
open Go.RowKit
set_option linter.unusedVariables false

variable {α : Type}

/-- block g is a row of c elements, whose cells are xs. -/
def RowK (K : Kind α) (w : World) (base g c : Nat) (xs : List Value) : Prop := w.ownsRow base K.T K.k (.slice (some ⟨g, 0, none⟩) c c) c xs

section
variable {K : Kind α} {w w' : World} {base g n c : Nat} {l : List α} {xs : List Value}
theorem OwnK.row (h : OwnK K w base (some ⟨g, 0, none⟩) n c l) : ∃ xs, RowK K w base g c xs ∧ xs.take (n * K.k) = K.rows l := by
  rcases h.parts with ⟨e, _⟩ | ⟨g', cur, e, hb, hh, hc, hm, hs, ht⟩
  · cases e
  injection e with e
  injection e with e
  subst e
  exact ⟨cur.toList, ⟨by simpa using hs, .inr ⟨g, c, cur, rfl, hb, hh, Nat.le_refl _, hm, hs, List.take_of_length_le (Nat.le_of_eq ((Array.length_toList).trans hs))⟩⟩, ht⟩
theorem RowK.own (h : RowK K w base g c xs) (hn : n ≤ c) (hl : xs.take (n * K.k) = K.rows l) : OwnK K w base (some ⟨g, 0, none⟩) n c l := by
  have := owns_short h hn
  rw [hl] at this
  exact this
theorem RowK.len (h : RowK K w base g c xs) : xs.length = c * K.k := h.1
theorem RowK.cell (h : RowK K w base g c xs) (j : Nat) (hj : j < c * K.k) : w.cell? ⟨g, j, none⟩ = xs[j]? := World.ownsRow.cellAt h j hj
theorem RowK.some (h : RowK K w base g c xs) (j : Nat) (hj : j < c * K.k) : (w.cell? ⟨g, j, none⟩).isSome = true := by
  rw [h.cell j hj, List.getElem?_eq_getElem (by rw [h.len]; exact hj)]; rfl
theorem RowK.free (h : RowK K w base g c xs) (j : Nat) : w.frozen? ⟨g, j, none⟩ = false := World.ownsRow.frozenAt h _
theorem RowK.drew (h : RowK K w base g c xs) : RowK K w.drew base g c xs := h
theorem RowK.q (h : RowK K w base g c xs) (hq : Q w w') : RowK K w' base g c xs := by
  refine ⟨h.1, ?_⟩
  rcases h.2 with ⟨e, h0⟩ | ⟨g, cap, cur, e, hg, hh, r⟩
  · exact .inl ⟨e, h0⟩
  · have hlt : g < w.heap.size := (Array.getElem?_eq_some_iff.1 hh).1
    exact .inr ⟨g, cap, cur, e, hg, (hq.below.block g hlt).trans hh, r⟩
theorem RowK.ge (h : RowK K w base g c xs) : base ≤ g ∧ g < w.heap.size := by
  rcases h.2 with ⟨e, h0⟩ | ⟨g', cap, cur, e, hg, hh, r⟩
  · cases e
  · injection e with e
    injection e with e
    injection e with e
    subst e
    exact ⟨hg, (Array.getElem?_eq_some_iff.1 hh).1⟩
theorem RowK.sets (h : RowK K w base g c xs) (o : Nat) (cs : List Value) (hl : o + cs.length ≤ c * K.k) : RowK K (w.setCells g o cs) base g c (xs.take o ++ cs ++ xs.drop (o + cs.length)) :=
  owns_setCells cs o w xs h (by rw [h.len]; exact hl)
end

theorem run_copyK (K : Kind α) (w : World) (sT ty : TypeId) (b o dLen dCap : Nat) (a : Addr) (sLen sCap : Nat) (cs : List Value) (hn : cs.length = Nat.min sLen dLen * K.k)
    (hsrc : ∀ j v, cs[j]? = some v → w.cell? (a.add j) = some v) (hc : ∀ j, j < cs.length → (w.cell? ⟨b, o + j, none⟩).isSome = true) (hf : ∀ j, j < cs.length → w.frozen? ⟨b, o + j, none⟩ = false) (h1 : ∀ v ∈ cs, v.oneCell' = true) :
    (Builtin.copy_ #[K.S, sT] ty #[.slice (some ⟨b, o, none⟩) dLen dCap, .slice (some a) sLen sCap]).run Try.prog w = .ok (goInt (Nat.min sLen dLen)) (w.setCells b o cs) := by
  obtain ⟨i, hi, hz, hs, hy⟩ := info_parts K.info
  have hst := run_storeCells_cells (P := Try.prog) b o cs 0 w (by simpa using hc) (by simpa using hf) h1
  have hfc := run_firstCells_some (P := Try.prog) (w := w) K.k (Nat.min sLen dLen) a sLen sCap cs hn hsrc
  simp only [Nat.add_zero] at hst
  simp [Builtin.copy_, run_underlying K.und, Builtin.lenOf, sizeOf, typeInfo, hi, hs, hfc, hst]

/-- copy into a row, from elsewhere or from the row itself; only block g turns. -/
theorem copy_row (K : Kind α) {w : World} {base g c : Nat} {xs : List Value} (h : RowK K w base g c xs) (sT ty : TypeId) (o dLen dCap : Nat) (a : Addr) (sLen sCap : Nat) (cs : List Value) (hn : cs.length = Nat.min sLen dLen * K.k)
    (hsrc : ∀ j v, cs[j]? = some v → w.cell? (a.add j) = some v) (hl : o + cs.length ≤ c * K.k) (h1 : ∀ v ∈ cs, v.oneCell' = true) :
    ∃ w', (Builtin.copy_ #[K.S, sT] ty #[.slice (some ⟨g, o, none⟩) dLen dCap, .slice (some a) sLen sCap]).run Try.prog w = .ok (goInt (Nat.min sLen dLen)) w' ∧ RowK K w' base g c (xs.take o ++ cs ++ xs.drop (o + cs.length)) ∧ w.grownBy w' (some g) :=
  ⟨_, run_copyK K w sT ty g o dLen dCap a sLen sCap cs hn hsrc (fun j hj => h.some _ (by omega)) (fun j hj => h.free _) h1, h.sets o cs hl, only_sets cs o w (only_refl w g)⟩

theorem wpl_copyK (K : Kind α) {w : World} {ops : Array Oper} {rest : List Oper} {o : Oper} {a : Act} {R : Exit → Act → World → Prop} (hgd : o.guard = none) (d s : Operand) (t sT : TypeId) (ht : t = K.S)
    (ho : o.op = .call { callee := .builtin .copy, args := #[d, s], argTypes := #[t, sT] }) (base g c off : Nat) (xs : List Value) (dLen dCap : Nat) (ad : Addr) (sLen sCap : Nat) (hd : a.eval d = .slice (some ⟨g, off, none⟩) dLen dCap) (hs : a.eval s = .slice (some ad) sLen sCap)
    (h : RowK K w base g c xs) (cs : List Value) (hn : cs.length = Nat.min sLen dLen * K.k) (hsrc : ∀ j v, cs[j]? = some v → w.cell? (ad.add j) = some v) (hl : off + cs.length ≤ c * K.k) (h1 : ∀ v ∈ cs, v.oneCell' = true)
    (hk : ∀ w', RowK K w' base g c (xs.take off ++ cs ++ xs.drop (off + cs.length)) → w.grownBy w' (some g) → wpList Try.prog ops R rest (a.put o.dst (goInt (Nat.min sLen dLen))) w') : wpList Try.prog ops R (o :: rest) a w := by
  subst ht
  refine wpList_plain hgd fun X hX => ?_
  obtain ⟨w', hr, h3, h4⟩ := copy_row K h sT o.type off dLen dCap ad sLen sCap cs hn hsrc hl h1
  unfold Oper.wp execOp
  simp only [ho, resolve, invoke, builtin, Sem.run_bind, Sem.run_pure, Result.andThen_ok, List.map_toArray, List.map_cons, List.map_nil, hd, hs, hr]
  exact hX _ _ (hk w' h3 h4)

theorem step_copyK (K : Kind α) {ops : Array Oper} {o : Oper} {a : Act} {w : World} {X : Act → World → Prop} {R : Exit → Act → World → Prop} {E : Prop} (hgd : o.guard = none) (d s : Operand) (t sT : TypeId) (ht : t = K.S)
    (ho : o.op = .call { callee := .builtin .copy, args := #[d, s], argTypes := #[t, sT] }) (base g c off : Nat) (xs : List Value) (dLen dCap : Nat) (ad : Addr) (sLen sCap : Nat) (hd : a.eval d = .slice (some ⟨g, off, none⟩) dLen dCap) (hs : a.eval s = .slice (some ad) sLen sCap)
    (h : RowK K w base g c xs) (cs : List Value) (hn : cs.length = Nat.min sLen dLen * K.k) (hsrc : ∀ j v, cs[j]? = some v → w.cell? (ad.add j) = some v) (hl : off + cs.length ≤ c * K.k) (h1 : ∀ v ∈ cs, v.oneCell' = true)
    (hk : ∀ w', RowK K w' base g c (xs.take off ++ cs ++ xs.drop (off + cs.length)) → w.grownBy w' (some g) → X (a.put o.dst (goInt (Nat.min sLen dLen))) w') :
    if Region.wanted o (yielded ops a.tmps) = true then Oper.wp Try.prog o a w X R else E := by
  subst ht
  have hw : Region.wanted o (yielded ops a.tmps) = true := by simp [Region.wanted, hgd]
  rw [if_pos hw]
  obtain ⟨w', hr, h3, h4⟩ := copy_row K h sT o.type off dLen dCap ad sLen sCap cs hn hsrc hl h1
  unfold Oper.wp execOp
  simp only [ho, resolve, invoke, builtin, Sem.run_bind, Sem.run_pure, Result.andThen_ok, List.map_toArray, List.map_cons, List.map_nil, hd, hs, hr]
  exact hk w' h3 h4

theorem zeros_size (z : Array Value) (n : Nat) : (Builtin.zeroCells z n).size = n * z.size := by simp [Builtin.zeroCells]

/-- 'append(s[:i], make(.., m)...)' where s has no room for m more: a new row, that begins with what s[:i] held. -/
theorem zeros_row (K : Kind α) (w : World) (base : Nat) (tn : TypeId) (htn : Try.prog.underlying tn = some (.int .i64)) (ty : TypeId) (ad : Addr) (i c m : Nat) (olds : List Value) (hlen : olds.length = i * K.k) (hold : ∀ j v, olds[j]? = some v → w.cell? (ad.add j) = some v)
    (hm : 0 < m) (hc : c < i + m) (hb : (i + m) * K.bs ≤ 140737488355328) (hbase : base ≤ w.heap.size) :
    ∃ G w' xs, (Builtin.append_ #[K.S, tn] ty #[.slice (some ad) i c, .int .i64 (m : Int)]).run Try.prog w = .ok (.slice (some ⟨w.heap.size, 0, none⟩) (i + m) G) w' ∧ RowK K w' base w.heap.size G xs ∧ xs.take (i * K.k) = olds ∧ i + m ≤ G ∧ Q w w' ∧ G ≤ maxLen ∧ w'.heap.size = w.heap.size + 1 := by
  obtain ⟨t, hi, hz, hs, hy⟩ := info_parts K.info
  have hmax : i + m ≤ maxLen := by
    have : (i + m) * 1 ≤ (i + m) * K.bs := Nat.mul_le_mul_left _ K.bpos
    unfold maxLen; omega
  have hGm := grownCap_le_maxLen w (i + m) c K.T hmax
  have hGn := grownCap_ge w (i + m) c K.T
  have hmb : m * t.bytes ≤ 281474976710656 := by
    rw [hy]
    have : m * K.bs ≤ (i + m) * K.bs := Nat.mul_le_mul_right _ (by omega)
    omega
  have h := Lib.run_append_grow_zeros (P := Try.prog) w K.S tn ty K.T t K.z .i64 .i64 K.und htn hi hz (some ad) i c olds
    (by rw [hs]; exact run_firstCells_some (P := Try.prog) (w := w.drew) K.k i ad i c olds hlen hold) m hm (by rw [hs]; exact K.pos) hc (by unfold maxLen at hmax; omega) hmb (by rw [hy]; exact growslice_fits hc hb)
  generalize grownCap w (i + m) c K.T = G at h hGm hGn
  have hsz : (olds.toArray ++ Builtin.zeroCells K.z.cells m ++ Builtin.zeroCells K.z.cells (G - (i + m))).size = G * K.k := by
    simp only [Array.size_append, zeros_size, K.zc, List.size_toArray, hlen]
    rw [← Nat.add_mul, ← Nat.add_mul]
    congr 1
    omega
  refine ⟨G, _, (olds.toArray ++ Builtin.zeroCells K.z.cells m ++ Builtin.zeroCells K.z.cells (G - (i + m))).toList, h, ?_, ?_, hGn, (Q.refl w).drew.alloc _, hGm, by simp⟩
  · exact World.ownsRow_lit (e := K.T) (size := K.k) w.drew _ G hbase hGm hsz
  · simp only [Array.toList_append, List.append_assoc]
    exact List.take_left' hlen

theorem wpl_zerosK (K : Kind α) {w : World} {ops : Array Oper} {rest : List Oper} {o : Oper} {a : Act} {R : Exit → Act → World → Prop} (hgd : o.guard = none) (s x : Operand) (t tn : TypeId) (ht : t = K.S) (htn : Try.prog.underlying tn = some (.int .i64))
    (ho : o.op = .call { callee := .builtin .append, args := #[s, x], argTypes := #[t, tn] }) (base : Nat) (ad : Addr) (i c m N : Nat) (hN : i + m = N) (y : Int) (hy : y = (m : Int)) (hs : a.eval s = .slice (some ad) i c) (hx : a.eval x = .int .i64 y)
    (olds : List Value) (hlen : olds.length = i * K.k) (hold : ∀ j v, olds[j]? = some v → w.cell? (ad.add j) = some v)
    (hm : 0 < m) (hc : c < i + m) (hb : (i + m) * K.bs ≤ 140737488355328) (hbase : base ≤ w.heap.size)
    (hk : ∀ G w' xs, RowK K w' base w.heap.size G xs → xs.take (i * K.k) = olds → N ≤ G → Q w w' → G ≤ maxLen → w'.heap.size = w.heap.size + 1 → wpList Try.prog ops R rest (a.put o.dst (.slice (some ⟨w.heap.size, 0, none⟩) N G)) w') : wpList Try.prog ops R (o :: rest) a w := by
  subst ht hy hN
  refine wpList_plain hgd fun X hX => ?_
  obtain ⟨G, w', xs, hr, h1, h2, h3, h4, h5, h6⟩ := zeros_row K w base tn htn o.type ad i c m olds hlen hold hm hc hb hbase
  unfold Oper.wp execOp
  simp only [ho, resolve, invoke, builtin, Sem.run_bind, Sem.run_pure, Result.andThen_ok, List.map_toArray, List.map_cons, List.map_nil, hs, hx, hr]
  exact hX _ _ (hk G w' xs h1 h2 h3 h4 h5 h6)

theorem zeros_one (z : Value) (hz : ∀ u ∈ z.cells, u.oneCell' = true) (hp : 0 < z.cells.size) (n : Nat) : ∀ u ∈ (Builtin.zeroCells z.cells n).toList, u.oneCell' = true := by
  intro u hu
  simp only [Builtin.zeroCells, Array.toList_map, List.mem_map] at hu
  obtain ⟨i, _, rfl⟩ := hu
  have h : i % z.cells.size < z.cells.size := Nat.mod_lt _ hp
  rw [getElem!_pos z.cells _ h]
  exact hz _ (Array.getElem_mem h)

/-- clear of a part of a row. -/
theorem run_clearK (K : Kind α) {w : World} {base g c : Nat} {xs : List Value} (h : RowK K w base g c xs) (h1 : ∀ u ∈ K.z.cells, u.oneCell' = true) (hzv : ∀ W, (zeroValue K.T).run Try.prog W = .ok K.z W) (ty : TypeId) (o n cp : Nat) (hn : 0 < n) (hl : o + n * K.k ≤ c * K.k) :
    ∃ zs : List Value, zs.length = n * K.k ∧ (∀ cp, (Builtin.clear_ #[K.S] ty #[.slice (some ⟨g, o, none⟩) n cp]).run Try.prog w = .ok (.tuple #[]) (w.setCells g o zs)) := by
  have hzl : (Builtin.zeroCells K.z.cells n).toList.length = n * K.k := by simp [zeros_size, K.zc]
  refine ⟨(Builtin.zeroCells K.z.cells n).toList, hzl, fun cp => ?_⟩
  have hst := run_storeCells_cells (P := Try.prog) g o (Builtin.zeroCells K.z.cells n).toList 0 w (fun j hj => h.some _ (by omega)) (fun j hj => h.free _) (zeros_one K.z h1 (by rw [K.zc]; exact K.pos) n)
  simp only [Nat.add_zero] at hst
  obtain ⟨m, rfl⟩ : ∃ m, n = m + 1 := ⟨n - 1, by omega⟩
  simp [Builtin.clear_, run_underlying K.und, hzv, hst]
end Go.Proofs.Ytlbjobbmjccekaa

/- 'append(own, more...)' for rows of any kind of element: the source nil or not; only the own block has turned. -/
namespace Go.Proofs.Ytlbjobbmjccekaa
set_option maxRecDepth 100000
open Go.RowKit
set_option linter.unusedVariables false

theorem run_appG {P : Program} {w : World} (base : Nat) (t ty e : TypeId) (z : Value) (size bytes : Nat) (ht : P.underlying t = some (.slice e)) (hinfo : (P.info? e).map (fun i => (i.zero, i.size, i.bytes)) = some (some z, size, bytes))
    (hzs : z.cells.size = size) (hsz : 0 < size) (A : Option Addr) (n c : Nat) (xs : List Value) (h : w.ownsRow base e size (.slice A n c) n xs)
    (A2 : Option Addr) (m c2 : Nat) (news : List Value) (hl : news.length = m * size) (hnews : ∀ j u, news[j]? = some u → ∃ a, A2 = some a ∧ w.cell? (a.add j) = some u) (h1 : ∀ u ∈ news, u.oneCell' = true)
    (hnil : A2 = none → m = 0 ∧ c2 = 0) (hmax : n + m ≤ maxLen) (hb : (n + m) * bytes ≤ 140737488355328) (hbase : base ≤ w.heap.size) :
    ∃ A' c' w', (Builtin.append_ #[t, t] ty #[.slice A n c, .slice A2 m c2]).run P w = .ok (.slice A' (n + m) c') w' ∧ w'.ownsRow base e size (.slice A' (n + m) c') (n + m) (xs ++ news) ∧
      w.grownBy w' (Value.slice A n c).ownBlock ∧ ((Value.slice A' (n + m) c').ownBlock = (Value.slice A n c).ownBlock ∨ (Value.slice A' (n + m) c').ownBlock = some w.heap.size) := by
  obtain ⟨i, hi, hz, hs, hy⟩ := info_parts hinfo
  cases A2 with
  | none =>
    obtain ⟨rfl, rfl⟩ := hnil rfl
    have e2 : news = [] := List.eq_nil_of_length_eq_zero (by omega)
    subst e2
    exact ⟨A, c, w, run_append_owned_none (P := P) (w := w) base _ ty e i size ht hi _ n xs h, by simpa using h, World.grownBy.refl _ _, .inl rfl⟩
  | some ad =>
    obtain ⟨v', w', hr, ho, hg, hn, hat⟩ := run_append_own_at (P := P) (w := w) base t ty e i z size bytes ht hi hz hs hy hzs hsz (.slice A n c) n xs h ad m c2 news hl
      (fun j u hu => by obtain ⟨a', e, hc⟩ := hnews j u hu; injection e with e; subst e; exact hc) h1 hmax hb hbase
    rcases ho.2 with ⟨e, h0⟩ | ⟨g, cap, cur, e, _⟩
    · have h00 : Value.slice none 0 0 = .slice none (n + m) 0 := by rw [h0]
      rw [h00] at e
      subst e
      exact ⟨none, 0, w', hr, ho, hg, hat⟩
    · subst e
      exact ⟨_, cap, w', hr, ho, hg, hat⟩

/-- the same, at a step of a region that draws, or of a plain one. -/
theorem wp_appG {P : Program} {o : Oper} {a : Act} {w : World} {K : Act → World → Prop} {R : Exit → Act → World → Prop} (t : TypeId) (s x : Operand)
    (ho : o.op = .call { callee := .builtin .append, args := #[s, x], argTypes := #[t, t] })
    (base : Nat) (e : TypeId) (z : Value) (size bytes : Nat) (ht : P.underlying t = some (.slice e)) (hinfo : (P.info? e).map (fun i => (i.zero, i.size, i.bytes)) = some (some z, size, bytes))
    (hzs : z.cells.size = size) (hsz : 0 < size) (A : Option Addr) (n c : Nat) (xs : List Value) (hs : a.eval s = .slice A n c) (h : w.ownsRow base e size (.slice A n c) n xs)
    (A2 : Option Addr) (m c2 : Nat) (news : List Value) (hx : a.eval x = .slice A2 m c2) (hl : news.length = m * size) (hnews : ∀ j u, news[j]? = some u → ∃ a, A2 = some a ∧ w.cell? (a.add j) = some u) (h1 : ∀ u ∈ news, u.oneCell' = true)
    (hnil : A2 = none → m = 0 ∧ c2 = 0) (hmax : n + m ≤ maxLen) (hb : (n + m) * bytes ≤ 140737488355328) (hbase : base ≤ w.heap.size)
    (hK : ∀ A' c' w', w'.ownsRow base e size (.slice A' (n + m) c') (n + m) (xs ++ news) → w.grownBy w' (Value.slice A n c).ownBlock →
      ((Value.slice A' (n + m) c').ownBlock = (Value.slice A n c).ownBlock ∨ (Value.slice A' (n + m) c').ownBlock = some w.heap.size) → K (a.put o.dst (.slice A' (n + m) c')) w') : Oper.wp P o a w K R := by
  obtain ⟨A', c', w', hr, h3, h4, h5⟩ := run_appG (P := P) (w := w) base t o.type e z size bytes ht hinfo hzs hsz A n c xs h A2 m c2 news hl hnews h1 hnil hmax hb hbase
  unfold Oper.wp execOp
  simp only [ho, resolve, invoke, builtin, Sem.run_bind, Sem.run_pure, Result.andThen_ok, List.map_toArray, List.map_cons, List.map_nil, hs, hx, hr]
  exact hK A' c' w' h3 h4 h5
theorem wanted_plain {ops : Array Oper} {o : Oper} {a : Act} (hgd : o.guard = none) : Region.wanted o (yielded ops a.tmps) = true := by simp [Region.wanted, hgd]
theorem below_grown {B : Nat} {w w' : World} {row : Option Nat} (hg : w.grownBy w' row) (hB : B ≤ w.heap.size) (hr : ∀ k, row = some k → B ≤ k) : Below B w w' := (Below.refl _ _).grown hg hB hr
end Go.Proofs.Ytlbjobbmjccekaa

/- Contracts: slices.Insert of one pair into a list of the call's own. -/
namespace Go.Proofs.Ytlbjobbmjccekaa
set_option maxRecDepth 100000
open Go.RowKit Prm
set_option linter.unusedVariables false

theorem shape_row {w : World} {b : Nat} {cs : Array Value} {t : TypeId} {m : Nat × Nat} (h : w.heap[b]? = some (.cells cs t m)) : w.shape? b = some (t, cs.size) := by simp [World.shape?, h]
theorem size_pair : ∀ w, (Go.sizeOf 99).run Try.prog w = .ok 2 w := by
  obtain ⟨t, hi, hz, hs, hy⟩ := info_parts pairK.info
  have hi' : Try.prog.info? 99 = some t := hi
  have hs' : t.size = 2 := hs
  intro w
  simp [sizeOf, typeInfo, hi', hs']

/-- what both ways of an insertion leave in a row. -/
theorem shift_list {α : Type} (K : Kind α) (l : List α) (p : α) (xs : List Value) (i n c : Nat) (hi : i ≤ n) (hl : l.length = n) (hc : n + 1 ≤ c) (hx : xs.length = c * K.k) (ht : xs.take (n * K.k) = K.rows l) :
    ((xs.take ((i + 1) * K.k) ++ K.rows (l.drop i) ++ xs.drop ((i + 1) * K.k + (K.rows (l.drop i)).length)).take (i * K.k) ++ K.row p ++ (xs.take ((i + 1) * K.k) ++ K.rows (l.drop i) ++ xs.drop ((i + 1) * K.k + (K.rows (l.drop i)).length)).drop (i * K.k + (K.row p).length)).take ((n + 1) * K.k) = K.rows (l.take i ++ p :: l.drop i) := by
  have hnk : n * K.k + K.k ≤ c * K.k := by
    have : (n + 1) * K.k ≤ c * K.k := Nat.mul_le_mul_right _ hc
    rw [Nat.add_mul] at this; omega
  have hik : i * K.k ≤ n * K.k := Nat.mul_le_mul_right _ hi
  have e1 : (i + 1) * K.k = i * K.k + K.k := by rw [Nat.add_mul]; omega
  have e2 : (n + 1) * K.k = n * K.k + K.k := by rw [Nat.add_mul]; omega
  have hR : (K.rows (l.drop i)).length = n * K.k - i * K.k := by rw [K.rows_len, List.length_drop, hl, Nat.sub_mul]
  have hlt : (xs.take ((i + 1) * K.k)).length = (i + 1) * K.k := by rw [List.length_take]; omega
  have h1 : (xs.take ((i + 1) * K.k) ++ K.rows (l.drop i) ++ xs.drop ((i + 1) * K.k + (K.rows (l.drop i)).length)).take (i * K.k) = K.rows (l.take i) := by
    rw [List.append_assoc, List.take_append_of_le_length (by omega), List.take_take, Nat.min_eq_left (by omega), K.rows_take, ← ht, List.take_take, Nat.min_eq_left hik]
  have h2 : (xs.take ((i + 1) * K.k) ++ K.rows (l.drop i) ++ xs.drop ((i + 1) * K.k + (K.rows (l.drop i)).length)).drop (i * K.k + (K.row p).length) = K.rows (l.drop i) ++ xs.drop ((i + 1) * K.k + (K.rows (l.drop i)).length) := by
    rw [K.len, ← e1, List.append_assoc, List.drop_left' hlt]
  have h3 : (K.rows (l.take i) ++ K.row p ++ K.rows (l.drop i)).length = (n + 1) * K.k := by
    simp only [List.length_append, K.rows_len, K.len, List.length_take, List.length_drop, hl, Nat.min_eq_left hi, Nat.sub_mul]
    omega
  rw [h1, h2, K.rows_app, Kind.rows, ← List.append_assoc (K.rows (l.take i) ++ K.row p), List.take_left' h3, List.append_assoc]
theorem grow_list {α : Type} (K : Kind α) (l : List α) (p : α) (xs : List Value) (i n c : Nat) (hi : i ≤ n) (hl : l.length = n) (hc : n + 1 ≤ c) (hx : xs.length = c * K.k) (ht : xs.take (i * K.k) = K.rows (l.take i)) :
    ((xs.take (i * K.k) ++ K.row p ++ xs.drop (i * K.k + (K.row p).length)).take ((i + 1) * K.k) ++ K.rows (l.drop i) ++ (xs.take (i * K.k) ++ K.row p ++ xs.drop (i * K.k + (K.row p).length)).drop ((i + 1) * K.k + (K.rows (l.drop i)).length)).take ((n + 1) * K.k) = K.rows (l.take i ++ p :: l.drop i) := by
  have e1 : (i + 1) * K.k = i * K.k + K.k := by rw [Nat.add_mul]; omega
  have h0 : (K.rows (l.take i) ++ K.row p).length = (i + 1) * K.k := by
    simp only [List.length_append, K.rows_len, K.len, List.length_take, hl, Nat.min_eq_left hi]; omega
  rw [ht, List.take_left' h0]
  have h3 : (K.rows (l.take i) ++ K.row p ++ K.rows (l.drop i)).length = (n + 1) * K.k := by
    have : i * K.k ≤ n * K.k := Nat.mul_le_mul_right _ hi
    simp only [List.length_append, K.rows_len, K.len, List.length_take, List.length_drop, hl, Nat.min_eq_left hi, Nat.sub_mul, Nat.add_mul]
    omega
  rw [List.take_left' h3, K.rows_app, Kind.rows, List.append_assoc]

set_option maxHeartbeats 2000000 in
/-- at the end. -/
theorem insert_end (base : Nat) (A : Option Addr) (n c : Nat) (l : List Pr) (p : Pr) (vb : Nat) (w : World) (h : OwnK pairK w base A n c l) (hv : Lst pairK w (some ⟨vb, 0, none⟩) 1 [p]) (hn : (n + 1) * 32 ≤ 140737488355328) (hbase : base ≤ w.heap.size) :
    Calls Try.prog 86 #[.slice A n c, .int .i64 n, .slice (some ⟨vb, 0, none⟩) 1 1] w fun e w' => RetB pairK w base (n + 1) (l ++ [p]) e w' := by
  have HO := Lib.hid h
  have HV := Lib.hid hv
  have hcap := h.cap
  have hle := h.le
  unfold maxLen at hcap
  clear h hv
  cases A with
  | none =>
    obtain ⟨rfl, rfl, rfl⟩ : n = 0 ∧ c = 0 ∧ l = [] := by
      rcases HO.out.parts with ⟨_, a, b, d⟩ | ⟨g, cur, e, _⟩
      · exact ⟨a, b, d⟩
      · cases e
    go_enter Try.func86, Try.ntmps86
    go_wp2_with (at_builtin
                 refine wpl_appK pairK rfl (.tmp 23) (.tmp 24) 38 rfl rfl base none 0 0 [] rfl HO.out (some ⟨vb, 0, none⟩) 1 1 [p] rfl HV.out (fun e => by cases e) hn hbase ?_
                 intro A1 c1 w1 ho1 hb1)
    go_ret
    exact ⟨A1, c1, rfl, ho1, hb1⟩
  | some ad =>
    obtain ⟨ab, ao, asp⟩ := ad
    go_enter Try.func86, Try.ntmps86
    go_wp2_with (at_builtin
                 refine wpl_appK pairK rfl (.tmp 23) (.tmp 24) 38 rfl rfl base (some ⟨ab, ao, asp⟩) n c l rfl HO.out (some ⟨vb, 0, none⟩) 1 1 [p] rfl HV.out (fun e => by cases e) hn hbase ?_
                 intro A1 c1 w1 ho1 hb1)
    all_goals go_ret
    all_goals exact ⟨A1, c1, rfl, ho1, hb1⟩

set_option maxHeartbeats 4000000 in
/-- in the midst, where there is room: in place. -/
theorem insert_shift (base g n c i : Nat) (l : List Pr) (p : Pr) (vb : Nat) (w : World) (h : OwnK pairK w base (some ⟨g, 0, none⟩) n c l) (hb : w.heap[vb]? = some (.cells #[.string p.key, .string p.val] 99 (0, 0))) (hne : vb ≠ g) (hi : i < n) (hroom : n + 1 ≤ c) :
    Calls Try.prog 86 #[.slice (some ⟨g, 0, none⟩) n c, .int .i64 i, .slice (some ⟨vb, 0, none⟩) 1 1] w fun e w' => RetB pairK w base (n + 1) (l.take i ++ p :: l.drop i) e w' := by
  have hcap := h.cap
  unfold maxLen at hcap
  have hll := h.len
  obtain ⟨xs, hR, hxs⟩ := h.row
  have hov : ∀ lb cb, (callFunc 88 #[.slice (some ⟨vb, 0, none⟩) 1 1, .slice (some ⟨g, (i + 1) * 2, none⟩) lb cb]).run Try.prog w = .ok (.value (.bool false)) w := fun lb cb => by
    obtain ⟨g', cur, e, hgb, hh, hc', hm', hs', ht'⟩ := h.parts.resolve_left (fun e => by cases e.1)
    injection e with e
    injection e with e
    subst e
    rw [run_callFunc_extern Try.func88 (by kernel_rfl) (by kernel_rfl) (by kernel_rfl) (e := Extern.SlicesOverlaps.overlaps #[38, 38] #[4]) (by kernel_rfl),
      Lib.run_overlaps_apart w 38 4 99 Try.underlying38 2 size_pair ⟨vb, 0, none⟩ ⟨g, (i + 1) * 2, none⟩ 1 1 lb cb hne _ _ _ _ (shape_row hb) (shape_row hh)
        (by have : c * 2 = cur.size := hs'.symm; omega) (frozen_of_row w vb 0 _ _ hb) (frozen_of_row w vb _ _ _ hb)]
    rfl
  have h1 := Lib.hid hov
  have hR0 := Lib.hid hR
  have HX := Lib.hid hxs
  have hX := Lib.hid hR.len
  have hrl : (pairK.rows (l.drop i)).length = (n - i) * 2 := by rw [pairK.rows_len, List.length_drop, hll]; rfl
  have hsrc1 := Lib.hid (fun (j : Nat) (v : Value) (hj : (pairK.rows (l.drop i))[j]? = some v) => show w.drew.cell? ((⟨g, i * 2, none⟩ : Addr).add j) = some v by
    have hjl := (List.getElem?_eq_some_iff.1 hj).1
    rw [Addr.add_lit]
    show w.cell? _ = _
    rw [hR.cell (i * 2 + j) (by have : pairK.k = 2 := rfl; rw [this]; omega)]
    rw [pairK.rows_drop, List.getElem?_drop, ← hxs, List.getElem?_take] at hj
    split at hj
    · exact hj
    · cases hj)
  have HL2 := Lib.hid (show (pairK.rows (l.drop i)).length = Nat.min (n + 1 - i) (n - i) * pairK.k by rw [hrl, show Nat.min (n + 1 - i) (n - i) = n - i from Nat.min_eq_right (by omega)]; rfl)
  have HL3 := Lib.hid (show (i + 1) * 2 + (pairK.rows (l.drop i)).length ≤ c * pairK.k by rw [hrl]; show _ ≤ c * 2; omega)
  have H1R := Lib.hid (pairK.rows_one (l.drop i))
  have hvs := Lib.hid (fun (j : Nat) (v : Value) (hj : (pairK.row p)[j]? = some v) => show w.drew.cell? ((⟨vb, 0, none⟩ : Addr).add j) = some v by
    rw [Addr.add_lit, Nat.zero_add]
    exact (cell_of_row w vb j _ _ _ hb).trans (by simpa [pairK] using hj))
  have hvl : vb < w.heap.size := (Array.getElem?_eq_some_iff.1 hb).1
  have HB := Lib.hid hb
  have HL := Lib.hid hrl
  have hge := Lib.hid hR.ge
  clear hb h hov hR hxs hrl
  have hz2 : ((i : Int) == (n : Int)) = false := by simp; omega
  have hb2 : ¬ (c = i + 1) := by omega
  have hb4 : ¬ (c = i) := by omega
  have hb1 : (0 : Int) ≤ (i : Int) + 1 := by omega
  have htn : ((i : Int) + 1).toNat = i + 1 := by omega
  have hb3 : (i : Int) ≤ (n : Int) + 1 := by omega
  have hll' := Lib.hid hll
  clear hll
  have hov := h1.out
  have hin : i ≤ n := Nat.le_of_lt hi
  have hin1 : i ≤ n + 1 := by omega
  have hw1 : IntKind.i64.wrap ((i : Int) + 1) = (i : Int) + 1 := by rw [IntKind.wrap_i64]; omega
  go_enter Try.func86, Try.ntmps86
  go_wp2_with (simp only [hov])
  go_region_law ((refine step_copyK pairK (by rfl) (.tmp 73) (.tmp 76) _ _ (by rfl) (by rfl) base g c ((i + 1) * 2) xs (n - i) (c - (i + 1)) ⟨g, i * 2, none⟩ (n + 1 - i) (c - i) (by simp [Act.eval, Act.put]) (by simp [Act.eval, Act.put]) hR0.out.drew (pairK.rows (l.drop i)) HL2.out hsrc1.out HL3.out H1R.out ?_); intro w1 hr1 hg1)
  have HR1 := Lib.hid hr1
  have HG1 := Lib.hid hg1
  clear hr1 hg1 hw1 hov
  have hvs1 := Lib.hid (fun (j : Nat) (v : Value) (hj : (pairK.row p)[j]? = some v) => show w1.cell? ((⟨vb, 0, none⟩ : Addr).add j) = some v by
    rw [only_cell HG1.out (by rw [addr_block]; exact hvl) (by rw [addr_block]; exact hne)]
    exact hvs.out j v hj)
  obtain ⟨w2, hrun, hr2, hg2⟩ := copy_row pairK HR1.out 38 3 (i * 2) (n + 1 - i) (c - i) ⟨vb, 0, none⟩ 1 1 (pairK.row p) (by rw [show Nat.min 1 (n + 1 - i) = 1 from Nat.min_eq_left (by omega)]; rfl) hvs1.out (by show i * 2 + 2 ≤ c * 2; omega) (pairK.one _)
  have hrun : (Builtin.copy_ #[38, 38] 3 #[.slice (some ⟨g, i * 2, none⟩) (n + 1 - i) (c - i), .slice (some ⟨vb, 0, none⟩) 1 1]).run Try.prog w1 = .ok (goInt (Nat.min 1 (n + 1 - i))) w2 := hrun
  have hr2 := Lib.hid hr2
  have hg2 := Lib.hid hg2
  go_wp2_with (simp only [hrun])
  go_ret
  refine ⟨_, _, rfl, hr2.out.own hroom ?_, ?_⟩
  · exact shift_list pairK l p xs i n c (Nat.le_of_lt hi) hll'.out hroom hX.out HX.out
  · exact (below_grown ((only_drew (only_refl w g)).trans (HG1.out.trans hg2.out)) (by have := hge.out; omega) (fun k hk => by injection hk with hk; have := hge.out; omega))

set_option maxHeartbeats 4000000 in
/-- in the midst, where there is no room: a new row. -/
theorem insert_grow (base g n c i : Nat) (l : List Pr) (p : Pr) (vb : Nat) (w : World) (h : OwnK pairK w base (some ⟨g, 0, none⟩) n c l) (hb : w.heap[vb]? = some (.cells #[.string p.key, .string p.val] 99 (0, 0))) (hi : i < n) (hroom : c < n + 1) (hn : (n + 1) * 32 ≤ 140737488355328) (hbase : base ≤ w.heap.size) :
    Calls Try.prog 86 #[.slice (some ⟨g, 0, none⟩) n c, .int .i64 i, .slice (some ⟨vb, 0, none⟩) 1 1] w fun e w' => RetB pairK w base (n + 1) (l.take i ++ p :: l.drop i) e w' := by
  have hcap := h.cap
  have hle := h.le
  unfold maxLen at hcap
  have hll := h.len
  have hgw := h.block_lt.2
  have hvl : vb < w.heap.size := (Array.getElem?_eq_some_iff.1 hb).1
  have hlt := Lib.hid (show (pairK.rows (l.take i)).length = i * pairK.k by rw [pairK.rows_len, List.length_take, hll, Nat.min_eq_left (Nat.le_of_lt hi)])
  have hcell : ∀ j v, (pairK.rows l)[j]? = some v → w.cell? ⟨g, j, none⟩ = some v := fun j v hj => by
    have hjl := (List.getElem?_eq_some_iff.1 hj).1
    rw [pairK.rows_len, hll] at hjl
    rw [World.ownsRow.cellAt h j hjl]; exact hj
  have hold := Lib.hid (fun (j : Nat) (v : Value) (hj : (pairK.rows (l.take i))[j]? = some v) => show w.cell? ((⟨g, 0, none⟩ : Addr).add j) = some v by
    rw [Addr.add_lit, Nat.zero_add]
    rw [pairK.rows_take, List.getElem?_take] at hj
    split at hj
    · exact hcell j v hj
    · cases hj)
  have hrest := Lib.hid (fun (j : Nat) (v : Value) (hj : (pairK.rows (l.drop i))[j]? = some v) => show w.cell? ((⟨g, i * 2, none⟩ : Addr).add j) = some v by
    rw [Addr.add_lit]
    rw [pairK.rows_drop, List.getElem?_drop] at hj
    exact hcell _ v hj)
  have hrl := Lib.hid (show (pairK.rows (l.drop i)).length = (n - i) * 2 by rw [pairK.rows_len, List.length_drop, hll]; rfl)
  have hvs := Lib.hid (fun (j : Nat) (v : Value) (hj : (pairK.row p)[j]? = some v) => show w.cell? ((⟨vb, 0, none⟩ : Addr).add j) = some v by
    rw [Addr.add_lit, Nat.zero_add]
    exact (cell_of_row w vb j _ _ _ hb).trans (by simpa [pairK] using hj))
  have hll' := Lib.hid hll
  clear hb h hll hcell
  have hz2 : ((i : Int) == (n : Int)) = false := by simp; omega
  have hz3 : (c : Int) < (n : Int) + 1 := by omega
  have hci : ¬ (c = i) := by omega
  have hb1 : (0 : Int) ≤ (i : Int) + 1 := by omega
  have htn : ((i : Int) + 1).toNat = i + 1 := by omega
  have hb3 : (i : Int) ≤ (n : Int) + 1 := by omega
  have hin : i ≤ n := Nat.le_of_lt hi
  have hin1 : i ≤ n + 1 := by omega
  have hw1 : IntKind.i64.wrap ((i : Int) + 1) = (i : Int) + 1 := by rw [IntKind.wrap_i64]; omega
  go_enter Try.func86, Try.ntmps86
  go_wp2_with (at_builtin
               refine wpl_zerosK pairK rfl (.tmp 34) (.tmp 39) 38 3 rfl Try.underlying3 rfl base ⟨g, 0, none⟩ i c (n + 1 - i) (n + 1) (by omega) ((n : Int) + 1 - i) (by omega) rfl rfl (pairK.rows (l.take i)) hlt.out hold.out (by omega) (by omega) (by rw [show i + (n + 1 - i) = n + 1 by omega]; exact hn) hbase ?_
               intro G w1 xs hr1 ht1 hG q1 hGm hs1
               have hr1 := Lib.hid hr1
               have ht1 := Lib.hid ht1
               have hs1 := Lib.hid hs1
               unfold maxLen at hGm
               have hGi : ¬ (G = i) := by omega
               have hGi1 : ¬ (G = i + 1) := by omega)
  have Q1 := Lib.hid q1
  have hgH : w.heap.size ≠ vb := by omega
  have hgG : w.heap.size ≠ g := by omega
  have hvs1 := Lib.hid (fun (j : Nat) (v : Value) (hj : (pairK.row p)[j]? = some v) => show w1.cell? ((⟨vb, 0, none⟩ : Addr).add j) = some v from (q1.below.cell (by rw [addr_block]; exact hvl)).trans (hvs.out j v hj))
  clear q1
  obtain ⟨w2, hrun, hr2, hg2⟩ := copy_row pairK hr1.out 38 3 (i * 2) (n + 1 - i) (G - i) ⟨vb, 0, none⟩ 1 1 (pairK.row p) (by rw [show Nat.min 1 (n + 1 - i) = 1 from Nat.min_eq_left (by omega)]; rfl) hvs1.out (by show i * 2 + 2 ≤ G * 2; omega) (pairK.one _)
  have hrun : (Builtin.copy_ #[38, 38] 3 #[.slice (some ⟨w.heap.size, i * 2, none⟩) (n + 1 - i) (G - i), .slice (some ⟨vb, 0, none⟩) 1 1]).run Try.prog w1 = .ok (goInt (Nat.min 1 (n + 1 - i))) w2 := hrun
  have hr2 := Lib.hid hr2
  have hg2 := Lib.hid hg2
  have hrest2 := Lib.hid (fun (j : Nat) (v : Value) (hj : (pairK.rows (l.drop i))[j]? = some v) => show w2.drew.cell? ((⟨g, i * 2, none⟩ : Addr).add j) = some v from
    (only_cell hg2.out (p := (⟨g, i * 2, none⟩ : Addr).add j) (by rw [addr_block]; show g < _; have := hs1.out; omega) (by rw [addr_block]; exact fun e => hgG e.symm)).trans ((Q1.out.below.cell (by rw [addr_block]; exact hgw)).trans (hrest.out j v hj)))
  have HL2 := Lib.hid (show (pairK.rows (l.drop i)).length = Nat.min (n - i) (n - i) * pairK.k by rw [hrl.out, show Nat.min (n - i) (n - i) = n - i from Nat.min_self _]; rfl)
  have HL3 := Lib.hid (show (i + 1) * 2 + (pairK.rows (l.drop i)).length ≤ G * pairK.k by rw [hrl.out]; show _ ≤ G * 2; omega)
  have H1R := Lib.hid (pairK.rows_one (l.drop i))
  go_wp2_with (simp only [hrun])
  clear hrun
  go_region_law ((refine step_copyK pairK (by rfl) (.tmp 50) (.tmp 53) _ _ (by rfl) (by rfl) base w.heap.size G ((i + 1) * 2) _ (n - i) (G - (i + 1)) ⟨g, i * 2, none⟩ (n - i) (c - i) (by simp [Act.eval, Act.put]) (by simp [Act.eval, Act.put]) hr2.out.drew (pairK.rows (l.drop i)) HL2.out hrest2.out HL3.out H1R.out ?_); intro w3 hr3 hg3)
  have hr3 := Lib.hid hr3
  have hg3 := Lib.hid hg3
  go_wp2
  go_ret
  refine ⟨_, _, rfl, hr3.out.own hG ?_, ?_⟩
  · exact grow_list pairK l p xs i n G (Nat.le_of_lt hi) hll'.out hG hr1.out.len ht1.out
  · have g2 := only_drew hg2.out
    exact ((Q1.out.below.mono hbase).trans (below_grown (g2.trans hg3.out) (by have := hs1.out; omega) (fun k hk => by injection hk with hk; omega)))
end Go.Proofs.Ytlbjobbmjccekaa
