/- Whole rows of a kind of elements: copy, clear, and an append of zero values, at elements of any size. -/
import Derived.Test.YtbclamfpoigneaaKind
import Derived.Laws.IdiomCopy
import Derived.Lib.AppendZerosOnto
import Derived.Deep.RegionLaw
namespace Go.Proofs.Ytbclamfpoigneaa
set_option maxRecDepth 100000
open Go.RowKit
set_option linter.unusedVariables false

variable {α : Type}

/-- block g is a row of c elements, whose cells are xs. -/
def RowK (K : Kind α) (w : World) (base g c : Nat) (xs : List Value) : Prop := w.ownsRow base K.T K.k (.slice (some ⟨g, 0, none⟩) c c) c xs

section
variable {K : Kind α} {w w' : World} {base g n c : Nat} {l : List α} {xs : List Value}
theorem OwnK.row (h : OwnK K w base (some ⟨g, 0, none⟩) n c l) : ∃ xs, RowK K w base g c xs ∧ xs.take (n * K.k) = K.rows l := by
  rcases h.parts with ⟨e, _⟩ | ⟨g', cur, e, hb, hh, hc, hm, hs, ht⟩
  · cases e
  injection e with e
  injection e with e
  subst e
  exact ⟨cur.toList, ⟨by simpa using hs, .inr ⟨g, c, cur, rfl, hb, hh, Nat.le_refl _, hm, hs, List.take_of_length_le (Nat.le_of_eq ((Array.length_toList).trans hs))⟩⟩, ht⟩
theorem RowK.own (h : RowK K w base g c xs) (hn : n ≤ c) (hl : xs.take (n * K.k) = K.rows l) : OwnK K w base (some ⟨g, 0, none⟩) n c l := by
  have := owns_short h hn
  rw [hl] at this
  exact this
theorem RowK.len (h : RowK K w base g c xs) : xs.length = c * K.k := h.1
theorem RowK.cell (h : RowK K w base g c xs) (j : Nat) (hj : j < c * K.k) : w.cell? ⟨g, j, none⟩ = xs[j]? := World.ownsRow.cellAt h j hj
theorem RowK.some (h : RowK K w base g c xs) (j : Nat) (hj : j < c * K.k) : (w.cell? ⟨g, j, none⟩).isSome = true := by
  rw [h.cell j hj, List.getElem?_eq_getElem (by rw [h.len]; exact hj)]; rfl
theorem RowK.free (h : RowK K w base g c xs) (j : Nat) : w.frozen? ⟨g, j, none⟩ = false := World.ownsRow.frozenAt h _
theorem RowK.drew (h : RowK K w base g c xs) : RowK K w.drew base g c xs := h
theorem RowK.q (h : RowK K w base g c xs) (hq : Q w w') : RowK K w' base g c xs := by
  refine ⟨h.1, ?_⟩
  rcases h.2 with ⟨e, h0⟩ | ⟨g, cap, cur, e, hg, hh, r⟩
  · exact .inl ⟨e, h0⟩
  · have hlt : g < w.heap.size := (Array.getElem?_eq_some_iff.1 hh).1
    exact .inr ⟨g, cap, cur, e, hg, (hq.below.block g hlt).trans hh, r⟩
theorem RowK.ge (h : RowK K w base g c xs) : base ≤ g ∧ g < w.heap.size := by
  rcases h.2 with ⟨e, h0⟩ | ⟨g', cap, cur, e, hg, hh, r⟩
  · cases e
  · injection e with e
    injection e with e
    injection e with e
    subst e
    exact ⟨hg, (Array.getElem?_eq_some_iff.1 hh).1⟩
theorem RowK.sets (h : RowK K w base g c xs) (o : Nat) (cs : List Value) (hl : o + cs.length ≤ c * K.k) : RowK K (w.setCells g o cs) base g c (xs.take o ++ cs ++ xs.drop (o + cs.length)) :=
  owns_setCells cs o w xs h (by rw [h.len]; exact hl)
end

theorem run_copyK (K : Kind α) (w : World) (sT ty : TypeId) (b o dLen dCap : Nat) (a : Addr) (sLen sCap : Nat) (cs : List Value) (hn : cs.length = Nat.min sLen dLen * K.k)
    (hsrc : ∀ j v, cs[j]? = some v → w.cell? (a.add j) = some v) (hc : ∀ j, j < cs.length → (w.cell? ⟨b, o + j, none⟩).isSome = true) (hf : ∀ j, j < cs.length → w.frozen? ⟨b, o + j, none⟩ = false) (h1 : ∀ v ∈ cs, v.oneCell' = true) :
    (Builtin.copy_ #[K.S, sT] ty #[.slice (some ⟨b, o, none⟩) dLen dCap, .slice (some a) sLen sCap]).run Try.prog w = .ok (goInt (Nat.min sLen dLen)) (w.setCells b o cs) := by
  obtain ⟨i, hi, hz, hs, hy⟩ := info_parts K.info
  have hst := run_storeCells_cells (P := Try.prog) b o cs 0 w (by simpa using hc) (by simpa using hf) h1
  have hfc := run_firstCells_some (P := Try.prog) (w := w) K.k (Nat.min sLen dLen) a sLen sCap cs hn hsrc
  simp only [Nat.add_zero] at hst
  simp [Builtin.copy_, run_underlying K.und, Builtin.lenOf, sizeOf, typeInfo, hi, hs, hfc, hst]

/-- copy into a row, from elsewhere or from the row itself; only block g turns. -/
theorem copy_row (K : Kind α) {w : World} {base g c : Nat} {xs : List Value} (h : RowK K w base g c xs) (sT ty : TypeId) (o dLen dCap : Nat) (a : Addr) (sLen sCap : Nat) (cs : List Value) (hn : cs.length = Nat.min sLen dLen * K.k)
    (hsrc : ∀ j v, cs[j]? = some v → w.cell? (a.add j) = some v) (hl : o + cs.length ≤ c * K.k) (h1 : ∀ v ∈ cs, v.oneCell' = true) :
    ∃ w', (Builtin.copy_ #[K.S, sT] ty #[.slice (some ⟨g, o, none⟩) dLen dCap, .slice (some a) sLen sCap]).run Try.prog w = .ok (goInt (Nat.min sLen dLen)) w' ∧ RowK K w' base g c (xs.take o ++ cs ++ xs.drop (o + cs.length)) ∧ w.grownBy w' (some g) :=
  ⟨_, run_copyK K w sT ty g o dLen dCap a sLen sCap cs hn hsrc (fun j hj => h.some _ (by omega)) (fun j hj => h.free _) h1, h.sets o cs hl, only_sets cs o w (only_refl w g)⟩

theorem wpl_copyK (K : Kind α) {w : World} {ops : Array Oper} {rest : List Oper} {o : Oper} {a : Act} {R : Exit → Act → World → Prop} (hgd : o.guard = none) (d s : Operand) (t sT : TypeId) (ht : t = K.S)
    (ho : o.op = .call { callee := .builtin .copy, args := #[d, s], argTypes := #[t, sT] }) (base g c off : Nat) (xs : List Value) (dLen dCap : Nat) (ad : Addr) (sLen sCap : Nat) (hd : a.eval d = .slice (some ⟨g, off, none⟩) dLen dCap) (hs : a.eval s = .slice (some ad) sLen sCap)
    (h : RowK K w base g c xs) (cs : List Value) (hn : cs.length = Nat.min sLen dLen * K.k) (hsrc : ∀ j v, cs[j]? = some v → w.cell? (ad.add j) = some v) (hl : off + cs.length ≤ c * K.k) (h1 : ∀ v ∈ cs, v.oneCell' = true)
    (hk : ∀ w', RowK K w' base g c (xs.take off ++ cs ++ xs.drop (off + cs.length)) → w.grownBy w' (some g) → wpList Try.prog ops R rest (a.put o.dst (goInt (Nat.min sLen dLen))) w') : wpList Try.prog ops R (o :: rest) a w := by
  subst ht
  refine wpList_plain hgd fun X hX => ?_
  obtain ⟨w', hr, h3, h4⟩ := copy_row K h sT o.type off dLen dCap ad sLen sCap cs hn hsrc hl h1
  unfold Oper.wp execOp
  simp only [ho, resolve, invoke, builtin, Sem.run_bind, Sem.run_pure, Result.andThen_ok, List.map_toArray, List.map_cons, List.map_nil, hd, hs, hr]
  exact hX _ _ (hk w' h3 h4)

theorem step_copyK (K : Kind α) {ops : Array Oper} {o : Oper} {a : Act} {w : World} {X : Act → World → Prop} {R : Exit → Act → World → Prop} {E : Prop} (hgd : o.guard = none) (d s : Operand) (t sT : TypeId) (ht : t = K.S)
    (ho : o.op = .call { callee := .builtin .copy, args := #[d, s], argTypes := #[t, sT] }) (base g c off : Nat) (xs : List Value) (dLen dCap : Nat) (ad : Addr) (sLen sCap : Nat) (hd : a.eval d = .slice (some ⟨g, off, none⟩) dLen dCap) (hs : a.eval s = .slice (some ad) sLen sCap)
    (h : RowK K w base g c xs) (cs : List Value) (hn : cs.length = Nat.min sLen dLen * K.k) (hsrc : ∀ j v, cs[j]? = some v → w.cell? (ad.add j) = some v) (hl : off + cs.length ≤ c * K.k) (h1 : ∀ v ∈ cs, v.oneCell' = true)
    (hk : ∀ w', RowK K w' base g c (xs.take off ++ cs ++ xs.drop (off + cs.length)) → w.grownBy w' (some g) → X (a.put o.dst (goInt (Nat.min sLen dLen))) w') :
    if Region.wanted o (yielded ops a.tmps) = true then Oper.wp Try.prog o a w X R else E := by
  subst ht
  have hw : Region.wanted o (yielded ops a.tmps) = true := by simp [Region.wanted, hgd]
  rw [if_pos hw]
  obtain ⟨w', hr, h3, h4⟩ := copy_row K h sT o.type off dLen dCap ad sLen sCap cs hn hsrc hl h1
  unfold Oper.wp execOp
  simp only [ho, resolve, invoke, builtin, Sem.run_bind, Sem.run_pure, Result.andThen_ok, List.map_toArray, List.map_cons, List.map_nil, hd, hs, hr]
  exact hk w' h3 h4

theorem zeros_size (z : Array Value) (n : Nat) : (Builtin.zeroCells z n).size = n * z.size := by simp [Builtin.zeroCells]

/-- 'append(s[:i], make(.., m)...)' where s has no room for m more: a new row, that begins with what s[:i] held. -/
theorem zeros_row (K : Kind α) (w : World) (base : Nat) (tn : TypeId) (htn : Try.prog.underlying tn = some (.int .i64)) (ty : TypeId) (ad : Addr) (i c m : Nat) (olds : List Value) (hlen : olds.length = i * K.k) (hold : ∀ j v, olds[j]? = some v → w.cell? (ad.add j) = some v)
    (hm : 0 < m) (hc : c < i + m) (hb : (i + m) * K.bs ≤ 140737488355328) (hbase : base ≤ w.heap.size) :
    ∃ G w' xs, (Builtin.append_ #[K.S, tn] ty #[.slice (some ad) i c, .int .i64 (m : Int)]).run Try.prog w = .ok (.slice (some ⟨w.heap.size, 0, none⟩) (i + m) G) w' ∧ RowK K w' base w.heap.size G xs ∧ xs.take (i * K.k) = olds ∧ i + m ≤ G ∧ Q w w' ∧ G ≤ maxLen ∧ w'.heap.size = w.heap.size + 1 := by
  obtain ⟨t, hi, hz, hs, hy⟩ := info_parts K.info
  have hmax : i + m ≤ maxLen := by
    have : (i + m) * 1 ≤ (i + m) * K.bs := Nat.mul_le_mul_left _ K.bpos
    unfold maxLen; omega
  have hGm := grownCap_le_maxLen w (i + m) c K.T hmax
  have hGn := grownCap_ge w (i + m) c K.T
  have hmb : m * t.bytes ≤ 281474976710656 := by
    rw [hy]
    have : m * K.bs ≤ (i + m) * K.bs := Nat.mul_le_mul_right _ (by omega)
    omega
  have h := Lib.run_append_grow_zeros (P := Try.prog) w K.S tn ty K.T t K.z .i64 .i64 K.und htn hi hz (some ad) i c olds
    (by rw [hs]; exact run_firstCells_some (P := Try.prog) (w := w.drew) K.k i ad i c olds hlen hold) m hm (by rw [hs]; exact K.pos) hc (by unfold maxLen at hmax; omega) hmb (by rw [hy]; exact growslice_fits hc hb)
  generalize grownCap w (i + m) c K.T = G at h hGm hGn
  have hsz : (olds.toArray ++ Builtin.zeroCells K.z.cells m ++ Builtin.zeroCells K.z.cells (G - (i + m))).size = G * K.k := by
    simp only [Array.size_append, zeros_size, K.zc, List.size_toArray, hlen]
    rw [← Nat.add_mul, ← Nat.add_mul]
    congr 1
    omega
  refine ⟨G, _, (olds.toArray ++ Builtin.zeroCells K.z.cells m ++ Builtin.zeroCells K.z.cells (G - (i + m))).toList, h, ?_, ?_, hGn, (Q.refl w).drew.alloc _, hGm, by simp⟩
  · exact World.ownsRow_lit (e := K.T) (size := K.k) w.drew _ G hbase hGm hsz
  · simp only [Array.toList_append, List.append_assoc]
    exact List.take_left' hlen

theorem wpl_zerosK (K : Kind α) {w : World} {ops : Array Oper} {rest : List Oper} {o : Oper} {a : Act} {R : Exit → Act → World → Prop} (hgd : o.guard = none) (s x : Operand) (t tn : TypeId) (ht : t = K.S) (htn : Try.prog.underlying tn = some (.int .i64))
    (ho : o.op = .call { callee := .builtin .append, args := #[s, x], argTypes := #[t, tn] }) (base : Nat) (ad : Addr) (i c m N : Nat) (hN : i + m = N) (y : Int) (hy : y = (m : Int)) (hs : a.eval s = .slice (some ad) i c) (hx : a.eval x = .int .i64 y)
    (olds : List Value) (hlen : olds.length = i * K.k) (hold : ∀ j v, olds[j]? = some v → w.cell? (ad.add j) = some v)
    (hm : 0 < m) (hc : c < i + m) (hb : (i + m) * K.bs ≤ 140737488355328) (hbase : base ≤ w.heap.size)
    (hk : ∀ G w' xs, RowK K w' base w.heap.size G xs → xs.take (i * K.k) = olds → N ≤ G → Q w w' → G ≤ maxLen → w'.heap.size = w.heap.size + 1 → wpList Try.prog ops R rest (a.put o.dst (.slice (some ⟨w.heap.size, 0, none⟩) N G)) w') : wpList Try.prog ops R (o :: rest) a w := by
  subst ht hy hN
  refine wpList_plain hgd fun X hX => ?_
  obtain ⟨G, w', xs, hr, h1, h2, h3, h4, h5, h6⟩ := zeros_row K w base tn htn o.type ad i c m olds hlen hold hm hc hb hbase
  unfold Oper.wp execOp
  simp only [ho, resolve, invoke, builtin, Sem.run_bind, Sem.run_pure, Result.andThen_ok, List.map_toArray, List.map_cons, List.map_nil, hs, hx, hr]
  exact hX _ _ (hk G w' xs h1 h2 h3 h4 h5 h6)

theorem zeros_one (z : Value) (hz : ∀ u ∈ z.cells, u.oneCell' = true) (hp : 0 < z.cells.size) (n : Nat) : ∀ u ∈ (Builtin.zeroCells z.cells n).toList, u.oneCell' = true := by
  intro u hu
  simp only [Builtin.zeroCells, Array.toList_map, List.mem_map] at hu
  obtain ⟨i, _, rfl⟩ := hu
  have h : i % z.cells.size < z.cells.size := Nat.mod_lt _ hp
  rw [getElem!_pos z.cells _ h]
  exact hz _ (Array.getElem_mem h)

/-- clear of a part of a row. -/
theorem run_clearK (K : Kind α) {w : World} {base g c : Nat} {xs : List Value} (h : RowK K w base g c xs) (h1 : ∀ u ∈ K.z.cells, u.oneCell' = true) (hzv : ∀ W, (zeroValue K.T).run Try.prog W = .ok K.z W) (ty : TypeId) (o n cp : Nat) (hn : 0 < n) (hl : o + n * K.k ≤ c * K.k) :
    ∃ zs : List Value, zs.length = n * K.k ∧ (∀ cp, (Builtin.clear_ #[K.S] ty #[.slice (some ⟨g, o, none⟩) n cp]).run Try.prog w = .ok (.tuple #[]) (w.setCells g o zs)) := by
  have hzl : (Builtin.zeroCells K.z.cells n).toList.length = n * K.k := by simp [zeros_size, K.zc]
  refine ⟨(Builtin.zeroCells K.z.cells n).toList, hzl, fun cp => ?_⟩
  have hst := run_storeCells_cells (P := Try.prog) g o (Builtin.zeroCells K.z.cells n).toList 0 w (fun j hj => h.some _ (by omega)) (fun j hj => h.free _) (zeros_one K.z h1 (by rw [K.zc]; exact K.pos) n)
  simp only [Nat.add_zero] at hst
  obtain ⟨m, rfl⟩ : ∃ m, n = m + 1 := ⟨n - 1, by omega⟩
  simp [Builtin.clear_, run_underlying K.und, hzv, hst]
end Go.Proofs.Ytbclamfpoigneaa
