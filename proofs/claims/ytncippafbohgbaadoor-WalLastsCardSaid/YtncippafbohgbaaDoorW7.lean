/- WalRec, WalDoes: merged. -/
import Derived.Test.YtncippafbohgbaaDoorW6
import Derived.Test.YtncippafbohgbaaDoorW4
import Derived.Test.YtncippafbohgbaaDoorW3
import Derived.Test.YtncippafbohgbaaDoorW1
import Derived.Test.YtncippafbohgbaaDoorW5
/- The contract of wal.Recover. -/
namespace Go.Proofs.YtncippafbohgbaaDoor
set_option maxRecDepth 100000
open Go.RowKit Dkm Wm
set_option linter.unusedVariables false

/-- a list of texts, wherever it lies. -/
def Strs (w : World) (A : Option Addr) (n : Nat) (rs : List (List UInt8)) : Prop := Holds w w.heap.size 1 A n (rs.map fun r => Value.string (bs r))
theorem Strs.q {w w' : World} {A : Option Addr} {n : Nat} {l : List (List UInt8)} (h : Strs w A n l) (hq : Q w w') : Strs w' A n l := Holds.q h hq
theorem OwnS.strs {w : World} {base : Nat} {A : Option Addr} {n c : Nat} {rs : List (List UInt8)} (h : OwnS w base A n c rs) : Strs w A n rs := by
  refine ⟨h.1, fun j u hu => ?_⟩
  rcases h.2 with ⟨e, h0⟩ | ⟨g, cap, cur, e, hb, hh, hc, hm, hs, ht⟩
  · have := (List.getElem?_eq_some_iff.1 hu).1
    rw [h.1] at this; omega
  · injection e with e1 e2 e3
    subst e1 e3
    have hj : j < n * 1 := by
      have := (List.getElem?_eq_some_iff.1 hu).1; rw [h.1] at this; exact this
    refine ⟨_, rfl, ?_, ?_⟩
    · rcases Nat.lt_or_ge g w.heap.size with hlt | hge
      · exact hlt
      · rw [Array.getElem?_eq_none hge] at hh; cases hh
    · rw [Addr.add_mid, Nat.zero_add, World.ownsRow.cellAt h j hj]; exact hu
theorem OwnS.len {w : World} {base : Nat} {A : Option Addr} {n c : Nat} {rs : List (List UInt8)} (h : OwnS w base A n c rs) : rs.length = n := by have := h.1; simpa using this
theorem OwnS.nil {w : World} {base : Nat} {A : Option Addr} {n c : Nat} {rs : List (List UInt8)} (h : OwnS w base A n c rs) : A = none → n = 0 ∧ c = 0 := by
  intro hA
  rcases h.2 with ⟨e, h0⟩ | ⟨g, cap, cur, e, _⟩
  · injection e with e1 e2 e3; exact ⟨e2, e3⟩
  · injection e with e1; rw [hA] at e1; cases e1
theorem OwnS.q {w w' : World} {base : Nat} {A : Option Addr} {n c : Nat} {rs : List (List UInt8)} (h : OwnS w base A n c rs) (hq : Q w w') : OwnS w' base A n c rs := by
  refine ⟨h.1, ?_⟩
  rcases h.2 with ⟨e, h0⟩ | ⟨g, cap, cur, e, hg, hh, r⟩
  · exact .inl ⟨e, h0⟩
  · have hlt : g < w.heap.size := by
      rcases Nat.lt_or_ge g w.heap.size with hlt | hge
      · exact hlt
      · rw [Array.getElem?_eq_none hge] at hh; cases hh
    exact .inr ⟨g, cap, cur, e, hg, (hq.below.block g hlt).trans hh, r⟩
theorem OwnS.setCell {w : World} {base : Nat} {A : Option Addr} {n c : Nat} {l : List (List UInt8)} (h : OwnS w base A n c l) {p : Addr} (hp : p.block < base) (u : Value) : OwnS (w.setCell p u) base A n c l := by
  refine ⟨h.1, ?_⟩
  rcases h.2 with ⟨e, h0⟩ | ⟨g, cap, cur, e, hg, hh, r⟩
  · exact .inl ⟨e, h0⟩
  · exact .inr ⟨g, cap, cur, e, hg, (heap_setCell_other w p g u (by omega)).trans hh, r⟩
theorem OwnS.set4 {w : World} {base : Nat} {A : Option Addr} {n c : Nat} {l : List (List UInt8)} (h : OwnS w base A n c l) {b : Nat} (hp : b < base) (x y z u : Value) : OwnS ((((w.setCell ⟨b, 0, none⟩ x).setCell ⟨b, 1, none⟩ y).setCell ⟨b, 2, none⟩ z).setCell ⟨b, 3, none⟩ u) base A n c l :=
  (((h.setCell (p := ⟨b, 0, none⟩) hp x).setCell (p := ⟨b, 1, none⟩) hp y).setCell (p := ⟨b, 2, none⟩) hp z).setCell (p := ⟨b, 3, none⟩) hp u
theorem OwnS.lower {w : World} {base b2 : Nat} {A : Option Addr} {n c : Nat} {rs : List (List UInt8)} (h : OwnS w base A n c rs) (hb : b2 ≤ base) : OwnS w b2 A n c rs := row_lower h hb
theorem ownS_nil (w : World) (base : Nat) : OwnS w base none 0 0 [] := ⟨rfl, .inl ⟨rfl, rfl⟩⟩
theorem row_ne {w : World} {base : Nat} {A : Option Addr} {n c : Nat} {rs : List (List UInt8)} (h : OwnS w base A n c rs) {b : Nat} (hb : b < base) : some b ≠ (Value.slice A n c).ownBlock := by
  rcases h.2 with ⟨e, h0⟩ | ⟨g, cap, cur, e, hg, hh, r⟩
  · rw [e]; simp [Value.ownBlock]
  · rw [e]; simp only [Value.ownBlock, ne_eq, Option.some.injEq]; omega
theorem box_g {w w' : World} {row : Option Nat} {b k : Nat} {v : Value} (hg : w.grownBy w' row) (hne : some b ≠ row) (h : w.cell? ⟨b, k, none⟩ = some v) : w'.cell? ⟨b, k, none⟩ = some v := hg.cell h hne
theorem Bx.grown {w w' : World} {row : Option Nat} {b : Nat} {vs : List Value} (h : Bx w b vs) (hg : w.grownBy w' row) (hne : some b ≠ row) : Bx w' b vs := fun j v hj => by
  have hb : b < w.heap.size := block_lt_of_cell (h j v hj).1
  have e := hg.block b hb hne
  have h1 := h j v hj
  simp only [World.cell?, World.frozen?] at h1 ⊢
  rw [e]; exact h1
theorem Below.of_own {w w' : World} {base : Nat} {A : Option Addr} {n c : Nat} {rs : List (List UInt8)} (h : OwnS w base A n c rs) (hg : w.grownBy w' (Value.slice A n c).ownBlock) (hB : base ≤ w.heap.size) : Below base w w' :=
  below_grown hg hB fun k hk => by
    rcases h.2 with ⟨e, _⟩ | ⟨g, cap, cur, e, hb, _⟩
    · rw [e] at hk; cases hk
    · rw [e] at hk; simp only [Value.ownBlock, Option.some.injEq] at hk; omega

theorem run_appSS {w : World} (base : Nat) (ty : TypeId) (A : Option Addr) (n c : Nat) (l : List (List UInt8)) (h : OwnS w base A n c l) (M : Option Addr) (m mc : Nat) (ms : List (List UInt8)) (h2 : Strs w M m ms)
    (hnil : M = none → m = 0 ∧ mc = 0) (hb : (n + m) * 16 ≤ 140737488355328) (hbase : base ≤ w.heap.size) :
    ∃ A' c' w', (Builtin.append_ #[29, 29] ty #[.slice A n c, .slice M m mc]).run Tryd.prog w = .ok (.slice A' (n + m) c') w' ∧ OwnS w' base A' (n + m) c' (l ++ ms) ∧ w.grownBy w' (Value.slice A n c).ownBlock := by
  obtain ⟨A', c', w', hr, h3, h4, h5⟩ := run_appG (P := Tryd.prog) (w := w) base 29 ty 9 (.string ⟨#[]⟩) 1 16 Tryd.underlying29 infoS rfl (by omega) A n c _ h M m mc _ h2.1
    (fun j u hu => by obtain ⟨a', e, _, hc⟩ := h2.2 j u hu; exact ⟨a', e, hc⟩) (by intro u hu; obtain ⟨_, _, rfl⟩ := List.mem_map.1 hu; rfl) hnil (by unfold maxLen; omega) hb hbase
  exact ⟨A', c', w', hr, by unfold OwnS; rw [List.map_append]; exact h3, h4⟩
theorem step_appS {ops : Array Oper} {o : Oper} {a : Act} {w : World} {K : Act → World → Prop} {R : Exit → Act → World → Prop} {E : Prop} (hgd : o.guard = none) (s x : Operand)
    (ho : o.op = .call { callee := .builtin .append, args := #[s, x], argTypes := #[29, 29] })
    (base : Nat) (A : Option Addr) (n c : Nat) (l : List (List UInt8)) (hs : a.eval s = .slice A n c) (h : OwnS w base A n c l) (M : Option Addr) (m mc : Nat) (ms : List (List UInt8)) (hx : a.eval x = .slice M m mc) (h2 : Strs w M m ms)
    (hnil : M = none → m = 0 ∧ mc = 0) (hb : (n + m) * 16 ≤ 140737488355328) (hbase : base ≤ w.heap.size)
    (hK : ∀ A' c' w', OwnS w' base A' (n + m) c' (l ++ ms) → w.grownBy w' (Value.slice A n c).ownBlock → Below base w w' → K (a.put o.dst (.slice A' (n + m) c')) w') :
    if Region.wanted o (yielded ops a.tmps) = true then Oper.wp Tryd.prog o a w K R else E := by
  rw [if_pos (wanted_plain hgd)]
  obtain ⟨A', c', w', hr, h3, h4⟩ := run_appSS base o.type A n c l h M m mc ms h2 hnil hb hbase
  unfold Oper.wp execOp
  simp only [ho, resolve, invoke, builtin, Sem.run_bind, Sem.run_pure, Result.andThen_ok, List.map_toArray, List.map_cons, List.map_nil, hs, hx, hr]
  exact hK A' c' w' h3 h4 (Below.of_own h h4 hbase)
theorem wpl_appSS {w : World} {ops : Array Oper} {rest : List Oper} {o : Oper} {a : Act} {R : Exit → Act → World → Prop} (hgd : o.guard = none) (s x : Operand)
    (ho : o.op = .call { callee := .builtin .append, args := #[s, x], argTypes := #[29, 29] })
    (base : Nat) (A : Option Addr) (n c : Nat) (l : List (List UInt8)) (hs : a.eval s = .slice A n c) (h : OwnS w base A n c l) (M : Option Addr) (m mc : Nat) (ms : List (List UInt8)) (hx : a.eval x = .slice M m mc) (h2 : Strs w M m ms)
    (hnil : M = none → m = 0 ∧ mc = 0) (hb : (n + m) * 16 ≤ 140737488355328) (hbase : base ≤ w.heap.size)
    (hk : ∀ A' c' w', OwnS w' base A' (n + m) c' (l ++ ms) → w.grownBy w' (Value.slice A n c).ownBlock → Below base w w' → wpList Tryd.prog ops R rest (a.put o.dst (.slice A' (n + m) c')) w') : wpList Tryd.prog ops R (o :: rest) a w := by
  refine wpList_plain hgd fun K hK => ?_
  obtain ⟨A', c', w', hr, h3, h4⟩ := run_appSS base o.type A n c l h M m mc ms h2 hnil hb hbase
  unfold Oper.wp execOp
  simp only [ho, resolve, invoke, builtin, Sem.run_bind, Sem.run_pure, Result.andThen_ok, List.map_toArray, List.map_cons, List.map_nil, hs, hx, hr]
  exact hK _ _ (hk A' c' w' h3 h4 (Below.of_own h h4 hbase))

/-- what Recover tells, in memory of its own. -/
def RetR (w : World) (x : Dk × List (List UInt8) × Int × Int) (e : Ending) (w' : World) : Prop :=
  ∃ A n c L ln lc, e = .returned (.tuple #[dkv A n c x.1.room x.1.fuse x.1.off, .slice L ln lc, .int .i64 x.2.2.1, .int .i64 x.2.2.2]) ∧ Dsk w' A n c x.1.fs ∧ Far w A ∧ OwnS w' w.heap.size L ln lc x.2.1 ∧ Q w w'

theorem scn_len (s : List UInt8) : (scn s).1.length * 4 ≤ s.length := by
  have h1 := flat_four (scn s).1
  have h2 := congrArg List.length (scd s).eq
  rw [List.length_append] at h2; omega
theorem redd_size {B : Nat} (nm : ByteArray) (l : List Fil) (h : ∀ f ∈ l, f.sf.size + f.wt.size ≤ B) : (redd nm l).1.size ≤ B := by
  rcases plc_cases nm l with ⟨_, h0⟩ | ⟨k, hk, _, hn, hf⟩
  · rw [redd_none h0]; exact Nat.zero_le _
  · rw [redd_at hk hn hf, ByteArray.size_append]; exact h _ (List.getElem_mem _)

theorem mx21 {d : Dk} (hB : Bnd 2097152 d) : ∀ f ∈ d.fs, f.sf.size + f.wt.size ≤ maxLen := fun f hf => Nat.le_trans (hB.sum f hf) (by unfold maxLen; omega)
theorem Wm.Bnd.more {B C : Nat} {d : Dk} (h : Bnd B d) (hBC : B ≤ C) : Bnd C d := ⟨fun f hf => Nat.le_trans (h.sum f hf) hBC, h.few, h.room, h.fuse⟩
theorem Sb.grown {w wr w2 : World} {A : Option Addr} {n c : Nat} {room fuse : Int} {off : Bool} {L : Option Addr} {m lc : Nat} {rs : List (List UInt8)} (h : Sb w A n c room fuse off wr) (hl : OwnS wr (w.heap.size + 2) L m lc rs)
    (hg : wr.grownBy w2 (Value.slice L m lc).ownBlock) (hb : Below (w.heap.size + 2) wr w2) : Sb w A n c room fuse off w2 :=
  ⟨Bx.grown h.box hg (row_ne hl (by omega)), Bx.grown h.res hg (row_ne hl (by omega)), h.q.below.trans (hb.mono (by omega))⟩
theorem rows_apart {w : World} {b1 b2 : Nat} {A L : Option Addr} {n c m lc : Nat} {l : List Fil} {rs : List (List UInt8)} (h : Own w b1 A n c l) (hl : OwnS w b2 L m lc rs) : (Value.slice L m lc).ownBlock = none ∨ (Value.slice A n c).ownBlock ≠ (Value.slice L m lc).ownBlock := by
  rcases hl.2 with ⟨e, _⟩ | ⟨g, cap, cur, e, hb, hh, _⟩
  · left; rw [e]; rfl
  · right
    rcases h.2 with ⟨e2, _⟩ | ⟨g2, cap2, cur2, e2, hb2, hh2, _⟩
    · rw [e, e2]; simp [Value.ownBlock]
    · rw [e, e2]
      intro he
      have hgg : g2 = g := by simpa [Value.ownBlock] using he
      subst hgg
      rw [hh] at hh2
      injection hh2 with hh2
      injection hh2 with _ ht _
      exact absurd ht (by decide)
theorem Own.grown {w w2 : World} {b1 b2 : Nat} {A L : Option Addr} {n c m lc : Nat} {l : List Fil} {rs : List (List UInt8)} (h : Own w b1 A n c l) (hl : OwnS w b2 L m lc rs) (hg : w.grownBy w2 (Value.slice L m lc).ownBlock) : Own w2 b1 A n c l := by
  rcases rows_apart h hl with h0 | h0
  · rw [h0] at hg
    refine World.ownsRow.kept h hg ?_
    rcases h.2 with ⟨e2, _⟩ | ⟨g2, cap2, cur2, e2, hb2, hh2, _⟩
    · left; rw [e2]; rfl
    · exact .inr (by rw [e2]; simp [Value.ownBlock])
  · exact World.ownsRow.kept h hg (.inr h0)
theorem Sd.grown {w wr w2 : World} {A : Option Addr} {n c : Nat} {room fuse : Int} {off : Bool} {F : List Fil} {L : Option Addr} {m lc : Nat} {rs : List (List UInt8)} (h : Sd w A n c room fuse off F wr) (hl : OwnS wr (w.heap.size + 2) L m lc rs)
    (hg : wr.grownBy w2 (Value.slice L m lc).ownBlock) (hb : Below (w.heap.size + 2) wr w2) : Sd w A n c room fuse off F w2 := ⟨h.sb.grown hl hg hb, h.own.grown hl hg⟩
theorem Sd.step {w wr w2 : World} {A : Option Addr} {n c : Nat} {room fuse : Int} {off : Bool} {F : List Fil} (h : Sd w A n c room fuse off F wr) (q : Q wr w2) : Sd w A n c room fuse off F w2 := ⟨h.sb.step q, h.own.q q⟩
theorem Sd.endR {w wr : World} {A : Option Addr} {n c : Nat} {d : Dk} {L : Option Addr} {m lc : Nat} {rs : List (List UInt8)} (h : Sd w A n c d.room d.fuse d.off d.fs wr) (hn : n * 48 ≤ 140737488355328) (hl : OwnS wr (w.heap.size + 2) L m lc rs) (seg er : Int) (x y z u : Value) :
    RetR w (d, rs, seg, er) (.returned (.tuple #[dkv A n c d.room d.fuse d.off, .slice L m lc, .int .i64 seg, .int .i64 er])) ((((wr.setCell ⟨w.heap.size + 1, 0, none⟩ x).setCell ⟨w.heap.size + 1, 1, none⟩ y).setCell ⟨w.heap.size + 1, 2, none⟩ z).setCell ⟨w.heap.size + 1, 3, none⟩ u) :=
  ⟨A, n, c, L, m, lc, rfl, (h.own.set4 (b := w.heap.size + 1) (by omega) _ _ _ _).dsk hn, fun ad e => by have h1 := h.own.far_ ad e; omega, (hl.set4 (b := w.heap.size + 1) (by omega) _ _ _ _).lower (by omega), h.sb.q.set4 (b := w.heap.size + 1) (by omega) _ _ _ _⟩
theorem Sv.endR {w wr : World} {A : Option Addr} {n c : Nat} {d : Dk} {L : Option Addr} {m lc : Nat} {rs : List (List UInt8)} (h : Sv w A n c d wr) (hf : Far w A) (hl : OwnS wr (w.heap.size + 2) L m lc rs) (seg er : Int) (x y z u : Value) :
    RetR w (d, rs, seg, er) (.returned (.tuple #[dkv A n c d.room d.fuse d.off, .slice L m lc, .int .i64 seg, .int .i64 er])) ((((wr.setCell ⟨w.heap.size + 1, 0, none⟩ x).setCell ⟨w.heap.size + 1, 1, none⟩ y).setCell ⟨w.heap.size + 1, 2, none⟩ z).setCell ⟨w.heap.size + 1, 3, none⟩ u) :=
  ⟨A, n, c, L, m, lc, rfl, (((h.dsk.away1 (fun hn ad e => (h.away hn ad e).2) 0 _).away1 (fun hn ad e => (h.away hn ad e).2) 1 _).away1 (fun hn ad e => (h.away hn ad e).2) 2 _).away1 (fun hn ad e => (h.away hn ad e).2) 3 _, hf, (hl.set4 (b := w.heap.size + 1) (by omega) _ _ _ _).lower (by omega), h.sb.q.set4 (b := w.heap.size + 1) (by omega) _ _ _ _⟩
theorem recF_end {n : Nat} {d : Dk} {f k last : Int} {rs : List (List UInt8)} (h : ¬ segOk k ∨ (redd (namB k) d.fs).2 ≠ 0) : recF n d f k rs last = (d, rs, last, 0) := by
  cases n with
  | zero => rfl
  | succ n =>
    unfold recF
    by_cases h0 : segOk k
    · rw [if_neg (by simpa using h0), if_pos (h.resolve_left (by simpa using h0))]
    · rw [if_pos h0]
theorem recF_more {d : Dk} {f k last : Int} {rs : List (List UInt8)} {s : ByteArray} (h0 : segOk k) (hr : redd (namB k) d.fs = (s, 0)) (hs : (scn s.data.toList).2 = []) : recF (fuelOf k) d f k rs last = recF (fuelOf (k + 1)) d f (k + 1) (rs ++ (scn s.data.toList).1) k := by
  have hf : fuelOf k = fuelOf (k + 1) + 1 := by have := h0.2; unfold fuelOf; omega
  rw [hf]
  conv => lhs; unfold recF
  rw [if_neg (by simpa using h0), hr]
  dsimp only
  rw [if_neg (by simp), if_pos hs]
theorem recF_cut {d : Dk} {f k last : Int} {rs : List (List UInt8)} {s : ByteArray} (h0 : segOk k) (hr : redd (namB k) d.fs = (s, 0)) (hs : (scn s.data.toList).2 ≠ []) {y : Dk × Int} (hy : cutM d k ⟨(flat (scn s.data.toList).1).toArray⟩ = y) :
    recF (fuelOf k) d f k rs last = if y.2 ≠ 0 then (y.1, [], f, y.2) else (y.1, rs ++ (scn s.data.toList).1, k, 0) := by
  have hf : fuelOf k = fuelOf (k + 1) + 1 := by have := h0.2; unfold fuelOf; omega
  rw [hf]
  conv => lhs; unfold recF
  rw [if_neg (by simpa using h0), hr]
  dsimp only
  rw [if_neg (by simp), if_neg hs, hy]
theorem Sv.putD {w wr w5 : World} {A A5 : Option Addr} {n c n5 c5 : Nat} {room fuse : Int} {off : Bool} {d5 : Dk} (h : Sb w A n c room fuse off wr) (q : Q wr w5) (hd : Dsk w5 A5 n5 c5 d5.fs) (hf : ∀ ad, A5 = some ad → wr.heap.size ≤ ad.block) :
    Sv w A5 n5 c5 d5 ((((w5.setCell ⟨w.heap.size, 0, none⟩ (.slice A5 n5 c5)).setCell ⟨w.heap.size, 1, none⟩ (.int .i64 d5.room)).setCell ⟨w.heap.size, 2, none⟩ (.int .i64 d5.fuse)).setCell ⟨w.heap.size, 3, none⟩ (.bool d5.off)) ∧ Far w A5 := by
  have hlt := h.res.lt
  have ha : ∀ ad, A5 = some ad → ad.block ≠ w.heap.size := fun ad e => by have := hf ad e; omega
  exact ⟨⟨(h.step q).put4 A5 n5 c5 d5.room d5.fuse d5.off, (((hd.away ha 0 _).away ha 1 _).away ha 2 _).away ha 3 _, fun _ ad e => by have := hf ad e; omega⟩, fun ad e => by have := hf ad e; omega⟩
theorem Sv.grown {w wr w2 : World} {A : Option Addr} {n c : Nat} {d : Dk} {L : Option Addr} {m lc : Nat} {rs : List (List UInt8)} (h : Sv w A n c d wr) (hl : OwnS wr (w.heap.size + 2) L m lc rs)
    (hg : wr.grownBy w2 (Value.slice L m lc).ownBlock) (hb : Below (w.heap.size + 2) wr w2) (hne : ∀ ad, A = some ad → some ad.block ≠ (Value.slice L m lc).ownBlock) : Sv w A n c d w2 :=
  ⟨h.sb.grown hl hg hb, ⟨Files.grown h.dsk.files hg hne, h.dsk.nil, h.dsk.le, h.dsk.cap, h.dsk.few⟩, h.away⟩
theorem OwnS.far_ne {w : World} {base : Nat} {A L : Option Addr} {m lc : Nat} {rs : List (List UInt8)} (h : OwnS w base L m lc rs) (hf : ∀ ad, A = some ad → w.heap.size ≤ ad.block) : ∀ ad, A = some ad → some ad.block ≠ (Value.slice L m lc).ownBlock := by
  intro ad e
  have h1 := hf ad e
  rcases h.2 with ⟨e2, _⟩ | ⟨g, cap, cur, e2, hb, hh, _⟩
  · rw [e2]; simp [Value.ownBlock]
  · rw [e2]
    have hlt : g < w.heap.size := by
      rcases Nat.lt_or_ge g w.heap.size with hlt | hge
      · exact hlt
      · rw [Array.getElem?_eq_none hge] at hh; cases hh
    simp only [Value.ownBlock, ne_eq, Option.some.injEq]; omega
theorem far_cells {w1 : World} {b : Nat} {x y z u a0 a1 a2 a3 : Value} (h : w1.cell? ⟨b, 0, none⟩ = some x ∧ w1.cell? ⟨b, 1, none⟩ = some y ∧ w1.cell? ⟨b, 2, none⟩ = some z ∧ w1.cell? ⟨b, 3, none⟩ = some u) :
    (fun w' : World => w'.cell? ⟨b, 0, none⟩ = some x ∧ w'.cell? ⟨b, 1, none⟩ = some y ∧ w'.cell? ⟨b, 2, none⟩ = some z ∧ w'.cell? ⟨b, 3, none⟩ = some u) ((((w1.setCell ⟨b + 1, 0, none⟩ a0).setCell ⟨b + 1, 1, none⟩ a1).setCell ⟨b + 1, 2, none⟩ a2).setCell ⟨b + 1, 3, none⟩ a3) := by
  have f : ∀ (W : World) (k j : Nat) (v t : Value), W.cell? ⟨b, k, none⟩ = some v → (W.setCell ⟨b + 1, j, none⟩ t).cell? ⟨b, k, none⟩ = some v := fun W k j v t h => (World.cell?_setCell_other _ _ _ _ (by intro x; injection x with x; omega)).trans h
  exact ⟨f _ _ _ _ _ (f _ _ _ _ _ (f _ _ _ _ _ (f _ _ _ _ _ h.1))), f _ _ _ _ _ (f _ _ _ _ _ (f _ _ _ _ _ (f _ _ _ _ _ h.2.1))), f _ _ _ _ _ (f _ _ _ _ _ (f _ _ _ _ _ (f _ _ _ _ _ h.2.2.1))), f _ _ _ _ _ (f _ _ _ _ _ (f _ _ _ _ _ (f _ _ _ _ _ h.2.2.2)))⟩
/-- at the head of a round. -/
def Rr (w : World) (d : Dk) (from_ : Int) (x : Dk × List (List UInt8) × Int × Int) (s8 s9 s10 : Value) (wr : World) : Prop :=
  ∃ (k last : Int) (rs : List (List UInt8)) (L : Option Addr) (lc : Nat) (A : Option Addr) (n c : Nat), s8 = .slice L rs.length lc ∧ s9 = .int .i64 last ∧ s10 = .int .i64 k ∧ 1 ≤ k ∧ k ≤ 1000001 ∧ Sd w A n c d.room d.fuse d.off d.fs wr ∧
    OwnS wr (w.heap.size + 2) L rs.length lc rs ∧ rs.length ≤ (k - 1).toNat * 524288 ∧ x = recF (fuelOf k) d from_ k rs last

set_option maxHeartbeats 8000000 in
theorem rec_good (from_ : Int) (A : Option Addr) (n c : Nat) (d : Dk) (w : World) (hT : Tab w) (hd : Dsk w A n c d.fs) (hB : Bnd 2097152 d) (h1 : segOk from_) :
    Calls Tryd.prog 7 #[dkv A n c d.room d.fuse d.off, .int .i64 from_] w fun e w' => RetR w (recM d from_) e w' := by
  have HT := Lib.hid hT
  have HD := Lib.hid hd
  have HB := Lib.hid hB
  have HM := Lib.hid (mx21 hB)
  have H1 := Lib.hid h1
  have KU := Lib.hid (numbered_yes from_ h1)
  have hx : recM d from_ = recF (fuelOf from_) d from_ from_ [] from_ := by unfold recM; rw [if_neg (by simpa using h1)]
  generalize recM d from_ = x at hx ⊢
  have HX := Lib.hid hx
  have r0 := h1.1
  have r1 := h1.2
  clear hT hd hB h1 hx
  go_enter Tryd.func7, Tryd.ntmps7
  go_wp2_with fail
  go_step3
  go_wp2_with fail
  refine (wown_any A n c d.room d.fuse d.off d.fs _ (HD.out.q (((Q.refl _).alloc _).alloc _))).mono ?_
  rintro e w1 ⟨A1, c1, rfl, ho, q1⟩
  have P := Lib.hid (Sd.new2 (room := d.room) (fuse := d.fuse) (off := d.off) (L := d.fs) (Sv.new w HD.out).sb q1 ho)
  obtain ⟨⟨e0, e1, e2, e3⟩, f0, f1, f2', f3⟩ := ((Sv.new w HD.out).sb.step q1).get
  clear ho q1
  go_upto_region 2 with (fail)
  generalize ((((w1.setCell ⟨w.heap.size, 0, none⟩ (.slice A1 n c1)).setCell ⟨w.heap.size, 1, none⟩ (.int .i64 d.room)).setCell ⟨w.heap.size, 2, none⟩ (.int .i64 d.fuse)).setCell ⟨w.heap.size, 3, none⟩ (.bool d.off)) = W at P ⊢
  clear e0 e1 e2 e3 f0 f1 f2' f3
  go_wp2_with fail
  refine (KU.out _).mono ?_
  rintro e w2 ⟨rfl, q2⟩
  have V := Lib.hid (P.out.step q2)
  clear P q2
  go_wp2
  go_step3
  go_wp2
  go_loopw [8, 9, 10] (Rr w d from_ x) (fun _ _ s10 _ => (1000002 - intOf s10).toNat)
  case atStart => exact ⟨from_, from_, [], none, 0, A1, n, c1, rfl, rfl, rfl, by omega, by omega, V.out, ownS_nil _ _, by simp, HX.out⟩
  case round =>
    obtain ⟨k, last, rs, L, lc, A2, n2, c2, rfl, rfl, rfl, hk1, hk2, hv, hol, hrl, hxx⟩ := hrel
    have V := Lib.hid hv
    have OL := Lib.hid hol
    have HXX := Lib.hid hxx
    have HRL := Lib.hid hrl
    have hn2 : n2 * 48 ≤ 140737488355328 := by have h1 := hv.own.len; have h2 := HD.out.len; have h3 := HD.out.few; omega
    clear hv hol hxx hrl
    generalize wr = W at V OL ⊢
    by_cases g1 : segOk k
    case neg =>
      have G1 := Lib.hid g1
      have KUK := Lib.hid (numbered_no k g1)
      clear g1
      go_wp2_with fail
      refine (KUK.out _).mono ?_
      rintro e w3 ⟨rfl, q3⟩
      have U := Lib.hid (V.out.step q3)
      have UL := Lib.hid (OL.out.q q3)
      clear V OL q3
      obtain ⟨⟨e0, e1, e2, e3⟩, f0, f1, f2', f3⟩ := U.out.sb.get
      obtain ⟨⟨s0, s1, s2, s3⟩, h0, h1, h2, h3⟩ := U.out.sb.getR
      go_wp2
      (try rw [Exit.noGoto_ret])
      refine bodyPost_ret (v := .tuple #[dkv A2 n2 c2 d.room d.fuse d.off, .slice L rs.length lc, .int .i64 last, .int .i64 0]) (by simp [results, Tryd.results7, go_sem, s0, s1, s2, s3]) rfl ?_
      have ex := HXX.out
      rw [recF_end ((.inl G1.out))] at ex
      rw [ex]
      exact U.out.endR hn2 UL.out last 0 _ _ _ _
    have G1 := Lib.hid g1
    have KUK := Lib.hid (numbered_yes k g1)
    have KN := Lib.hid (name_any k)
    have KR := Lib.hid (fun w hf => read_any (namB k) A2 n2 c2 d.room d.fuse d.off d.fs w hf (V.out.own.dsk hn2).max HM.out)
    have hsz := redd_size (namB k) d.fs HB.out.sum
    have hcs : (redd (namB k) d.fs).2 = 0 ∨ (redd (namB k) d.fs).2 = 7 := by unfold redd; split <;> simp
    have HXR : Hid (redd (namB k) d.fs = redd (namB k) d.fs) := Lib.hid rfl
    obtain ⟨r, hr⟩ : ∃ r, r = redd (namB k) d.fs := ⟨_, rfl⟩
    rw [← hr] at KR hsz hcs
    have HR := Lib.hid hr
    clear hr HXR g1
    obtain ⟨s, se⟩ := r
    have hsz' : s.size ≤ 2097152 := hsz
    clear hsz
    go_wp2_with fail
    refine (KUK.out _).mono ?_
    rintro e w3 ⟨rfl, q3⟩
    have U := Lib.hid (V.out.step q3)
    have UL := Lib.hid (OL.out.q q3)
    clear V OL q3
    go_upto_region 9 with (fail)
    generalize w3 = W at U UL ⊢
    obtain ⟨⟨e0, e1, e2, e3⟩, f0, f1, f2', f3⟩ := U.out.sb.get
    go_region_held3 (fun w' => w'.cell? ⟨w.heap.size, 0, none⟩ = some (.slice A2 n2 c2) ∧ w'.cell? ⟨w.heap.size, 1, none⟩ = some (.int .i64 d.room) ∧ w'.cell? ⟨w.heap.size, 2, none⟩ = some (.int .i64 d.fuse) ∧ w'.cell? ⟨w.heap.size, 3, none⟩ = some (.bool d.off))
      (first
        | go_keep
        | (go_split_ands
           (repeat' apply And.intro) <;> exact box_ ‹Q _ _› (by assumption)))
      (first
        | (go_at_call 18
           (with_reducible refine (KN.out _ (HT.out.q (U.out.sb.q.trans (Q.refl W).drew))).mono ?_)
           rintro e w4 ⟨rfl, q4⟩)
        | (go_at_call 17
           (with_reducible refine (KR.out _ (U.out.own.files.q ((Q.refl W).drew.trans q4))).mono ?_)
           rintro e w5 ⟨rfl, q5⟩))
    have V := Lib.hid (U.out.step (((Q.refl W).drew.trans q4).trans q5))
    have OL := Lib.hid (UL.out.q (((Q.refl W).drew.trans q4).trans q5))
    clear U UL q4 q5 e0 e1 e2 e3 f0 f1 f2' f3
    have hsl := scn_len s.data.toList
    rw [size_list] at hsl
    have KSC := Lib.hid (fun w => scan_any s w (by unfold maxLen; omega) (by omega))
    have hus := used_le s.data.toList
    rw [size_list] at hus
    have hrest : (scn s.data.toList).2 = [] ↔ (used s.data.toList : Int) = (s.size : Int) := by
      have h1 := congrArg List.length (scd s.data.toList).eq
      rw [List.length_append, size_list, ← used_flat] at h1
      rw [← List.length_eq_zero_iff]; omega
    have htk := take_used s.data.toList
    have HRS := Lib.hid hrest
    have HTK := Lib.hid htk
    obtain ⟨ms, hms⟩ : ∃ ms, ms = (scn s.data.toList).1 := ⟨_, rfl⟩
    obtain ⟨us, hus2⟩ : ∃ us, us = used s.data.toList := ⟨_, rfl⟩
    rw [← hms, ← hus2] at KSC
    rw [← hms] at hsl
    rw [← hus2] at hus
    have HMS := Lib.hid (And.intro hms hus2)
    clear hrest htk hms hus2
    go_wp2_with fail
    refine (KSC.out _).mono ?_
    rintro e w6 ⟨M, mn, mc, rfl, hm, q6⟩
    have hmn : ms.length = mn := hm.len
    subst hmn
    have U := Lib.hid (V.out.step q6)
    have UL := Lib.hid (OL.out.q q6)
    have hmb : w.heap.size + 2 ≤ w5.heap.size := by have := V.out.sb.res.lt; omega
    have OM := Lib.hid (hm.lower hmb)
    clear hmb
    have hMn := Lib.hid hm.nil
    clear V OL q6 hm
    have HSL := Lib.hid hsl
    rcases hcs with he | he
    case inr =>
      have he' : se = 7 := he
      clear he
      subst he'
      have hrr : (redd (namB k) d.fs).2 ≠ 0 := by rw [← HR.out]; simp
      have HRR := Lib.hid hrr
      clear hrr
      obtain ⟨⟨e0, e1, e2, e3⟩, f0, f1, f2', f3⟩ := U.out.sb.get
      obtain ⟨⟨s0, s1, s2, s3⟩, h0, h1, h2, h3⟩ := U.out.sb.getR
      go_wp2
      (try rw [Exit.noGoto_ret])
      refine bodyPost_ret (v := .tuple #[dkv A2 n2 c2 d.room d.fuse d.off, .slice L rs.length lc, .int .i64 last, .int .i64 0]) (by simp [results, Tryd.results7, go_sem, s0, s1, s2, s3]) rfl ?_
      have ex := HXX.out
      rw [recF_end ((.inr HRR.out))] at ex
      rw [ex]
      exact U.out.endR hn2 UL.out last 0 _ _ _ _
    have he' : se = 0 := he
    clear he
    subst he'
    by_cases gn : (us : Int) = (s.size : Int)
    · have hz : (scn s.data.toList).2 = [] := HRS.out.2 (by rw [← HMS.out.2]; exact gn)
      have HX2 := Lib.hid (HXX.out.trans (recF_more G1.out HR.out.symm hz))
      have hk3 : k ≤ 1000000 := G1.out.2
      have hb16 : (rs.length + ms.length) * 16 ≤ 140737488355328 := by have h1 := HRL.out; have h2 := HSL.out; omega
      have hbw : w.heap.size + 2 ≤ w6.heap.size := by have := U.out.sb.res.lt; omega
      clear hz
      go_wp2_with (at_builtin
                   refine wpl_appSS rfl (.tmp 48) (.tmp 49) rfl (w.heap.size + 2) L rs.length lc rs rfl UL.out M ms.length mc ms rfl OM.out.strs hMn.out hb16 hbw ?_
                   intro L2 lc2 w7 ho7 hg7 hb7)
      have V := Lib.hid (U.out.grown UL.out hg7 hb7)
      clear U UL
      refine ⟨⟨k + 1, k, rs ++ ms, L2, lc2, A2, n2, c2, by rw [List.length_append], rfl, rfl, by omega, by omega, V.out, by rw [List.length_append]; exact ho7, ?_, ?_⟩, by simp [intOf]; omega⟩
      · rw [List.length_append]; have h1 := HRL.out; have h2 := HSL.out; omega
      · rw [HMS.out.1]; exact HX2.out
    · have hz : (scn s.data.toList).2 ≠ [] := fun h => gn (by rw [HMS.out.2]; exact HRS.out.1 h)
      have hex : s.extract 0 us = ⟨(flat (scn s.data.toList).1).toArray⟩ := by
        rw [extract_list, HMS.out.2, HTK.out]; simp
      have hes : (s.extract 0 us).size ≤ 2305843009213693952 := by rw [ByteArray.size_extract]; omega
      have KC := Lib.hid (fun w hT hd => cut_any k (s.extract 0 us) A2 n2 c2 d w hT hd (HB.out.more (by omega)) hes G1.out)
      obtain ⟨y, hy⟩ : ∃ y, y = cutM d k (s.extract 0 us) := ⟨_, rfl⟩
      have HX2 := Lib.hid (HXX.out.trans (recF_cut G1.out HR.out.symm hz (y := y) (by rw [hy, hex])))
      rw [← hy] at KC
      have hbw : w.heap.size + 2 ≤ w6.heap.size := by have := U.out.sb.res.lt; omega
      have hb16 : (rs.length + ms.length) * 16 ≤ 140737488355328 := by have h1 := HRL.out; have h2 := HSL.out; have h3 : k ≤ 1000000 := G1.out.2; omega
      have HB2 := Lib.hid hb16
      clear hz hex hes hy hb16
      go_upto_region 14 with (fail)
      generalize w6 = W at U UL OM hbw ⊢
      have SU := Lib.hid U.out.sb
      have DU := Lib.hid (U.out.own.dsk hn2)
      obtain ⟨⟨e0, e1, e2, e3⟩, f0, f1, f2', f3⟩ := U.out.sb.get
      have QW := Lib.hid (Q.refl W)
      refine wp_region_heldL 9 (Q W) (by kernel_rfl) ?szz0 (fun hHeld => ?rzz0)
      case szz0 =>
        exact (Q.refl W).drew
      case' rzz0 => skip
      refine wpAnyL_take (i := 0) (oi := ?ozz1) (v := ?vzz1) ?hzz1 ?azz1 ?bzz1 ?czz1 ?kzz1 ?qzz1 ?yzz1 ?szz1 ?rzz1
      case hzz1 => simp only [List.getElem?_toArray, List.getElem?_cons_zero]; rfl
      case azz1 => kernel_rfl
      case bzz1 => kernel_rfl
      case czz1 => kernel_rfl
      case kzz1 => kernel_rfl
      case yzz1 =>
        refine Or.inl ⟨by rfl, ?_⟩
        intro w hSw
        have x0 := box_ hSw e0; have x1 := box_ hSw e1; have x2 := box_ hSw e2; have x3 := box_ hSw e3; clear hSw
        go_simp
        try with_reducible rfl
      case qzz1 => exact fun _ _ _ h => h
      case szz1 => first | assumption | trivial
      case' rzz1 => simp only [Act.put, List.setIfInBounds_toArray, List.set_cons_zero, List.set_cons_succ]
      refine wpAnyL_take (i := 1) (oi := ?ozz2) (v := ?vzz2) ?hzz2 ?azz2 ?bzz2 ?czz2 ?kzz2 ?qzz2 ?yzz2 ?szz2 ?rzz2
      case hzz2 => simp only [List.getElem?_toArray, List.getElem?_cons_zero, List.getElem?_cons_succ]; rfl
      case azz2 => kernel_rfl
      case bzz2 => kernel_rfl
      case czz2 => kernel_rfl
      case kzz2 => kernel_rfl
      case yzz2 =>
        refine Or.inl ⟨by rfl, ?_⟩
        intro w hSw
        skip
        go_simp
        try with_reducible rfl
      case qzz2 => exact fun _ _ _ h => h
      case szz2 => first | assumption | trivial
      case' rzz2 => simp only [Act.put, List.setIfInBounds_toArray, List.set_cons_zero, List.set_cons_succ]
      refine wpAnyL_take (i := 2) (oi := ?ozz3) (v := ?vzz3) ?hzz3 ?azz3 ?bzz3 ?czz3 ?kzz3 ?qzz3 ?yzz3 ?szz3 ?rzz3
      case hzz3 => simp only [List.getElem?_toArray, List.getElem?_cons_zero, List.getElem?_cons_succ]; rfl
      case azz3 => kernel_rfl
      case bzz3 => kernel_rfl
      case czz3 => kernel_rfl
      case kzz3 => kernel_rfl
      case yzz3 =>
        refine Or.inl ⟨by rfl, ?_⟩
        intro w hSw
        skip
        go_simp
        try with_reducible rfl
      case qzz3 => exact fun _ _ _ h => h
      case szz3 => first | assumption | trivial
      case' rzz3 => simp only [Act.put, List.setIfInBounds_toArray, List.set_cons_zero, List.set_cons_succ]
      refine wpAnyL_take (i := 3) (oi := ?ozz4) (v := ?vzz4) ?hzz4 ?azz4 ?bzz4 ?czz4 ?kzz4 ?qzz4 ?yzz4 ?szz4 ?rzz4
      case hzz4 => simp only [List.getElem?_toArray, List.getElem?_cons_zero, List.getElem?_cons_succ]; rfl
      case azz4 => kernel_rfl
      case bzz4 => kernel_rfl
      case czz4 => kernel_rfl
      case kzz4 => kernel_rfl
      case yzz4 =>
        refine Or.inl ⟨by rfl, ?_⟩
        intro w hSw
        skip
        go_simp
        try with_reducible rfl
      case qzz4 => exact fun _ _ _ h => h
      case szz4 => first | assumption | trivial
      case' rzz4 => simp only [Act.put, List.setIfInBounds_toArray, List.set_cons_zero, List.set_cons_succ]
      refine wpAnyL_take (i := 4) (oi := ?ozz5) (v := ?vzz5) ?hzz5 ?azz5 ?bzz5 ?czz5 ?kzz5 ?qzz5 ?yzz5 ?szz5 ?rzz5
      case hzz5 => simp only [List.getElem?_toArray, List.getElem?_cons_zero, List.getElem?_cons_succ]; rfl
      case azz5 => kernel_rfl
      case bzz5 => kernel_rfl
      case czz5 => kernel_rfl
      case kzz5 => kernel_rfl
      case yzz5 =>
        refine Or.inl ⟨by rfl, ?_⟩
        intro w hSw
        skip
        go_simp
        try with_reducible rfl
      case qzz5 => exact fun _ _ _ h => h
      case szz5 => first | assumption | trivial
      case' rzz5 => simp only [Act.put, List.setIfInBounds_toArray, List.set_cons_zero, List.set_cons_succ]
      refine wpAnyL_ready (rs := [5]) (by kernel_rfl) (by simp) ?_
      refine AllReadyL.cons (o := ?ozz34) ?hzz34 (fun K hK => ?kzz34) ?mzz34
      case hzz34 => simp only [List.getElem?_toArray, List.getElem?_cons_zero, List.getElem?_cons_succ]; rfl
      case kzz34 =>
        go_simp
        refine (KC.out _ (HT.out.q (SU.out.q.trans hHeld)) (DU.out.q hHeld)).mono ?_
        rintro e w5 ⟨A5, n5, c5, rfl, ho, hf5, q5⟩
        obtain ⟨⟨x0, x1, x2, x3⟩, y0, y1, y2, y3⟩ := ((SU.out.step hHeld).step q5).get
        have Z5 := Lib.hid (And.intro ho (And.intro hHeld (And.intro q5 hf5)))
        go_wp2_with fail
        refine hK.out _ _ ?Szz34 (fun hHeld => ?Rzz34)
        case Szz34 =>
          exact hHeld.trans q5
        case Rzz34 =>
          clear hK K
          try simp only [Act.put, List.setIfInBounds_toArray, List.set_cons_zero, List.set_cons_succ]
          refine wpAnyL_take (i := 6) (oi := ?ozz6) (v := ?vzz6) ?hzz6 ?azz6 ?bzz6 ?czz6 ?kzz6 ?qzz6 ?yzz6 ?szz6 ?rzz6
          case hzz6 => simp only [List.getElem?_toArray, List.getElem?_cons_zero, List.getElem?_cons_succ]; rfl
          case azz6 => kernel_rfl
          case bzz6 => kernel_rfl
          case czz6 => kernel_rfl
          case kzz6 => kernel_rfl
          case yzz6 =>
            refine Or.inl ⟨by rfl, ?_⟩
            intro w hSw
            skip
            go_simp
            try with_reducible rfl
          case qzz6 => exact fun _ _ _ h => h
          case szz6 => first | assumption | trivial
          case' rzz6 => simp only [Act.put, List.setIfInBounds_toArray, List.set_cons_zero, List.set_cons_succ]
          refine wpAnyL_take (i := 7) (oi := ?ozz7) (v := ?vzz7) ?hzz7 ?azz7 ?bzz7 ?czz7 ?kzz7 ?qzz7 ?yzz7 ?szz7 ?rzz7
          case hzz7 => simp only [List.getElem?_toArray, List.getElem?_cons_zero, List.getElem?_cons_succ]; rfl
          case azz7 => kernel_rfl
          case bzz7 => kernel_rfl
          case czz7 => kernel_rfl
          case kzz7 => kernel_rfl
          case yzz7 =>
            refine Or.inl ⟨by rfl, ?_⟩
            intro w hSw
            skip
            go_simp
            try with_reducible rfl
          case qzz7 => exact fun _ _ _ h => h
          case szz7 => first | assumption | trivial
          case' rzz7 => simp only [Act.put, List.setIfInBounds_toArray, List.set_cons_zero, List.set_cons_succ]
          refine wpAnyL_ready (rs := [8, 9]) (by kernel_rfl) (by simp) ?_
          refine AllReadyL.cons (o := ?ozz32) ?hzz32 (fun K hK => ?kzz32) ?mzz32
          case hzz32 => simp only [List.getElem?_toArray, List.getElem?_cons_zero, List.getElem?_cons_succ]; rfl
          case kzz32 =>
            go_simp
            refine hK.out _ _ ?Szz32 (fun hHeld => ?Rzz32)
            case Szz32 =>
              exact hHeld
            case Rzz32 =>
              clear hK K
              try simp only [Act.put, List.setIfInBounds_toArray, List.set_cons_zero, List.set_cons_succ]
              refine wpAnyL_ready (rs := [9]) (by kernel_rfl) (by simp) ?_
              refine AllReadyL.consK (o := ?ozz19) ?hzz19 ?lzz19 (fun K hK => ?kzz19) ?mzz19
              case hzz19 => simp only [List.getElem?_toArray, List.getElem?_cons_zero, List.getElem?_cons_succ]; rfl
              case lzz19 => kernel_rfl
              case kzz19 =>
                go_simp
                refine hK.out _ _ ?Rzz19
                case Rzz19 =>
                  clear hK K
                  try simp only [Act.put, List.setIfInBounds_toArray, List.set_cons_zero, List.set_cons_succ]
                  refine wpAnyH_take (i := 10) (oi := ?ozz8) (v := ?vzz8) ?hzz8 ?azz8 ?bzz8 ?czz8 ?qzz8 ?yzz8 ?szz8 ?rzz8
                  case hzz8 => simp only [List.getElem?_toArray, List.getElem?_cons_zero, List.getElem?_cons_succ]; rfl
                  case azz8 => kernel_rfl
                  case bzz8 => kernel_rfl
                  case czz8 => kernel_rfl
                  case yzz8 =>
                    refine Or.inl ⟨by rfl, ?_⟩
                    intro w hSw
                    skip
                    go_simp
                    try with_reducible rfl
                  case qzz8 => exact fun _ _ _ h => h
                  case szz8 => first | assumption | trivial
                  case' rzz8 => simp only [Act.put, List.setIfInBounds_toArray, List.set_cons_zero, List.set_cons_succ]
                  refine wpAnyH_done (by kernel_rfl) ?_ _
                  have P := Lib.hid (Sv.putD (SU.out.step Z5.out.2.1) Z5.out.2.2.1 Z5.out.1 Z5.out.2.2.2)
                  have HNE := Lib.hid ((UL.out.q Z5.out.2.1).far_ne Z5.out.2.2.2)
                  have hb2 : w.heap.size < w.heap.size + 2 := by omega
                  have UL2 := Lib.hid (((UL.out.q Z5.out.2.1).q Z5.out.2.2.1).set4 (b := w.heap.size) hb2 (.slice A5 n5 c5) (.int .i64 y.1.room) (.int .i64 y.1.fuse) (.bool y.1.off))
                  have OM2 := Lib.hid (((OM.out.q Z5.out.2.1).q Z5.out.2.2.1).set4 (b := w.heap.size) hb2 (.slice A5 n5 c5) (.int .i64 y.1.room) (.int .i64 y.1.fuse) (.bool y.1.off))
                  have hbw2 : w.heap.size + 2 ≤ w5.heap.size := Nat.le_trans hbw (Nat.le_trans Z5.out.2.1.size Z5.out.2.2.1.size)
                  have hbw3 : w.heap.size + 2 ≤ ((((w5.setCell ⟨w.heap.size, 0, none⟩ (.slice A5 n5 c5)).setCell ⟨w.heap.size, 1, none⟩ (.int .i64 y.1.room)).setCell ⟨w.heap.size, 2, none⟩ (.int .i64 y.1.fuse)).setCell ⟨w.heap.size, 3, none⟩ (.bool y.1.off)).heap.size := by simpa [World.setCell] using hbw2
                  clear e0 e1 e2 e3 f0 f1 f2' f3 x0 x1 x2 x3 y0 y1 y2 y3 U UL OM SU DU Z5 hHeld QW hbw hbw2 hb2
                  generalize ((((w5.setCell ⟨w.heap.size, 0, none⟩ (.slice A5 n5 c5)).setCell ⟨w.heap.size, 1, none⟩ (.int .i64 y.1.room)).setCell ⟨w.heap.size, 2, none⟩ (.int .i64 y.1.fuse)).setCell ⟨w.heap.size, 3, none⟩ (.bool y.1.off)) = W at P UL2 OM2 hbw3 ⊢
                  obtain ⟨⟨e0, e1, e2, e3⟩, f0, f1, f2', f3⟩ := P.out.1.sb.get
                  by_cases gy : y.2 = 0
                  · have GY := Lib.hid gy
                    have OL := UL2
                    have OM := OM2
                    have hW2 : w.heap.size + 2 ≤ W.drew.heap.size := hbw3
                    have RB := Lib.hid P.out.1.sb.res
                    go_upto_region 17 with (fail)
                    refine wp_region_held_drew (S := fun w' => w'.cell? ⟨w.heap.size, 0, none⟩ = some (.slice A5 n5 c5) ∧ w'.cell? ⟨w.heap.size, 1, none⟩ = some (.int .i64 y.1.room) ∧ w'.cell? ⟨w.heap.size, 2, none⟩ = some (.int .i64 y.1.fuse) ∧ w'.cell? ⟨w.heap.size, 3, none⟩ = some (.bool y.1.off)) (by kernel_rfl) ?szz9 (fun hHeld => ?rzz9)
                    case szz9 =>
                      exact ⟨e0, e1, e2, e3⟩
                    case' rzz9 => skip
                    refine wpAnyH_take (i := 0) (oi := ?ozz10) (v := ?vzz10) ?hzz10 ?azz10 ?bzz10 ?czz10 ?qzz10 ?yzz10 ?szz10 ?rzz10
                    case hzz10 => simp only [List.getElem?_toArray, List.getElem?_cons_zero]; rfl
                    case azz10 => kernel_rfl
                    case bzz10 => kernel_rfl
                    case czz10 => kernel_rfl
                    case yzz10 =>
                      refine Or.inl ⟨by rfl, ?_⟩
                      intro w hSw
                      obtain ⟨x0, x1, x2, x3⟩ := hSw
                      go_simp
                      try with_reducible rfl
                    case qzz10 => exact fun _ _ _ h => h
                    case szz10 => first | assumption | trivial
                    case' rzz10 => simp only [Act.put, List.setIfInBounds_toArray, List.set_cons_zero, List.set_cons_succ]
                    refine wpAnyH_take (i := 1) (oi := ?ozz11) (v := ?vzz11) ?hzz11 ?azz11 ?bzz11 ?czz11 ?qzz11 ?yzz11 ?szz11 ?rzz11
                    case hzz11 => simp only [List.getElem?_toArray, List.getElem?_cons_zero, List.getElem?_cons_succ]; rfl
                    case azz11 => kernel_rfl
                    case bzz11 => kernel_rfl
                    case czz11 => kernel_rfl
                    case yzz11 =>
                      refine Or.inl ⟨by rfl, ?_⟩
                      intro w hSw
                      skip
                      go_simp
                      try with_reducible rfl
                    case qzz11 => exact fun _ _ _ h => h
                    case szz11 => first | assumption | trivial
                    case' rzz11 => simp only [Act.put, List.setIfInBounds_toArray, List.set_cons_zero, List.set_cons_succ]
                    refine wpAnyH_take (i := 2) (oi := ?ozz12) (v := ?vzz12) ?hzz12 ?azz12 ?bzz12 ?czz12 ?qzz12 ?yzz12 ?szz12 ?rzz12
                    case hzz12 => simp only [List.getElem?_toArray, List.getElem?_cons_zero, List.getElem?_cons_succ]; rfl
                    case azz12 => kernel_rfl
                    case bzz12 => kernel_rfl
                    case czz12 => kernel_rfl
                    case yzz12 =>
                      refine Or.inl ⟨by rfl, ?_⟩
                      intro w hSw
                      skip
                      go_simp
                      try with_reducible rfl
                    case qzz12 => exact fun _ _ _ h => h
                    case szz12 => first | assumption | trivial
                    case' rzz12 => simp only [Act.put, List.setIfInBounds_toArray, List.set_cons_zero, List.set_cons_succ]
                    refine wpAnyH_take (i := 4) (oi := ?ozz13) (v := ?vzz13) ?hzz13 ?azz13 ?bzz13 ?czz13 ?qzz13 ?yzz13 ?szz13 ?rzz13
                    case hzz13 => simp only [List.getElem?_toArray, List.getElem?_cons_zero, List.getElem?_cons_succ]; rfl
                    case azz13 => kernel_rfl
                    case bzz13 => kernel_rfl
                    case czz13 => kernel_rfl
                    case yzz13 =>
                      refine Or.inl ⟨by rfl, ?_⟩
                      intro w hSw
                      skip
                      go_simp
                      try with_reducible rfl
                    case qzz13 => exact fun _ _ _ h => h
                    case szz13 => first | assumption | trivial
                    case' rzz13 => simp only [Act.put, List.setIfInBounds_toArray, List.set_cons_zero, List.set_cons_succ]
                    refine wpAnyH_ready (rs := [3]) (by kernel_rfl) (by simp) ?_
                    refine AllReadyH.cons (o := ?ozz18) ?hzz18 (fun K hK => ?kzz18) ?mzz18
                    case hzz18 => simp only [List.getElem?_toArray, List.getElem?_cons_zero, List.getElem?_cons_succ]; rfl
                    case kzz18 =>
                      have hne := row_ne OL.out (b := w.heap.size) (by omega)
                      have hne1 := row_ne OL.out (b := w.heap.size + 1) (by omega)
                      refine step_appS (by rfl) _ _ (by rfl) (w.heap.size + 2) L rs.length lc rs (by rfl) (show OwnS W.drew _ _ _ _ _ from OL.out) M ms.length mc ms (by rfl) (show Strs W.drew _ _ _ from OM.out.strs) hMn.out HB2.out hW2 ?_
                      intro L2 lc2 w2 ho2 hg2 hb2
                      refine hK.out _ _ ?Szz18 (fun hHeld => ?Rzz18)
                      case Szz18 =>
                        exact ⟨box_g hg2 hne hHeld.1, box_g hg2 hne hHeld.2.1, box_g hg2 hne hHeld.2.2.1, box_g hg2 hne hHeld.2.2.2⟩
                      case Rzz18 =>
                        clear hK K
                        try simp only [Act.put, List.setIfInBounds_toArray, List.set_cons_zero, List.set_cons_succ]
                        have RB2 := Lib.hid (Bx.grown (show Bx W.drew _ _ from RB.out) hg2 hne1)
                        obtain ⟨⟨s0, s1, s2, s3⟩, h0, h1, h2, h3⟩ := RB2.out.get4
                        refine wpAnyH_ready (rs := [5]) (by kernel_rfl) (by simp) ?_
                        refine AllReadyH.cons (o := ?ozz17) ?hzz17 (fun K hK => ?kzz17) ?mzz17
                        case hzz17 => simp only [List.getElem?_toArray, List.getElem?_cons_zero, List.getElem?_cons_succ]; rfl
                        case kzz17 =>
                          go_simp
                          refine hK.out _ _ ?Szz17 (fun hHeld => ?Rzz17)
                          case Szz17 =>
                            exact far_cells hHeld
                          case Rzz17 =>
                            clear hK K
                            try simp only [Act.put, List.setIfInBounds_toArray, List.set_cons_zero, List.set_cons_succ]
                            refine wpAnyH_take (i := 6) (oi := ?ozz14) (v := ?vzz14) ?hzz14 ?azz14 ?bzz14 ?czz14 ?qzz14 ?yzz14 ?szz14 ?rzz14
                            case hzz14 => simp only [List.getElem?_toArray, List.getElem?_cons_zero, List.getElem?_cons_succ]; rfl
                            case azz14 => kernel_rfl
                            case bzz14 => kernel_rfl
                            case czz14 => kernel_rfl
                            case yzz14 =>
                              refine Or.inl ⟨by rfl, ?_⟩
                              intro w hSw
                              skip
                              go_simp
                              try with_reducible rfl
                            case qzz14 => exact fun _ _ _ h => h
                            case szz14 => first | assumption | trivial
                            case' rzz14 => simp only [Act.put, List.setIfInBounds_toArray, List.set_cons_zero, List.set_cons_succ]
                            refine wpAnyH_take (i := 7) (oi := ?ozz15) (v := ?vzz15) ?hzz15 ?azz15 ?bzz15 ?czz15 ?qzz15 ?yzz15 ?szz15 ?rzz15
                            case hzz15 => simp only [List.getElem?_toArray, List.getElem?_cons_zero, List.getElem?_cons_succ]; rfl
                            case azz15 => kernel_rfl
                            case bzz15 => kernel_rfl
                            case czz15 => kernel_rfl
                            case yzz15 =>
                              refine Or.inl ⟨by rfl, ?_⟩
                              intro w hSw
                              skip
                              go_simp
                              try with_reducible rfl
                            case qzz15 => exact fun _ _ _ h => h
                            case szz15 => first | assumption | trivial
                            case' rzz15 => simp only [Act.put, List.setIfInBounds_toArray, List.set_cons_zero, List.set_cons_succ]
                            refine wpAnyH_take (i := 8) (oi := ?ozz16) (v := ?vzz16) ?hzz16 ?azz16 ?bzz16 ?czz16 ?qzz16 ?yzz16 ?szz16 ?rzz16
                            case hzz16 => simp only [List.getElem?_toArray, List.getElem?_cons_zero, List.getElem?_cons_succ]; rfl
                            case azz16 => kernel_rfl
                            case bzz16 => kernel_rfl
                            case czz16 => kernel_rfl
                            case yzz16 =>
                              refine Or.inl ⟨by rfl, ?_⟩
                              intro w hSw
                              skip
                              go_simp
                              try with_reducible rfl
                            case qzz16 => exact fun _ _ _ h => h
                            case szz16 => first | assumption | trivial
                            case' rzz16 => simp only [Act.put, List.setIfInBounds_toArray, List.set_cons_zero, List.set_cons_succ]
                            refine wpAnyH_done (by kernel_rfl) ?_ _
                            go_wp2
                            (try rw [Exit.noGoto_ret])
                            refine bodyPost_ret (v := .tuple #[dkv A5 n5 c5 y.1.room y.1.fuse y.1.off, .slice L2 (rs.length + ms.length) lc2, .int .i64 k, .int .i64 0]) (by simp [results, Tryd.results7, go_sem, s0, s1, s2, s3]) rfl ?_
                            rw [HX2.out, if_neg (by rw [GY.out]; simp), ← HMS.out.1]
                            exact (Sv.grown (P.out.1.step (Q.refl W).drew) OL.out hg2 hb2 HNE.out).endR P.out.2 ho2 k 0 _ _ _ _
                        case' mzz17 => skip
                        exact AllReadyH.nil
                    case' mzz18 => skip
                    exact AllReadyH.nil
                  · have GY := Lib.hid gy
                    obtain ⟨⟨s0, s1, s2, s3⟩, h0, h1, h2, h3⟩ := P.out.1.sb.getR
                    go_wp2
                    (try rw [Exit.noGoto_ret])
                    refine bodyPost_ret (v := .tuple #[dkv A5 n5 c5 y.1.room y.1.fuse y.1.off, .slice none 0 0, .int .i64 from_, .int .i64 y.2]) (by simp [results, Tryd.results7, go_sem, s0, s1, s2, s3]) rfl ?_
                    rw [HX2.out, if_pos GY.out]
                    exact P.out.1.endR P.out.2 (ownS_nil _ _) from_ y.2 _ _ _ _
              case' mzz19 => skip
              exact AllReadyL.nil
          case' mzz32 => skip
          refine AllReadyL.consK (o := ?ozz33) ?hzz33 ?lzz33 (fun K hK => ?kzz33) ?mzz33
          case hzz33 => simp only [List.getElem?_toArray, List.getElem?_cons_zero, List.getElem?_cons_succ]; rfl
          case lzz33 => kernel_rfl
          case kzz33 =>
            go_simp
            refine hK.out _ _ ?Rzz33
            case Rzz33 =>
              clear hK K
              try simp only [Act.put, List.setIfInBounds_toArray, List.set_cons_zero, List.set_cons_succ]
              refine wpAnyH_take (i := 8) (oi := ?ozz20) (v := ?vzz20) ?hzz20 ?azz20 ?bzz20 ?czz20 ?qzz20 ?yzz20 ?szz20 ?rzz20
              case hzz20 => simp only [List.getElem?_toArray, List.getElem?_cons_zero, List.getElem?_cons_succ]; rfl
              case azz20 => kernel_rfl
              case bzz20 => kernel_rfl
              case czz20 => kernel_rfl
              case yzz20 =>
                refine Or.inl ⟨by rfl, ?_⟩
                intro w hSw
                skip
                go_simp
                try with_reducible rfl
              case qzz20 => exact fun _ _ _ h => h
              case szz20 => first | assumption | trivial
              case' rzz20 => simp only [Act.put, List.setIfInBounds_toArray, List.set_cons_zero, List.set_cons_succ]
              refine wpAnyH_take (i := 10) (oi := ?ozz21) (v := ?vzz21) ?hzz21 ?azz21 ?bzz21 ?czz21 ?qzz21 ?yzz21 ?szz21 ?rzz21
              case hzz21 => simp only [List.getElem?_toArray, List.getElem?_cons_zero, List.getElem?_cons_succ]; rfl
              case azz21 => kernel_rfl
              case bzz21 => kernel_rfl
              case czz21 => kernel_rfl
              case yzz21 =>
                refine Or.inl ⟨by rfl, ?_⟩
                intro w hSw
                skip
                go_simp
                try with_reducible rfl
              case qzz21 => exact fun _ _ _ h => h
              case szz21 => first | assumption | trivial
              case' rzz21 => simp only [Act.put, List.setIfInBounds_toArray, List.set_cons_zero, List.set_cons_succ]
              refine wpAnyH_done (by kernel_rfl) ?_ _
              have P := Lib.hid (Sv.putD (SU.out.step Z5.out.2.1) Z5.out.2.2.1 Z5.out.1 Z5.out.2.2.2)
              have HNE := Lib.hid ((UL.out.q Z5.out.2.1).far_ne Z5.out.2.2.2)
              have hb2 : w.heap.size < w.heap.size + 2 := by omega
              have UL2 := Lib.hid (((UL.out.q Z5.out.2.1).q Z5.out.2.2.1).set4 (b := w.heap.size) hb2 (.slice A5 n5 c5) (.int .i64 y.1.room) (.int .i64 y.1.fuse) (.bool y.1.off))
              have OM2 := Lib.hid (((OM.out.q Z5.out.2.1).q Z5.out.2.2.1).set4 (b := w.heap.size) hb2 (.slice A5 n5 c5) (.int .i64 y.1.room) (.int .i64 y.1.fuse) (.bool y.1.off))
              have hbw2 : w.heap.size + 2 ≤ w5.heap.size := Nat.le_trans hbw (Nat.le_trans Z5.out.2.1.size Z5.out.2.2.1.size)
              have hbw3 : w.heap.size + 2 ≤ ((((w5.setCell ⟨w.heap.size, 0, none⟩ (.slice A5 n5 c5)).setCell ⟨w.heap.size, 1, none⟩ (.int .i64 y.1.room)).setCell ⟨w.heap.size, 2, none⟩ (.int .i64 y.1.fuse)).setCell ⟨w.heap.size, 3, none⟩ (.bool y.1.off)).heap.size := by simpa [World.setCell] using hbw2
              clear e0 e1 e2 e3 f0 f1 f2' f3 x0 x1 x2 x3 y0 y1 y2 y3 U UL OM SU DU Z5 hHeld QW hbw hbw2 hb2
              generalize ((((w5.setCell ⟨w.heap.size, 0, none⟩ (.slice A5 n5 c5)).setCell ⟨w.heap.size, 1, none⟩ (.int .i64 y.1.room)).setCell ⟨w.heap.size, 2, none⟩ (.int .i64 y.1.fuse)).setCell ⟨w.heap.size, 3, none⟩ (.bool y.1.off)) = W at P UL2 OM2 hbw3 ⊢
              obtain ⟨⟨e0, e1, e2, e3⟩, f0, f1, f2', f3⟩ := P.out.1.sb.get
              by_cases gy : y.2 = 0
              · have GY := Lib.hid gy
                have OL := UL2
                have OM := OM2
                have hW2 : w.heap.size + 2 ≤ W.drew.heap.size := hbw3
                have RB := Lib.hid P.out.1.sb.res
                go_upto_region 17 with (fail)
                refine wp_region_held_drew (S := fun w' => w'.cell? ⟨w.heap.size, 0, none⟩ = some (.slice A5 n5 c5) ∧ w'.cell? ⟨w.heap.size, 1, none⟩ = some (.int .i64 y.1.room) ∧ w'.cell? ⟨w.heap.size, 2, none⟩ = some (.int .i64 y.1.fuse) ∧ w'.cell? ⟨w.heap.size, 3, none⟩ = some (.bool y.1.off)) (by kernel_rfl) ?szz22 (fun hHeld => ?rzz22)
                case szz22 =>
                  exact ⟨e0, e1, e2, e3⟩
                case' rzz22 => skip
                refine wpAnyH_take (i := 0) (oi := ?ozz23) (v := ?vzz23) ?hzz23 ?azz23 ?bzz23 ?czz23 ?qzz23 ?yzz23 ?szz23 ?rzz23
                case hzz23 => simp only [List.getElem?_toArray, List.getElem?_cons_zero]; rfl
                case azz23 => kernel_rfl
                case bzz23 => kernel_rfl
                case czz23 => kernel_rfl
                case yzz23 =>
                  refine Or.inl ⟨by rfl, ?_⟩
                  intro w hSw
                  obtain ⟨x0, x1, x2, x3⟩ := hSw
                  go_simp
                  try with_reducible rfl
                case qzz23 => exact fun _ _ _ h => h
                case szz23 => first | assumption | trivial
                case' rzz23 => simp only [Act.put, List.setIfInBounds_toArray, List.set_cons_zero, List.set_cons_succ]
                refine wpAnyH_take (i := 1) (oi := ?ozz24) (v := ?vzz24) ?hzz24 ?azz24 ?bzz24 ?czz24 ?qzz24 ?yzz24 ?szz24 ?rzz24
                case hzz24 => simp only [List.getElem?_toArray, List.getElem?_cons_zero, List.getElem?_cons_succ]; rfl
                case azz24 => kernel_rfl
                case bzz24 => kernel_rfl
                case czz24 => kernel_rfl
                case yzz24 =>
                  refine Or.inl ⟨by rfl, ?_⟩
                  intro w hSw
                  skip
                  go_simp
                  try with_reducible rfl
                case qzz24 => exact fun _ _ _ h => h
                case szz24 => first | assumption | trivial
                case' rzz24 => simp only [Act.put, List.setIfInBounds_toArray, List.set_cons_zero, List.set_cons_succ]
                refine wpAnyH_take (i := 2) (oi := ?ozz25) (v := ?vzz25) ?hzz25 ?azz25 ?bzz25 ?czz25 ?qzz25 ?yzz25 ?szz25 ?rzz25
                case hzz25 => simp only [List.getElem?_toArray, List.getElem?_cons_zero, List.getElem?_cons_succ]; rfl
                case azz25 => kernel_rfl
                case bzz25 => kernel_rfl
                case czz25 => kernel_rfl
                case yzz25 =>
                  refine Or.inl ⟨by rfl, ?_⟩
                  intro w hSw
                  skip
                  go_simp
                  try with_reducible rfl
                case qzz25 => exact fun _ _ _ h => h
                case szz25 => first | assumption | trivial
                case' rzz25 => simp only [Act.put, List.setIfInBounds_toArray, List.set_cons_zero, List.set_cons_succ]
                refine wpAnyH_take (i := 4) (oi := ?ozz26) (v := ?vzz26) ?hzz26 ?azz26 ?bzz26 ?czz26 ?qzz26 ?yzz26 ?szz26 ?rzz26
                case hzz26 => simp only [List.getElem?_toArray, List.getElem?_cons_zero, List.getElem?_cons_succ]; rfl
                case azz26 => kernel_rfl
                case bzz26 => kernel_rfl
                case czz26 => kernel_rfl
                case yzz26 =>
                  refine Or.inl ⟨by rfl, ?_⟩
                  intro w hSw
                  skip
                  go_simp
                  try with_reducible rfl
                case qzz26 => exact fun _ _ _ h => h
                case szz26 => first | assumption | trivial
                case' rzz26 => simp only [Act.put, List.setIfInBounds_toArray, List.set_cons_zero, List.set_cons_succ]
                refine wpAnyH_ready (rs := [3]) (by kernel_rfl) (by simp) ?_
                refine AllReadyH.cons (o := ?ozz31) ?hzz31 (fun K hK => ?kzz31) ?mzz31
                case hzz31 => simp only [List.getElem?_toArray, List.getElem?_cons_zero, List.getElem?_cons_succ]; rfl
                case kzz31 =>
                  have hne := row_ne OL.out (b := w.heap.size) (by omega)
                  have hne1 := row_ne OL.out (b := w.heap.size + 1) (by omega)
                  refine step_appS (by rfl) _ _ (by rfl) (w.heap.size + 2) L rs.length lc rs (by rfl) (show OwnS W.drew _ _ _ _ _ from OL.out) M ms.length mc ms (by rfl) (show Strs W.drew _ _ _ from OM.out.strs) hMn.out HB2.out hW2 ?_
                  intro L2 lc2 w2 ho2 hg2 hb2
                  refine hK.out _ _ ?Szz31 (fun hHeld => ?Rzz31)
                  case Szz31 =>
                    exact ⟨box_g hg2 hne hHeld.1, box_g hg2 hne hHeld.2.1, box_g hg2 hne hHeld.2.2.1, box_g hg2 hne hHeld.2.2.2⟩
                  case Rzz31 =>
                    clear hK K
                    try simp only [Act.put, List.setIfInBounds_toArray, List.set_cons_zero, List.set_cons_succ]
                    have RB2 := Lib.hid (Bx.grown (show Bx W.drew _ _ from RB.out) hg2 hne1)
                    obtain ⟨⟨s0, s1, s2, s3⟩, h0, h1, h2, h3⟩ := RB2.out.get4
                    refine wpAnyH_ready (rs := [5]) (by kernel_rfl) (by simp) ?_
                    refine AllReadyH.cons (o := ?ozz30) ?hzz30 (fun K hK => ?kzz30) ?mzz30
                    case hzz30 => simp only [List.getElem?_toArray, List.getElem?_cons_zero, List.getElem?_cons_succ]; rfl
                    case kzz30 =>
                      go_simp
                      refine hK.out _ _ ?Szz30 (fun hHeld => ?Rzz30)
                      case Szz30 =>
                        exact far_cells hHeld
                      case Rzz30 =>
                        clear hK K
                        try simp only [Act.put, List.setIfInBounds_toArray, List.set_cons_zero, List.set_cons_succ]
                        refine wpAnyH_take (i := 6) (oi := ?ozz27) (v := ?vzz27) ?hzz27 ?azz27 ?bzz27 ?czz27 ?qzz27 ?yzz27 ?szz27 ?rzz27
                        case hzz27 => simp only [List.getElem?_toArray, List.getElem?_cons_zero, List.getElem?_cons_succ]; rfl
                        case azz27 => kernel_rfl
                        case bzz27 => kernel_rfl
                        case czz27 => kernel_rfl
                        case yzz27 =>
                          refine Or.inl ⟨by rfl, ?_⟩
                          intro w hSw
                          skip
                          go_simp
                          try with_reducible rfl
                        case qzz27 => exact fun _ _ _ h => h
                        case szz27 => first | assumption | trivial
                        case' rzz27 => simp only [Act.put, List.setIfInBounds_toArray, List.set_cons_zero, List.set_cons_succ]
                        refine wpAnyH_take (i := 7) (oi := ?ozz28) (v := ?vzz28) ?hzz28 ?azz28 ?bzz28 ?czz28 ?qzz28 ?yzz28 ?szz28 ?rzz28
                        case hzz28 => simp only [List.getElem?_toArray, List.getElem?_cons_zero, List.getElem?_cons_succ]; rfl
                        case azz28 => kernel_rfl
                        case bzz28 => kernel_rfl
                        case czz28 => kernel_rfl
                        case yzz28 =>
                          refine Or.inl ⟨by rfl, ?_⟩
                          intro w hSw
                          skip
                          go_simp
                          try with_reducible rfl
                        case qzz28 => exact fun _ _ _ h => h
                        case szz28 => first | assumption | trivial
                        case' rzz28 => simp only [Act.put, List.setIfInBounds_toArray, List.set_cons_zero, List.set_cons_succ]
                        refine wpAnyH_take (i := 8) (oi := ?ozz29) (v := ?vzz29) ?hzz29 ?azz29 ?bzz29 ?czz29 ?qzz29 ?yzz29 ?szz29 ?rzz29
                        case hzz29 => simp only [List.getElem?_toArray, List.getElem?_cons_zero, List.getElem?_cons_succ]; rfl
                        case azz29 => kernel_rfl
                        case bzz29 => kernel_rfl
                        case czz29 => kernel_rfl
                        case yzz29 =>
                          refine Or.inl ⟨by rfl, ?_⟩
                          intro w hSw
                          skip
                          go_simp
                          try with_reducible rfl
                        case qzz29 => exact fun _ _ _ h => h
                        case szz29 => first | assumption | trivial
                        case' rzz29 => simp only [Act.put, List.setIfInBounds_toArray, List.set_cons_zero, List.set_cons_succ]
                        refine wpAnyH_done (by kernel_rfl) ?_ _
                        go_wp2
                        (try rw [Exit.noGoto_ret])
                        refine bodyPost_ret (v := .tuple #[dkv A5 n5 c5 y.1.room y.1.fuse y.1.off, .slice L2 (rs.length + ms.length) lc2, .int .i64 k, .int .i64 0]) (by simp [results, Tryd.results7, go_sem, s0, s1, s2, s3]) rfl ?_
                        rw [HX2.out, if_neg (by rw [GY.out]; simp), ← HMS.out.1]
                        exact (Sv.grown (P.out.1.step (Q.refl W).drew) OL.out hg2 hb2 HNE.out).endR P.out.2 ho2 k 0 _ _ _ _
                    case' mzz30 => skip
                    exact AllReadyH.nil
                case' mzz31 => skip
                exact AllReadyH.nil
              · have GY := Lib.hid gy
                obtain ⟨⟨s0, s1, s2, s3⟩, h0, h1, h2, h3⟩ := P.out.1.sb.getR
                go_wp2
                (try rw [Exit.noGoto_ret])
                refine bodyPost_ret (v := .tuple #[dkv A5 n5 c5 y.1.room y.1.fuse y.1.off, .slice none 0 0, .int .i64 from_, .int .i64 y.2]) (by simp [results, Tryd.results7, go_sem, s0, s1, s2, s3]) rfl ?_
                rw [HX2.out, if_pos GY.out]
                exact P.out.1.endR P.out.2 (ownS_nil _ _) from_ y.2 _ _ _ _
          case' mzz33 => skip
          exact AllReadyL.nil
      case' mzz34 => skip
      exact AllReadyL.nil

theorem rec_bad (from_ : Int) (A : Option Addr) (n c : Nat) (d : Dk) (w : World) (hd : Dsk w A n c d.fs) (h1 : ¬ segOk from_) :
    Calls Tryd.prog 7 #[dkv A n c d.room d.fuse d.off, .int .i64 from_] w fun e w' => RetR w (d, [], from_, 1) e w' := by
  have HD := Lib.hid hd
  have KU := Lib.hid (numbered_no from_ h1)
  clear hd h1
  go_enter Tryd.func7, Tryd.ntmps7
  go_wp2_with fail
  go_step3
  go_wp2_with fail
  refine (wown_any A n c d.room d.fuse d.off d.fs _ (HD.out.q (((Q.refl _).alloc _).alloc _))).mono ?_
  rintro e w1 ⟨A1, c1, rfl, ho, q1⟩
  have P := Lib.hid (Sd.new2 (room := d.room) (fuse := d.fuse) (off := d.off) (L := d.fs) (Sv.new w HD.out).sb q1 ho)
  obtain ⟨⟨e0, e1, e2, e3⟩, f0, f1, f2', f3⟩ := ((Sv.new w HD.out).sb.step q1).get
  clear ho q1
  go_upto_region 2 with (fail)
  generalize ((((w1.setCell ⟨w.heap.size, 0, none⟩ (.slice A1 n c1)).setCell ⟨w.heap.size, 1, none⟩ (.int .i64 d.room)).setCell ⟨w.heap.size, 2, none⟩ (.int .i64 d.fuse)).setCell ⟨w.heap.size, 3, none⟩ (.bool d.off)) = W at P ⊢
  clear e0 e1 e2 e3 f0 f1 f2' f3
  go_wp2_with fail
  refine (KU.out _).mono ?_
  rintro e w2 ⟨rfl, q2⟩
  have V := Lib.hid (P.out.step q2)
  clear P q2
  obtain ⟨⟨e0, e1, e2, e3⟩, f0, f1, f2', f3⟩ := V.out.sb.get
  obtain ⟨⟨s0, s1, s2, s3⟩, h0, h1, h2, h3⟩ := V.out.sb.getR
  go_wp2
  (try rw [Exit.noGoto_ret])
  refine bodyPost_ret (v := .tuple #[dkv A1 n c1 d.room d.fuse d.off, .slice none 0 0, .int .i64 from_, .int .i64 1]) (by simp [results, Tryd.results7, go_sem, s0, s1, s2, s3]) rfl ?_
  exact V.out.endR HD.out.few (ownS_nil _ _) from_ 1 _ _ _ _
theorem recover_any (from_ : Int) (A : Option Addr) (n c : Nat) (d : Dk) (w : World) (hT : Tab w) (hd : Dsk w A n c d.fs) (hB : Bnd 2097152 d) :
    Calls Tryd.prog 7 #[dkv A n c d.room d.fuse d.off, .int .i64 from_] w fun e w' => RetR w (recM d from_) e w' := by
  by_cases h1 : segOk from_
  · exact rec_good from_ A n c d w hT hd hB h1
  · rw [show recM d from_ = (d, [], from_, 1) by unfold recM; rw [if_pos h1]]
    exact rec_bad from_ A n c d w hd h1
end Go.Proofs.YtncippafbohgbaaDoor

/- The contract of an act of a log's law. -/
namespace Go.Proofs.YtncippafbohgbaaDoor
set_option maxRecDepth 100000
open Go.RowKit Dkm Wm Wl
set_option linter.unusedVariables false
set_option linter.unusedSimpArgs false

/-- the values of a world. -/
def wvals (A : Option Addr) (n c : Nat) (d : Dk) (seg : Int) (P : Option Addr) (pn pc : Nat) (safe : Nat) (dead : Bool) : List Value :=
  [.slice A n c, .int .i64 d.room, .int .i64 d.fuse, .bool d.off, .int .i64 seg, .slice P pn pc, .int .i64 (safe : Int), .bool dead]
/-- how long a row of texts is, and may be. -/
def Nl (P : Option Addr) (pn pc : Nat) : Prop := (P = none → pn = 0 ∧ pc = 0) ∧ pn ≤ pc ∧ pc ≤ maxLen
def RetLw (w : World) (lw : Lw) (e : Ending) (w' : World) : Prop :=
  ∃ A n c P pn pc, e = .returned (.agg #[.slice A n c, .int .i64 lw.d.room, .int .i64 lw.d.fuse, .bool lw.d.off, .int .i64 lw.seg, .slice P pn pc, .int .i64 (lw.safe : Int), .bool lw.dead]) ∧ Dsk w' A n c lw.d.fs ∧ Strs w' P pn lw.put ∧ Nl P pn pc ∧ Q w w'
theorem Bx.get8 {w : World} {b : Nat} {x0 x1 x2 x3 x4 x5 x6 x7 : Value} (h : Bx w b [x0, x1, x2, x3, x4, x5, x6, x7]) :
    (w.cell? ⟨b, 0, none⟩ = some x0 ∧ w.cell? ⟨b, 1, none⟩ = some x1 ∧ w.cell? ⟨b, 2, none⟩ = some x2 ∧ w.cell? ⟨b, 3, none⟩ = some x3 ∧ w.cell? ⟨b, 4, none⟩ = some x4 ∧ w.cell? ⟨b, 5, none⟩ = some x5 ∧ w.cell? ⟨b, 6, none⟩ = some x6 ∧ w.cell? ⟨b, 7, none⟩ = some x7) ∧
    w.frozen? ⟨b, 0, none⟩ = false ∧ w.frozen? ⟨b, 1, none⟩ = false ∧ w.frozen? ⟨b, 2, none⟩ = false ∧ w.frozen? ⟨b, 3, none⟩ = false ∧ w.frozen? ⟨b, 4, none⟩ = false ∧ w.frozen? ⟨b, 5, none⟩ = false ∧ w.frozen? ⟨b, 6, none⟩ = false ∧ w.frozen? ⟨b, 7, none⟩ = false :=
  ⟨⟨(h 0 _ rfl).1, (h 1 _ rfl).1, (h 2 _ rfl).1, (h 3 _ rfl).1, (h 4 _ rfl).1, (h 5 _ rfl).1, (h 6 _ rfl).1, (h 7 _ rfl).1⟩, (h 0 _ rfl).2, (h 1 _ rfl).2, (h 2 _ rfl).2, (h 3 _ rfl).2, (h 4 _ rfl).2, (h 5 _ rfl).2, (h 6 _ rfl).2, (h 7 _ rfl).2⟩

/-- the boxes of an act: the world's, the act's, the result's. -/
structure Db (w : World) (vs : List Value) (a : WAct) (wr : World) : Prop where
  bw : Bx wr w.heap.size vs
  ba : Bx wr (w.heap.size + 1) [.int .i64 a.kind, .int .i64 a.num, .string a.s]
  br : Bx wr (w.heap.size + 1 + 1) [.slice none 0 0, .int .i64 0, .int .i64 0, .bool false, .int .i64 0, .slice none 0 0, .int .i64 0, .bool false]
  q : Q w wr
theorem Db.new (w : World) (vs : List Value) (a : WAct) (t t2 : TypeId) :
    Db w vs a (((w.alloc (.cells vs.toArray t)).alloc (.cells #[.int .i64 a.kind, .int .i64 a.num, .string a.s] t2)).alloc (.cells #[.slice none 0 0, .int .i64 0, .int .i64 0, .bool false, .int .i64 0, .slice none 0 0, .int .i64 0, .bool false] t)) := by
  refine ⟨((Bx.new w vs t).alloc _).alloc _, ?_, ?_, (((Q.refl w).alloc _).alloc _).alloc _⟩
  · have := (Bx.new (w.alloc (.cells vs.toArray t)) [.int .i64 a.kind, .int .i64 a.num, .string a.s] t2).alloc (.cells #[.slice none 0 0, .int .i64 0, .int .i64 0, .bool false, .int .i64 0, .slice none 0 0, .int .i64 0, .bool false] t)
    simpa using this
  · have := Bx.new ((w.alloc (.cells vs.toArray t)).alloc (.cells #[.int .i64 a.kind, .int .i64 a.num, .string a.s] t2)) [.slice none 0 0, .int .i64 0, .int .i64 0, .bool false, .int .i64 0, .slice none 0 0, .int .i64 0, .bool false] t
    simpa using this

theorem Holds.away1 {w : World} {B k : Nat} {A : Option Addr} {n : Nat} {xs : List Value} (h : Holds w B k A n xs) {b : Nat} (ha : 0 < n → ∀ ad, A = some ad → ad.block ≠ b) (o : Nat) (u : Value) : Holds (w.setCell ⟨b, o, none⟩ u) B k A n xs :=
  ⟨h.1, fun j v hj => by
    obtain ⟨ad, e, hb, hc⟩ := h.2 j v hj
    have hn : 0 < n := by
      have h1 := (List.getElem?_eq_some_iff.1 hj).1
      rw [h.1] at h1
      rcases Nat.eq_zero_or_pos n with rfl | hn
      · simp at h1
      · exact hn
    refine ⟨ad, e, hb, ?_⟩
    have hne := ha hn ad e
    rw [World.cell?_setCell_far _ _ _ _ (by rw [addr_block]; exact fun e2 => hne e2.symm)]
    exact hc⟩
theorem Strs.away1 {w : World} {A : Option Addr} {n : Nat} {l : List (List UInt8)} (h : Strs w A n l) {b : Nat} (ha : 0 < n → ∀ ad, A = some ad → ad.block ≠ b) (o : Nat) (u : Value) : Strs (w.setCell ⟨b, o, none⟩ u) A n l := by
  have := Holds.away1 h ha o u
  rw [show w.heap.size = (w.setCell ⟨b, o, none⟩ u).heap.size by simp [World.setCell]] at this
  exact this
/-- a box of eight is written anew. -/
abbrev set8 (w : World) (b : Nat) (x0 x1 x2 x3 x4 x5 x6 x7 : Value) : World :=
  (((((((w.setCell ⟨b, 0, none⟩ x0).setCell ⟨b, 1, none⟩ x1).setCell ⟨b, 2, none⟩ x2).setCell ⟨b, 3, none⟩ x3).setCell ⟨b, 4, none⟩ x4).setCell ⟨b, 5, none⟩ x5).setCell ⟨b, 6, none⟩ x6).setCell ⟨b, 7, none⟩ x7
theorem Strs.set8 {w : World} {A : Option Addr} {n : Nat} {l : List (List UInt8)} (h : Strs w A n l) {b : Nat} (ha : 0 < n → ∀ ad, A = some ad → ad.block ≠ b) (x0 x1 x2 x3 x4 x5 x6 x7 : Value) : Strs (Go.Proofs.YtncippafbohgbaaDoor.set8 w b x0 x1 x2 x3 x4 x5 x6 x7) A n l :=
  (((((((h.away1 ha 0 x0).away1 ha 1 x1).away1 ha 2 x2).away1 ha 3 x3).away1 ha 4 x4).away1 ha 5 x5).away1 ha 6 x6).away1 ha 7 x7
theorem q_set8 {w w' : World} (q : Q w w') {b : Nat} (hb : w.heap.size ≤ b) (x0 x1 x2 x3 x4 x5 x6 x7 : Value) : Q w (set8 w' b x0 x1 x2 x3 x4 x5 x6 x7) :=
  (((((((q.below.setCell (p := ⟨b, 0, none⟩) hb x0).setCell (p := ⟨b, 1, none⟩) hb x1).setCell (p := ⟨b, 2, none⟩) hb x2).setCell (p := ⟨b, 3, none⟩) hb x3).setCell (p := ⟨b, 4, none⟩) hb x4).setCell (p := ⟨b, 5, none⟩) hb x5).setCell (p := ⟨b, 6, none⟩) hb x6).setCell (p := ⟨b, 7, none⟩) hb x7
theorem Dsk.set8 {w : World} {A : Option Addr} {n c : Nat} {l : List Fil} (h : Dsk w A n c l) {b : Nat} (ha : 0 < n → ∀ ad, A = some ad → ad.block ≠ b) (x0 x1 x2 x3 x4 x5 x6 x7 : Value) : Dsk (Go.Proofs.YtncippafbohgbaaDoor.set8 w b x0 x1 x2 x3 x4 x5 x6 x7) A n c l :=
  (((((((h.away1 ha 0 x0).away1 ha 1 x1).away1 ha 2 x2).away1 ha 3 x3).away1 ha 4 x4).away1 ha 5 x5).away1 ha 6 x6).away1 ha 7 x7

theorem Db.step {w wr w2 : World} {vs : List Value} {a : WAct} (h : Db w vs a wr) (q : Q wr w2) : Db w vs a w2 := ⟨h.bw.q q, h.ba.q q, h.br.q q, h.q.trans q⟩
theorem Db.set1 {w wr : World} {vs : List Value} {a : WAct} (h : Db w vs a wr) {k : Nat} (hk : k < vs.length) (v : Value) : Db w (vs.set k v) a (wr.setCell ⟨w.heap.size, k, none⟩ v) :=
  ⟨h.bw.set hk v, h.ba.far (p := ⟨w.heap.size, k, none⟩) (by show w.heap.size ≠ w.heap.size + 1; omega) v, h.br.far (p := ⟨w.heap.size, k, none⟩) (by show w.heap.size ≠ w.heap.size + 1 + 1; omega) v, h.q.below.setCell (p := ⟨w.heap.size, k, none⟩) (Nat.le_refl _) v⟩
/-- the disk's cells. -/
theorem Db.setD {w wr : World} {x0 x1 x2 x3 x4 x5 x6 x7 : Value} {a : WAct} (h : Db w [x0, x1, x2, x3, x4, x5, x6, x7] a wr) (y0 y1 y2 y3 : Value) :
    Db w [y0, y1, y2, y3, x4, x5, x6, x7] a ((((wr.setCell ⟨w.heap.size, 0, none⟩ y0).setCell ⟨w.heap.size, 1, none⟩ y1).setCell ⟨w.heap.size, 2, none⟩ y2).setCell ⟨w.heap.size, 3, none⟩ y3) :=
  (((h.set1 (k := 0) (by simp) y0).set1 (k := 1) (by simp) y1).set1 (k := 2) (by simp) y2).set1 (k := 3) (by simp) y3
/-- a disk's list and the texts that were put, behind the boxes. -/
structure Dp (w : World) (A : Option Addr) (n c : Nat) (P : Option Addr) (pn pc : Nat) (lw : Lw) (wr : World) : Prop where
  dsk : Dsk wr A n c lw.d.fs
  put : Strs wr P pn lw.put
  nil : Nl P pn pc
  ad : 0 < n → ∀ ad, A = some ad → ad.block ≠ w.heap.size ∧ ad.block ≠ w.heap.size + 1 + 1
  ap : 0 < pn → ∀ ad, P = some ad → ad.block ≠ w.heap.size ∧ ad.block ≠ w.heap.size + 1 + 1
theorem Dp.step {w wr w2 : World} {A : Option Addr} {n c : Nat} {P : Option Addr} {pn pc : Nat} {lw : Lw} (h : Dp w A n c P pn pc lw wr) (q : Q wr w2) : Dp w A n c P pn pc lw w2 := ⟨h.dsk.q q, h.put.q q, h.nil, h.ad, h.ap⟩
theorem strs_blk {w : World} {A : Option Addr} {n : Nat} {l : List (List UInt8)} (h : Strs w A n l) (hn : 0 < n) : ∀ ad, A = some ad → ad.block < w.heap.size := by
  intro ad e
  have hl := h.1
  have h0 : 0 < (l.map fun r => Value.string (bs r)).length := by rw [hl]; omega
  obtain ⟨ad', e', hb, _⟩ := h.2 0 _ (List.getElem?_eq_getElem h0)
  rw [e] at e'; injection e' with e'; subst e'; exact hb
theorem Dp.new {w wr : World} {A : Option Addr} {n c : Nat} {P : Option Addr} {pn pc : Nat} {lw : Lw} (hd : Dsk w A n c lw.d.fs) (hp : Strs w P pn lw.put) (hnil : Nl P pn pc) (q : Q w wr) : Dp w A n c P pn pc lw wr :=
  ⟨hd.q q, hp.q q, hnil, fun hn ad e => by have := hd.files.blk hn ad e; omega, fun hn ad e => by have := strs_blk hp hn ad e; omega⟩
/-- the last store, into the result's box. -/
theorem Dp.ends {w wr : World} {A : Option Addr} {n c : Nat} {P : Option Addr} {pn pc : Nat} {lw : Lw} (h : Dp w A n c P pn pc lw wr) (q : Q w wr) (x0 x1 x2 x3 x4 x5 x6 x7 : Value) :
    RetLw w lw (.returned (.agg #[.slice A n c, .int .i64 lw.d.room, .int .i64 lw.d.fuse, .bool lw.d.off, .int .i64 lw.seg, .slice P pn pc, .int .i64 (lw.safe : Int), .bool lw.dead])) (set8 wr (w.heap.size + 1 + 1) x0 x1 x2 x3 x4 x5 x6 x7) :=
  ⟨A, n, c, P, pn, pc, rfl, h.dsk.set8 (fun hn ad e => (h.ad hn ad e).2) _ _ _ _ _ _ _ _, h.put.set8 (fun hn ad e => (h.ap hn ad e).2) _ _ _ _ _ _ _ _, h.nil, q_set8 q (by omega) _ _ _ _ _ _ _ _⟩

set_option maxHeartbeats 4000000 in
/-- other kinds change nothing. -/
theorem does_none (a : WAct) (A : Option Addr) (n c : Nat) (P : Option Addr) (pn pc : Nat) (lw : Lw) (w : World) (hd : Dsk w A n c lw.d.fs) (hp : Strs w P pn lw.put) (hnil : Nl P pn pc) (h1 : a.kind ≠ 1) (h2 : a.kind ≠ 2) (h3 : a.kind ≠ 3) :
    Calls Tryd.prog 6 #[.agg #[.slice A n c, .int .i64 lw.d.room, .int .i64 lw.d.fuse, .bool lw.d.off, .int .i64 lw.seg, .slice P pn pc, .int .i64 (lw.safe : Int), .bool lw.dead], a.v] w fun e w' => RetLw w lw e w' := by
  have HD := Lib.hid hd
  have HP := Lib.hid hp
  have HN := Lib.hid hnil
  obtain ⟨kind, num, s⟩ := a
  simp only at h1 h2 h3
  clear hd hp hnil
  go_enter Tryd.func6, Tryd.ntmps6
  go_upto_region 1 with (fail)
  have B0 := Lib.hid (Db.new w [.slice A n c, .int .i64 lw.d.room, .int .i64 lw.d.fuse, .bool lw.d.off, .int .i64 lw.seg, .slice P pn pc, .int .i64 (lw.safe : Int), .bool lw.dead] ⟨kind, num, s⟩ 31 33)
  have B0 : Hid (Db w [.slice A n c, .int .i64 lw.d.room, .int .i64 lw.d.fuse, .bool lw.d.off, .int .i64 lw.seg, .slice P pn pc, .int .i64 (lw.safe : Int), .bool lw.dead] ⟨kind, num, s⟩ (((w.alloc (.cells #[.slice A n c, .int .i64 lw.d.room, .int .i64 lw.d.fuse, .bool lw.d.off, .int .i64 lw.seg, .slice P pn pc, .int .i64 (lw.safe : Int), .bool lw.dead] 31)).alloc (.cells #[.int .i64 kind, .int .i64 num, .string s] 33)).alloc (.cells #[.slice none 0 0, .int .i64 0, .int .i64 0, .bool false, .int .i64 0, .slice none 0 0, .int .i64 0, .bool false] 31))) := Lib.hid B0.out
  generalize (((w.alloc (.cells #[.slice A n c, .int .i64 lw.d.room, .int .i64 lw.d.fuse, .bool lw.d.off, .int .i64 lw.seg, .slice P pn pc, .int .i64 (lw.safe : Int), .bool lw.dead] 31)).alloc (.cells #[.int .i64 kind, .int .i64 num, .string s] 33)).alloc (.cells #[.slice none 0 0, .int .i64 0, .int .i64 0, .bool false, .int .i64 0, .slice none 0 0, .int .i64 0, .bool false] 31)) = W at B0 ⊢
  obtain ⟨⟨k0, k1, k2⟩, _⟩ := B0.out.ba.get3
  obtain ⟨⟨w0, w1, w2, w3, w4, w5, w6, w7⟩, _⟩ := B0.out.bw.get8
  obtain ⟨⟨r0, r1, r2, r3, r4, r5, r6, r7⟩, f0, f1, f2, f3, f4, f5, f6, f7⟩ := B0.out.br.get8
  go_wp2
  refine bodyPost_ret (v := .agg #[.slice A n c, .int .i64 lw.d.room, .int .i64 lw.d.fuse, .bool lw.d.off, .int .i64 lw.seg, .slice P pn pc, .int .i64 (lw.safe : Int), .bool lw.dead]) (by simp [results, Tryd.results6, go_sem, r0, r1, r2, r3, r4, r5, r6, r7]) rfl ?_
  exact Dp.ends (Dp.new HD.out HP.out HN.out B0.out.q) B0.out.q _ _ _ _ _ _ _ _
set_option maxHeartbeats 4000000 in
/-- a fuse. -/
theorem does_arm (a : WAct) (A : Option Addr) (n c : Nat) (P : Option Addr) (pn pc : Nat) (lw : Lw) (w : World) (hd : Dsk w A n c lw.d.fs) (hp : Strs w P pn lw.put) (hnil : Nl P pn pc) (h1 : a.kind = 3) :
    Calls Tryd.prog 6 #[.agg #[.slice A n c, .int .i64 lw.d.room, .int .i64 lw.d.fuse, .bool lw.d.off, .int .i64 lw.seg, .slice P pn pc, .int .i64 (lw.safe : Int), .bool lw.dead], a.v] w fun e w' => RetLw w { lw with d := { lw.d with fuse := max a.num (-1) } } e w' := by
  have HD := Lib.hid hd
  have HP := Lib.hid hp
  have HN := Lib.hid hnil
  obtain ⟨kind, num, s⟩ := a
  simp only at h1
  subst h1
  clear hd hp hnil
  go_enter Tryd.func6, Tryd.ntmps6
  go_upto_region 1 with (fail)
  have B0 := Lib.hid (Db.new w [.slice A n c, .int .i64 lw.d.room, .int .i64 lw.d.fuse, .bool lw.d.off, .int .i64 lw.seg, .slice P pn pc, .int .i64 (lw.safe : Int), .bool lw.dead] ⟨3, num, s⟩ 31 33)
  have B0 : Hid (Db w [.slice A n c, .int .i64 lw.d.room, .int .i64 lw.d.fuse, .bool lw.d.off, .int .i64 lw.seg, .slice P pn pc, .int .i64 (lw.safe : Int), .bool lw.dead] ⟨3, num, s⟩ (((w.alloc (.cells #[.slice A n c, .int .i64 lw.d.room, .int .i64 lw.d.fuse, .bool lw.d.off, .int .i64 lw.seg, .slice P pn pc, .int .i64 (lw.safe : Int), .bool lw.dead] 31)).alloc (.cells #[.int .i64 3, .int .i64 num, .string s] 33)).alloc (.cells #[.slice none 0 0, .int .i64 0, .int .i64 0, .bool false, .int .i64 0, .slice none 0 0, .int .i64 0, .bool false] 31))) := Lib.hid B0.out
  generalize (((w.alloc (.cells #[.slice A n c, .int .i64 lw.d.room, .int .i64 lw.d.fuse, .bool lw.d.off, .int .i64 lw.seg, .slice P pn pc, .int .i64 (lw.safe : Int), .bool lw.dead] 31)).alloc (.cells #[.int .i64 3, .int .i64 num, .string s] 33)).alloc (.cells #[.slice none 0 0, .int .i64 0, .int .i64 0, .bool false, .int .i64 0, .slice none 0 0, .int .i64 0, .bool false] 31)) = W at B0 ⊢
  obtain ⟨⟨k0, k1, k2⟩, _⟩ := B0.out.ba.get3
  obtain ⟨⟨w0, w1, w2, w3, w4, w5, w6, w7⟩, _⟩ := B0.out.bw.get8
  obtain ⟨⟨r0, r1, r2, r3, r4, r5, r6, r7⟩, f0, f1, f2, f3, f4, f5, f6, f7⟩ := B0.out.br.get8
  go_wp2_with fail
  refine (ref_arm A n c lw.d.room lw.d.fuse lw.d.off num _).mono ?_
  rintro e W1 ⟨rfl, q1⟩
  have B1 := Lib.hid ((B0.out.step q1).setD (.slice A n c) (.int .i64 lw.d.room) (.int .i64 (max num (-1))) (.bool lw.d.off))
  clear k0 k1 k2 w0 w1 w2 w3 w4 w5 w6 w7 r0 r1 r2 r3 r4 r5 r6 r7 f0 f1 f2 f3 f4 f5 f6 f7
  obtain ⟨⟨w0, w1, w2, w3, w4, w5, w6, w7⟩, f0, f1, f2, f3, f4, f5, f6, f7⟩ := (B0.out.step q1).bw.get8
  clear B0 q1
  go_upto_region 20 with (fail)
  generalize ((((W1.setCell ⟨w.heap.size, 0, none⟩ (.slice A n c)).setCell ⟨w.heap.size, 1, none⟩ (.int .i64 lw.d.room)).setCell ⟨w.heap.size, 2, none⟩ (.int .i64 (max num (-1)))).setCell ⟨w.heap.size, 3, none⟩ (.bool lw.d.off)) = W2 at B1 ⊢
  clear w0 w1 w2 w3 w4 w5 w6 w7 f0 f1 f2 f3 f4 f5 f6 f7
  obtain ⟨⟨w0, w1, w2, w3, w4, w5, w6, w7⟩, _⟩ := B1.out.bw.get8
  obtain ⟨⟨r0, r1, r2, r3, r4, r5, r6, r7⟩, f0, f1, f2, f3, f4, f5, f6, f7⟩ := B1.out.br.get8
  go_wp2
  refine bodyPost_ret (v := .agg #[.slice A n c, .int .i64 lw.d.room, .int .i64 (max num (-1)), .bool lw.d.off, .int .i64 lw.seg, .slice P pn pc, .int .i64 (lw.safe : Int), .bool lw.dead]) (by simp [results, Tryd.results6, go_sem, r0, r1, r2, r3, r4, r5, r6, r7]) rfl ?_
  exact Dp.ends (lw := { lw with d := { lw.d with fuse := max num (-1) } }) (Dp.new (lw := { lw with d := { lw.d with fuse := max num (-1) } }) HD.out HP.out HN.out B1.out.q) B1.out.q _ _ _ _ _ _ _ _

/-- the disk is another one. -/
theorem dp_setD {w wr : World} {A : Option Addr} {n c : Nat} {P : Option Addr} {pn pc : Nat} {lw : Lw} (hd : Dsk wr A n c lw.d.fs) (hp : Strs wr P pn lw.put) (hnil : Nl P pn pc)
    (ha : 0 < n → ∀ ad, A = some ad → ad.block ≠ w.heap.size ∧ ad.block ≠ w.heap.size + 1 + 1) (hap : 0 < pn → ∀ ad, P = some ad → ad.block ≠ w.heap.size ∧ ad.block ≠ w.heap.size + 1 + 1) (y0 y1 y2 y3 : Value) :
    Dp w A n c P pn pc lw ((((wr.setCell ⟨w.heap.size, 0, none⟩ y0).setCell ⟨w.heap.size, 1, none⟩ y1).setCell ⟨w.heap.size, 2, none⟩ y2).setCell ⟨w.heap.size, 3, none⟩ y3) :=
  ⟨(((hd.away1 (fun hn ad e => (ha hn ad e).1) 0 y0).away1 (fun hn ad e => (ha hn ad e).1) 1 y1).away1 (fun hn ad e => (ha hn ad e).1) 2 y2).away1 (fun hn ad e => (ha hn ad e).1) 3 y3,
   (((hp.away1 (fun hn ad e => (hap hn ad e).1) 0 y0).away1 (fun hn ad e => (hap hn ad e).1) 1 y1).away1 (fun hn ad e => (hap hn ad e).1) 2 y2).away1 (fun hn ad e => (hap hn ad e).1) 3 y3, hnil, ha, hap⟩
theorem Dp.set1 {w wr : World} {A : Option Addr} {n c : Nat} {P : Option Addr} {pn pc : Nat} {lw : Lw} (h : Dp w A n c P pn pc lw wr) (k : Nat) (v : Value) : Dp w A n c P pn pc lw (wr.setCell ⟨w.heap.size, k, none⟩ v) :=
  ⟨h.dsk.away1 (fun hn ad e => (h.ad hn ad e).1) k v, h.put.away1 (fun hn ad e => (h.ap hn ad e).1) k v, h.nil, h.ad, h.ap⟩

set_option maxHeartbeats 4000000 in
theorem does_sync_no (num : Int) (s : ByteArray) (A : Option Addr) (n c : Nat) (P : Option Addr) (pn pc : Nat) (d : Dk) (seg : Int) (put : List Rec) (safe : Nat) (dead : Bool) (r : Dk) (er : Int) (w : World) (hT : Tab w) (hd : Dsk w A n c d.fs) (hB : Bnd 2305843009213693952 d) (hp : Strs w P pn put) (hnil : Nl P pn pc)
    (hr : syncM d seg = (r, er)) (he : er ≠ 0) :
    Calls Tryd.prog 6 #[.agg #[.slice A n c, .int .i64 d.room, .int .i64 d.fuse, .bool d.off, .int .i64 seg, .slice P pn pc, .int .i64 (safe : Int), .bool dead], .agg #[.int .i64 2, .int .i64 num, .string s]] w fun e w' => RetLw w ⟨r, seg, put, safe, dead⟩ e w' := by
  have HT := Lib.hid hT
  have HD := Lib.hid hd
  have HP := Lib.hid hp
  have HN := Lib.hid hnil
  have HPn := Lib.hid (show put.length = pn by have := hp.1; simpa using this)
  have K := Lib.hid (fun W (h1 : Tab W) (h2 : Dsk W A n c d.fs) => wsync_any seg A n c d W h1 h2 (fun f hf => Nat.le_trans (hB.sum f hf) (by unfold maxLen; omega)))
  rw [hr] at K
  clear hT hd hp hnil hr hB
  have he1 : (er == 0) = false := by simpa using he
  go_enter Tryd.func6, Tryd.ntmps6
  go_upto_region 1 with (fail)
  have B0 : Hid (Db w [.slice A n c, .int .i64 d.room, .int .i64 d.fuse, .bool d.off, .int .i64 seg, .slice P pn pc, .int .i64 (safe : Int), .bool dead] ⟨2, num, s⟩ (((w.alloc (.cells #[.slice A n c, .int .i64 d.room, .int .i64 d.fuse, .bool d.off, .int .i64 seg, .slice P pn pc, .int .i64 (safe : Int), .bool dead] 31)).alloc (.cells #[.int .i64 2, .int .i64 num, .string s] 33)).alloc (.cells #[.slice none 0 0, .int .i64 0, .int .i64 0, .bool false, .int .i64 0, .slice none 0 0, .int .i64 0, .bool false] 31))) := Lib.hid (Db.new w [.slice A n c, .int .i64 d.room, .int .i64 d.fuse, .bool d.off, .int .i64 seg, .slice P pn pc, .int .i64 (safe : Int), .bool dead] ⟨2, num, s⟩ 31 33)
  generalize (((w.alloc (.cells #[.slice A n c, .int .i64 d.room, .int .i64 d.fuse, .bool d.off, .int .i64 seg, .slice P pn pc, .int .i64 (safe : Int), .bool dead] 31)).alloc (.cells #[.int .i64 2, .int .i64 num, .string s] 33)).alloc (.cells #[.slice none 0 0, .int .i64 0, .int .i64 0, .bool false, .int .i64 0, .slice none 0 0, .int .i64 0, .bool false] 31)) = W at B0 ⊢
  obtain ⟨⟨k0, k1, k2⟩, _⟩ := B0.out.ba.get3
  obtain ⟨⟨w0, w1, w2, w3, w4, w5, w6, w7⟩, f0, f1, f2, f3, f4, f5, f6, f7⟩ := B0.out.bw.get8
  go_wp2_with fail
  refine (K.out W (HT.out.q B0.out.q) (HD.out.q B0.out.q)).mono ?_
  rintro e W1 ⟨A2, n2, c2, rfl, hd2, hf2, q1⟩
  have hlt := B0.out.br.lt
  have D1 : Hid (Dp w A2 n2 c2 P pn pc ⟨r, seg, put, safe, dead⟩ _) := Lib.hid ((dp_setD (w := w) (lw := ⟨r, seg, put, safe, dead⟩) hd2 ((HP.out.q B0.out.q).q q1) HN.out (fun _ ad e => by have := hf2 ad e; omega) (fun hn ad e => by have := strs_blk HP.out hn ad e; omega) (.slice A2 n2 c2) (.int .i64 r.room) (.int .i64 r.fuse) (.bool r.off)).step ((Q.refl _).alloc (.cells #[.slice A2 n2 c2, .int .i64 r.room, .int .i64 r.fuse, .bool r.off] 26)))
  have B1 := Lib.hid (((B0.out.step q1).setD (.slice A2 n2 c2) (.int .i64 r.room) (.int .i64 r.fuse) (.bool r.off)).step ((Q.refl _).alloc (.cells #[.slice A2 n2 c2, .int .i64 r.room, .int .i64 r.fuse, .bool r.off] 26)))
  clear k0 k1 k2 w0 w1 w2 w3 w4 w5 w6 w7 f0 f1 f2 f3 f4 f5 f6 f7
  obtain ⟨⟨w0, w1, w2, w3, w4, w5, w6, w7⟩, f0, f1, f2, f3, f4, f5, f6, f7⟩ := (B0.out.step q1).bw.get8
  have hz : w.heap.size < W1.heap.size := by have := q1.size; omega
  clear B0 q1 hd2 hf2 hlt
  go_upto_region 16 with (fail)
  generalize (((((W1.setCell ⟨w.heap.size, 0, none⟩ (.slice A2 n2 c2)).setCell ⟨w.heap.size, 1, none⟩ (.int .i64 r.room)).setCell ⟨w.heap.size, 2, none⟩ (.int .i64 r.fuse)).setCell ⟨w.heap.size, 3, none⟩ (.bool r.off)).alloc (.cells #[.slice A2 n2 c2, .int .i64 r.room, .int .i64 r.fuse, .bool r.off] 26)) = W2 at B1 D1 ⊢
  clear w0 w1 w2 w3 w4 w5 w6 w7 f0 f1 f2 f3 f4 f5 f6 f7
  obtain ⟨⟨w0, w1, w2, w3, w4, w5, w6, w7⟩, f0, f1, f2, f3, f4, f5, f6, f7⟩ := B1.out.bw.get8
  obtain ⟨⟨r0, r1, r2, r3, r4, r5, r6, r7⟩, g0, g1, g2, g3, g4, g5, g6, g7⟩ := B1.out.br.get8
  go_wp2
  refine bodyPost_ret (v := .agg #[.slice A2 n2 c2, .int .i64 r.room, .int .i64 r.fuse, .bool r.off, .int .i64 seg, .slice P pn pc, .int .i64 (safe : Int), .bool dead]) (by simp [results, Tryd.results6, go_sem, r0, r1, r2, r3, r4, r5, r6, r7]) rfl ?_
  exact Dp.ends D1.out B1.out.q _ _ _ _ _ _ _ _

set_option maxHeartbeats 4000000 in
theorem does_sync_dead (num : Int) (s : ByteArray) (A : Option Addr) (n c : Nat) (P : Option Addr) (pn pc : Nat) (d : Dk) (seg : Int) (put : List Rec) (safe : Nat) (r : Dk) (er : Int) (w : World) (hT : Tab w) (hd : Dsk w A n c d.fs) (hB : Bnd 2305843009213693952 d) (hp : Strs w P pn put) (hnil : Nl P pn pc)
    (hr : syncM d seg = (r, er)) (he : er = 0) :
    Calls Tryd.prog 6 #[.agg #[.slice A n c, .int .i64 d.room, .int .i64 d.fuse, .bool d.off, .int .i64 seg, .slice P pn pc, .int .i64 (safe : Int), .bool true], .agg #[.int .i64 2, .int .i64 num, .string s]] w fun e w' => RetLw w ⟨r, seg, put, safe, true⟩ e w' := by
  have HT := Lib.hid hT
  have HD := Lib.hid hd
  have HP := Lib.hid hp
  have HN := Lib.hid hnil
  have HPn := Lib.hid (show put.length = pn by have := hp.1; simpa using this)
  have K := Lib.hid (fun W (h1 : Tab W) (h2 : Dsk W A n c d.fs) => wsync_any seg A n c d W h1 h2 (fun f hf => Nat.le_trans (hB.sum f hf) (by unfold maxLen; omega)))
  rw [hr] at K
  clear hT hd hp hnil hr hB
  subst he
  go_enter Tryd.func6, Tryd.ntmps6
  go_upto_region 1 with (fail)
  have B0 : Hid (Db w [.slice A n c, .int .i64 d.room, .int .i64 d.fuse, .bool d.off, .int .i64 seg, .slice P pn pc, .int .i64 (safe : Int), .bool true] ⟨2, num, s⟩ (((w.alloc (.cells #[.slice A n c, .int .i64 d.room, .int .i64 d.fuse, .bool d.off, .int .i64 seg, .slice P pn pc, .int .i64 (safe : Int), .bool true] 31)).alloc (.cells #[.int .i64 2, .int .i64 num, .string s] 33)).alloc (.cells #[.slice none 0 0, .int .i64 0, .int .i64 0, .bool false, .int .i64 0, .slice none 0 0, .int .i64 0, .bool false] 31))) := Lib.hid (Db.new w [.slice A n c, .int .i64 d.room, .int .i64 d.fuse, .bool d.off, .int .i64 seg, .slice P pn pc, .int .i64 (safe : Int), .bool true] ⟨2, num, s⟩ 31 33)
  generalize (((w.alloc (.cells #[.slice A n c, .int .i64 d.room, .int .i64 d.fuse, .bool d.off, .int .i64 seg, .slice P pn pc, .int .i64 (safe : Int), .bool true] 31)).alloc (.cells #[.int .i64 2, .int .i64 num, .string s] 33)).alloc (.cells #[.slice none 0 0, .int .i64 0, .int .i64 0, .bool false, .int .i64 0, .slice none 0 0, .int .i64 0, .bool false] 31)) = W at B0 ⊢
  obtain ⟨⟨k0, k1, k2⟩, _⟩ := B0.out.ba.get3
  obtain ⟨⟨w0, w1, w2, w3, w4, w5, w6, w7⟩, f0, f1, f2, f3, f4, f5, f6, f7⟩ := B0.out.bw.get8
  go_wp2_with fail
  refine (K.out W (HT.out.q B0.out.q) (HD.out.q B0.out.q)).mono ?_
  rintro e W1 ⟨A2, n2, c2, rfl, hd2, hf2, q1⟩
  have hlt := B0.out.br.lt
  have D1 : Hid (Dp w A2 n2 c2 P pn pc ⟨r, seg, put, safe, true⟩ _) := Lib.hid ((dp_setD (w := w) (lw := ⟨r, seg, put, safe, true⟩) hd2 ((HP.out.q B0.out.q).q q1) HN.out (fun _ ad e => by have := hf2 ad e; omega) (fun hn ad e => by have := strs_blk HP.out hn ad e; omega) (.slice A2 n2 c2) (.int .i64 r.room) (.int .i64 r.fuse) (.bool r.off)).step ((Q.refl _).alloc (.cells #[.slice A2 n2 c2, .int .i64 r.room, .int .i64 r.fuse, .bool r.off] 26)))
  have B1 := Lib.hid (((B0.out.step q1).setD (.slice A2 n2 c2) (.int .i64 r.room) (.int .i64 r.fuse) (.bool r.off)).step ((Q.refl _).alloc (.cells #[.slice A2 n2 c2, .int .i64 r.room, .int .i64 r.fuse, .bool r.off] 26)))
  clear k0 k1 k2 w0 w1 w2 w3 w4 w5 w6 w7 f0 f1 f2 f3 f4 f5 f6 f7
  obtain ⟨⟨w0, w1, w2, w3, w4, w5, w6, w7⟩, f0, f1, f2, f3, f4, f5, f6, f7⟩ := (B0.out.step q1).bw.get8
  have hz : w.heap.size < W1.heap.size := by have := q1.size; omega
  clear B0 q1 hd2 hf2 hlt
  go_upto_region 16 with (fail)
  generalize (((((W1.setCell ⟨w.heap.size, 0, none⟩ (.slice A2 n2 c2)).setCell ⟨w.heap.size, 1, none⟩ (.int .i64 r.room)).setCell ⟨w.heap.size, 2, none⟩ (.int .i64 r.fuse)).setCell ⟨w.heap.size, 3, none⟩ (.bool r.off)).alloc (.cells #[.slice A2 n2 c2, .int .i64 r.room, .int .i64 r.fuse, .bool r.off] 26)) = W2 at B1 D1 ⊢
  clear w0 w1 w2 w3 w4 w5 w6 w7 f0 f1 f2 f3 f4 f5 f6 f7
  obtain ⟨⟨w0, w1, w2, w3, w4, w5, w6, w7⟩, f0, f1, f2, f3, f4, f5, f6, f7⟩ := B1.out.bw.get8
  obtain ⟨⟨r0, r1, r2, r3, r4, r5, r6, r7⟩, g0, g1, g2, g3, g4, g5, g6, g7⟩ := B1.out.br.get8
  go_wp2
  refine bodyPost_ret (v := .agg #[.slice A2 n2 c2, .int .i64 r.room, .int .i64 r.fuse, .bool r.off, .int .i64 seg, .slice P pn pc, .int .i64 (safe : Int), .bool true]) (by simp [results, Tryd.results6, go_sem, r0, r1, r2, r3, r4, r5, r6, r7]) rfl ?_
  exact Dp.ends D1.out B1.out.q _ _ _ _ _ _ _ _

set_option maxHeartbeats 4000000 in
theorem does_sync_safe (num : Int) (s : ByteArray) (A : Option Addr) (n c : Nat) (P : Option Addr) (pn pc : Nat) (d : Dk) (seg : Int) (put : List Rec) (safe : Nat) (r : Dk) (er : Int) (w : World) (hT : Tab w) (hd : Dsk w A n c d.fs) (hB : Bnd 2305843009213693952 d) (hp : Strs w P pn put) (hnil : Nl P pn pc)
    (hr : syncM d seg = (r, er)) (he : er = 0) :
    Calls Tryd.prog 6 #[.agg #[.slice A n c, .int .i64 d.room, .int .i64 d.fuse, .bool d.off, .int .i64 seg, .slice P pn pc, .int .i64 (safe : Int), .bool false], .agg #[.int .i64 2, .int .i64 num, .string s]] w fun e w' => RetLw w ⟨r, seg, put, put.length, false⟩ e w' := by
  have HT := Lib.hid hT
  have HD := Lib.hid hd
  have HP := Lib.hid hp
  have HN := Lib.hid hnil
  have HPn := Lib.hid (show put.length = pn by have := hp.1; simpa using this)
  have K := Lib.hid (fun W (h1 : Tab W) (h2 : Dsk W A n c d.fs) => wsync_any seg A n c d W h1 h2 (fun f hf => Nat.le_trans (hB.sum f hf) (by unfold maxLen; omega)))
  rw [hr] at K
  clear hT hd hp hnil hr hB
  subst he
  go_enter Tryd.func6, Tryd.ntmps6
  go_upto_region 1 with (fail)
  have B0 : Hid (Db w [.slice A n c, .int .i64 d.room, .int .i64 d.fuse, .bool d.off, .int .i64 seg, .slice P pn pc, .int .i64 (safe : Int), .bool false] ⟨2, num, s⟩ (((w.alloc (.cells #[.slice A n c, .int .i64 d.room, .int .i64 d.fuse, .bool d.off, .int .i64 seg, .slice P pn pc, .int .i64 (safe : Int), .bool false] 31)).alloc (.cells #[.int .i64 2, .int .i64 num, .string s] 33)).alloc (.cells #[.slice none 0 0, .int .i64 0, .int .i64 0, .bool false, .int .i64 0, .slice none 0 0, .int .i64 0, .bool false] 31))) := Lib.hid (Db.new w [.slice A n c, .int .i64 d.room, .int .i64 d.fuse, .bool d.off, .int .i64 seg, .slice P pn pc, .int .i64 (safe : Int), .bool false] ⟨2, num, s⟩ 31 33)
  generalize (((w.alloc (.cells #[.slice A n c, .int .i64 d.room, .int .i64 d.fuse, .bool d.off, .int .i64 seg, .slice P pn pc, .int .i64 (safe : Int), .bool false] 31)).alloc (.cells #[.int .i64 2, .int .i64 num, .string s] 33)).alloc (.cells #[.slice none 0 0, .int .i64 0, .int .i64 0, .bool false, .int .i64 0, .slice none 0 0, .int .i64 0, .bool false] 31)) = W at B0 ⊢
  obtain ⟨⟨k0, k1, k2⟩, _⟩ := B0.out.ba.get3
  obtain ⟨⟨w0, w1, w2, w3, w4, w5, w6, w7⟩, f0, f1, f2, f3, f4, f5, f6, f7⟩ := B0.out.bw.get8
  go_wp2_with fail
  refine (K.out W (HT.out.q B0.out.q) (HD.out.q B0.out.q)).mono ?_
  rintro e W1 ⟨A2, n2, c2, rfl, hd2, hf2, q1⟩
  have hlt := B0.out.br.lt
  have D1 : Hid (Dp w A2 n2 c2 P pn pc ⟨r, seg, put, put.length, false⟩ _) := Lib.hid ((dp_setD (w := w) (lw := ⟨r, seg, put, put.length, false⟩) hd2 ((HP.out.q B0.out.q).q q1) HN.out (fun _ ad e => by have := hf2 ad e; omega) (fun hn ad e => by have := strs_blk HP.out hn ad e; omega) (.slice A2 n2 c2) (.int .i64 r.room) (.int .i64 r.fuse) (.bool r.off)).step ((Q.refl _).alloc (.cells #[.slice A2 n2 c2, .int .i64 r.room, .int .i64 r.fuse, .bool r.off] 26)))
  have B1 := Lib.hid (((B0.out.step q1).setD (.slice A2 n2 c2) (.int .i64 r.room) (.int .i64 r.fuse) (.bool r.off)).step ((Q.refl _).alloc (.cells #[.slice A2 n2 c2, .int .i64 r.room, .int .i64 r.fuse, .bool r.off] 26)))
  clear k0 k1 k2 w0 w1 w2 w3 w4 w5 w6 w7 f0 f1 f2 f3 f4 f5 f6 f7
  obtain ⟨⟨w0, w1, w2, w3, w4, w5, w6, w7⟩, f0, f1, f2, f3, f4, f5, f6, f7⟩ := (B0.out.step q1).bw.get8
  have hz : w.heap.size < W1.heap.size := by have := q1.size; omega
  clear B0 q1 hd2 hf2 hlt
  go_upto_region 16 with (fail)
  generalize (((((W1.setCell ⟨w.heap.size, 0, none⟩ (.slice A2 n2 c2)).setCell ⟨w.heap.size, 1, none⟩ (.int .i64 r.room)).setCell ⟨w.heap.size, 2, none⟩ (.int .i64 r.fuse)).setCell ⟨w.heap.size, 3, none⟩ (.bool r.off)).alloc (.cells #[.slice A2 n2 c2, .int .i64 r.room, .int .i64 r.fuse, .bool r.off] 26)) = W2 at B1 D1 ⊢
  clear w0 w1 w2 w3 w4 w5 w6 w7 f0 f1 f2 f3 f4 f5 f6 f7
  obtain ⟨⟨w0, w1, w2, w3, w4, w5, w6, w7⟩, f0, f1, f2, f3, f4, f5, f6, f7⟩ := B1.out.bw.get8
  go_upto_region 20 with (fail)
  have B2 := Lib.hid (B1.out.set1 (k := 6) (by simp) (.int .i64 (pn : Int)))
  have D2 := Lib.hid (D1.out.set1 6 (.int .i64 (pn : Int)))
  clear B1 D1 w0 w1 w2 w3 w4 w5 w6 w7 f0 f1 f2 f3 f4 f5 f6 f7
  generalize W2.setCell ⟨w.heap.size, 6, none⟩ (.int .i64 (pn : Int)) = W3 at B2 D2 ⊢
  have B1 := B2
  have D1 := D2
  clear B2 D2
  have B1 : Hid (Db w [.slice A2 n2 c2, .int .i64 r.room, .int .i64 r.fuse, .bool r.off, .int .i64 seg, .slice P pn pc, .int .i64 (pn : Int), .bool false] ⟨2, num, s⟩ W3) := Lib.hid B1.out
  obtain ⟨⟨w0, w1, w2, w3, w4, w5, w6, w7⟩, _⟩ := B1.out.bw.get8
  obtain ⟨⟨r0, r1, r2, r3, r4, r5, r6, r7⟩, g0, g1, g2, g3, g4, g5, g6, g7⟩ := B1.out.br.get8
  go_wp2
  refine bodyPost_ret (v := .agg #[.slice A2 n2 c2, .int .i64 r.room, .int .i64 r.fuse, .bool r.off, .int .i64 seg, .slice P pn pc, .int .i64 (pn : Int), .bool false]) (by simp [results, Tryd.results6, go_sem, r0, r1, r2, r3, r4, r5, r6, r7]) rfl ?_
  have hE := Dp.ends D1.out B1.out.q (.slice A2 n2 c2) (.int .i64 r.room) (.int .i64 r.fuse) (.bool r.off) (.int .i64 seg) (.slice P pn pc) (.int .i64 (pn : Int)) (.bool false)
  simp only [HPn.out] at hE
  rw [HPn.out]
  exact hE
end Go.Proofs.YtncippafbohgbaaDoor
