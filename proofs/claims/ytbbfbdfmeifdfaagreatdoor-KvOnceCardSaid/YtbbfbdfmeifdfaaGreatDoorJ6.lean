/- KvBox, Builder, BatchBytes, BatchHand, BatchTake, Frame, Flat, KindIn, TableShown, PairIn, MergeMath, RunFold, BatchIn, WalName, WalPut: merged. -/
import Derived.Test.YtbbfbdfmeifdfaaGreatDoorJ4
import Derived.Test.YtbbfbdfmeifdfaaGreatDoorJ5
import Derived.Test.YtbbfbdfmeifdfaaGreatDoorJ1
import Derived.Test.YtbbfbdfmeifdfaaGreatDoorShelf
import Derived.Lib.Builder
import Derived.Lib.AppendStr
import Derived.OwnWalk
import Derived.Laws.EntriesVeiled
import Derived.Test.YtbbfbdfmeifdfaaGreatDoorJ3
import Derived.Deep.DeepCutAuto
import Derived.SizedLaws
import Derived.Carry
import Derived.Deep.Slices
import Derived.ChangeMaps5
import Derived.Laws.StructEq
import Derived.Lib.ItoaMem
import Derived.Test.YtbbfbdfmeifdfaaGreatDoorJ2
import Derived.Deep.RegionHeld3
/- Stores in memory: the box of a store, what it holds, and what stores into it leave. -/
namespace Go.Proofs.YtbbfbdfmeifdfaaGreatDoor
set_option maxRecDepth 100000
open Go.RowKit Dkm Prm Km
set_option linter.unusedVariables false
set_option linter.unusedSimpArgs false

/-! ### A store into a cell that holds no text -/
def NT (v : Value) : Prop := ∀ s, v ≠ .string s
def NoT (w : World) (p : Addr) : Prop := ∃ u, w.cell? p = some u ∧ NT u
theorem nt_slice (A : Option Addr) (n c : Nat) : NT (.slice A n c) := fun s e => by cases e
theorem nt_int (k : IntKind) (a : Int) : NT (.int k a) := fun s e => by cases e
theorem Holds.odd_ {w : World} {k : Nat} {A : Option Addr} {n : Nat} {xs : List Value} (h : Holds w w.heap.size k A n xs) {p : Addr} (hp : ∃ u, w.cell? p = some u ∧ u ∉ xs) (v : Value) : Holds (w.setCell p v) (w.setCell p v).heap.size k A n xs := by
  rw [show (w.setCell p v).heap.size = w.heap.size by simp [World.setCell]]
  refine ⟨h.1, fun j u hj => ?_⟩
  obtain ⟨ad, e, hb, hc⟩ := h.2 j u hj
  refine ⟨ad, e, hb, ?_⟩
  have hne : p ≠ ad.add j := by
    intro e2
    obtain ⟨u2, h1, h2⟩ := hp
    rw [e2, hc] at h1
    injection h1 with h1
    subst h1
    exact h2 (List.mem_of_getElem? hj)
  rw [World.cell?_setCell_other _ _ _ _ hne]
  exact hc
theorem rows_txt (l : List Fil) : ∀ u ∈ rows l, ∃ s, u = Value.string s := by
  induction l with
  | nil => intro u hu; cases hu
  | cons f l ih =>
    intro u hu
    rcases List.mem_append.1 hu with hu | hu
    · rcases List.mem_cons.1 hu with rfl | hu
      · exact ⟨_, rfl⟩
      rcases List.mem_cons.1 hu with rfl | hu
      · exact ⟨_, rfl⟩
      rcases List.mem_cons.1 hu with rfl | hu
      · exact ⟨_, rfl⟩
      · cases hu
    · exact ih u hu
theorem NoT.notin {w : World} {p : Addr} (h : NoT w p) {xs : List Value} (hx : ∀ u ∈ xs, ∃ s, u = Value.string s) : ∃ u, w.cell? p = some u ∧ u ∉ xs := by
  obtain ⟨u, h1, h2⟩ := h
  exact ⟨u, h1, fun hm => by obtain ⟨s, rfl⟩ := hx u hm; exact h2 s rfl⟩
theorem Dsk.odd_ {w : World} {A : Option Addr} {n c : Nat} {l : List Fil} (h : Dsk w A n c l) {p : Addr} (hp : NoT w p) (v : Value) : Dsk (w.setCell p v) A n c l :=
  ⟨Holds.odd_ h.files (hp.notin (rows_txt l)) v, h.nil, h.le, h.cap, h.few⟩
theorem pairs_txt (l : List Pr) : ∀ u ∈ pairK.rows l, ∃ s, u = Value.string s := by
  induction l with
  | nil => intro u hu; cases hu
  | cons f l ih =>
    intro u hu
    rcases List.mem_append.1 (show u ∈ pairK.row f ++ pairK.rows l from hu) with hu | hu
    · rcases List.mem_cons.1 hu with rfl | hu
      · exact ⟨_, rfl⟩
      rcases List.mem_cons.1 hu with rfl | hu
      · exact ⟨_, rfl⟩
      · cases hu
    · exact ih u hu
theorem In_.odd_ {w : World} {A : Option Addr} {n c : Nat} {l : List Pr} (h : In_ pairK w A n c l) {p : Addr} (hp : NoT w p) (v : Value) : In_ pairK (w.setCell p v) A n c l :=
  ⟨Holds.odd_ h.lst (hp.notin (pairs_txt l)) v, h.nil, h.le, h.cap, h.few⟩

/-- stores at offsets of a box. -/
def stk (w : World) (g : Nat) : List (Nat × Value) → World
  | [] => w
  | (k, v) :: r => stk (w.setCell ⟨g, k, none⟩ v) g r
def lstk (vs : List Value) : List (Nat × Value) → List Value
  | [] => vs
  | (k, v) :: r => lstk (vs.set k v) r
theorem bx_stk {g : Nat} (us : List (Nat × Value)) : ∀ {w : World} {vs : List Value}, Bx w g vs → (∀ u ∈ us, u.1 < vs.length) → Bx (stk w g us) g (lstk vs us) := by
  induction us with
  | nil => intro w vs h _; exact h
  | cons u r ih =>
    intro w vs h hk
    obtain ⟨k, v⟩ := u
    exact ih (h.set (k := k) (hk (k, v) List.mem_cons_self) v) fun u hu => by rw [List.length_set]; exact hk u (List.mem_cons_of_mem _ hu)
theorem keep_stk {P : World → Prop} (hP : ∀ w p v, NoT w p → P w → P (w.setCell p v)) {g : Nat} : ∀ (us : List (Nat × Value)) {w : World} {vs : List Value}, Bx w g vs → (∀ v ∈ vs, NT v) → (∀ u ∈ us, u.1 < vs.length ∧ NT u.2) → P w → P (Go.Proofs.YtbbfbdfmeifdfaaGreatDoor.stk w g us)
  | [], _, _, _, _, _, h => h
  | (k, v) :: r, w, vs, hb, hn, hu, h => by
    have hk := hu (k, v) (by simp)
    refine keep_stk hP r (hb.set hk.1 v) (fun x hx => ?_) (fun u h2 => by rw [List.length_set]; exact hu u (by simp [h2])) (hP w _ v ⟨vs[k], (hb k _ (List.getElem?_eq_getElem hk.1)).1, hn _ (List.getElem_mem _)⟩ h)
    rcases List.mem_or_eq_of_mem_set hx with hx | rfl
    · exact hn x hx
    · exact hk.2
theorem Q.stk {a : World} {g : Nat} (hg : a.heap.size ≤ g) : ∀ (us : List (Nat × Value)) {w : World}, Q a w → Q a (Go.Proofs.YtbbfbdfmeifdfaaGreatDoor.stk w g us)
  | [], _, h => h
  | (k, v) :: r, _, h => Q.stk hg r (h.setCell (p := ⟨g, k, none⟩) hg v)
theorem Bx.far_stk {b g : Nat} (hg : g ≠ b) {vs : List Value} : ∀ (us : List (Nat × Value)) {w : World}, Bx w b vs → Bx (Go.Proofs.YtbbfbdfmeifdfaaGreatDoor.stk w g us) b vs
  | [], _, h => h
  | (k, v) :: r, _, h => Bx.far_stk hg r (h.far (p := ⟨g, k, none⟩) hg v)
/-! ### A store -/
structure Kp where
  A : Option Addr
  n : Nat
  c : Nat
  B : Option Addr
  bn : Nat
  bc : Nat
  C : Option Addr
  cn : Nat
  cc : Nat
abbrev kL (p : Kp) (x : Ks) : List Value :=
  [.slice p.A p.n p.c, .int .i64 x.d.room, .int .i64 x.d.fuse, .bool x.d.off, .int .i64 x.frm, .int .i64 x.seg, .int .i64 x.run, .slice p.B p.bn p.bc, .slice p.C p.cn p.cc, .bool x.down]
abbrev kvV (p : Kp) (x : Ks) : Value :=
  .agg #[.slice p.A p.n p.c, .int .i64 x.d.room, .int .i64 x.d.fuse, .bool x.d.off, .int .i64 x.frm, .int .i64 x.seg, .int .i64 x.run, .slice p.B p.bn p.bc, .slice p.C p.cn p.cc, .bool x.down]
structure Kr (w : World) (p : Kp) (x : Ks) : Prop where
  dsk : Dsk w p.A p.n p.c x.d.fs
  data : In_ pairK w p.B p.bn p.bc x.s.data
  toks : In_ pairK w p.C p.cn p.cc x.s.toks
theorem Kr.q {w w' : World} {p : Kp} {x : Ks} (h : Kr w p x) (q : Q w w') : Kr w' p x := ⟨h.dsk.q q, h.data.q q, h.toks.q q⟩
theorem kr0 (w : World) : Kr w ⟨none, 0, 0, none, 0, 0, none, 0, 0⟩ ks0 := ⟨⟨Holds.none_ _ _ _ _, fun _ => ⟨rfl, rfl⟩, Nat.le_refl _, Nat.zero_le _, by show 0 * 48 ≤ 140737488355328; omega⟩, In_.none_ _ _, In_.none_ _ _⟩
def RetK (w : World) (x : Ks) (vs : List Value) (e : Ending) (w' : World) : Prop := ∃ p, e = .returned (.tuple (kvV p x :: vs).toArray) ∧ Kr w' p x ∧ Q w w'
def RetK1 (w : World) (x : Ks) (e : Ending) (w' : World) : Prop := ∃ p, e = .returned (kvV p x) ∧ Kr w' p x ∧ Q w w'

theorem kL_nt (p : Kp) (x : Ks) : ∀ v ∈ kL p x, NT v := by
  intro v hv s e
  subst e
  simp [kL] at hv
/-- the box of a store. -/
structure Kb (w : World) (g : Nat) (p : Kp) (x : Ks) : Prop where
  box : Bx w g (kL p x)
  is : Kr w p x
theorem Kb.q {w w' : World} {g : Nat} {p : Kp} {x : Ks} (h : Kb w g p x) (q : Q w w') : Kb w' g p x := ⟨h.box.q q, h.is.q q⟩
theorem Kb.lt {w : World} {g : Nat} {p : Kp} {x : Ks} (h : Kb w g p x) : g < w.heap.size := h.box.lt
theorem Kr.stk {w : World} {g : Nat} {vs : List Value} {p : Kp} {x : Ks} (h : Kr w p x) (hb : Bx w g vs) (hn : ∀ v ∈ vs, NT v) (us : List (Nat × Value)) (hu : ∀ u ∈ us, u.1 < vs.length ∧ NT u.2) : Kr (Go.Proofs.YtbbfbdfmeifdfaaGreatDoor.stk w g us) p x :=
  keep_stk (P := fun w => Kr w p x) (fun w q v hq hk => ⟨hk.dsk.odd_ hq v, hk.data.odd_ hq v, hk.toks.odd_ hq v⟩) us hb hn hu h
theorem Dsk.stk {w : World} {g : Nat} {vs : List Value} {A : Option Addr} {n c : Nat} {l : List Fil} (h : Dsk w A n c l) (hb : Bx w g vs) (hn : ∀ v ∈ vs, NT v) (us : List (Nat × Value)) (hu : ∀ u ∈ us, u.1 < vs.length ∧ NT u.2) : Dsk (Go.Proofs.YtbbfbdfmeifdfaaGreatDoor.stk w g us) A n c l :=
  keep_stk (P := fun w => Dsk w A n c l) (fun w q v hq hk => hk.odd_ hq v) us hb hn hu h
theorem In_.stk {w : World} {g : Nat} {vs : List Value} {A : Option Addr} {n c : Nat} {l : List Pr} (h : In_ pairK w A n c l) (hb : Bx w g vs) (hn : ∀ v ∈ vs, NT v) (us : List (Nat × Value)) (hu : ∀ u ∈ us, u.1 < vs.length ∧ NT u.2) : In_ pairK (Go.Proofs.YtbbfbdfmeifdfaaGreatDoor.stk w g us) A n c l :=
  keep_stk (P := fun w => In_ pairK w A n c l) (fun w q v hq hk => hk.odd_ hq v) us hb hn hu h
theorem Kb.far {w : World} {b g : Nat} {vs : List Value} {p : Kp} {x : Ks} (h : Kb w b p x) (hg : g ≠ b) (hb : Bx w g vs) (hn : ∀ v ∈ vs, NT v) (us : List (Nat × Value)) (hu : ∀ u ∈ us, u.1 < vs.length ∧ NT u.2) : Kb (Go.Proofs.YtbbfbdfmeifdfaaGreatDoor.stk w g us) b p x :=
  ⟨h.box.far_stk hg us, h.is.stk hb hn us hu⟩

section
variable {w : World} {g : Nat} {A : Option Addr} {n c : Nat} {B : Option Addr} {bn bc : Nat} {C : Option Addr} {cn cc : Nat} {l : List Fil} {room fuse : Int} {off : Bool} {frm seg run : Int} {s : Bm.Sta} {down : Bool}
theorem kget (h : Bx w g (kL ⟨A, n, c, B, bn, bc, C, cn, cc⟩ ⟨⟨l, room, fuse, off⟩, frm, seg, run, s, down⟩)) :
    (w.cell? ⟨g, 0, none⟩ = some (.slice A n c) ∧ w.cell? ⟨g, 1, none⟩ = some (.int .i64 room) ∧ w.cell? ⟨g, 2, none⟩ = some (.int .i64 fuse) ∧ w.cell? ⟨g, 3, none⟩ = some (.bool off) ∧ w.cell? ⟨g, 4, none⟩ = some (.int .i64 frm) ∧ w.cell? ⟨g, 5, none⟩ = some (.int .i64 seg) ∧ w.cell? ⟨g, 6, none⟩ = some (.int .i64 run) ∧
      w.cell? ⟨g, 7, none⟩ = some (.slice B bn bc) ∧ w.cell? ⟨g, 8, none⟩ = some (.slice C cn cc) ∧ w.cell? ⟨g, 9, none⟩ = some (.bool down)) :=
  ⟨(h 0 _ rfl).1, (h 1 _ rfl).1, (h 2 _ rfl).1, (h 3 _ rfl).1, (h 4 _ rfl).1, (h 5 _ rfl).1, (h 6 _ rfl).1, (h 7 _ rfl).1, (h 8 _ rfl).1, (h 9 _ rfl).1⟩
theorem kfree {p : Kp} {x : Ks} (h : Bx w g (kL p x)) :
    w.frozen? ⟨g, 0, none⟩ = false ∧ w.frozen? ⟨g, 1, none⟩ = false ∧ w.frozen? ⟨g, 2, none⟩ = false ∧ w.frozen? ⟨g, 3, none⟩ = false ∧ w.frozen? ⟨g, 4, none⟩ = false ∧ w.frozen? ⟨g, 5, none⟩ = false ∧ w.frozen? ⟨g, 6, none⟩ = false ∧ w.frozen? ⟨g, 7, none⟩ = false ∧ w.frozen? ⟨g, 8, none⟩ = false ∧ w.frozen? ⟨g, 9, none⟩ = false :=
  ⟨(h 0 _ rfl).2, (h 1 _ rfl).2, (h 2 _ rfl).2, (h 3 _ rfl).2, (h 4 _ rfl).2, (h 5 _ rfl).2, (h 6 _ rfl).2, (h 7 _ rfl).2, (h 8 _ rfl).2, (h 9 _ rfl).2⟩
/-- the whole box. -/
abbrev us10 (p : Kp) (x : Ks) : List (Nat × Value) := [(0, .slice p.A p.n p.c), (1, .int .i64 x.d.room), (2, .int .i64 x.d.fuse), (3, .bool x.d.off), (4, .int .i64 x.frm), (5, .int .i64 x.seg), (6, .int .i64 x.run), (7, .slice p.B p.bn p.bc), (8, .slice p.C p.cn p.cc), (9, .bool x.down)]
theorem us10_ok (p q : Kp) (x y : Ks) : ∀ u ∈ us10 p x, u.1 < (kL q y).length ∧ NT u.2 := by
  intro u hu
  simp only [us10, List.mem_cons, List.not_mem_nil, or_false] at hu
  rcases hu with rfl | rfl | rfl | rfl | rfl | rfl | rfl | rfl | rfl | rfl <;> exact ⟨by simp [kL], fun s e => by cases e⟩
theorem Kb.whole {p q : Kp} {x y : Ks} (h : Bx w g (kL q y)) (hk : Kr w p x) : Kb (stk w g (us10 p x)) g p x :=
  ⟨bx_stk (us10 p x) h (fun u hu => (us10_ok p q x y u hu).1), hk.stk h (kL_nt _ _) _ (us10_ok p q x y)⟩
theorem Kb.disk {p : Kp} {x : Ks} (h : Kb w g p x) {A2 : Option Addr} {n2 c2 : Nat} {d2 : Dk} (hd : Dsk w A2 n2 c2 d2.fs) :
    Kb ((((w.setCell ⟨g, 0, none⟩ (.slice A2 n2 c2)).setCell ⟨g, 1, none⟩ (.int .i64 d2.room)).setCell ⟨g, 2, none⟩ (.int .i64 d2.fuse)).setCell ⟨g, 3, none⟩ (.bool d2.off)) g ⟨A2, n2, c2, p.B, p.bn, p.bc, p.C, p.cn, p.cc⟩ ⟨d2, x.frm, x.seg, x.run, x.s, x.down⟩ := by
  have hok : ∀ u ∈ [(0, Value.slice A2 n2 c2), (1, .int .i64 d2.room), (2, .int .i64 d2.fuse), (3, .bool d2.off)], u.1 < (kL p x).length ∧ NT u.2 := by
    intro u hu
    simp only [List.mem_cons, List.not_mem_nil, or_false] at hu
    rcases hu with rfl | rfl | rfl | rfl <;> exact ⟨by simp [kL], fun s e => by cases e⟩
  have h1 := bx_stk (g := g) (w := w) (vs := kL p x) [(0, Value.slice A2 n2 c2), (1, .int .i64 d2.room), (2, .int .i64 d2.fuse), (3, .bool d2.off)] h.box (fun u hu => (hok u hu).1)
  have h2 := h.is.stk h.box (kL_nt _ _) _ hok
  exact ⟨h1, hd.stk h.box (kL_nt _ _) _ hok, h2.data, h2.toks⟩
theorem Kb.segm {p : Kp} {x : Ks} (h : Kb w g p x) (seg2 : Int) : Kb (w.setCell ⟨g, 5, none⟩ (.int .i64 seg2)) g p ⟨x.d, x.frm, seg2, x.run, x.s, x.down⟩ := by
  have hok : ∀ u ∈ [(5, Value.int .i64 seg2)], u.1 < (kL p x).length ∧ NT u.2 := by
    intro u hu
    simp only [List.mem_cons, List.not_mem_nil, or_false] at hu
    rcases hu with rfl <;> exact ⟨by simp [kL], fun s e => by cases e⟩
  have h1 := bx_stk (g := g) (w := w) (vs := kL p x) [(5, Value.int .i64 seg2)] h.box (fun u hu => (hok u hu).1)
  have h2 := h.is.stk h.box (kL_nt _ _) _ hok
  exact ⟨h1, h2.dsk, h2.data, h2.toks⟩
theorem Kb.gone {p : Kp} {x : Ks} (h : Kb w g p x) (b : Bool) : Kb (w.setCell ⟨g, 9, none⟩ (.bool b)) g p ⟨x.d, x.frm, x.seg, x.run, x.s, b⟩ := by
  have hok : ∀ u ∈ [(9, Value.bool b)], u.1 < (kL p x).length ∧ NT u.2 := by
    intro u hu
    simp only [List.mem_cons, List.not_mem_nil, or_false] at hu
    rcases hu with rfl <;> exact ⟨by simp [kL], fun s e => by cases e⟩
  have h1 := bx_stk (g := g) (w := w) (vs := kL p x) [(9, Value.bool b)] h.box (fun u hu => (hok u hu).1)
  have h2 := h.is.stk h.box (kL_nt _ _) _ hok
  exact ⟨h1, h2.dsk, h2.data, h2.toks⟩
theorem Kb.state {p : Kp} {x : Ks} (h : Kb w g p x) {B2 C2 : Option Addr} {bn2 bc2 cn2 cc2 : Nat} {s2 : Bm.Sta} (hB : In_ pairK w B2 bn2 bc2 s2.data) (hC : In_ pairK w C2 cn2 cc2 s2.toks) :
    Kb ((w.setCell ⟨g, 7, none⟩ (.slice B2 bn2 bc2)).setCell ⟨g, 8, none⟩ (.slice C2 cn2 cc2)) g ⟨p.A, p.n, p.c, B2, bn2, bc2, C2, cn2, cc2⟩ ⟨x.d, x.frm, x.seg, x.run, s2, x.down⟩ := by
  have hok : ∀ u ∈ [(7, Value.slice B2 bn2 bc2), (8, .slice C2 cn2 cc2)], u.1 < (kL p x).length ∧ NT u.2 := by
    intro u hu
    simp only [List.mem_cons, List.not_mem_nil, or_false] at hu
    rcases hu with rfl | rfl <;> exact ⟨by simp [kL], fun s e => by cases e⟩
  have h1 := bx_stk (g := g) (w := w) (vs := kL p x) [(7, Value.slice B2 bn2 bc2), (8, .slice C2 cn2 cc2)] h.box (fun u hu => (hok u hu).1)
  have h2 := h.is.stk h.box (kL_nt _ _) _ hok
  exact ⟨h1, h2.dsk, hB.stk h.box (kL_nt _ _) _ hok, hC.stk h.box (kL_nt _ _) _ hok⟩
end
theorem Kb.new {w : World} {p : Kp} {x : Ks} (h : Kr w p x) : Kb (w.alloc (.cells (kL p x).toArray 32)) w.heap.size p x :=
  ⟨Bx.new w (kL p x) 32, h.q ((Q.refl _).alloc _)⟩
end Go.Proofs.YtbbfbdfmeifdfaaGreatDoor

/- Contracts: strings.Builder's copyCheck, WriteString, String, at a builder that the call has made. -/
namespace Go.Proofs.YtbbfbdfmeifdfaaGreatDoor
set_option maxRecDepth 100000
open Go.RowKit
set_option linter.unusedVariables false

theorem bld_size : (Tryz.prog.info? 216).map (fun i => i.size) = some 2 := by kernel_rfl
theorem bld_lies : liesAt Tryz.prog Tryz.prog.depth 216 (2 / Tryz.prog.cellsOf 216) 0 216 1 = true := by kernel_rfl
theorem byte_info : (Tryz.prog.info? 5).map (fun i => (i.zero, i.size, i.bytes)) = some (some (.int .u8 0), 1, 1) := by kernel_rfl

set_option maxHeartbeats 1000000 in
set_option maxRecDepth 100000 in
theorem check_used (b : Nat) (w : World) (h0 : w.cell? ⟨b, 0, none⟩ = some (.pointer (some ⟨b, 0, none⟩))) :
    Calls Tryz.prog 178 #[.pointer (some ⟨b, 0, none⟩)] w fun e w' => e = .returned (.tuple #[]) ∧ w' = w := by
  obtain ⟨j, hj, _⟩ := Option.map_eq_some_iff.1 bld_size
  go_enter Tryz.func178, Tryz.ntmps178
  go_wp2
  rw [Lib.run_neq_ptr_same w _ Tryz.underlying214 hj]
  go_wp2
  go_end0
  exact ⟨rfl, rfl⟩

set_option maxHeartbeats 1000000 in
set_option maxRecDepth 100000 in
theorem check_fresh (b : Nat) (w : World) (h0 : w.cell? ⟨b, 0, none⟩ = some (.pointer none)) (hsh : w.shape? b = some (216, 2)) (hfz : w.frozen? ⟨b, 0, none⟩ = false) :
    Calls Tryz.prog 178 #[.pointer (some ⟨b, 0, none⟩)] w fun e w' => e = .returned (.tuple #[]) ∧ w' = w.setCell ⟨b, 0, none⟩ (.pointer (some ⟨b, 0, none⟩)) := by
  obtain ⟨j, hj, hjs⟩ := Option.map_eq_some_iff.1 bld_size
  go_enter Tryz.func178, Tryz.ntmps178
  go_wp2
  rw [Lib.run_to_unsafe w ⟨b, 0, none⟩ Tryz.underlying214 Tryz.underlying193 hj (by rw [hjs]; decide) hsh (Nat.zero_lt_succ 1)]
  simp only [Result.andThen]
  rw [Oper.upon_value]
  go_wp2
  rw [run_callFunc_extern Tryz.func206 (by kernel_rfl) (by kernel_rfl) (by kernel_rfl) (e := Extern.AbiNoEscape.same) (by kernel_rfl)]
  rw [Lib.run_noEscape]
  simp only [Result.andThen]
  rw [Oper.upon_value]
  go_wp2
  rw [Lib.run_from_unsafe w ⟨b, 0, none⟩ Tryz.underlying193 Tryz.underlying214 hj hsh bld_lies]
  simp only [Result.andThen]
  rw [Oper.upon_value]
  go_wp2
  go_end0
  exact ⟨rfl, rfl⟩

abbrev BldAt (B b : Nat) (p : Value) (l : List UInt8) (w : World) : Prop := Lib.BuilderAt 216 5 B b p (Lib.byteCells l) w
/-- a builder in block b that holds these bytes. -/
def Bld (B b : Nat) (l : List UInt8) (w : World) : Prop := Lib.IsBuilder 216 5 B b (Lib.byteCells l) w

theorem check_any (B b : Nat) (l : List UInt8) (w : World) (h : Bld B b l w) :
    Calls Tryz.prog 178 #[.pointer (some ⟨b, 0, none⟩)] w fun e w' => e = .returned (.tuple #[]) ∧ BldAt B b (.pointer (some ⟨b, 0, none⟩)) l w' ∧ Below B w w' ∧ ∀ X, X ≠ b → w'.heap[X]? = w.heap[X]? := by
  rcases h with h | h
  · refine (check_fresh b w h.cell0 h.shape h.frozen0).mono ?_
    rintro e w' ⟨rfl, rfl⟩
    exact ⟨rfl, h.used _, (Below.refl B w).setCell (p := ⟨b, 0, none⟩) h.1 _, fun X hX => heap_setCell_other w ⟨b, 0, none⟩ X _ hX⟩
  · refine (check_used b w h.cell0).mono ?_
    rintro e w' ⟨rfl, rfl⟩
    exact ⟨rfl, h, Below.refl B _, fun _ _ => rfl⟩
/-- all rows but those of bytes, and the builder itself, are as they were. -/
def KeepB (b : Nat) (w w' : World) : Prop := ∀ X cs T fr, w.heap[X]? = some (.cells cs T fr) → T ≠ 5 → X ≠ b → w'.heap[X]? = some (.cells cs T fr)

theorem str_cells (s : ByteArray) : Lib.strCells s = Lib.byteCells s.data.toList := rfl
theorem byteCells_app (l m : List UInt8) : Lib.byteCells l ++ Lib.byteCells m = Lib.byteCells (l ++ m) := by simp [Lib.byteCells]
theorem byteCells_len (l : List UInt8) : (Lib.byteCells l).length = l.length := by simp [Lib.byteCells]

set_option maxHeartbeats 2000000 in
set_option maxRecDepth 100000 in
theorem write_any (B b : Nat) (l : List UInt8) (s : ByteArray) (w : World) (h : Bld B b l w) (hlen : l.length + s.size ≤ 140737488355328) (hBw : B ≤ w.heap.size) :
    Calls Tryz.prog 147 #[.pointer (some ⟨b, 0, none⟩), .string s] w fun e w' => e = .returned (.tuple #[.int .i64 s.size, .nilIface]) ∧ Bld B b (l ++ s.data.toList) w' ∧ Below B w w' ∧ KeepB b w w' := by
  obtain ⟨i0, hi, hz0, hz1, hz2⟩ := info_parts byte_info
  have hne : (216 : TypeId) ≠ 5 := by decide
  have hbl := byteCells_len l
  have HBL := Lib.hid hbl
  clear hbl
  go_enter Tryz.func147, Tryz.ntmps147
  go_wp2_with fail
  refine (check_any B b l _ h).mono ?_
  rintro e w1 ⟨rfl, ⟨hB, v, hbk, hown, hnv⟩, hb1, hk1⟩
  have HK1 := Lib.hid hk1
  clear hk1
  have c0 : w1.cell? ⟨b, 0, none⟩ = some (.pointer (some ⟨b, 0, none⟩)) := by rw [Lib.cell_of_heap hbk]; rfl
  have c1 : w1.cell? ⟨b, 1, none⟩ = some v := by rw [Lib.cell_of_heap hbk]; rfl
  go_wp2_with (at_builtin; refine Lib.wpList_append_own_string _ rfl _ _ 160 9 rfl B 5 i0 Tryz.underlying160 Tryz.underlying9 hi hz0 hz1 hz2 _ _ _ rfl hown s rfl ?c3 ?c4 ?c5 ?_)
  case c3 => unfold maxLen; have := HBL.out; omega
  case c4 => have := HBL.out; omega
  case c5 => have := hb1.size; omega
  intro v' w2 hown' hgrow _
  have hlt : b < w1.heap.size := by
    rcases Nat.lt_or_ge b w1.heap.size with h' | h'
    · exact h'
    · simp [Array.getElem?_eq_none h'] at hbk
  have hb2 : w2.heap[b]? = some (.cells #[.pointer (some ⟨b, 0, none⟩), v] 216 (0, 0)) := by
    rw [hgrow.block b hlt (fun e => hnv e.symm)]
    exact hbk
  have d0 : w2.cell? ⟨b, 0, none⟩ = some (.pointer (some ⟨b, 0, none⟩)) := by rw [Lib.cell_of_heap hb2]; rfl
  have d1 : w2.cell? ⟨b, 1, none⟩ = some v := by rw [Lib.cell_of_heap hb2]; rfl
  have f1 : w2.frozen? ⟨b, 1, none⟩ = false := Lib.frozen_of_heap hb2 1
  obtain ⟨ao, n', cap, rfl⟩ : ∃ ao n' cap, v' = .slice ao n' cap := by
    rcases hown'.2 with ⟨hv, _⟩ | ⟨g, cap, cur, hv, _⟩
    · exact ⟨_, _, _, hv⟩
    · exact ⟨_, _, _, hv⟩
  go_wp2
  go_ret2
  refine ⟨rfl, .inr ?_, ?_, fun X cs T fr hX hT hXb => ?_⟩
  · have := Lib.BuilderAt.put (T := 216) (e := 5) hB hb2 (bs' := Lib.byteCells l ++ Lib.strCells s) (by simpa [Lib.strCells_length] using hown') hne
    rw [str_cells, byteCells_app] at this
    exact this
  · exact (hb1.grown hgrow (by have := hb1.size; omega) (fun k hk => (hown.lt k hk).1)).setCell (p := ⟨b, 1, none⟩) hB _
  · rw [heap_setCell_other w2 ⟨b, 1, none⟩ X _ hXb]
    have hX1 : w1.heap[X]? = some (.cells cs T fr) := (HK1.out X hXb).trans hX
    have hlt1 : X < w1.heap.size := by
      rcases Nat.lt_or_ge X w1.heap.size with h' | h'
      · exact h'
      · rw [Array.getElem?_eq_none h'] at hX1; cases hX1
    rw [hgrow.block X hlt1 (fun e => Lib.ownBlock_ne hown hX1 hT e.symm)]
    exact hX1

theorem string_any (B b : Nat) (l : List UInt8) (w : World) (h : Bld B b l w) (hBw : B ≤ w.heap.size) :
    Calls Tryz.prog 149 #[.pointer (some ⟨b, 0, none⟩)] w fun e w' => e = .returned (.string ⟨l.toArray⟩) ∧ Below B w w' := Tryz.Builder_String_any B b l w h hBw
theorem owns_q {w w' : World} {base : Nat} {T : TypeId} {k : Nat} {v : Value} {n : Nat} {xs : List Value} (h : w.ownsRow base T k v n xs) (q : Q w w') : w'.ownsRow base T k v n xs := by
  refine ⟨h.1, ?_⟩
  rcases h.2 with ⟨e, h0⟩ | ⟨g, cap, cur, e, hg, hh, r⟩
  · exact .inl ⟨e, h0⟩
  · have hlt : g < w.heap.size := by
      rcases Nat.lt_or_ge g w.heap.size with hlt | hge
      · exact hlt
      · rw [Array.getElem?_eq_none hge] at hh; cases hh
    exact .inr ⟨g, cap, cur, e, hg, (q.below.block g hlt).trans hh, r⟩
theorem Bld.q {B b : Nat} {l : List UInt8} {w w' : World} (h : Bld B b l w) (q : Q w w') : Bld B b l w' := by
  have key : ∀ p, BldAt B b p l w → BldAt B b p l w' := by
    rintro p ⟨hB, v, hbk, hown, hnv⟩
    have hlt : b < w.heap.size := by
      rcases Nat.lt_or_ge b w.heap.size with h' | h'
      · exact h'
      · simp [Array.getElem?_eq_none h'] at hbk
    exact ⟨hB, v, (q.below.block b hlt).trans hbk, owns_q hown q, hnv⟩
  rcases h with h | h
  · exact .inl (key _ h)
  · exact .inr (key _ h)
theorem Bld.lt {B b : Nat} {l : List UInt8} {w : World} (h : Bld B b l w) : b < w.heap.size := by
  rcases h with h | h
  · exact h.lt
  · exact h.lt
theorem Bld.fresh (w : World) : Bld w.heap.size w.heap.size [] (w.alloc (.cells #[.pointer none, .slice none 0 0] 216)) := Lib.fresh_isBuilder _ _ w
end Go.Proofs.YtbbfbdfmeifdfaaGreatDoor

/- The contracts of batch.deed and batch.Bytes; the example. -/
namespace Go.Proofs.YtbbfbdfmeifdfaaGreatDoor
set_option maxRecDepth 100000
open Go.RowKit Prm
set_option linter.unusedVariables false
set_option linter.unusedSimpArgs false

theorem bdeed_any (x : Wr) (w : World) : Calls Tryz.prog 148 #[x.v] w fun e w' => e = .returned (.int .u64 (Bm.del x : Nat)) ∧ Q w w' := by
  obtain ⟨a, b, d⟩ := x
  cases d
  all_goals
    go_enter Tryz.func148, Tryz.ntmps148
    go_wp2
    go_ret
    exact ⟨rfl, (Q.refl _).alloc _⟩

theorem Bm.ptx_eq (s : ByteArray) : Dm.num s.size ++ s.data.toList = Rn.ptx s := by unfold Rn.ptx; rw [Rn.size_data]
theorem heap_lt {w : World} {b : Nat} {o : Obj} (h : w.heap[b]? = some o) : b < w.heap.size := (Array.getElem?_eq_some_iff.1 h).1

set_option maxHeartbeats 4000000 in
theorem bbytes_any (k : Int) (tok : ByteArray) (A : Option Addr) (n c : Nat) (l : List Wr) (w : World) (hf : Lst writeK w A n l) (hn : n ≤ maxLen) :
    Calls Tryz.prog 97 #[batV k tok A n c] w fun e w' => e = .returned (.tuple #[.string ⟨(Bm.bytesM ⟨k, tok, l⟩).1.toArray⟩, .int .i64 (Bm.bytesM ⟨k, tok, l⟩).2]) ∧ Q w w' := by
  have KM := Lib.hid (fun W q => may_any k tok A n c l W (hf.q q) hn)
  have HF := Lib.hid hf
  have hlen := hf.len
  cases hm : Bm.may ⟨k, tok, l⟩ with
  | false =>
    rw [hm] at KM
    have HR := Lib.hid (show Bm.bytesM ⟨k, tok, l⟩ = ([], 1) by unfold Bm.bytesM; rw [hm]; rfl)
    clear hf hm hlen
    go_enter Tryz.func97, Tryz.ntmps97
    go_wp2_with fail
    refine (KM.out _ ((Q.refl _).alloc _)).mono ?_
    rintro e w1 ⟨rfl, q1⟩
    have Q1 := Lib.hid (((Q.refl w).alloc _).trans q1)
    clear q1
    go_wp2_with fail
    go_ret2
    exact ⟨by rw [HR.out]; rfl, Q1.out⟩
  | true =>
    rw [hm] at KM
    have HR := Lib.hid (show Bm.bytesM ⟨k, tok, l⟩ = (Bm.head ⟨k, tok, l⟩ ++ Bm.flat l, 0) by unfold Bm.bytesM; rw [hm]; rfl)
    have HOk := Lib.hid (Bm.may_ok hm).2
    have hk := Bm.may_kind hm
    have ht := Bm.may_tok hm
    have hn24 := Bm.may_len hm
    have hhl := Bm.head_len hm
    simp only at hk ht hn24
    rw [hlen] at hn24
    have HTot := Lib.hid (show ∀ j, j ≤ n → (Bm.head ⟨k, tok, l⟩ ++ Bm.flat (l.take j)).length ≤ 5000 from fun j hj => by
      have h1 := Bm.flat_len (l.take j) fun p hp => HOk.out p (List.mem_of_mem_take hp)
      rw [List.length_take, Nat.min_eq_left (by omega)] at h1
      rw [List.length_append]
      omega)
    have K1 := Lib.hid (fun W => num_any k W (by omega) (by omega))
    have K2 := Lib.hid (fun W => text_any tok W (by omega))
    have K3 := Lib.hid (fun W => num_any (n : Int) W (by omega) (by omega))
    have HH : Bm.head ⟨k, tok, l⟩ = Dm.num k.toNat ++ (Dm.num tok.size ++ tok.data.toList) ++ Dm.num ((n : Int)).toNat := by
      unfold Bm.head; simp only [Int.toNat_natCast]; rw [Bm.ptx_eq, hlen]
    obtain ⟨S1, hS1⟩ : ∃ S : ByteArray, S = ⟨(Dm.num k.toNat).toArray⟩ := ⟨_, rfl⟩
    obtain ⟨S2, hS2⟩ : ∃ S : ByteArray, S = ⟨(Dm.num tok.size ++ tok.data.toList).toArray⟩ := ⟨_, rfl⟩
    obtain ⟨S3, hS3⟩ : ∃ S : ByteArray, S = ⟨(Dm.num ((n : Int)).toNat).toArray⟩ := ⟨_, rfl⟩
    rw [← hS1] at K1
    rw [← hS2] at K2
    rw [← hS3] at K3
    have HHd := Lib.hid (show Bm.head ⟨k, tok, l⟩ = S1.data.toList ++ S2.data.toList ++ S3.data.toList by rw [HH, hS1, hS2, hS3])
    have HSz := Lib.hid (show S1.size + S2.size + S3.size ≤ 79 by
      have := HHd.out
      rw [this, List.length_append, List.length_append] at hhl
      simp at hhl ⊢; omega)
    have e1 : (0 : Int) ≤ k := by omega
    have e2 : k ≤ 2 := by omega
    have e3 : (n : Int) ≤ 24 := by omega
    have HL := Lib.hid hlen
    clear hf hm hlen HH hS1 hS2 hS3 hhl hk ht hn24
    go_enter Tryz.func97, Tryz.ntmps97
    go_wp2_with fail
    refine (KM.out _ ((Q.refl _).alloc _)).mono ?_
    rintro e w1 ⟨rfl, q1⟩
    have X1 := Lib.hid ((Bx.new w [.int .i64 k, .string tok, .slice A n c] 48).q q1)
    have Q1 := Lib.hid (((Q.refl w).alloc _).trans q1)
    have hs1 : w.heap.size < w1.heap.size := by have := q1.size; simp at this; omega
    have B1 := Lib.hid (Bld.fresh w1)
    obtain ⟨⟨x0, x1, x2⟩, _⟩ := X1.out.get3
    clear q1
    go_wp2_with fail
    refine (K1.out _).mono ?_
    rintro e w2 ⟨rfl, q2⟩
    have Q2 := Lib.hid q2
    clear q2
    go_wp2_with fail
    refine (write_any w1.heap.size w1.heap.size [] S1 _ (B1.out.q Q2.out) (by have := HSz.out; simp; omega) (by have := Q2.out.size; simp at this; omega)).mono ?_
    rintro e w3 ⟨rfl, b3, be3, _⟩
    have B3 := Lib.hid b3
    have Q3 := Lib.hid (show Below w1.heap.size w1 w3 from (((Q.refl w1).alloc _).trans Q2.out).below.trans be3)
    clear b3 be3 Q2 B1 x0 x1 x2
    obtain ⟨⟨x0, x1, x2⟩, _⟩ := (X1.out.below Q3.out hs1).get3
    go_wp2_with fail
    refine (K2.out _).mono ?_
    rintro e w4 ⟨rfl, q4⟩
    have Q4 := Lib.hid q4
    clear q4
    go_wp2_with fail
    refine (write_any w1.heap.size w1.heap.size ([] ++ S1.data.toList) S2 _ (B3.out.q Q4.out) (by have := HSz.out; simp; omega) (by have h1 := Q3.out.size; have := Q4.out.size; omega)).mono ?_
    rintro e w5 ⟨rfl, b5, be5, _⟩
    have B5 := Lib.hid b5
    have Q5 := Lib.hid (show Below w1.heap.size w1 w5 from (Q3.out.trans (Q4.out.below.mono Q3.out.size)).trans be5)
    clear b5 be5 Q4 B3 Q3 x0 x1 x2
    obtain ⟨⟨x0, x1, x2⟩, _⟩ := (X1.out.below Q5.out hs1).get3
    go_wp2_with fail
    refine (K3.out _).mono ?_
    rintro e w6 ⟨rfl, q6⟩
    have Q6 := Lib.hid q6
    clear q6
    go_wp2_with fail
    refine (write_any w1.heap.size w1.heap.size ([] ++ S1.data.toList ++ S2.data.toList) S3 _ (B5.out.q Q6.out) (by have := HSz.out; simp; omega) (by have h1 := Q5.out.size; have := Q6.out.size; omega)).mono ?_
    rintro e w7 ⟨rfl, b7, be7, _⟩
    have B7 := Lib.hid (show Bld w1.heap.size w1.heap.size (Bm.head ⟨k, tok, l⟩ ++ Bm.flat (l.take 0)) w7 by rw [HHd.out]; simpa [Bm.flat] using b7)
    have Q7 := Lib.hid (show Below w1.heap.size w1 w7 from (Q5.out.trans (Q6.out.below.mono Q5.out.size)).trans be7)
    clear b7 be7 Q6 B5 Q5 x0 x1 x2
    obtain ⟨⟨x0, x1, x2⟩, _⟩ := (X1.out.below Q7.out hs1).get3
    clear HHd
    generalize Bm.head ⟨k, tok, l⟩ = hd at B7 HTot HR
    go_wp2
    go_loopw [28] (fun i wr => ∃ j : Nat, j ≤ n ∧ i = .int .i64 j ∧ Bld w1.heap.size w1.heap.size (hd ++ Bm.flat (l.take j)) wr ∧ Below w1.heap.size w1 wr) (fun i _ => n - (intOf i).toNat)
    case atStart => exact ⟨0, Nat.zero_le _, rfl, B7.out, Q7.out⟩
    case round =>
      obtain ⟨j, hj, rfl, b4, be4⟩ := hrel
      have B4 := Lib.hid b4
      have Q4 := Lib.hid (show Q w1 wr from be4)
      clear b4 be4 B7 Q7 x0 x1 x2
      by_cases hlt : j < n
      · have hjl : j < l.length := by have := HL.out; omega
        have hok := HOk.out l[j] (List.getElem_mem hjl)
        have hwn := Bm.wrong_not hok
        have h1l := Bm.one_len l[j] hok
        have ht0 := HTot.out j (by omega)
        have HS := Lib.hid (Bm.flat_snoc l hjl)
        obtain ⟨ad, rfl, hab, y0, y1, y2⟩ := load_write (HF.out.q (Q1.out.trans Q4.out)) hlt hjl
        have hjn : (j : Int) < (n : Int) := by omega
        generalize l[j] = x at y0 y1 y2 hok hwn HS h1l
        generalize hacc : hd ++ Bm.flat (l.take j) = acc at B4 ht0
        have HAcc := Lib.hid hacc
        clear hacc
        have KD := Lib.hid (fun W => bdeed_any x W)
        have hd1 : Bm.del x ≤ 1 := by unfold Bm.del; split <;> omega
        have KT0 := Lib.hid (fun W => num_any (Bm.del x : Nat) W (by omega) (by omega))
        have KT1 := Lib.hid (fun W => text_any x.key W (by omega))
        have KT2 := Lib.hid (fun W => text_any x.val W (by omega))
        have ho : Bm.one x = Dm.num ((Bm.del x : Nat) : Int).toNat ++ (Dm.num x.key.size ++ x.key.data.toList) ++ (Dm.num x.val.size ++ x.val.data.toList) := by
          unfold Bm.one; simp only [Int.toNat_natCast]; rw [Bm.ptx_eq, Bm.ptx_eq]
        obtain ⟨T0, hT0⟩ : ∃ S : ByteArray, S = ⟨(Dm.num ((Bm.del x : Nat) : Int).toNat).toArray⟩ := ⟨_, rfl⟩
        obtain ⟨T1, hT1⟩ : ∃ S : ByteArray, S = ⟨(Dm.num x.key.size ++ x.key.data.toList).toArray⟩ := ⟨_, rfl⟩
        obtain ⟨T2, hT2⟩ : ∃ S : ByteArray, S = ⟨(Dm.num x.val.size ++ x.val.data.toList).toArray⟩ := ⟨_, rfl⟩
        rw [← hT0] at KT0
        rw [← hT1] at KT1
        rw [← hT2] at KT2
        have HO := Lib.hid (show Bm.one x = T0.data.toList ++ T1.data.toList ++ T2.data.toList by rw [ho, hT0, hT1, hT2])
        have HZ := Lib.hid (show T0.size + T1.size + T2.size ≤ 159 by
          have := HO.out
          rw [this, List.length_append, List.length_append] at h1l
          simp at h1l ⊢; omega)
        have HT0 := Lib.hid ht0
        generalize Bm.del x = dx at KD KT0 hd1
        have hd0 : (0 : Int) ≤ (dx : Int) := by omega
        have hd2 : (dx : Int) ≤ 1 := by omega
        clear hok hwn h1l ht0 ho hT0 hT1 hT2
        go_wp2_with fail
        refine (KD.out _).mono ?_
        rintro e w3 ⟨rfl, q3⟩
        have Q5 := Lib.hid (((Q.refl wr).alloc (.cells #[.string x.key, .string x.val, .bool x.del] 88)).trans q3)
        have Y1 := Lib.hid (show w3.heap[wr.heap.size]? = some (.cells #[.string x.key, .string x.val, .bool x.del] 88 (0, 0)) from (q3.below.block _ (by simp)).trans (heap_alloc_new wr _))
        clear q3
        go_wp2_with fail
        refine (KT0.out _).mono ?_
        rintro e w4 ⟨rfl, q4⟩
        have Y2 := Lib.hid (show w4.heap[wr.heap.size]? = some (.cells #[.string x.key, .string x.val, .bool x.del] 88 (0, 0)) from (q4.below.block _ (heap_lt Y1.out)).trans Y1.out)
        have Q6 := Lib.hid (Q5.out.trans q4)
        clear q4 Q5 Y1
        go_wp2_with fail
        refine (write_any w1.heap.size w1.heap.size acc T0 _ (B4.out.q Q6.out) (by have := HT0.out; have := HZ.out; omega) (by have := Q4.out.size; have := Q6.out.size; omega)).mono ?_
        rintro e w5 ⟨rfl, b5, be5, k5⟩
        have B5 := Lib.hid b5
        have Q7 := Lib.hid (show Q w1 w5 from (Q4.out.trans Q6.out).below.trans be5)
        have Y3 := Lib.hid (k5 _ _ _ _ Y2.out (by decide) (by have := Q4.out.size; have := B4.out.lt; omega))
        have z0 : w5.cell? ⟨wr.heap.size, 0, none⟩ = some (.string x.key) := by rw [Lib.cell_of_heap Y3.out]; rfl
        clear b5 be5 k5 Y2 Q6
        go_wp2_with fail
        refine (KT1.out _).mono ?_
        rintro e w6 ⟨rfl, q6⟩
        have Y4 := Lib.hid (show w6.heap[wr.heap.size]? = some (.cells #[.string x.key, .string x.val, .bool x.del] 88 (0, 0)) from (q6.below.block _ (heap_lt Y3.out)).trans Y3.out)
        have Q8 := Lib.hid q6
        clear q6 Y3 z0
        go_wp2_with fail
        refine (write_any w1.heap.size w1.heap.size (acc ++ T0.data.toList) T1 _ (B5.out.q Q8.out) (by rw [List.length_append, Rn.size_data]; have := HT0.out; have := HZ.out; omega) (by have := Q7.out.size; have := Q8.out.size; omega)).mono ?_
        rintro e w7 ⟨rfl, b7, be7, k7⟩
        have B7 := Lib.hid b7
        have Q9 := Lib.hid (show Q w1 w7 from (Q7.out.trans Q8.out).below.trans be7)
        have Y5 := Lib.hid (k7 _ _ _ _ Y4.out (by decide) (by have := Q4.out.size; have := B4.out.lt; omega))
        have z1 : w7.cell? ⟨wr.heap.size, 1, none⟩ = some (.string x.val) := by rw [Lib.cell_of_heap Y5.out]; rfl
        clear b7 be7 k7 Y4 Q8 B5 Q7
        go_wp2_with fail
        refine (KT2.out _).mono ?_
        rintro e w8 ⟨rfl, q8⟩
        have Q10 := Lib.hid q8
        clear q8 Y5 z1
        go_wp2_with fail
        refine (write_any w1.heap.size w1.heap.size (acc ++ T0.data.toList ++ T1.data.toList) T2 _ (B7.out.q Q10.out) (by rw [List.length_append, List.length_append, Rn.size_data, Rn.size_data]; have := HT0.out; have := HZ.out; omega) (by have := Q9.out.size; have := Q10.out.size; omega)).mono ?_
        rintro e w9 ⟨rfl, b9, be9, _⟩
        have B9 := Lib.hid b9
        have Q11 := Lib.hid (show Below w1.heap.size w1 w9 from (Q9.out.trans Q10.out).below.trans be9)
        clear b9 be9 Q10 B7 Q9
        go_wp2
        go_roundw
        case rel => exact ⟨j + 1, by omega, by go_num, by rw [HS.out, ← List.append_assoc, HAcc.out, HO.out]; simpa using B9.out, Q11.out⟩
        case measure => simp [intOf]; omega
      · have hjn : j = n := by omega
        have HB := Lib.hid (show hd ++ Bm.flat (l.take j) = hd ++ Bm.flat l by rw [hjn, List.take_of_length_le (by have := HL.out; omega)])
        rw [HB.out] at B4
        clear hjn
        go_wp2_with fail
        refine (string_any w1.heap.size w1.heap.size (hd ++ Bm.flat l) _ B4.out Q4.out.size).mono ?_
        rintro e w5 ⟨rfl, be5⟩
        have Q5 := Lib.hid (show Q w1 w5 from Q4.out.below.trans be5)
        clear be5
        go_wp2_with fail
        go_ret2
        exact ⟨by rw [HR.out]; rfl, Q1.out.trans Q5.out⟩
end Go.Proofs.YtbbfbdfmeifdfaaGreatDoor

/- A hand over bytes: its two boxes; contracts of batch.over, its closures, and (hand).write. -/
namespace Go.Proofs.YtbbfbdfmeifdfaaGreatDoor
set_option maxRecDepth 100000
open Go.RowKit Prm
set_option linter.unusedVariables false
set_option linter.unusedSimpArgs false

/-- of what was there only two blocks have turned. -/
structure Tw (bs br : Nat) (w w' : World) : Prop where
  low : Below 0 w w'
  blk : ∀ b, b < w.heap.size → b ≠ bs → b ≠ br → w'.heap[b]? = w.heap[b]?
section
variable {bs br : Nat} {w w' w2 : World}
theorem Tw.refl (bs br : Nat) (w : World) : Tw bs br w w := ⟨Below.refl _ _, fun _ _ _ _ => rfl⟩
theorem Tw.trans (h : Tw bs br w w') (k : Tw bs br w' w2) : Tw bs br w w2 :=
  ⟨h.low.trans k.low, fun b hb h1 h2 => (k.blk b (Nat.lt_of_lt_of_le hb h.low.size) h1 h2).trans (h.blk b hb h1 h2)⟩
theorem Tw.ofQ (q : Q w w') : Tw bs br w w' := ⟨q.below.mono (Nat.zero_le _), fun b hb _ _ => q.below.block b hb⟩
theorem Tw.q (h : Tw bs br w w') (q : Q w' w2) : Tw bs br w w2 := h.trans (Tw.ofQ q)
theorem Tw.setCell (h : Tw bs br w w') {p : Addr} (hp : p.block = bs ∨ p.block = br) (u : Value) : Tw bs br w (w'.setCell p u) :=
  ⟨h.low.setCell (Nat.zero_le _) u, fun b hb h1 h2 => by rw [heap_setCell_other w' p b u (by rcases hp with e | e <;> (rw [e]; assumption))]; exact h.blk b hb h1 h2⟩
theorem Tw.far (h : Tw bs br w w') {p : Addr} (hp : w.heap.size ≤ p.block) (u : Value) : Tw bs br w (w'.setCell p u) :=
  ⟨h.low.setCell (Nat.zero_le _) u, fun b hb h1 h2 => by rw [heap_setCell_other w' p b u (by omega)]; exact h.blk b hb h1 h2⟩
theorem Tw.size (h : Tw bs br w w') : w.heap.size ≤ w'.heap.size := h.low.size
theorem Tw.below (h : Tw bs br w w') {B : Nat} (h1 : B ≤ bs) (h2 : B ≤ br) (h3 : B ≤ w.heap.size) : Below B w w' :=
  ⟨h.low.os, h.low.tape, h.low.output, h.low.size, fun b hb => h.blk b (by omega) (by omega) (by omega)⟩
theorem Tw.bx (h : Tw bs br w w') {b : Nat} {vs : List Value} (hx : Bx w b vs) (hb : b < w.heap.size) (h1 : b ≠ bs) (h2 : b ≠ br) : Bx w' b vs := fun j v hj =>
  ⟨(World.cell?_of_block (w := w) (h.blk b hb h1 h2)).trans (hx j v hj).1, (World.frozen?_of_block (w := w) (h.blk b hb h1 h2)).trans (hx j v hj).2⟩
theorem Tw.own {α : Type} {K : Kind α} {base n c : Nat} {A : Option Addr} {l : List α} (h : Tw bs br w w') (ho : OwnK K w base A n c l) (h1 : bs < base) (h2 : br < base) : OwnK K w' base A n c l := by
  refine ⟨ho.1, ?_⟩
  rcases ho.2 with ⟨e, h0⟩ | ⟨g, cap, cur, e, hg, hh, r⟩
  · exact .inl ⟨e, h0⟩
  · exact .inr ⟨g, cap, cur, e, hg, (h.blk g (heap_lt hh) (by omega) (by omega)).trans hh, r⟩
end

/-- the hand's two boxes: what is left, and whether all was right. -/
structure Hd (w : World) (bs br : Nat) (x : Bm.Hs) : Prop where
  s : Bx w bs [.string ⟨x.1.toArray⟩]
  r : Bx w br [.bool x.2]
  ne : bs ≠ br
theorem Hd.q {w w' : World} {bs br : Nat} {x : Bm.Hs} (h : Hd w bs br x) (q : Q w w') : Hd w' bs br x := ⟨h.s.q q, h.r.q q, h.ne⟩
theorem Hd.lt {w : World} {bs br : Nat} {x : Bm.Hs} (h : Hd w bs br x) : bs < w.heap.size ∧ br < w.heap.size := ⟨h.s.lt, h.r.lt⟩
theorem Hd.setS {w : World} {bs br : Nat} {x : Bm.Hs} (h : Hd w bs br x) (s : List UInt8) : Hd (w.setCell ⟨bs, 0, none⟩ (.string ⟨s.toArray⟩)) bs br (s, x.2) :=
  ⟨h.s.set (k := 0) (by simp) _, h.r.far (p := ⟨bs, 0, none⟩) h.ne _, h.ne⟩
theorem Hd.setR {w : World} {bs br : Nat} {x : Bm.Hs} (h : Hd w bs br x) (r : Bool) : Hd (w.setCell ⟨br, 0, none⟩ (.bool r)) bs br (x.1, r) :=
  ⟨h.s.far (p := ⟨br, 0, none⟩) (fun e => h.ne e.symm) _, h.r.set (k := 0) (by simp) _, h.ne⟩
theorem Hd.get {w : World} {bs br : Nat} {x : Bm.Hs} (h : Hd w bs br x) : w.cell? ⟨bs, 0, none⟩ = some (.string ⟨x.1.toArray⟩) ∧ w.cell? ⟨br, 0, none⟩ = some (.bool x.2) ∧ w.frozen? ⟨bs, 0, none⟩ = false ∧ w.frozen? ⟨br, 0, none⟩ = false :=
  ⟨(h.s 0 _ rfl).1, (h.r 0 _ rfl).1, (h.s 0 _ rfl).2, (h.r 0 _ rfl).2⟩
theorem Hd.far {w : World} {bs br : Nat} {x : Bm.Hs} (h : Hd w bs br x) {p : Addr} (h1 : p.block ≠ bs) (h2 : p.block ≠ br) (u : Value) : Hd (w.setCell p u) bs br x := ⟨h.s.far h1 u, h.r.far h2 u, h.ne⟩

abbrev ptr0 (b : Nat) : Value := .pointer (some ⟨b, 0, none⟩)
abbrev numF (bs br : Nat) : Value := .func (.func 193) #[] #[ptr0 bs, ptr0 br]
abbrev textF (bs br : Nat) : Value := .func (.func 194) #[] #[ptr0 bs, ptr0 br]
abbrev doneF (bs br : Nat) : Value := .func (.func 195) #[] #[ptr0 br, ptr0 bs]
abbrev handV (bs br : Nat) : Value := .agg #[numF bs br, textF bs br, doneF bs br]

def RetH (bs br : Nat) (w : World) (v : Value) (x : Bm.Hs) (e : Ending) (w' : World) : Prop := e = .returned v ∧ Hd w' bs br x ∧ Tw bs br w w'

set_option maxHeartbeats 1000000 in
theorem hnum_any (most : Nat) (bs br : Nat) (x : Bm.Hs) (w : World) (h : Hd w bs br x) (hs : x.1.length ≤ maxLen) (hm : most ≤ 18446744073709551615) :
    Calls Tryz.prog 193 #[.int .u64 (most : Int), ptr0 bs, ptr0 br] w (RetH bs br w (.int .u64 ((Bm.tkN most x).1 : Nat)) (Bm.tkN most x).2) := by
  obtain ⟨s, o⟩ := x
  have K := takeNum_any ⟨s.toArray⟩ w (by show s.toArray.size ≤ _; simpa using hs)
  have hT : Bm.tkN most (s, o) = if (Dm.tnum s).2.2 ≠ 0 ∨ most < (Dm.tnum s).1 then (0, (Dm.tnum s).2.1, false) else ((Dm.tnum s).1, (Dm.tnum s).2.1, o) := rfl
  have hle := Dm.tnum_le s
  generalize Bm.tkN most (s, o) = T at hT ⊢
  simp only at K
  generalize Dm.tnum s = x at K hT hle
  obtain ⟨v, r, er⟩ := x
  unfold tnR at K
  simp only at K hT hle
  obtain ⟨g0, g1, g2, g3⟩ := h.get
  simp only at g0 g1
  generalize (⟨s.toArray⟩ : ByteArray) = S at K g0
  have HC := Lib.hid K
  have HH := Lib.hid h
  have hn1 : bs ≠ br := h.ne
  have hn2 : br ≠ bs := fun e => h.ne e.symm
  have hv : (v : Int) ≤ 18446744073709551615 := by unfold Dm.maxU at hle; omega
  have hm' : (most : Int) ≤ 18446744073709551615 := by omega
  clear K hs h hle hm
  by_cases c1 : er = 0
  · subst c1
    have hz0 : ((0 : Int) != 0) = false := by decide
    by_cases c2 : (most : Int) < (v : Int)
    · have HT := Lib.hid (hT.trans (if_pos (.inr (by omega))))
      clear hT
      go_enter Tryz.func193, Tryz.ntmps193
      go_wp2_with fail
      refine HC.out.mono ?_
      rintro e w1 ⟨rfl, q1⟩
      have H1 := Lib.hid (HH.out.q q1)
      have Q1 := Lib.hid (Tw.ofQ (bs := bs) (br := br) q1)
      clear q1 g0 g1 g2 g3
      obtain ⟨g0, g1, g2, g3⟩ := H1.out.get
      simp only at g0 g1
      go_wp2
      go_ret
      exact ⟨by rw [HT.out]; rfl, by rw [HT.out]; exact (H1.out.setR false).setS r, (Q1.out.setCell (p := ⟨br, 0, none⟩) (.inr rfl) _).setCell (p := ⟨bs, 0, none⟩) (.inl rfl) _⟩
    · have HT := Lib.hid (hT.trans (if_neg (by simp; omega)))
      clear hT
      go_enter Tryz.func193, Tryz.ntmps193
      go_wp2_with fail
      refine HC.out.mono ?_
      rintro e w1 ⟨rfl, q1⟩
      have H1 := Lib.hid (HH.out.q q1)
      have Q1 := Lib.hid (Tw.ofQ (bs := bs) (br := br) q1)
      clear q1 g0 g1 g2 g3
      obtain ⟨g0, g1, g2, g3⟩ := H1.out.get
      simp only at g0 g1
      go_wp2
      go_ret
      exact ⟨by rw [HT.out]; rfl, by rw [HT.out]; exact H1.out.setS r, Q1.out.setCell (p := ⟨bs, 0, none⟩) (.inl rfl) _⟩
  · have HT := Lib.hid (hT.trans (if_pos (.inl c1)))
    have hne : ((er : Int) != 0) = true := by simp; omega
    clear hT c1
    go_enter Tryz.func193, Tryz.ntmps193
    go_wp2_with fail
    refine HC.out.mono ?_
    rintro e w1 ⟨rfl, q1⟩
    have H1 := Lib.hid (HH.out.q q1)
    have Q1 := Lib.hid (Tw.ofQ (bs := bs) (br := br) q1)
    clear q1 g0 g1 g2 g3
    obtain ⟨g0, g1, g2, g3⟩ := H1.out.get
    simp only at g0 g1
    go_wp2
    go_ret
    exact ⟨by rw [HT.out]; rfl, by rw [HT.out]; exact (H1.out.setR false).setS r, (Q1.out.setCell (p := ⟨br, 0, none⟩) (.inr rfl) _).setCell (p := ⟨bs, 0, none⟩) (.inl rfl) _⟩

set_option maxHeartbeats 1000000 in
theorem htext_any (most : Int) (bs br : Nat) (x : Bm.Hs) (w : World) (h : Hd w bs br x) (hs : x.1.length ≤ maxLen) (hm0 : -9223372036854775808 ≤ most) (hm1 : most ≤ 9223372036854775807) :
    Calls Tryz.prog 194 #[.int .i64 most, ptr0 bs, ptr0 br] w (RetH bs br w (.string ⟨(Bm.tkT most x).1.toArray⟩) (Bm.tkT most x).2) := by
  obtain ⟨s, o⟩ := x
  have K := takeText_any ⟨s.toArray⟩ most w (by show s.toArray.size ≤ _; simpa using hs) hm0 hm1
  have hT : Bm.tkT most (s, o) = ((Dm.ttext s most).1, (Dm.ttext s most).2.1, o && decide ((Dm.ttext s most).2.2 = 0)) := rfl
  generalize Bm.tkT most (s, o) = T at hT ⊢
  simp only at K
  generalize Dm.ttext s most = x at K hT
  obtain ⟨v, r, er⟩ := x
  unfold ttR at K
  simp only at K hT
  obtain ⟨g0, g1, g2, g3⟩ := h.get
  simp only at g0 g1
  generalize (⟨s.toArray⟩ : ByteArray) = S at K g0
  have HC := Lib.hid K
  have HH := Lib.hid h
  have hn1 : bs ≠ br := h.ne
  have hn2 : br ≠ bs := fun e => h.ne e.symm
  clear K hs h
  cases o
  · have HT := Lib.hid hT
    clear hT
    go_enter Tryz.func194, Tryz.ntmps194
    go_wp2_with fail
    refine HC.out.mono ?_
    rintro e w1 ⟨rfl, q1⟩
    have H1 := Lib.hid (HH.out.q q1)
    have Q1 := Lib.hid (Tw.ofQ (bs := bs) (br := br) q1)
    clear q1 g0 g1 g2 g3
    obtain ⟨g0, g1, g2, g3⟩ := H1.out.get
    simp only at g0 g1
    go_wp2
    go_ret
    exact ⟨by rw [HT.out]; rfl, by rw [HT.out]; exact (H1.out.setR false).setS r, (Q1.out.setCell (p := ⟨br, 0, none⟩) (.inr rfl) _).setCell (p := ⟨bs, 0, none⟩) (.inl rfl) _⟩
  · by_cases c1 : er = 0
    · subst c1
      have HT := Lib.hid hT
      clear hT
      go_enter Tryz.func194, Tryz.ntmps194
      go_wp2_with fail
      refine HC.out.mono ?_
      rintro e w1 ⟨rfl, q1⟩
      have H1 := Lib.hid (HH.out.q q1)
      have Q1 := Lib.hid (Tw.ofQ (bs := bs) (br := br) q1)
      clear q1 g0 g1 g2 g3
      obtain ⟨g0, g1, g2, g3⟩ := H1.out.get
      simp only at g0 g1
      go_wp2
      go_ret
      exact ⟨by rw [HT.out]; rfl, by rw [HT.out]; exact (H1.out.setR true).setS r, (Q1.out.setCell (p := ⟨br, 0, none⟩) (.inr rfl) _).setCell (p := ⟨bs, 0, none⟩) (.inl rfl) _⟩
    · have HT := Lib.hid (show T = (v, r, false) by rw [hT]; simp [c1])
      have hne : ((er : Int) == 0) = false := by simp; omega
      clear hT c1
      go_enter Tryz.func194, Tryz.ntmps194
      go_wp2_with fail
      refine HC.out.mono ?_
      rintro e w1 ⟨rfl, q1⟩
      have H1 := Lib.hid (HH.out.q q1)
      have Q1 := Lib.hid (Tw.ofQ (bs := bs) (br := br) q1)
      clear q1 g0 g1 g2 g3
      obtain ⟨g0, g1, g2, g3⟩ := H1.out.get
      simp only at g0 g1
      go_wp2
      go_ret
      exact ⟨by rw [HT.out]; rfl, by rw [HT.out]; exact (H1.out.setR false).setS r, (Q1.out.setCell (p := ⟨br, 0, none⟩) (.inr rfl) _).setCell (p := ⟨bs, 0, none⟩) (.inl rfl) _⟩

theorem hdone_any (bs br : Nat) (x : Bm.Hs) (w : World) (h : Hd w bs br x) :
    Calls Tryz.prog 195 #[ptr0 br, ptr0 bs] w fun e w' => e = .returned (.bool (x.2 && decide (x.1 = []))) ∧ Q w w' := by
  obtain ⟨s, o⟩ := x
  obtain ⟨g0, g1, g2, g3⟩ := h.get
  simp only at g0 g1
  have HX := Lib.hid h
  clear h
  cases o
  · go_enter Tryz.func195, Tryz.ntmps195
    go_wp2
    go_ret
    exact ⟨rfl, Q.refl _⟩
  · cases s with
    | nil =>
      go_enter Tryz.func195, Tryz.ntmps195
      go_wp2
      go_ret
      exact ⟨ret_bool (by simp), Q.refl _⟩
    | cons a s =>
      have hd : (⟨(a :: s).toArray⟩ : ByteArray).toList ≠ [] := by rw [ByteArray.toList_eq]; simp
      have hd2 : (⟨(a :: s).toArray⟩ : ByteArray).toList.isEmpty = false := by rw [ByteArray.toList_eq]; simp
      have hd3 : ((⟨(a :: s).toArray⟩ : ByteArray).toList == []) = false := by rw [ByteArray.toList_eq]; simp
      generalize (⟨(a :: s).toArray⟩ : ByteArray) = S at g0 hd hd2 hd3
      go_enter Tryz.func195, Tryz.ntmps195
      go_wp2
      go_ret
      exact ⟨ret_bool (by simp [hd, hd2, hd3]), Q.refl _⟩

theorem Bx.set3 {w : World} {b : Nat} {x y z : Value} (h : Bx w b [x, y, z]) (x' y' z' : Value) : Bx (((w.setCell ⟨b, 0, none⟩ x').setCell ⟨b, 1, none⟩ y').setCell ⟨b, 2, none⟩ z') b [x', y', z'] :=
  ((h.set (k := 0) (by simp) x').set (k := 1) (by simp) y').set (k := 2) (by simp) z'
theorem Bx.far3h {w : World} {b c : Nat} {vs : List Value} (h : Bx w b vs) (hc : c ≠ b) (x' y' z' : Value) : Bx (((w.setCell ⟨c, 0, none⟩ x').setCell ⟨c, 1, none⟩ y').setCell ⟨c, 2, none⟩ z') b vs :=
  ((h.far (p := ⟨c, 0, none⟩) hc x').far (p := ⟨c, 1, none⟩) hc y').far (p := ⟨c, 2, none⟩) hc z'

set_option maxHeartbeats 1000000 in
theorem over_any (s : ByteArray) (w : World) :
    Calls Tryz.prog 165 #[.string s] w fun e w' => e = .returned (handV w.heap.size (w.heap.size + 1 + 1)) ∧ Hd w' w.heap.size (w.heap.size + 1 + 1) (s.data.toList, true) ∧ Q w w' := by
  go_enter Tryz.func165, Tryz.ntmps165
  go_upto_region 2 with (fail)
  have X : Hid (Bx (((w.alloc (.cells #[.string s] 9)).alloc (.cells #[.nilFunc, .nilFunc, .nilFunc] 234)).alloc (.cells #[.bool true] 4)) w.heap.size [.string s] ∧
      Bx (((w.alloc (.cells #[.string s] 9)).alloc (.cells #[.nilFunc, .nilFunc, .nilFunc] 234)).alloc (.cells #[.bool true] 4)) (w.heap.size + 1) [.nilFunc, .nilFunc, .nilFunc] ∧
      Bx (((w.alloc (.cells #[.string s] 9)).alloc (.cells #[.nilFunc, .nilFunc, .nilFunc] 234)).alloc (.cells #[.bool true] 4)) (w.heap.size + 1 + 1) [.bool true] ∧
      Q w (((w.alloc (.cells #[.string s] 9)).alloc (.cells #[.nilFunc, .nilFunc, .nilFunc] 234)).alloc (.cells #[.bool true] 4))) := by
    refine Lib.hid ⟨((Bx.new w [.string s] 9).alloc _).alloc _, ?_, ?_, (((Q.refl w).alloc _).alloc _).alloc _⟩
    · have := (Bx.new (w.alloc (.cells #[.string s] 9)) [.nilFunc, .nilFunc, .nilFunc] 234).alloc (.cells #[.bool true] 4)
      simpa using this
    · have := Bx.new ((w.alloc (.cells #[.string s] 9)).alloc (.cells #[.nilFunc, .nilFunc, .nilFunc] 234)) [.bool true] 4
      simpa using this
  generalize (((w.alloc (.cells #[.string s] 9)).alloc (.cells #[.nilFunc, .nilFunc, .nilFunc] 234)).alloc (.cells #[.bool true] 4)) = w2 at X ⊢
  obtain ⟨⟨c0, c1, c2⟩, f0, f1, f2⟩ := X.out.2.1.get3
  go_wp2
  obtain ⟨⟨d0, d1, d2⟩, _⟩ := (X.out.2.1.set3 (numF w.heap.size (w.heap.size + 1 + 1)) (textF w.heap.size (w.heap.size + 1 + 1)) (doneF w.heap.size (w.heap.size + 1 + 1))).get3
  refine bodyPost_ret (v := handV w.heap.size (w.heap.size + 1 + 1)) (by simp [results, Tryz.results165, go_sem, d0, d1, d2]) rfl ?_
  exact ⟨rfl, ⟨by have := X.out.1.far3h (c := w.heap.size + 1) (by omega) (numF w.heap.size (w.heap.size + 1 + 1)) (textF w.heap.size (w.heap.size + 1 + 1)) (doneF w.heap.size (w.heap.size + 1 + 1)); simpa using this, X.out.2.2.1.far3h (by omega) _ _ _, by omega⟩, X.out.2.2.2.set3 (by omega) _ _ _⟩

/-- what is taken is no longer than what was there. -/
theorem tkN_len (m : Nat) (x : Bm.Hs) : (Bm.tkN m x).2.1.length ≤ x.1.length := by
  have := Dm.tnum_len x.1
  unfold Bm.tkN; split <;> exact this
theorem tkT_len (m : Int) (x : Bm.Hs) : (Bm.tkT m x).2.1.length ≤ x.1.length := by
  obtain ⟨s, o⟩ := x
  unfold Bm.tkT Dm.ttext
  have := Dm.tnum_len s
  split
  · simp
  · split
    · simp
    · split
      · simp
      · simp only [List.length_drop]; omega
theorem tkN_le (m : Nat) (x : Bm.Hs) : (Bm.tkN m x).1 ≤ m := by unfold Bm.tkN; split <;> simp only <;> omega

/-- where (hand).write stands. -/
structure Wb (bs br : Nat) (w : World) (x : Bm.Hs) (k v : ByteArray) (d : Bool) (wi : World) : Prop where
  b1 : Bx wi w.heap.size [numF bs br, textF bs br, doneF bs br]
  b2 : Bx wi (w.heap.size + 1) [.string ⟨#[]⟩, .string ⟨#[]⟩, .bool false]
  b3 : Bx wi (w.heap.size + 1 + 1) [.string k, .string v, .bool d]
  h : Hd wi bs br x
  t : Tw bs br w wi
  l1 : bs < w.heap.size
  l2 : br < w.heap.size
section
variable {bs br : Nat} {w wi wj : World} {x y : Bm.Hs} {k v : ByteArray} {d : Bool}
theorem Wb.step (h : Wb bs br w x k v d wi) (hh : Hd wj bs br y) (ht : Tw bs br wi wj) : Wb bs br w y k v d wj := by
  have h1 := h.l1; have h2 := h.l2; have h3 := h.b3.lt
  exact ⟨ht.bx h.b1 (by omega) (by omega) (by omega), ht.bx h.b2 (by omega) (by omega) (by omega), ht.bx h.b3 (by omega) (by omega) (by omega), hh, h.t.trans ht, h1, h2⟩
theorem Wb.setK (h : Wb bs br w x k v d wi) (a : ByteArray) : Wb bs br w x a v d (wi.setCell ⟨w.heap.size + 1 + 1, 0, none⟩ (.string a)) := by
  have h1 := h.l1; have h2 := h.l2
  exact ⟨h.b1.far (by simp only; omega) _, h.b2.far (by simp only; omega) _, h.b3.set (k := 0) (by simp) _, h.h.far (by simp only; omega) (by simp only; omega) _, h.t.far (by simp only; omega) _, h1, h2⟩
theorem Wb.setV (h : Wb bs br w x k v d wi) (a : ByteArray) : Wb bs br w x k a d (wi.setCell ⟨w.heap.size + 1 + 1, 1, none⟩ (.string a)) := by
  have h1 := h.l1; have h2 := h.l2
  exact ⟨h.b1.far (by simp only; omega) _, h.b2.far (by simp only; omega) _, h.b3.set (k := 1) (by simp) _, h.h.far (by simp only; omega) (by simp only; omega) _, h.t.far (by simp only; omega) _, h1, h2⟩
theorem Wb.setD (h : Wb bs br w x k v d wi) (a : Bool) : Wb bs br w x k v a (wi.setCell ⟨w.heap.size + 1 + 1, 2, none⟩ (.bool a)) := by
  have h1 := h.l1; have h2 := h.l2
  exact ⟨h.b1.far (by simp only; omega) _, h.b2.far (by simp only; omega) _, h.b3.set (k := 2) (by simp) _, h.h.far (by simp only; omega) (by simp only; omega) _, h.t.far (by simp only; omega) _, h1, h2⟩
end

set_option maxHeartbeats 4000000 in
theorem hwrite_any (bs br : Nat) (x : Bm.Hs) (w : World) (h : Hd w bs br x) (hs : x.1.length ≤ maxLen) :
    Calls Tryz.prog 166 #[handV bs br] w (RetH bs br w (Bm.tkW x).1.v (Bm.tkW x).2) := by
  have hT : Bm.tkW x = (⟨⟨(Bm.tkT 32 (Bm.tkN 1 x).2).1.toArray⟩, ⟨(Bm.tkT 64 (Bm.tkT 32 (Bm.tkN 1 x).2).2).1.toArray⟩, decide ((Bm.tkN 1 x).1 = 1)⟩, (Bm.tkT 64 (Bm.tkT 32 (Bm.tkN 1 x).2).2).2) := rfl
  have n1 := tkN_le 1 x
  have l1 := tkN_len 1 x
  have l2 := tkT_len 32 (Bm.tkN 1 x).2
  have KN := Lib.hid (fun W (h : Hd W bs br x) => hnum_any 1 bs br x W h hs (by omega))
  have KT := Lib.hid (fun W (h : Hd W bs br (Bm.tkN 1 x).2) => htext_any 32 bs br (Bm.tkN 1 x).2 W h (by omega) (by omega) (by omega))
  have KU := Lib.hid (fun W (h : Hd W bs br (Bm.tkT 32 (Bm.tkN 1 x).2).2) => htext_any 64 bs br (Bm.tkT 32 (Bm.tkN 1 x).2).2 W h (by omega) (by omega) (by omega))
  generalize Bm.tkW x = T at hT ⊢
  generalize Bm.tkN 1 x = y at hT n1 KN KT KU
  obtain ⟨v, y⟩ := y
  simp only at hT n1 KN KT KU
  generalize Bm.tkT 32 y = z at hT KT KU
  obtain ⟨s1, z⟩ := z
  simp only at hT KT KU
  generalize Bm.tkT 64 z = u at hT KU
  obtain ⟨s2, u⟩ := u
  simp only at hT KU
  generalize (⟨s1.toArray⟩ : ByteArray) = S1 at hT KT
  generalize (⟨s2.toArray⟩ : ByteArray) = S2 at hT KU
  have hv : decide (v = 1) = ((v : Int) == 1) := by
    rcases (by omega : v = 0 ∨ v = 1) with rfl | rfl <;> rfl
  rw [hv] at hT
  have HT := Lib.hid hT
  have HH := Lib.hid h
  have hlt := h.lt
  have hb1 : bs < w.heap.size := hlt.1
  have hb2 : br < w.heap.size := hlt.2
  clear hT hv n1 l1 l2 h hs hlt
  go_enter Tryz.func166, Tryz.ntmps166
  go_upto_region 2 with (fail)
  have X : Hid (Wb bs br w x ⟨#[]⟩ ⟨#[]⟩ false (((w.alloc (.cells #[numF bs br, textF bs br, doneF bs br] 234)).alloc (.cells #[.string ⟨#[]⟩, .string ⟨#[]⟩, .bool false] 88)).alloc (.cells #[.string ⟨#[]⟩, .string ⟨#[]⟩, .bool false] 88))) := by
    refine Lib.hid ⟨((Bx.new w [numF bs br, textF bs br, doneF bs br] 234).alloc _).alloc _, ?_, ?_, HH.out.q ((((Q.refl w).alloc _).alloc _).alloc _), Tw.ofQ ((((Q.refl w).alloc _).alloc _).alloc _), hb1, hb2⟩
    · have := (Bx.new (w.alloc (.cells #[numF bs br, textF bs br, doneF bs br] 234)) [.string ⟨#[]⟩, .string ⟨#[]⟩, .bool false] 88).alloc (.cells #[.string ⟨#[]⟩, .string ⟨#[]⟩, .bool false] 88)
      simpa using this
    · have := Bx.new ((w.alloc (.cells #[numF bs br, textF bs br, doneF bs br] 234)).alloc (.cells #[.string ⟨#[]⟩, .string ⟨#[]⟩, .bool false] 88)) [.string ⟨#[]⟩, .string ⟨#[]⟩, .bool false] 88
      simpa using this
  generalize (((w.alloc (.cells #[numF bs br, textF bs br, doneF bs br] 234)).alloc (.cells #[.string ⟨#[]⟩, .string ⟨#[]⟩, .bool false] 88)).alloc (.cells #[.string ⟨#[]⟩, .string ⟨#[]⟩, .bool false] 88)) = w2 at X ⊢
  obtain ⟨⟨c0, c1, c2⟩, _⟩ := X.out.b1.get3
  obtain ⟨⟨d0, d1, d2⟩, f0, f1, f2⟩ := X.out.b3.get3
  go_wp2_with fail
  refine (KN.out _ X.out.h).mono ?_
  rintro e w3 ⟨rfl, h3, t3⟩
  have X2 := Lib.hid (X.out.step h3 t3)
  clear X h3 t3 c0 c1 c2 d0 d1 d2 f0 f1 f2
  obtain ⟨⟨d0, d1, d2⟩, f0, f1, f2⟩ := X2.out.b3.get3
  go_upto_region 3 with (fail)
  have X := Lib.hid (X2.out.setD ((v : Int) == 1))
  clear X2 d0 d1 d2 f0 f1 f2
  generalize w3.setCell ⟨w.heap.size + 1 + 1, 2, none⟩ (.bool ((v : Int) == 1)) = w4 at X ⊢
  obtain ⟨⟨c0, c1, c2⟩, _⟩ := X.out.b1.get3
  obtain ⟨⟨d0, d1, d2⟩, f0, f1, f2⟩ := X.out.b3.get3
  go_wp2_with fail
  refine (KT.out _ X.out.h).mono ?_
  rintro e w5 ⟨rfl, h3, t3⟩
  have X2 := Lib.hid (X.out.step h3 t3)
  clear X h3 t3 c0 c1 c2 d0 d1 d2 f0 f1 f2
  obtain ⟨⟨d0, d1, d2⟩, f0, f1, f2⟩ := X2.out.b3.get3
  go_upto_region 4 with (fail)
  have X := Lib.hid (X2.out.setK S1)
  clear X2 d0 d1 d2 f0 f1 f2
  generalize w5.setCell ⟨w.heap.size + 1 + 1, 0, none⟩ (.string S1) = w6 at X ⊢
  obtain ⟨⟨c0, c1, c2⟩, _⟩ := X.out.b1.get3
  obtain ⟨⟨d0, d1, d2⟩, f0, f1, f2⟩ := X.out.b3.get3
  go_wp2_with fail
  refine (KU.out _ X.out.h).mono ?_
  rintro e w7 ⟨rfl, h3, t3⟩
  have X2 := Lib.hid (X.out.step h3 t3)
  clear X h3 t3 c0 c1 c2 d0 d1 d2 f0 f1 f2
  obtain ⟨⟨d0, d1, d2⟩, f0, f1, f2⟩ := X2.out.b3.get3
  go_upto_region 5 with (fail)
  have X := Lib.hid (X2.out.setV S2)
  clear X2 d0 d1 d2 f0 f1 f2
  generalize w7.setCell ⟨w.heap.size + 1 + 1, 1, none⟩ (.string S2) = w8 at X ⊢
  obtain ⟨⟨c0, c1, c2⟩, _⟩ := X.out.b1.get3
  obtain ⟨⟨d0, d1, d2⟩, f0, f1, f2⟩ := X.out.b3.get3
  obtain ⟨⟨p0, p1, p2⟩, g0, g1, g2⟩ := X.out.b2.get3
  go_wp2
  obtain ⟨⟨r0, r1, r2⟩, _⟩ := (X.out.b2.set3 (.string S1) (.string S2) (.bool ((v : Int) == 1))).get3
  refine bodyPost_ret (v := .agg #[.string S1, .string S2, .bool ((v : Int) == 1)]) (by simp [results, Tryz.results166, go_sem, r0, r1, r2]) rfl ?_
  refine ⟨by rw [HT.out], by rw [HT.out]; exact ((X.out.h.far (p := ⟨w.heap.size + 1, 0, none⟩) (by simp only; omega) (by simp only; omega) _).far (p := ⟨w.heap.size + 1, 1, none⟩) (by simp only; omega) (by simp only; omega) _).far (p := ⟨w.heap.size + 1, 2, none⟩) (by simp only; omega) (by simp only; omega) _, ((X.out.t.far (p := ⟨w.heap.size + 1, 0, none⟩) (by simp only; omega) _).far (p := ⟨w.heap.size + 1, 1, none⟩) (by simp only; omega) _).far (p := ⟨w.heap.size + 1, 2, none⟩) (by simp only; omega) _⟩
end Go.Proofs.YtbbfbdfmeifdfaaGreatDoor

/- The contract of batch.Take. -/
namespace Go.Proofs.YtbbfbdfmeifdfaaGreatDoor
set_option maxRecDepth 100000
open Go.RowKit Prm
set_option linter.unusedVariables false
set_option linter.unusedSimpArgs false
variable {α : Type}

/-- 'append(own, more...)' as one step of a region that draws. -/
theorem step_appKD (K : Kind α) {ops : Array Oper} {o : Oper} {a : Act} {w : World} {X : Act → World → Prop} {R : Exit → Act → World → Prop} {E : Prop} (hgd : o.guard = none) (s x : Operand) (t : TypeId) (ht : t = K.S)
    (ho : o.op = .call { callee := .builtin .append, args := #[s, x], argTypes := #[t, t] }) (base : Nat) (A : Option Addr) (n c : Nat) (l : List α) (hs : a.eval s = .slice A n c) (h : OwnK K w base A n c l) (A2 : Option Addr) (m c2 : Nat) (l2 : List α) (hx : a.eval x = .slice A2 m c2) (h2 : Lst K w A2 m l2) (hnil : A2 = none → m = 0 ∧ c2 = 0)
    (hb : (n + m) * K.bs ≤ 140737488355328) (hbase : base ≤ w.heap.size)
    (hk : ∀ A' c' w', OwnK K w' base A' (n + m) c' (l ++ l2) → Below base w w' → X (a.put o.dst (.slice A' (n + m) c')) w') : if Region.wanted o (yielded ops a.tmps) = true then Oper.wp Tryz.prog o a w X R else E := by
  subst ht
  have hw : Region.wanted o (yielded ops a.tmps) = true := by simp [Region.wanted, hgd]
  rw [if_pos hw]
  obtain ⟨A', c', w', hr, h3, h4⟩ := run_appK K w base A n c l h A2 m c2 l2 h2 hnil hb hbase o.type
  unfold Oper.wp execOp
  simp only [ho, resolve, invoke, builtin, Sem.run_bind, Sem.run_pure, Result.andThen_ok, List.map_toArray, List.map_cons, List.map_nil, hs, hx, hr]
  exact hk A' c' w' h3 h4

/-- a batch, and the errno. -/
def RetTB (w : World) (x : Bm.Bt × Nat) (e : Ending) (w' : World) : Prop :=
  ∃ A c, e = .returned (.tuple #[batV x.1.kind x.1.tok A x.1.ws.length c, .int .i64 (x.2 : Int)]) ∧ OwnK writeK w' w.heap.size A x.1.ws.length c x.1.ws ∧ Q w w'

/-- where Take stands. -/
structure Tk (bs br : Nat) (w w2 : World) (x : Bm.Hs) (kind : Int) (tok : ByteArray) (A : Option Addr) (n c : Nat) (ws : List Wr) (wi : World) : Prop where
  res : Bx wi w.heap.size [.int .i64 0, .string ⟨#[]⟩, .slice none 0 0]
  bh : Bx wi w2.heap.size [numF bs br, textF bs br, doneF bs br]
  bb : Bx wi (w2.heap.size + 1) [.int .i64 kind, .string tok, .slice A n c]
  own : OwnK writeK wi (w2.heap.size + 1 + 1) A n c ws
  h : Hd wi bs br x
  q : Q w wi
  g1 : w.heap.size < bs
  g2 : w.heap.size < br
  l1 : bs < w2.heap.size
  l2 : br < w2.heap.size
  l3 : w2.heap.size + 1 + 1 ≤ wi.heap.size
section
variable {bs br : Nat} {w w2 wi wj : World} {x y : Bm.Hs} {kind : Int} {tok : ByteArray} {A : Option Addr} {n c : Nat} {ws : List Wr}
theorem Tk.step (h : Tk bs br w w2 x kind tok A n c ws wi) (hh : Hd wj bs br y) (ht : Tw bs br wi wj) : Tk bs br w w2 y kind tok A n c ws wj := by
  have h1 := h.g1; have h2 := h.g2; have h3 := h.l1; have h4 := h.l2; have h5 := h.l3
  exact ⟨ht.bx h.res (by omega) (by omega) (by omega), ht.bx h.bh (by omega) (by omega) (by omega), ht.bx h.bb (by omega) (by omega) (by omega), ht.own h.own (by omega) (by omega), hh, h.q.below.trans (ht.below (by omega) (by omega) (by omega)), h1, h2, h3, h4, Nat.le_trans h5 ht.size⟩
theorem Tk.drew (h : Tk bs br w w2 x kind tok A n c ws wi) : Tk bs br w w2 x kind tok A n c ws wi.drew := h.step (h.h.q (Q.refl _).drew) (Tw.ofQ (Q.refl _).drew)
theorem Tk.ofQ (h : Tk bs br w w2 x kind tok A n c ws wi) (q : Q wi wj) : Tk bs br w w2 x kind tok A n c ws wj := h.step (h.h.q q) (Tw.ofQ q)
theorem Tk.setKind (h : Tk bs br w w2 x kind tok A n c ws wi) (k : Int) : Tk bs br w w2 x k tok A n c ws (wi.setCell ⟨w2.heap.size + 1, 0, none⟩ (.int .i64 k)) := by
  have h1 := h.g1; have h2 := h.g2; have h3 := h.l1; have h4 := h.l2; have h5 := h.l3
  exact ⟨h.res.far (by simp only; omega) _, h.bh.far (by simp only; omega) _, h.bb.set (k := 0) (by simp) _, h.own.setCell (by simp only; omega) _, h.h.far (by simp only; omega) (by simp only; omega) _, h.q.setCell (by simp only; omega) _, h1, h2, h3, h4, by simpa using h5⟩
theorem Tk.setTok (h : Tk bs br w w2 x kind tok A n c ws wi) (k : ByteArray) : Tk bs br w w2 x kind k A n c ws (wi.setCell ⟨w2.heap.size + 1, 1, none⟩ (.string k)) := by
  have h1 := h.g1; have h2 := h.g2; have h3 := h.l1; have h4 := h.l2; have h5 := h.l3
  exact ⟨h.res.far (by simp only; omega) _, h.bh.far (by simp only; omega) _, h.bb.set (k := 1) (by simp) _, h.own.setCell (by simp only; omega) _, h.h.far (by simp only; omega) (by simp only; omega) _, h.q.setCell (by simp only; omega) _, h1, h2, h3, h4, by simpa using h5⟩
theorem Tk.setWs (h : Tk bs br w w2 x kind tok A n c ws wi) (hb : Below (w2.heap.size + 1 + 1) wi wj) {A' : Option Addr} {n' c' : Nat} {ws' : List Wr} (ho : OwnK writeK wj (w2.heap.size + 1 + 1) A' n' c' ws') : Tk bs br w w2 x kind tok A' n' c' ws' (wj.setCell ⟨w2.heap.size + 1, 2, none⟩ (.slice A' n' c')) := by
  have h1 := h.g1; have h2 := h.g2; have h3 := h.l1; have h4 := h.l2; have h5 := h.l3
  exact ⟨(h.res.below hb (by omega)).far (by simp only; omega) _, (h.bh.below hb (by omega)).far (by simp only; omega) _, (h.bb.below hb (by omega)).set (k := 2) (by simp) _, ho.setCell (by simp only; omega) _, (⟨h.h.s.below hb (by omega), h.h.r.below hb (by omega), h.h.ne⟩ : Hd wj bs br x).far (by simp only; omega) (by simp only; omega) _,
    Q.setCell (a := w) (h.q.below.trans (hb.mono (by omega))) (by simp only; omega) _, h1, h2, h3, h4, by have := hb.size; simp only [World.size_setCell]; omega⟩
end
theorem tkW_len (x : Bm.Hs) : (Bm.tkW x).2.1.length ≤ x.1.length := Nat.le_trans (tkT_len _ _) (Nat.le_trans (tkT_len _ _) (tkN_len _ _))
theorem tkWs_fold {v j : Nat} (h : j < v) (acc : List Wr) (x : Bm.Hs) : Bm.tkWs (v - j) acc x = Bm.tkWs (v - (j + 1)) (acc ++ [(Bm.tkW x).1]) (Bm.tkW x).2 := by
  obtain ⟨m, hm⟩ : ∃ m, v - j = m + 1 := ⟨v - j - 1, by omega⟩
  rw [hm, show v - (j + 1) = m by omega]; rfl

set_option maxHeartbeats 8000000 in
set_option maxRecDepth 100000 in
theorem btake_core (s : ByteArray) (w : World) (kd v : Nat) (y1 y2 y3 : Bm.Hs) (TK : ByteArray) (T : Bm.Bt × Nat)
    (K1 : ∀ bs br W, Hd W bs br (s.data.toList, true) → Calls Tryz.prog 193 #[.int .u64 2, ptr0 bs, ptr0 br] W (RetH bs br W (.int .u64 (kd : Int)) y1))
    (K2 : ∀ bs br W, Hd W bs br y1 → Calls Tryz.prog 194 #[.int .i64 16, ptr0 bs, ptr0 br] W (RetH bs br W (.string TK) y2))
    (K3 : ∀ bs br W, Hd W bs br y2 → Calls Tryz.prog 193 #[.int .u64 24, ptr0 bs, ptr0 br] W (RetH bs br W (.int .u64 (v : Int)) y3))
    (hT : T = Bm.fin (⟨(kd : Int), TK, (Bm.tkWs v [] y3).1⟩, (Bm.tkWs v [] y3).2)) (hkd : (kd : Int) ≤ 2) (hv : (v : Int) ≤ 24) (hl3 : y3.1.length ≤ maxLen) :
    Calls Tryz.prog 130 #[.string s] w (RetTB w T) := by
  have KA := Lib.hid K1
  have KB := Lib.hid K2
  have KC := Lib.hid K3
  have HT := Lib.hid hT
  have HL3 := Lib.hid hl3
  clear K1 K2 K3 hT hl3
  go_enter Tryz.func130, Tryz.ntmps130
  go_wp2_with fail
  refine (over_any s _).mono ?_
  rintro e w2 ⟨rfl, h2, q2⟩
  simp only [World.size_alloc] at h2
  have H2 := Lib.hid h2
  have Q2 := Lib.hid q2
  have hsz : w.heap.size + 1 + 1 + 1 < w2.heap.size := h2.lt.2
  simp only [World.size_alloc]
  clear h2 q2
  generalize hbs : w.heap.size + 1 = bs at H2 ⊢
  generalize hbr : bs + 1 + 1 = br at H2 ⊢
  have g1 : w.heap.size < bs := by omega
  have g2 : w.heap.size < br := by omega
  have g3 : bs < w2.heap.size := by omega
  have g4 : br < w2.heap.size := by omega
  clear hsz hbs hbr
  go_upto_region 3 with (fail)
  have X : Hid (Tk bs br w w2 (s.data.toList, true) 0 ⟨#[]⟩ none 0 0 [] ((w2.alloc (.cells #[numF bs br, textF bs br, doneF bs br] 234)).alloc (.cells #[.int .i64 0, .string ⟨#[]⟩, .slice none 0 0] 48))) := by
    refine Lib.hid ⟨?_, (Bx.new w2 [numF bs br, textF bs br, doneF bs br] 234).alloc _, ?_, OwnK.nil_ _ _ _, (H2.out.q ((Q.refl _).alloc _)).q ((Q.refl _).alloc _), (((((Q.refl w).alloc _).trans Q2.out).alloc _).alloc _), g1, g2, g3, g4, by simp⟩
    · exact ((((Bx.new w [.int .i64 0, .string ⟨#[]⟩, .slice none 0 0] 48).q Q2.out).alloc _).alloc _)
    · have := Bx.new (w2.alloc (.cells #[numF bs br, textF bs br, doneF bs br] 234)) [.int .i64 0, .string ⟨#[]⟩, .slice none 0 0] 48
      simpa using this
  change Code.wp _ _ _ _ ((w2.alloc (.cells #[numF bs br, textF bs br, doneF bs br] 234)).alloc (.cells #[.int .i64 0, .string ⟨#[]⟩, .slice none 0 0] 48))
  generalize ((w2.alloc (.cells #[numF bs br, textF bs br, doneF bs br] 234)).alloc (.cells #[.int .i64 0, .string ⟨#[]⟩, .slice none 0 0] 48)) = w3 at X ⊢
  clear Q2 H2
  obtain ⟨⟨c0, c1, c2⟩, _⟩ := X.out.bh.get3
  obtain ⟨⟨d0, d1, d2⟩, f0, f1, f2⟩ := X.out.bb.get3
  go_wp2_with fail
  refine (KA.out _ _ _ X.out.h).mono ?_
  rintro e w4 ⟨rfl, h3, t3⟩
  have X2 := Lib.hid (X.out.step h3 t3)
  clear X h3 t3 c0 c1 c2 d0 d1 d2 f0 f1 f2
  obtain ⟨⟨d0, d1, d2⟩, f0, f1, f2⟩ := X2.out.bb.get3
  go_upto_region 4 with (fail)
  have X := Lib.hid (X2.out.setKind (kd : Int))
  clear X2 d0 d1 d2 f0 f1 f2
  generalize w4.setCell ⟨w2.heap.size + 1, 0, none⟩ (.int .i64 (kd : Int)) = w5 at X ⊢
  obtain ⟨⟨c0, c1, c2⟩, _⟩ := X.out.bh.get3
  obtain ⟨⟨d0, d1, d2⟩, f0, f1, f2⟩ := X.out.bb.get3
  go_wp2_with fail
  refine (KB.out _ _ _ X.out.h).mono ?_
  rintro e w6 ⟨rfl, h3, t3⟩
  have X2 := Lib.hid (X.out.step h3 t3)
  clear X h3 t3 c0 c1 c2 d0 d1 d2 f0 f1 f2
  obtain ⟨⟨d0, d1, d2⟩, f0, f1, f2⟩ := X2.out.bb.get3
  go_upto_region 5 with (fail)
  have X := Lib.hid (X2.out.setTok TK)
  clear X2 d0 d1 d2 f0 f1 f2
  generalize w6.setCell ⟨w2.heap.size + 1, 1, none⟩ (.string TK) = w7 at X ⊢
  obtain ⟨⟨c0, c1, c2⟩, _⟩ := X.out.bh.get3
  obtain ⟨⟨d0, d1, d2⟩, f0, f1, f2⟩ := X.out.bb.get3
  go_wp2_with fail
  refine (KC.out _ _ _ X.out.h).mono ?_
  rintro e w8 ⟨rfl, h3, t3⟩
  have X0 := Lib.hid (X.out.step h3 t3)
  clear X h3 t3 c0 c1 c2 d0 d1 d2 f0 f1 f2 KA KB KC
  go_wp2
  go_loopw [20] (fun i wr => ∃ (j : Nat) (x : Bm.Hs) (acc : List Wr) (A : Option Addr) (c : Nat), j ≤ v ∧ i = .int .u64 j ∧ acc.length = j ∧ Tk bs br w w2 x (kd : Int) TK A acc.length c acc wr ∧ Bm.tkWs v [] y3 = Bm.tkWs (v - j) acc x ∧ x.1.length ≤ maxLen) (fun i _ => v - (intOf i).toNat)
  case atStart => exact ⟨0, y3, [], none, 0, Nat.zero_le _, rfl, rfl, X0.out, rfl, HL3.out⟩
  case round =>
    obtain ⟨j, x, acc, A, c, hj, rfl, hal, x1, hT, hxl⟩ := hrel
    have X := Lib.hid x1
    have HAl := Lib.hid hal
    have HTT := Lib.hid hT
    have HX := Lib.hid hxl
    clear x1 hT X0
    by_cases hlt : j < v
    · have hjv : (j : Int) < (v : Int) := by omega
      have HF := Lib.hid (tkWs_fold hlt acc x)
      have HW := Lib.hid (Nat.le_trans (tkW_len x) hxl)
      have KW := Lib.hid (fun W (h : Hd W bs br x) => hwrite_any bs br x W h HX.out)
      have hal2 : acc.length ≤ 24 := by omega
      clear hal hxl
      generalize Bm.tkW x = yy at HF HW KW
      obtain ⟨⟨ka, va, da⟩, y4⟩ := yy
      dsimp only at HF HW KW
      obtain ⟨⟨c0, c1, c2⟩, _⟩ := X.out.bh.get3
      obtain ⟨⟨d0, d1, d2⟩, f0, f1, f2⟩ := X.out.bb.get3
      go_upto_region 7 with (fail)
      refine wp_region_heldL 7 (fun w' => (w'.cell? ⟨w2.heap.size, 0, none⟩ = some (numF bs br) ∧ w'.cell? ⟨w2.heap.size, 1, none⟩ = some (textF bs br) ∧ w'.cell? ⟨w2.heap.size, 2, none⟩ = some (doneF bs br)) ∧ w'.cell? ⟨w2.heap.size + 1, 2, none⟩ = some (.slice A acc.length c)) (by kernel_rfl) ?szz0 (fun hHeld => ?rzz0)
      case szz0 =>
        exact ⟨⟨c0, c1, c2⟩, d2⟩
      case' rzz0 => skip
      refine wpAnyL_take (i := 0) (oi := ?ozz1) (v := ?vzz1) ?hzz1 ?azz1 ?bzz1 ?czz1 ?kzz1 ?qzz1 ?yzz1 ?szz1 ?rzz1
      case hzz1 => simp only [List.getElem?_toArray, List.getElem?_cons_zero]; rfl
      case azz1 => kernel_rfl
      case bzz1 => kernel_rfl
      case czz1 => kernel_rfl
      case kzz1 => kernel_rfl
      case yzz1 =>
        refine Or.inl ⟨by rfl, ?_⟩
        intro w hSw
        obtain ⟨⟨s0, s1, s2⟩, s3⟩ := hSw
        go_simp
        try with_reducible rfl
      case qzz1 => exact fun _ _ _ h => h
      case szz1 => first | assumption | trivial
      case' rzz1 => simp only [Act.put, List.setIfInBounds_toArray, List.set_cons_zero, List.set_cons_succ]
      refine wpAnyL_take (i := 1) (oi := ?ozz2) (v := ?vzz2) ?hzz2 ?azz2 ?bzz2 ?czz2 ?kzz2 ?qzz2 ?yzz2 ?szz2 ?rzz2
      case hzz2 => simp only [List.getElem?_toArray, List.getElem?_cons_zero, List.getElem?_cons_succ]; rfl
      case azz2 => kernel_rfl
      case bzz2 => kernel_rfl
      case czz2 => kernel_rfl
      case kzz2 => kernel_rfl
      case yzz2 =>
        refine Or.inl ⟨by rfl, ?_⟩
        intro w hSw
        obtain ⟨⟨s0, s1, s2⟩, s3⟩ := hSw
        go_simp
        try with_reducible rfl
      case qzz2 => exact fun _ _ _ h => h
      case szz2 => first | assumption | trivial
      case' rzz2 => simp only [Act.put, List.setIfInBounds_toArray, List.set_cons_zero, List.set_cons_succ]
      refine wpAnyL_take (i := 2) (oi := ?ozz3) (v := ?vzz3) ?hzz3 ?azz3 ?bzz3 ?czz3 ?kzz3 ?qzz3 ?yzz3 ?szz3 ?rzz3
      case hzz3 => simp only [List.getElem?_toArray, List.getElem?_cons_zero, List.getElem?_cons_succ]; rfl
      case azz3 => kernel_rfl
      case bzz3 => kernel_rfl
      case czz3 => kernel_rfl
      case kzz3 => kernel_rfl
      case yzz3 =>
        refine Or.inl ⟨by rfl, ?_⟩
        intro w hSw
        obtain ⟨⟨s0, s1, s2⟩, s3⟩ := hSw
        go_simp
        try with_reducible rfl
      case qzz3 => exact fun _ _ _ h => h
      case szz3 => first | assumption | trivial
      case' rzz3 => simp only [Act.put, List.setIfInBounds_toArray, List.set_cons_zero, List.set_cons_succ]
      refine wpAnyL_ready (rs := [3]) (by kernel_rfl) (by simp) ?_
      refine AllReadyL.cons (o := ?ozz8) ?hzz8 (fun K hK => ?kzz8) ?mzz8
      case hzz8 => simp only [List.getElem?_toArray, List.getElem?_cons_zero, List.getElem?_cons_succ]; rfl
      case kzz8 =>
        go_simp
        refine (KW.out _ X.out.drew.h).mono ?_
        rintro e w5 ⟨rfl, h5, t5⟩
        have X2 := Lib.hid (X.out.drew.step h5 t5)
        clear h5 t5
        go_wp2_with fail
        refine hK.out _ _ ?Szz8 (fun hHeld => ?Rzz8)
        case Szz8 =>
          exact ⟨X2.out.bh.get3.1, X2.out.bb.get3.1.2.2⟩
        case Rzz8 =>
          clear hK K
          try simp only [Act.put, List.setIfInBounds_toArray, List.set_cons_zero, List.set_cons_succ]
          refine wpAnyL_ready (rs := [4]) (by kernel_rfl) (by simp) ?_
          refine AllReadyL.cons (o := ?ozz7) ?hzz7 (fun K hK => ?kzz7) ?mzz7
          case hzz7 => simp only [List.getElem?_toArray, List.getElem?_cons_zero, List.getElem?_cons_succ]; rfl
          case kzz7 =>
            go_simp
            refine hK.out _ _ ?Szz7 (fun hHeld => ?Rzz7)
            case Szz7 =>
              exact ⟨(X2.out.ofQ ((Q.refl _).alloc (.cells #[.string ka, .string va, .bool da] 88))).bh.get3.1, (X2.out.ofQ ((Q.refl _).alloc (.cells #[.string ka, .string va, .bool da] 88))).bb.get3.1.2.2⟩
            case Rzz7 =>
              clear hK K
              try simp only [Act.put, List.setIfInBounds_toArray, List.set_cons_zero, List.set_cons_succ]
              refine wpAnyL_ready (rs := [5]) (by kernel_rfl) (by simp) ?_
              refine AllReadyL.cons (o := ?ozz6) ?hzz6 (fun K hK => ?kzz6) ?mzz6
              case hzz6 => simp only [List.getElem?_toArray, List.getElem?_cons_zero, List.getElem?_cons_succ]; rfl
              case kzz6 =>
                refine step_appKD writeK (by rfl) _ _ _ rfl (by rfl) (w2.heap.size + 1 + 1) A acc.length c acc (by rfl) (X2.out.ofQ ((Q.refl _).alloc (.cells #[.string ka, .string va, .bool da] 88))).own (some ⟨w5.heap.size, 0, none⟩) 1 1 [⟨ka, va, da⟩] (by rfl) (lit_write w5 ⟨ka, va, da⟩).lst (fun e => by cases e) (by show (acc.length + 1) * 40 ≤ _; omega) (X2.out.ofQ ((Q.refl _).alloc (.cells #[.string ka, .string va, .bool da] 88))).l3 ?_
                intro A6 c6 w6 o6 b6
                refine hK.out _ _ ?Szz6 (fun hHeld => ?Rzz6)
                case Szz6 =>
                  exact ⟨(((X2.out.ofQ ((Q.refl _).alloc (.cells #[.string ka, .string va, .bool da] 88))).bh.below b6 (by omega)).get3).1, (((X2.out.ofQ ((Q.refl _).alloc (.cells #[.string ka, .string va, .bool da] 88))).bb.below b6 (by omega)).get3).1.2.2⟩
                case Rzz6 =>
                  clear hK K
                  try simp only [Act.put, List.setIfInBounds_toArray, List.set_cons_zero, List.set_cons_succ]
                  refine wpAnyL_take (i := 6) (oi := ?ozz4) (v := ?vzz4) ?hzz4 ?azz4 ?bzz4 ?czz4 ?kzz4 ?qzz4 ?yzz4 ?szz4 ?rzz4
                  case hzz4 => simp only [List.getElem?_toArray, List.getElem?_cons_zero, List.getElem?_cons_succ]; rfl
                  case azz4 => kernel_rfl
                  case bzz4 => kernel_rfl
                  case czz4 => kernel_rfl
                  case kzz4 => kernel_rfl
                  case yzz4 =>
                    refine Or.inl ⟨by rfl, ?_⟩
                    intro w hSw
                    obtain ⟨⟨s0, s1, s2⟩, s3⟩ := hSw
                    go_simp
                    try with_reducible rfl
                  case qzz4 => exact fun _ _ _ h => h
                  case szz4 => first | assumption | trivial
                  case' rzz4 => simp only [Act.put, List.setIfInBounds_toArray, List.set_cons_zero, List.set_cons_succ]
                  refine wpAnyL_ready (rs := [7]) (by kernel_rfl) (by simp) ?_
                  refine AllReadyL.consK (o := ?ozz5) ?hzz5 ?lzz5 (fun K hK => ?kzz5) ?mzz5
                  case hzz5 => simp only [List.getElem?_toArray, List.getElem?_cons_zero, List.getElem?_cons_succ]; rfl
                  case lzz5 => kernel_rfl
                  case kzz5 =>
                    obtain ⟨⟨p0, p1, p2⟩, p3, p4, p5⟩ := ((X2.out.ofQ ((Q.refl _).alloc (.cells #[.string ka, .string va, .bool da] 88))).bb.below b6 (by omega)).get3
                    go_simp
                    refine hK.out _ _ ?Rzz5
                    case Rzz5 =>
                      clear hK K
                      try simp only [Act.put, List.setIfInBounds_toArray, List.set_cons_zero, List.set_cons_succ]
                      refine wpAnyH_done (by kernel_rfl) ?_ _
                      have X9 := Lib.hid ((X2.out.ofQ ((Q.refl _).alloc (.cells #[.string ka, .string va, .bool da] 88))).setWs b6 o6)
                      go_wp2
                      go_roundw
                      case rel => exact ⟨j + 1, y4, acc ++ [⟨ka, va, da⟩], A6, c6, by omega, by go_num, by rw [List.length_append, HAl.out]; rfl, by rw [List.length_append]; exact X9.out, by rw [HTT.out]; exact HF.out, HW.out⟩
                      case measure => simp [intOf]; omega
                  case' mzz5 => skip
                  exact AllReadyL.nil
              case' mzz6 => skip
              exact AllReadyL.nil
          case' mzz7 => skip
          exact AllReadyL.nil
      case' mzz8 => skip
      exact AllReadyL.nil
    · have hjv : j = v := by omega
      have HTl := Lib.hid (show Bm.tkWs v [] y3 = (acc, x) by rw [HTT.out, hjv, Nat.sub_self]; rfl)
      have HT2 := Lib.hid (show T = Bm.fin (⟨(kd : Int), TK, acc⟩, x) by rw [HT.out, HTl.out])
      have hal2 : acc.length ≤ 24 := by omega
      have hjn : ¬((j : Int) < (v : Int)) := by omega
      clear hjv hal hxl HTl HTT HT HX
      obtain ⟨⟨c0, c1, c2⟩, _⟩ := X.out.bh.get3
      obtain ⟨⟨d0, d1, d2⟩, f0, f1, f2⟩ := X.out.bb.get3
      have KD := Lib.hid (hdone_any bs br x wr X.out.h)
      have KM := Lib.hid (fun W q => may_any (kd : Int) TK A acc.length c acc W (X.out.own.lst.q q) (by unfold maxLen; omega))
      obtain ⟨xl, xo⟩ := x
      simp only at KD
      by_cases hd : (xo && decide (xl = [])) = true
      · rw [hd] at KD
        cases hm : Bm.may ⟨(kd : Int), TK, acc⟩ with
        | false =>
          rw [hm] at KM
          have HB := Lib.hid (HT2.out.trans (show Bm.fin (⟨(kd : Int), TK, acc⟩, (xl, xo)) = (⟨0, ⟨#[]⟩, []⟩, 3) by unfold Bm.fin; rw [if_neg (by rw [hm]; simp)]))
          clear hd hm
          go_wp2_with fail
          refine KD.out.mono ?_
          rintro e w9 ⟨rfl, q9⟩
          have Y := Lib.hid (X.out.ofQ q9)
          have Q9 := Lib.hid q9
          clear q9 c0 c1 c2 d0 d1 d2 f0 f1 f2 X
          obtain ⟨⟨d0, d1, d2⟩, f0, f1, f2⟩ := Y.out.bb.get3
          go_wp2_with fail
          refine (KM.out _ Q9.out).mono ?_
          rintro e w10 ⟨rfl, q10⟩
          have Y2 := Lib.hid (Y.out.ofQ q10)
          clear q10 d0 d1 d2 f0 f1 f2 Y Q9
          obtain ⟨⟨p0, p1, p2⟩, p3, p4, p5⟩ := Y2.out.res.get3
          go_wp2
          obtain ⟨⟨r0, r1, r2⟩, _⟩ := (Y2.out.res.set3 (.int .i64 0) (.string ⟨#[]⟩) (.slice none 0 0)).get3
          refine bodyPost_ret (v := .tuple #[batV 0 ⟨#[]⟩ none 0 0, .int .i64 3]) (by simp [results, Tryz.results130, go_sem, r0, r1, r2]) rfl ?_
          rw [HB.out]
          exact ⟨none, 0, rfl, OwnK.nil_ _ _ _, Y2.out.q.set3 (Nat.le_refl _) _ _ _⟩
        | true =>
          rw [hm] at KM
          have HB := Lib.hid (HT2.out.trans (show Bm.fin (⟨(kd : Int), TK, acc⟩, (xl, xo)) = (⟨(kd : Int), TK, acc⟩, 0) by unfold Bm.fin; rw [if_pos ⟨by simp at hd; exact hd.1, by simp at hd; exact hd.2, hm⟩]))
          clear hd hm
          go_wp2_with fail
          refine KD.out.mono ?_
          rintro e w9 ⟨rfl, q9⟩
          have Y := Lib.hid (X.out.ofQ q9)
          have Q9 := Lib.hid q9
          clear q9 c0 c1 c2 d0 d1 d2 f0 f1 f2 X
          obtain ⟨⟨d0, d1, d2⟩, f0, f1, f2⟩ := Y.out.bb.get3
          go_wp2_with fail
          refine (KM.out _ Q9.out).mono ?_
          rintro e w10 ⟨rfl, q10⟩
          have Y2 := Lib.hid (Y.out.ofQ q10)
          clear q10 d0 d1 d2 f0 f1 f2 Y Q9
          obtain ⟨⟨d0, d1, d2⟩, f0, f1, f2⟩ := Y2.out.bb.get3
          obtain ⟨⟨p0, p1, p2⟩, p3, p4, p5⟩ := Y2.out.res.get3
          go_wp2
          obtain ⟨⟨r0, r1, r2⟩, _⟩ := (Y2.out.res.set3 (.int .i64 (kd : Int)) (.string TK) (.slice A acc.length c)).get3
          refine bodyPost_ret (v := .tuple #[batV (kd : Int) TK A acc.length c, .int .i64 0]) (by simp [results, Tryz.results130, go_sem, r0, r1, r2]) rfl ?_
          rw [HB.out]
          exact ⟨A, c, rfl, ((((Y2.out.own.setCell (p := ⟨w.heap.size, 0, none⟩) (by have := Y2.out.g1; have := Y2.out.l1; simp only; omega) _).setCell (p := ⟨w.heap.size, 1, none⟩) (by have := Y2.out.g1; have := Y2.out.l1; simp only; omega) _).setCell (p := ⟨w.heap.size, 2, none⟩) (by have := Y2.out.g1; have := Y2.out.l1; simp only; omega) _).lower (by have := Y2.out.g1; have := Y2.out.l1; omega)), Y2.out.q.set3 (Nat.le_refl _) _ _ _⟩
      · have hd' : (xo && decide (xl = [])) = false := by simpa using hd
        rw [hd'] at KD
        have HB := Lib.hid (HT2.out.trans (show Bm.fin (⟨(kd : Int), TK, acc⟩, (xl, xo)) = (⟨0, ⟨#[]⟩, []⟩, 3) by unfold Bm.fin; rw [if_neg (by rintro ⟨h1, h2, _⟩; simp only at h1 h2; rw [h1, h2] at hd'; simp at hd')]))
        clear hd hd'
        go_wp2_with fail
        refine KD.out.mono ?_
        rintro e w9 ⟨rfl, q9⟩
        have Y2 := Lib.hid (X.out.ofQ q9)
        clear q9 c0 c1 c2 d0 d1 d2 f0 f1 f2 X
        obtain ⟨⟨p0, p1, p2⟩, p3, p4, p5⟩ := Y2.out.res.get3
        go_wp2
        obtain ⟨⟨r0, r1, r2⟩, _⟩ := (Y2.out.res.set3 (.int .i64 0) (.string ⟨#[]⟩) (.slice none 0 0)).get3
        refine bodyPost_ret (v := .tuple #[batV 0 ⟨#[]⟩ none 0 0, .int .i64 3]) (by simp [results, Tryz.results130, go_sem, r0, r1, r2]) rfl ?_
        rw [HB.out]
        exact ⟨none, 0, rfl, OwnK.nil_ _ _ _, Y2.out.q.set3 (Nat.le_refl _) _ _ _⟩

theorem btake_any (s : ByteArray) (w : World) (hs : s.size ≤ maxLen) :
    Calls Tryz.prog 130 #[.string s] w (RetTB w (Bm.take s.data.toList)) := by
  have n1 := tkN_le 2 (s.data.toList, true)
  have l1 := tkN_len 2 (s.data.toList, true)
  have l2 := tkT_len 16 (Bm.tkN 2 (s.data.toList, true)).2
  have n3 := tkN_le 24 (Bm.tkT 16 (Bm.tkN 2 (s.data.toList, true)).2).2
  have l3 := tkN_len 24 (Bm.tkT 16 (Bm.tkN 2 (s.data.toList, true)).2).2
  have hs0 : s.data.toList.length ≤ maxLen := by rw [Rn.size_data]; exact hs
  exact btake_core s w (Bm.tkN 2 (s.data.toList, true)).1 (Bm.tkN 24 (Bm.tkT 16 (Bm.tkN 2 (s.data.toList, true)).2).2).1 (Bm.tkN 2 (s.data.toList, true)).2 (Bm.tkT 16 (Bm.tkN 2 (s.data.toList, true)).2).2 (Bm.tkN 24 (Bm.tkT 16 (Bm.tkN 2 (s.data.toList, true)).2).2).2 _ _
    (fun bs br W h => hnum_any 2 bs br (s.data.toList, true) W h hs0 (by omega)) (fun bs br W h => htext_any 16 bs br _ W h (Nat.le_trans l1 hs0) (by omega) (by omega)) (fun bs br W h => hnum_any 24 bs br _ W h (Nat.le_trans l2 (Nat.le_trans l1 hs0)) (by omega))
    (by simp only [Bm.take, Bm.tkB, Bm.tkH]) (by omega) (by omega) (Nat.le_trans l3 (Nat.le_trans l2 (Nat.le_trans l1 hs0)))
end Go.Proofs.YtbbfbdfmeifdfaaGreatDoor

/- The frame of every law: what an argument reads as (with its sizes), opened by its type; a walk under that reading gives the given statement. -/
namespace Go.Proofs.YtbbfbdfmeifdfaaGreatDoor
set_option maxRecDepth 100000
open Go.ChangeShapes Go.WideShapes Go.ChangeAt Go.RowKit
set_option linter.unusedVariables false

/-- the cells cs read as something of type t, and no part of it is beyond the reach. -/
def Rd (w : World) (t : TypeId) (cs : List Value) : Prop :=
  ∃ (H : Type) (enc : TypeId × Value → H) (n : Nat) (d : DataW H) (ps : List MemPlace), DataW.trod enc Tryz.prog w 0 (fun _ => true) true n t cs = some (d, ps) ∧ ∀ x ∈ d.weights Tryz.prog t, x ≤ 140737488351232

theorem Rd.int {w : World} {t : TypeId} {cs : List Value} {k : IntKind} (h : Rd w t cs) (ht : Tryz.prog.underlying t = some (.int k)) : ∃ n, cs = [.int k n] ∧ (Lit.int k n).wf = true := by
  obtain ⟨H, enc, n, d, ps, ht', hw⟩ := h
  obtain ⟨m, rfl, _, hm⟩ := DataW.trod_int ht ht'
  exact ⟨m, rfl, hm⟩
theorem Rd.bool {w : World} {t : TypeId} {cs : List Value} (h : Rd w t cs) (ht : Tryz.prog.underlying t = some .bool) : ∃ b, cs = [.bool b] := by
  obtain ⟨H, enc, n, d, ps, ht', hw⟩ := h
  obtain ⟨m, rfl, _⟩ := DataW.trod_bool ht ht'
  exact ⟨m, rfl⟩
theorem Rd.string {w : World} {t : TypeId} {cs : List Value} (h : Rd w t cs) (ht : Tryz.prog.underlying t = some .string) : ∃ s : ByteArray, cs = [.string s] ∧ s.size ≤ 140737488351232 := by
  obtain ⟨H, enc, n, d, ps, ht', hw⟩ := h
  obtain ⟨s, rfl, hx, hm⟩ := DataW.trod_string ht ht'
  injection hx with h1 h2
  subst h1
  have := hw s.data.toList.length (by simp [DataW.weights])
  exact ⟨s, rfl, by simpa using this⟩
theorem Rd.struct {w : World} {t : TypeId} {cs : List Value} {fs : Array Field} (h : Rd w t cs) (ht : Tryz.prog.underlying t = some (.struct fs)) :
    cs.length = Tryz.prog.cellsOf t ∧ ∀ (i : Nat) (f : Field), fs[i]? = some f → Rd w f.type ((cs.drop f.offset).take (Tryz.prog.cellsOf f.type)) := by
  obtain ⟨H, enc, n, d, ps, ht', hw⟩ := h
  obtain ⟨xs, m, rfl, hx, hl, hlen, hg⟩ := DataW.trod_struct ht ht'
  injection hx with h1 h2
  subst h1
  refine ⟨hl, fun i f hi => ?_⟩
  have hil : i < fs.size := (Array.getElem?_eq_some_iff.1 hi).1
  have hxi : xs[i]? = some xs[i] := List.getElem?_eq_getElem (by omega)
  refine ⟨H, enc, m, xs[i].1, xs[i].2, (hg i f hi).trans hxi, fun x hx => hw x ?_⟩
  simp only [DataW.weights, ht]
  exact DataW.weights_mem_each (j := i) (t := f.type) (d := xs[i].1) (by simp [hi]) (by simp [hxi]) x hx
theorem Rd.field {w : World} {t : TypeId} {cs : List Value} {fs : Array Field} (h : Rd w t cs) (ht : Tryz.prog.underlying t = some (.struct fs)) (i : Nat) {ty : TypeId} (off k : Nat) (hi : (fs[i]?).map (fun f => (f.type, f.offset)) = some (ty, off)) (hk : Tryz.prog.cellsOf ty = k) :
    Rd w ty ((cs.drop off).take k) := by
  obtain ⟨f, hf, he⟩ := Option.map_eq_some_iff.1 hi
  injection he with e1 e2
  subst e1 e2 hk
  exact (h.struct ht).2 i f hf
theorem weightsAll_mem {H : Type} {P : Program} {e : TypeId} {d : DataW H} : ∀ {l : List (DataW H)}, d ∈ l → ∀ x ∈ d.weights P e, x ∈ DataW.weightsAll P e l
  | d0 :: l, hd, x, hx => by
    simp only [DataW.weightsAll, List.mem_append]
    rcases List.mem_cons.1 hd with rfl | hd
    · exact .inl hx
    · exact .inr (weightsAll_mem hd x hx)
theorem Rd.slice {w : World} {t e : TypeId} {cs : List Value} (h : Rd w t cs) (ht : Tryz.prog.underlying t = some (.slice e)) :
    cs = [.slice none 0 0] ∨ ∃ (a : Addr) (len cap : Nat), cs = [.slice (some a) len cap] ∧ len ≤ cap ∧ cap ≤ maxLen ∧ cap * Tryz.prog.bytesOf e ≤ 140737488351232 ∧
      ∀ i, i < cap → ∃ cs', w.cells? 0 (a.add (i * Tryz.prog.cellsOf e)) (Tryz.prog.cellsOf e) = some cs' ∧ Rd w e cs' := by
  obtain ⟨H, enc, n, d, ps, ht', hw⟩ := h
  rcases Deep.open_slice ht ht' with ⟨h0, _⟩ | ⟨a, len, cap, m, n', D, Pl, hcs, hb, hl, hm, hmm, hx, hi⟩
  · exact .inl h0
  · right
    simp only [if_true] at hmm
    subst hmm
    injection hx with h1 h2
    subst h1
    simp only [DataW.weights, ht] at hw
    refine ⟨a, len, m, hcs, hl, hm, ?_, fun i hi' => ?_⟩
    · have := hw _ (List.mem_cons_self ..)
      simp only [List.length_map, List.length_range] at this
      rwa [show len + (m - len) = m by omega] at this
    · obtain ⟨cs', hc, htr⟩ := hi i hi'
      refine ⟨cs', hc, H, enc, n', D i, Pl i, htr, fun x hx => hw x (List.mem_cons_of_mem _ (List.mem_append.2 ?_))⟩
      by_cases hlt : i < len
      · exact .inl (weightsAll_mem (List.mem_map.2 ⟨i, by simpa using hlt, rfl⟩) x hx)
      · exact .inr (weightsAll_mem (List.mem_map.2 ⟨i - len, by simp; omega, by rw [show len + (i - len) = i by omega]⟩) x hx)

/-- the value v, an argument, reads so. -/
def RdV (w : World) (t : TypeId) (v : Value) : Prop := (∃ base, Value.okWide Tryz.prog w .any base t v) ∧ Rd w t v.cells.toList
theorem RdV.int {w : World} {t : TypeId} {v : Value} {k : IntKind} (h : RdV w t v) (ht : Tryz.prog.underlying t = some (.int k)) : ∃ n, v = .int k n ∧ (Lit.int k n).wf = true := by
  obtain ⟨⟨b, ho⟩, hr⟩ := h
  obtain ⟨n, rfl⟩ := okWide_int ht ho
  obtain ⟨m, e, hm⟩ := hr.int ht
  simp [Value.cells] at e
  subst e
  exact ⟨n, rfl, hm⟩
theorem RdV.bool {w : World} {t : TypeId} {v : Value} (h : RdV w t v) (ht : Tryz.prog.underlying t = some .bool) : ∃ b, v = .bool b := by
  obtain ⟨⟨b, ho⟩, hr⟩ := h
  obtain ⟨n, rfl⟩ := okWide_bool ht ho
  exact ⟨n, rfl⟩
theorem RdV.string {w : World} {t : TypeId} {v : Value} (h : RdV w t v) (ht : Tryz.prog.underlying t = some .string) : ∃ s : ByteArray, v = .string s ∧ s.size ≤ 140737488351232 := by
  obtain ⟨⟨b, ho⟩, hr⟩ := h
  obtain ⟨n, rfl⟩ := okWide_string ht ho
  obtain ⟨m, e, hm⟩ := hr.string ht
  simp [Value.cells] at e
  subst e
  exact ⟨n, rfl, hm⟩
theorem RdV.struct {w : World} {t : TypeId} {v : Value} {fs : Array Field} (h : RdV w t v) (ht : Tryz.prog.underlying t = some (.struct fs)) : ∃ cs : List Value, v = .agg cs.toArray ∧ Rd w t cs := by
  obtain ⟨⟨b, ho⟩, hr⟩ := h
  obtain ⟨cs, rfl, _⟩ := okWide_struct ht ho
  exact ⟨cs.toList, rfl, hr⟩
theorem RdV.slice {w : World} {t e : TypeId} {v : Value} (h : RdV w t v) (ht : Tryz.prog.underlying t = some (.slice e)) : ∃ A n c, v = .slice A n c ∧ Rd w t [.slice A n c] := by
  obtain ⟨⟨b, ho⟩, hr⟩ := h
  obtain ⟨A, n, c, rfl⟩ := okWide_slice ht ho
  exact ⟨A, n, c, rfl, hr⟩

theorem args1 {a : Array Value} (h : a.size = 1) : ∃ x, a = #[x] := by
  obtain ⟨l⟩ := a
  match l, h with
  | [x], _ => exact ⟨x, rfl⟩
theorem laidOut_ : laidOutB Tryz.prog = true := by kernel_rfl
theorem ownKnob_ : ownKnob Tryz.prog.godebug = none := by kernel_rfl

theorem trodAll_keep {H : Type} {enc : TypeId × Value → H} {W W' : World} (hb : Q W W') : ∀ (ts : List TypeId) (vs : List Value) (ds : List (DataW H)) (ps : List MemPlace), (∀ t ∈ ts, Tryz.prog.readableRec t = true ∧ t < Tryz.prog.types.size) →
    DataW.TrodAll enc Tryz.prog W 0 (fun _ => true) true ts vs ds ps → (∀ x ∈ ps, x.block < W.heap.size) → DataW.TrodAll enc Tryz.prog W' 0 (fun b => decide (b < W.heap.size)) true ts vs ds ps
  | [], vs, ds, ps, _, h, _ => by
    obtain ⟨rfl, rfl, rfl⟩ := trodAll_nil h
    exact trodAll_mk0
  | t :: ts, vs, ds, ps, ht, h, hlt => by
    obtain ⟨v, vs', d, ds', p, q, rfl, rfl, rfl, h1, h2⟩ := trodAll_cons h
    exact ⟨p, q, Below.trod laidOut_ (ht t (by simp)).1 (ht t (by simp)).2 h1 hb.below (fun x hx => hlt x (by simp [hx])), trodAll_keep hb ts vs' ds' q (fun u hu => ht u (by simp [hu])) h2 (fun x hx => hlt x (by simp [hx])), rfl⟩

theorem trodAll_len {H : Type} {enc : TypeId × Value → H} {W : World} : ∀ (ts : List TypeId) (vs : List Value) (ds : List (DataW H)) (ps : List MemPlace), DataW.TrodAll enc Tryz.prog W 0 (fun _ => true) true ts vs ds ps → vs.length = ts.length ∧ ds.length = ts.length ∧
    ∀ (j : Nat) t v, ts[j]? = some t → vs[j]? = some v → ∃ d p, ds[j]? = some d ∧ DataW.Trod enc Tryz.prog W 0 (fun _ => true) true t v d p
  | [], vs, ds, ps, h => by
    obtain ⟨rfl, rfl, rfl⟩ := trodAll_nil h
    exact ⟨rfl, rfl, fun j t v hj => by simp at hj⟩
  | t :: ts, vs, ds, ps, h => by
    obtain ⟨v, vs', d, ds', p, q, rfl, rfl, rfl, h1, h2⟩ := trodAll_cons h
    obtain ⟨e1, e2, h3⟩ := trodAll_len ts vs' ds' q h2
    refine ⟨by simp [e1], by simp [e2], fun j t' v' hj hv => ?_⟩
    cases j with
    | zero =>
      simp only [List.getElem?_cons_zero, Option.some.injEq] at hj hv
      subst hj hv
      exact ⟨d, p, rfl, h1⟩
    | succ j => exact h3 j t' v' (by simpa using hj) (by simpa using hv)

end Go.Proofs.YtbbfbdfmeifdfaaGreatDoor

/- Lists whose elements lie flat in memory, out of what is known of each element. -/
namespace Go.Proofs.YtbbfbdfmeifdfaaGreatDoor
set_option maxRecDepth 100000
open Go.ChangeShapes Go.WideShapes Go.RowKit
set_option linter.unusedVariables false

theorem choose_list {α : Type} {R : Nat → α → Prop} : ∀ (n : Nat), (∀ i, i < n → ∃ a, R i a) → ∃ l : List α, l.length = n ∧ ∀ i (hi : i < l.length), R i l[i]
  | 0, _ => ⟨[], rfl, fun i hi => by simp at hi⟩
  | n + 1, h => by
    obtain ⟨l, hl, hr⟩ := choose_list n (fun i hi => h i (by omega))
    obtain ⟨a, ha⟩ := h n (by omega)
    refine ⟨l ++ [a], by simp [hl], fun i hi => ?_⟩
    by_cases hlt : i < l.length
    · rw [List.getElem_append_left hlt]; exact hr i hlt
    · have e : i = l.length := by simp at hi; omega
      subst e
      rw [List.getElem_append_right (Nat.le_refl _)]
      simpa [hl] using ha

theorem flat_at {α : Type} (g : α → List Value) (k : Nat) (hg : ∀ a, (g a).length = k) : ∀ (l : List α) (j : Nat) (u : Value), (l.flatMap g)[j]? = some u → ∃ i r, ∃ hi : i < l.length, j = i * k + r ∧ r < k ∧ (g l[i])[r]? = some u
  | [], j, u, h => by simp at h
  | a :: l, j, u, h => by
    rw [List.flatMap_cons] at h
    by_cases hj : j < k
    · rw [List.getElem?_append_left (by rw [hg]; exact hj)] at h
      exact ⟨0, j, by simp, by omega, hj, by simpa using h⟩
    · rw [List.getElem?_append_right (by rw [hg]; omega), hg] at h
      obtain ⟨i, r, hi, he, hr, hu⟩ := flat_at g k hg l (j - k) u h
      refine ⟨i + 1, r, by simpa using hi, ?_, hr, by simpa using hu⟩
      rw [Nat.succ_mul]; omega
theorem flat_len {α : Type} (g : α → List Value) (k : Nat) (hg : ∀ a, (g a).length = k) : ∀ (l : List α), (l.flatMap g).length = l.length * k
  | [] => by simp
  | a :: l => by rw [List.flatMap_cons, List.length_append, hg, flat_len g k hg l, List.length_cons, Nat.succ_mul]; omega
theorem holds_flat {α : Type} (g : α → List Value) (k : Nat) (hg : ∀ a, (g a).length = k) (w : World) (ad : Addr) (l : List α) (h : ∀ i (hi : i < l.length), w.cells? 0 (ad.add (i * k)) k = some (g l[i])) :
    Holds w w.heap.size k (some ad) l.length (l.flatMap g) := by
  refine ⟨flat_len g k hg l, fun j u hu => ?_⟩
  obtain ⟨i, r, hi, rfl, hr, hv⟩ := flat_at g k hg l j u hu
  obtain ⟨_, _, hat⟩ := World.cells?_some (h i hi)
  have hc := hat r hr
  rw [hv, addr_add] at hc
  refine ⟨ad, rfl, ?_, hc⟩
  have := block_lt_of_cell hc
  rwa [addr_block] at this

theorem wf_i64 {x : Int} (h : (Lit.int .i64 x).wf = true) : -9223372036854775808 ≤ x ∧ x ≤ 9223372036854775807 := by
  simp only [Lit.wf, Bool.and_eq_true, decide_eq_true_eq] at h
  have e1 : IntKind.i64.min = -9223372036854775808 := by decide
  have e2 : IntKind.i64.max = 9223372036854775807 := by decide
  omega
end Go.Proofs.YtbbfbdfmeifdfaaGreatDoor

/- What comes in: a list of a kind of elements, opened out of a reading. -/
namespace Go.Proofs.YtbbfbdfmeifdfaaGreatDoor
set_option maxRecDepth 100000
open Go.ChangeShapes Go.WideShapes Go.RowKit
set_option linter.unusedVariables false

theorem Kind.rows_flat {α : Type} (K : Kind α) (l : List α) : K.rows l = l.flatMap K.row := by
  induction l with
  | nil => rfl
  | cons f l ih => rw [Kind.rows, ih, List.flatMap_cons]
theorem open_kind {α : Type} (K : Kind α) (P : α → Prop) {w : World} (hel : ∀ cs, Rd w K.T cs → ∃ a, cs = K.row a ∧ P a) (hby : Tryz.prog.bytesOf K.T = K.bs) (hce : Tryz.prog.cellsOf K.T = K.k) {cs : List Value} (h : Rd w K.S cs) :
    ∃ A n c l, cs = [.slice A n c] ∧ In_ K w A n c l ∧ n * K.bs ≤ 140737488351232 ∧ ∀ a ∈ l, P a := by
  rcases h.slice K.und with rfl | ⟨a, len, cap, rfl, hlc, hcm, hb, hi⟩
  · exact ⟨none, 0, 0, [], rfl, In_.none_ K w, by simp, by simp⟩
  · rw [hby] at hb
    rw [hce] at hi
    have hlb : len * K.bs ≤ cap * K.bs := Nat.mul_le_mul_right _ hlc
    obtain ⟨l, hl, hr⟩ := choose_list (R := fun i (f : α) => w.cells? 0 (a.add (i * K.k)) K.k = some (K.row f) ∧ P f) len (fun i hlt => by
      obtain ⟨cs', hc, hrd⟩ := hi i (by omega)
      obtain ⟨f, rfl, hf⟩ := hel cs' hrd
      exact ⟨f, hc, hf⟩)
    refine ⟨some a, len, cap, l, rfl, ⟨?_, fun e => by (cases e), hlc, hcm, by omega⟩, by omega, fun f hf => ?_⟩
    · have := holds_flat K.row K.k K.len w a l (fun i hi => (hr i hi).1)
      rw [hl, ← K.rows_flat] at this
      exact this
    · obtain ⟨i, hi, rfl⟩ := List.getElem_of_mem hf
      exact (hr i hi).2
end Go.Proofs.YtbbfbdfmeifdfaaGreatDoor

/- The examples of chapter 5, at the head of each law. -/
namespace Go.Proofs.YtbbfbdfmeifdfaaGreatDoor
set_option maxRecDepth 100000
open Go.RowKit Prm
set_option linter.unusedVariables false
set_option linter.unusedSimpArgs false

end Go.Proofs.YtbbfbdfmeifdfaaGreatDoor

/- What comes in: lists of pairs and of writes. -/
namespace Go.Proofs.YtbbfbdfmeifdfaaGreatDoor
set_option maxRecDepth 100000
open Go.ChangeShapes Go.WideShapes Go.RowKit Prm
set_option linter.unusedVariables false

def WrIn (p : Wr) : Prop := p.key.size ≤ 140737488351232 ∧ p.val.size ≤ 140737488351232
theorem open_write {w : World} {cs : List Value} (h : Rd w 88 cs) : ∃ p : Wr, cs = writeK.row p ∧ WrIn p := by
  obtain ⟨hl, hf⟩ := h.struct Tryz.underlying88
  rw [show Tryz.prog.cellsOf 88 = 3 by kernel_rfl] at hl
  match cs, hl with
  | [a, b, c], _ =>
    obtain ⟨s0, e0, r0⟩ := (h.field Tryz.underlying88 0 (ty := 9) 0 1 rfl (by kernel_rfl)).string Tryz.underlying9
    obtain ⟨s1, e1, r1⟩ := (h.field Tryz.underlying88 1 (ty := 9) 1 1 rfl (by kernel_rfl)).string Tryz.underlying9
    obtain ⟨s2, e2⟩ := (h.field Tryz.underlying88 2 (ty := 4) 2 1 rfl (by kernel_rfl)).bool Tryz.underlying4
    simp at e0 e1 e2
    subst e0 e1 e2
    exact ⟨⟨s0, s1, s2⟩, rfl, r0, r1⟩
theorem open_writes {w : World} {cs : List Value} (h : Rd w 46 cs) : ∃ A n c l, cs = [.slice A n c] ∧ In_ writeK w A n c l ∧ n * 40 ≤ 140737488351232 ∧ ∀ p ∈ l, WrIn p :=
  open_kind writeK WrIn (fun cs hc => open_write hc) (by kernel_rfl) (by kernel_rfl) h
end Go.Proofs.YtbbfbdfmeifdfaaGreatDoor

/- The mathematics of a merge: the last write of each key, in the order of keys. -/
namespace Go.Proofs.YtbbfbdfmeifdfaaGreatDoor
set_option maxRecDepth 100000
open Prm
set_option linter.unusedVariables false
set_option linter.unusedSimpArgs false
namespace Mg

/-- the last write of a key. -/
def lastw (k : ByteArray) (l : List Wr) : Option Wr := l.foldl (fun r w => if w.key = k then some w else r) none
/-- keys rise. -/
def Rise (l : List Wr) : Prop := l.Pairwise fun a b => lt a.key b.key = true
/-- the rising row of the last write of each key. -/
def Is (ws l : List Wr) : Prop := Rise l ∧ ∀ w, w ∈ l ↔ lastw w.key ws = some w
/-! ### What a merge makes of nothing -/
end Mg
end Go.Proofs.YtbbfbdfmeifdfaaGreatDoor

/- Contracts: what writes make of nothing; the document's answer for writes' rows. -/
namespace Go.Proofs.YtbbfbdfmeifdfaaGreatDoor
set_option maxRecDepth 100000
open Go.RowKit Prm
set_option linter.unusedVariables false
set_option linter.unusedSimpArgs false

end Go.Proofs.YtbbfbdfmeifdfaaGreatDoor

/- What comes in: states, batches, lists of batches; the document's SameBatch. -/
namespace Go.Proofs.YtbbfbdfmeifdfaaGreatDoor
set_option maxRecDepth 100000
open Go.ChangeShapes Go.WideShapes Go.RowKit Prm
set_option linter.unusedVariables false
set_option linter.unusedSimpArgs false

theorem open_batch {w : World} {cs : List Value} (h : Rd w 48 cs) : ∃ k tok C p q ws, cs = [.int .i64 k, .string tok, .slice C p q] ∧ tok.size ≤ 140737488351232 ∧ In_ writeK w C p q ws ∧ p * 40 ≤ 140737488351232 ∧ (∀ x ∈ ws, WrIn x) ∧ -9223372036854775808 ≤ k ∧ k ≤ 9223372036854775807 := by
  obtain ⟨hl, hf⟩ := h.struct Tryz.underlying48
  rw [show Tryz.prog.cellsOf 48 = 3 by kernel_rfl] at hl
  match cs, hl with
  | [a, b, x], _ =>
    obtain ⟨k, e0, r0⟩ := (h.field Tryz.underlying48 0 (ty := 3) 0 1 rfl (by kernel_rfl)).int Tryz.underlying3
    obtain ⟨tok, e1, r1⟩ := (h.field Tryz.underlying48 1 (ty := 9) 1 1 rfl (by kernel_rfl)).string Tryz.underlying9
    obtain ⟨C, p, q, ws, e2, i2, b2, p2⟩ := open_writes (h.field Tryz.underlying48 2 (ty := 46) 2 1 rfl (by kernel_rfl))
    simp at e0 e1 e2
    subst e0 e1 e2
    exact ⟨k, tok, C, p, q, ws, rfl, r1, i2, b2, p2, (wf_i64 r0).1, (wf_i64 r0).2⟩

/-- a batch as it lies in a list. -/
structure BRaw where
  k : Int
  tok : ByteArray
  C : Option Addr
  p : Nat
  q : Nat
def rawK : Kind BRaw where
  T := 48
  S := 64
  k := 3
  bs := 48
  z := .agg #[.int .i64 0, .string ⟨#[]⟩, .slice none 0 0]
  row := fun p => [.int .i64 p.k, .string p.tok, .slice p.C p.p p.q]
  pos := by omega
  bpos := by omega
  len := fun _ => rfl
  one := fun _ u hu => by simp at hu; rcases hu with rfl | rfl | rfl <;> rfl
  und := Tryz.underlying64
  info := by kernel_rfl
  zc := rfl
theorem load_raw {w : World} {A : Option Addr} {n : Nat} {l : List BRaw} (h : Lst rawK w A n l) {k : Nat} (hk : k < n) (hl : k < l.length) :
    ∃ ad, A = some ad ∧ ad.block < w.heap.size ∧ w.cell? (ad.add (k * 3)) = some (.int .i64 l[k].k) ∧ w.cell? ⟨(ad.add (k * 3)).block, (ad.add (k * 3)).off + 1, none⟩ = some (.string l[k].tok) ∧
      w.cell? ⟨(ad.add (k * 3)).block, (ad.add (k * 3)).off + 2, none⟩ = some (.slice l[k].C l[k].p l[k].q) := by
  obtain ⟨ad, e, hb, hc⟩ := h.load hk hl
  exact ⟨ad, e, hb, hc 0 _ rfl, hc 1 _ rfl, hc 2 _ rfl⟩
/-- the raw batch r of a list stands for the batch b. -/
def Stands (w : World) (r : BRaw) (b : Bm.Bt) : Prop := r.k = b.kind ∧ r.tok = b.tok ∧ In_ writeK w r.C r.p r.q b.ws
theorem open_batches {w : World} {cs : List Value} (h : Rd w 64 cs) : ∃ A n c l, cs = [.slice A n c] ∧ In_ rawK w A n c l ∧ ∃ bl : List Bm.Bt, bl.length = n ∧ ∀ i, ∀ h1 : i < l.length, ∀ h2 : i < bl.length, Stands w l[i] bl[i] := by
  obtain ⟨A, n, c, l, rfl, hi, _, hP⟩ := open_kind rawK (fun r => ∃ b, Stands w r b) (fun cs hc => by
    obtain ⟨k, tok, C, p, q, ws, rfl, _, h1, _⟩ := open_batch hc
    exact ⟨⟨k, tok, C, p, q⟩, rfl, ⟨k, tok, ws⟩, rfl, rfl, h1⟩) (by kernel_rfl) (by kernel_rfl) h
  refine ⟨A, n, c, l, rfl, hi, ?_⟩
  have hl := hi.len
  obtain ⟨bl, hbl, hb⟩ := choose_list (R := fun i (b : Bm.Bt) => ∃ h : i < l.length, Stands w l[i] b) n (fun i hin => by
    obtain ⟨b, hb⟩ := hP l[i] (List.getElem_mem (by omega))
    exact ⟨b, by omega, hb⟩)
  exact ⟨bl, hbl, fun i h1 h2 => (hb i h2).2⟩

theorem Bm.fin_len (x : Bm.Bt × Bm.Hs) : (Bm.fin x).1.ws.length ≤ 24 := by
  obtain ⟨b, y, o⟩ := x
  unfold Bm.fin
  by_cases h : o = true ∧ y = [] ∧ Bm.may b = true
  · rw [if_pos h]; exact Bm.may_len h.2.2
  · rw [if_neg h]; simp
theorem Bm.take_len (s : List UInt8) : (Bm.take s).1.ws.length ≤ 24 := by
  unfold Bm.take
  generalize Bm.tkB (s, true) = x
  exact Bm.fin_len x

end Go.Proofs.YtbbfbdfmeifdfaaGreatDoor

/- Contracts: wal's numbered, Name, own, has. -/
namespace Go.Proofs.YtbbfbdfmeifdfaaGreatDoor
set_option maxRecDepth 100000
open Go.RowKit Dkm
set_option linter.unusedVariables false

theorem dec_dg (v : Nat) : Lib.decDigits v = Dm.dg v := by
  induction v using Nat.strongRecOn with
  | _ v ih =>
    rw [Lib.decDigits, Dm.dg]
    by_cases h : v < 10
    · rw [dif_pos h, if_pos h]; rfl
    · rw [dif_neg h, if_neg h, ih (v / 10) (by omega)]; rfl
theorem itoa_seg {seg : Int} (h : segOk seg) : Lib.itoa seg = Dm.dg seg.toNat := by
  have := h.1
  unfold Lib.itoa
  rw [if_neg (by omega), dec_dg]
theorem itoa_any (seg : Int) (h : segOk seg) (w : World) (hT : Tab w) :
    Calls Tryz.prog 48 #[.int .i64 seg] w fun e w' => e = .returned (.string ⟨(Dm.dg seg.toNat).toArray⟩) ∧ Q w w' := by
  have h1 := h.1
  have h2 := h.2
  refine (Tryz.strconv_Itoa seg (by omega) (by omega) w hT).mono fun e w' he => ?_
  obtain ⟨he, k, os, rfl⟩ := he
  rw [itoa_seg h] at he
  exact ⟨he, Lib.below_grow w.heap.size w (Nat.le_refl _) k os⟩

theorem numbered_yes (seg : Int) (h : segOk seg) (w : World) : Calls Tryz.prog 126 #[.int .i64 seg] w fun e w' => e = .returned (.bool true) ∧ Q w w' := by
  have h1 := h.1
  have h2 := h.2
  clear h
  go_enter Tryz.func126, Tryz.ntmps126
  go_wp2
  all_goals go_ret
  all_goals exact ⟨rfl, by first | exact Q.refl _ | exact (Q.refl _).drew⟩
theorem numbered_no (seg : Int) (h : ¬ segOk seg) (w : World) : Calls Tryz.prog 126 #[.int .i64 seg] w fun e w' => e = .returned (.bool false) ∧ Q w w' := by
  by_cases h1 : 1 ≤ seg
  case' pos => have h2 : ¬ seg ≤ 1000000 := fun h2 => h ⟨h1, h2⟩
  all_goals
    clear h
    go_enter Tryz.func126, Tryz.ntmps126
    go_wp2
    all_goals go_ret
    all_goals exact ⟨rfl, by first | exact Q.refl _ | exact (Q.refl _).drew⟩

theorem name_any (seg : Int) (w : World) (hT : Tab w) : Calls Tryz.prog 127 #[.int .i64 seg] w fun e w' => e = .returned (.string (namB seg)) ∧ Q w w' := by
  by_cases h : segOk seg
  · have hR := namB_ok h
    have e : namB seg = (⟨#[119]⟩ : ByteArray) ++ ⟨(Dm.dg seg.toNat).toArray⟩ := by
      unfold namB; rw [nam_ok h]; rw [app_lists [119]]; rfl
    have hI := itoa_any seg h
    have hsz : (⟨(Dm.dg seg.toNat).toArray⟩ : ByteArray).size ≤ 8 := by
      rw [e, ByteArray.size_append] at hR; omega
    have HE := Lib.hid e
    have HT := Lib.hid hT
    clear e hR hT
    generalize (⟨(Dm.dg seg.toNat).toArray⟩ : ByteArray) = R at hI HE hsz
    go_enter Tryz.func127, Tryz.ntmps127
    go_wp2_with fail
    refine (numbered_yes seg h _).mono ?_
    rintro e w1 ⟨rfl, q1⟩
    go_wp2_with fail
    refine (hI _ (HT.out.q q1)).mono ?_
    rintro e w2 ⟨rfl, q2⟩
    go_wp2
    go_ret
    exact ⟨by rw [HE.out]; rfl, q1.trans q2⟩
  · rw [namB_no h]
    go_enter Tryz.func127, Tryz.ntmps127
    go_wp2_with fail
    refine (numbered_no seg h _).mono ?_
    rintro e w1 ⟨rfl, q1⟩
    go_wp2
    go_ret
    exact ⟨rfl, q1⟩

theorem has_any (nm : ByteArray) (A : Option Addr) (n c : Nat) (room fuse : Int) (off : Bool) (l : List Fil) (w : World) (hf : Files w A n l) (hn : n ≤ maxLen) :
    Calls Tryz.prog 152 #[dkv A n c room fuse off, .string nm] w fun e w' => e = .returned (.bool (hit nm l).2) ∧ Q w w' := by
  have HF := Lib.hid hf
  have HN := Lib.hid hn
  have KK := Lib.hid (fun w hf => find_any nm A n c room fuse off l w hf hn)
  clear hf hn
  generalize hit nm l = r at KK ⊢
  obtain ⟨f, b⟩ := r
  go_enter Tryz.func152, Tryz.ntmps152
  go_wp2_with fail
  refine (KK.out _ (HF.out.q ((Q.refl _).alloc _))).mono ?_
  rintro e w1 ⟨rfl, q1⟩
  have hq := Lib.hid (((Q.refl w).alloc _).trans q1)
  clear q1
  go_wp2
  go_ret
  exact ⟨rfl, hq.out.alloc _⟩

set_option maxHeartbeats 1000000 in
theorem wown_any (A : Option Addr) (n c : Nat) (room fuse : Int) (off : Bool) (l : List Fil) (w : World) (hd : Dsk w A n c l) :
    Calls Tryz.prog 125 #[dkv A n c room fuse off] w fun e w' => RetOwnD w n room fuse off l e w' := by
  have HD := Lib.hid hd
  clear hd
  go_enter Tryz.func125, Tryz.ntmps125
  go_wp2_with fail
  refine (clone A n c l _ (HD.out.q (((Q.refl _).alloc _).alloc _))).mono ?_
  rintro e w1 ⟨A1, c1, rfl, ho, q1⟩
  have HO := Lib.hid ho
  clear ho
  obtain ⟨e0, e1, e2, e3⟩ := box4 q1 (b := w.heap.size) (x := .slice A n c) (y := .int .i64 room) (z := .int .i64 fuse) (u := .bool off) (by simp) (by simp) (by simp) (by simp)
  obtain ⟨r0, r1, r2, r3⟩ := box4 q1 (b := w.heap.size + 1) (x := .slice none 0 0) (y := .int .i64 0) (z := .int .i64 0) (u := .bool false) (by simp) (by simp) (by simp) (by simp)
  obtain ⟨hc, hz⟩ := bcell q1.below
  clear hc
  go_wp2
  refine bodyPost_ret (v := dkv A1 n c1 room fuse off) (by simp [results, Tryz.results125, go_sem, r0, r1, r2, r3]) rfl ⟨A1, c1, rfl, ?_, ?_⟩
  · exact (((((HO.out.setCell (p := ⟨_, _, none⟩) (by simp <;> omega) _).setCell (p := ⟨_, _, none⟩) (by simp <;> omega) _).setCell (p := ⟨_, _, none⟩) (by simp <;> omega) _).setCell (p := ⟨_, _, none⟩) (by simp <;> omega) _).setCell (p := ⟨_, _, none⟩) (by simp <;> omega) _).lower (by simp <;> omega)
  · exact ((((Q.refl _).alloc _).alloc _).trans q1).setCell (by simp) _ |>.set4 (by simp) _ _ _ _
end Go.Proofs.YtbbfbdfmeifdfaaGreatDoor

/- Contracts: wal.Sync, wal.Put. -/
namespace Go.Proofs.YtbbfbdfmeifdfaaGreatDoor
set_option maxRecDepth 100000
open Go.RowKit Dkm Wm
set_option linter.unusedVariables false

/-- a disk of the call's own, and what is told beside it. -/
def RetW (w : World) (d : Dk) (vs : List Value) (e : Ending) (w' : World) : Prop :=
  ∃ A n c, e = .returned (.tuple (dkv A n c d.room d.fuse d.off :: vs).toArray) ∧ Dsk w' A n c d.fs ∧ (∀ ad, A = some ad → w.heap.size ≤ ad.block) ∧ Q w w'
theorem Sb.endW {w wr : World} {A : Option Addr} {n c : Nat} {room fuse : Int} {off : Bool} (h : Sb w A n c room fuse off wr) {w2 : World} (q : Q wr w2) {A2 : Option Addr} {n2 c2 : Nat} {d : Dk} (ho : Own w2 wr.heap.size A2 n2 c2 d.fs) (hn : n2 * 48 ≤ 140737488355328) (vs : List Value) (x y z u : Value) :
    RetW w d vs (.returned (.tuple (dkv A2 n2 c2 d.room d.fuse d.off :: vs).toArray)) ((((w2.setCell ⟨w.heap.size + 1, 0, none⟩ x).setCell ⟨w.heap.size + 1, 1, none⟩ y).setCell ⟨w.heap.size + 1, 2, none⟩ z).setCell ⟨w.heap.size + 1, 3, none⟩ u) :=
  ⟨A2, n2, c2, rfl, (ho.set4 h.res.lt _ _ _ _).dsk hn, fun ad e => by have h1 := ho.far_ ad e; have h2 := h.q.size; omega, (h.q.trans q).set4 (b := w.heap.size + 1) (by omega) _ _ _ _⟩

set_option maxHeartbeats 2000000 in
theorem wsync_any (seg : Int) (A : Option Addr) (n c : Nat) (d : Dk) (w : World) (hT : Tab w) (hd : Dsk w A n c d.fs) (hs : ∀ f ∈ d.fs, f.sf.size + f.wt.size ≤ maxLen) :
    Calls Tryz.prog 99 #[dkv A n c d.room d.fuse d.off, .int .i64 seg] w fun e w' => RetW w (syncM d seg).1 [.int .i64 (syncM d seg).2] e w' := by
  obtain ⟨l, room, fuse, off⟩ := d
  have HT := Lib.hid hT
  have HD := Lib.hid hd
  have HN := Lib.hid hd.max
  have HS := Lib.hid hs
  clear hT hd hs
  have hsl := syn_len ⟨l, room, fuse, off⟩ (namB seg)
  have KS := Lib.hid (fun w hd => sync_any (namB seg) A n c ⟨l, room, fuse, off⟩ w hd HS.out)
  have KH := Lib.hid (fun w hf hn => has_any (namB seg) A n c room fuse off l w hf hn)
  unfold syncM
  generalize syn ⟨l, room, fuse, off⟩ (namB seg) = r at hsl KS ⊢
  generalize hit (namB seg) l = b at KH ⊢
  obtain ⟨f, b⟩ := b
  have KN := Lib.hid (name_any seg)
  cases b
  · simp only [Bool.false_eq_true, if_false]
    go_enter Tryz.func99, Tryz.ntmps99
    go_upto_region 1 with (fail)
    have X := Lib.hid (Sb.new w A n c room fuse off)
    generalize ((w.alloc (.cells #[.slice A n c, .int .i64 room, .int .i64 fuse, .bool off] 24)).alloc (.cells #[.slice none 0 0, .int .i64 0, .int .i64 0, .bool false] 24)) = W at X ⊢
    obtain ⟨⟨e0, e1, e2, e3⟩, f0, f1, f2', f3⟩ := X.out.get
    go_region_held3 (fun w' => w'.cell? ⟨w.heap.size, 0, none⟩ = some (.slice A n c) ∧ w'.cell? ⟨w.heap.size, 1, none⟩ = some (.int .i64 room) ∧ w'.cell? ⟨w.heap.size, 2, none⟩ = some (.int .i64 fuse) ∧ w'.cell? ⟨w.heap.size, 3, none⟩ = some (.bool off))
      (first
        | go_keep
        | (go_split_ands
           (repeat' apply And.intro) <;> exact box_ ‹Q _ _› (by assumption)))
      (first
        | (go_at_call 127
           (with_reducible refine (KN.out _ (HT.out.q (X.out.q.trans (Q.refl W).drew))).mono ?_)
           rintro e w2 ⟨rfl, q2⟩)
        | (go_at_call 152
           (with_reducible refine (KH.out _ (HD.out.files.q (X.out.q.trans ((Q.refl W).drew.trans q2))) HN.out).mono ?_)
           rintro e w3 ⟨rfl, q3⟩))
    have Y := Lib.hid (X.out.step (((Q.refl W).drew.trans q2).trans q3))
    clear X q2 q3 e0 e1 e2 e3 f0 f1 f2' f3
    obtain ⟨⟨e0, e1, e2, e3⟩, f0, f1, f2', f3⟩ := Y.out.get
    go_wp2_with fail
    refine (wown_any A n c room fuse off l _ (HD.out.q Y.out.q)).mono ?_
    rintro e w4 ⟨A4, c4, rfl, ho, q4⟩
    have Z := Lib.hid (And.intro ho q4)
    obtain ⟨⟨s0, s1, s2, s3⟩, h0, h1, h2, h3⟩ := (Y.out.step q4).getR
    clear ho q4 e0 e1 e2 e3 f0 f1 f2' f3
    go_wp2
    refine bodyPost_ret (v := .tuple #[dkv A4 n c4 room fuse off, .int .i64 0]) (by simp [results, Tryz.results99, go_sem, s0, s1, s2, s3]) rfl ?_
    exact Y.out.endW Z.out.2 (d := ⟨l, room, fuse, off⟩) Z.out.1 HD.out.few [.int .i64 0] _ _ _ _
  · simp only [if_true]
    go_enter Tryz.func99, Tryz.ntmps99
    go_upto_region 1 with (fail)
    have X := Lib.hid (Sb.new w A n c room fuse off)
    generalize ((w.alloc (.cells #[.slice A n c, .int .i64 room, .int .i64 fuse, .bool off] 24)).alloc (.cells #[.slice none 0 0, .int .i64 0, .int .i64 0, .bool false] 24)) = W at X ⊢
    obtain ⟨⟨e0, e1, e2, e3⟩, f0, f1, f2', f3⟩ := X.out.get
    go_region_held3 (fun w' => w'.cell? ⟨w.heap.size, 0, none⟩ = some (.slice A n c) ∧ w'.cell? ⟨w.heap.size, 1, none⟩ = some (.int .i64 room) ∧ w'.cell? ⟨w.heap.size, 2, none⟩ = some (.int .i64 fuse) ∧ w'.cell? ⟨w.heap.size, 3, none⟩ = some (.bool off))
      (first
        | go_keep
        | (go_split_ands
           (repeat' apply And.intro) <;> exact box_ ‹Q _ _› (by assumption)))
      (first
        | (go_at_call 127
           (with_reducible refine (KN.out _ (HT.out.q (X.out.q.trans (Q.refl W).drew))).mono ?_)
           rintro e w2 ⟨rfl, q2⟩)
        | (go_at_call 152
           (with_reducible refine (KH.out _ (HD.out.files.q (X.out.q.trans ((Q.refl W).drew.trans q2))) HN.out).mono ?_)
           rintro e w3 ⟨rfl, q3⟩))
    have Y := Lib.hid (X.out.step (((Q.refl W).drew.trans q2).trans q3))
    clear X q2 q3 e0 e1 e2 e3 f0 f1 f2' f3
    obtain ⟨⟨e0, e1, e2, e3⟩, f0, f1, f2', f3⟩ := Y.out.get
    go_upto_region 3 with (fail)
    go_region_held3 (fun w' => w'.cell? ⟨w.heap.size, 0, none⟩ = some (.slice A n c) ∧ w'.cell? ⟨w.heap.size, 1, none⟩ = some (.int .i64 room) ∧ w'.cell? ⟨w.heap.size, 2, none⟩ = some (.int .i64 fuse) ∧ w'.cell? ⟨w.heap.size, 3, none⟩ = some (.bool off))
      (first
        | go_keep
        | (go_split_ands
           (repeat' apply And.intro) <;> exact box_ ‹Q _ _› (by assumption)))
      (first
        | (go_at_call 127
           (with_reducible refine (KN.out _ (HT.out.q (Y.out.q.trans (Q.refl _).drew))).mono ?_)
           rintro e w4 ⟨rfl, q4⟩)
        | (go_at_call 150
           (with_reducible refine (KS.out _ (HD.out.q (Y.out.q.trans ((Q.refl _).drew.trans q4)))).mono ?_)
           rintro e w5 ⟨A5, n5, c5, rfl, ho, q5⟩
           obtain ⟨⟨s0, s1, s2, s3⟩, h0, h1, h2, h3⟩ := ((Y.out.step ((Q.refl _).drew.trans q4)).step q5).getR))
    have hn5 : n5 * 48 ≤ 140737488355328 := by have h1 := ho.len; have h2 := HD.out.len; have h3 := HD.out.few; omega
    have Z := Lib.hid (And.intro ho (And.intro q5 hn5))
    have Y4 := Lib.hid (Y.out.step ((Q.refl _).drew.trans q4))
    clear ho q4 q5 hn5 e0 e1 e2 e3 f0 f1 f2' f3 Y
    go_wp2
    refine bodyPost_ret (v := .tuple #[dkv A5 n5 c5 r.1.room r.1.fuse r.1.off, .int .i64 r.2]) (by simp [results, Tryz.results99, go_sem, s0, s1, s2, s3]) rfl ?_
    exact Y4.out.endW Z.out.2.1 (d := r.1) Z.out.1 Z.out.2.2 [.int .i64 r.2] _ _ _ _
end Go.Proofs.YtbbfbdfmeifdfaaGreatDoor
