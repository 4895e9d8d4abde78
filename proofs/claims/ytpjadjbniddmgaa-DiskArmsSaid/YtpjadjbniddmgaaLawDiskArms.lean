/- For every fuse and every texts: a disk that takes so many bytes more takes just these, of any file. No condition. -/
import Derived.Test.YtpjadjbniddmgaaDiskArms
import Derived.Test.YtpjadjbniddmgaaDiskVar
import Derived.Test.YtpjadjbniddmgaaDiskSame2
import Derived.Test.YtpjadjbniddmgaaHeld
namespace Go.Proofs.Ytpjadjbniddmgaa.diskArms
open Go.ChangeShapes Go.WideShapes Go.ChangeAt Go.RowKit Dkm
set_option linter.unusedVariables false

def Strs (w : World) (A : Option Addr) (n : Nat) (l : List ByteArray) : Prop := Holds w w.heap.size 1 A n (l.map Value.string)
theorem Strs.q {w w' : World} {A : Option Addr} {n : Nat} {l : List ByteArray} (h : Strs w A n l) (hq : Q w w') : Strs w' A n l := Holds.q h hq
theorem Strs.len {w : World} {A : Option Addr} {n : Nat} {l : List ByteArray} (h : Strs w A n l) : l.length = n := by
  have := h.1; simp at this; exact this
theorem Strs.load {w : World} {A : Option Addr} {n : Nat} {l : List ByteArray} (h : Strs w A n l) {k : Nat} (hl : k < l.length) :
    ∃ ad, A = some ad ∧ ad.block < w.heap.size ∧ w.cell? (ad.add k) = some (.string l[k]) := h.2 k _ (by simp [hl])
theorem flat_str (f : ByteArray → Value) : ∀ (l : List ByteArray), l.flatMap (fun x : ByteArray => [f x]) = l.map f
  | [] => rfl
  | a :: l => by rw [List.flatMap_cons, flat_str f l]; rfl
theorem open_strs {w : World} {cs : List Value} (h : Rd w 66 cs) : ∃ A n c l, cs = [.slice A n c] ∧ Strs w A n l ∧ n ≤ 140737488351232 := by
  rcases h.slice Try.underlying66 with rfl | ⟨a, len, cap, rfl, hlc, hcm, hby, hi⟩
  · exact ⟨none, 0, 0, [], rfl, Holds.none_ _ _ _ _, by omega⟩
  · rw [show Try.prog.bytesOf 9 = 16 by kernel_rfl] at hby
    rw [show Try.prog.cellsOf 9 = 1 by kernel_rfl] at hi
    obtain ⟨l, hl, hr⟩ := choose_list (R := fun i (x : ByteArray) => w.cells? 0 (a.add (i * 1)) 1 = some [.string x]) len (fun i hlt => by
      obtain ⟨cs', hc, hrd⟩ := hi i (by omega)
      obtain ⟨x, rfl, hx⟩ := hrd.string Try.underlying9
      exact ⟨x, hc⟩)
    refine ⟨some a, len, cap, l, rfl, ?_, by omega⟩
    have := holds_flat (fun x : ByteArray => [Value.string x]) 1 (fun f => rfl) w a l (fun i hi => hr i hi)
    rw [hl, flat_str] at this
    exact this

set_option maxHeartbeats 1000000 in
theorem walk_up (fuse : Int) (L : Option Addr) (n c : Nat) (w : World) (h : fuse < 0 ∨ 10000 < fuse) :
    Calls Try.prog 10 #[.int .i64 fuse, .slice L n c] w fun e w' => e = .returned (.bool true) ∧ Q w w' := by
  rcases h with h | h
  case' inr => have h' : ¬ fuse < 0 := by omega
  all_goals
    go_enter Try.func10, Try.ntmps10
    go_wp2_with fail
    refine (shown_any _).mono ?_
    rintro e w1 ⟨rfl, q1⟩
    go_wp2
    go_ret
    exact ⟨rfl, q1⟩

/-- a disk in a variable's box B, its list in a block of its own. -/
structure DO (W : World) (B : Nat) (A : Option Addr) (n c : Nat) (d : Dk) : Prop where
  dv : DV W B A n c d
  own : A = none ∨ ∃ g, A = some ⟨g, 0, none⟩ ∧ g ≠ B ∧ g < W.heap.size
theorem DO.q {W W' : World} {B : Nat} {A : Option Addr} {n c : Nat} {d : Dk} (h : DO W B A n c d) (hq : Q W W') : DO W' B A n c d :=
  ⟨h.dv.q hq, h.own.imp id fun ⟨g, e, h1, h2⟩ => ⟨g, e, h1, by have := hq.size; omega⟩⟩
theorem own_in {w : World} {base : Nat} {A : Option Addr} {n c : Nat} {l : List Fil} (h : Own w base A n c l) : A = none ∨ ∃ g, A = some ⟨g, 0, none⟩ ∧ base ≤ g ∧ g < w.heap.size := by
  rcases h.parts with ⟨e, _⟩ | ⟨g, cur, e, hb, hh, _⟩
  · exact .inl e
  · refine .inr ⟨g, e, hb, ?_⟩
    rcases Nat.lt_or_ge g w.heap.size with hlt | hge
    · exact hlt
    · rw [Array.getElem?_eq_none hge] at hh; cases hh
theorem size_set4 (W : World) (b : Nat) (x y z u : Value) : ((((W.setCell ⟨b, 0, none⟩ x).setCell ⟨b, 1, none⟩ y).setCell ⟨b, 2, none⟩ z).setCell ⟨b, 3, none⟩ u).heap.size = W.heap.size := by simp [World.setCell]
theorem DO.far {W : World} {B : Nat} {A : Option Addr} {n c : Nat} {d : Dk} (h : DO W B A n c d) {b : Nat} (hb : b ≠ B) (hg : ∀ g, A = some ⟨g, 0, none⟩ → g ≠ b) (x y z u : Value) :
    DO ((((W.setCell ⟨b, 0, none⟩ x).setCell ⟨b, 1, none⟩ y).setCell ⟨b, 2, none⟩ z).setCell ⟨b, 3, none⟩ u) B A n c d := by
  have ha : ∀ ad, A = some ad → ad.block ≠ b := by
    intro ad e
    rcases h.own with e' | ⟨g, e', _⟩
    · rw [e'] at e; cases e
    · rw [e'] at e; injection e with e; subst e; exact hg g e'
  exact ⟨⟨h.dv.box.far4 hb _ _ _ _, (((h.dv.dsk.away ha 0 _).away ha 1 _).away ha 2 _).away ha 3 _⟩, by rw [size_set4]; exact h.own⟩
/-- what a call returned, in a box that was there. -/
theorem DO.put {pre W' : World} {b : Nat} {x y z u : Value} (hb : Bx pre b [x, y, z, u]) (hq : Q pre W') {A' : Option Addr} {n' c' : Nat} {d' : Dk} (ho : Own W' pre.heap.size A' n' c' d'.fs) (hn : n' * 48 ≤ 140737488355328) :
    DO ((((W'.setCell ⟨b, 0, none⟩ (.slice A' n' c')).setCell ⟨b, 1, none⟩ (.int .i64 d'.room)).setCell ⟨b, 2, none⟩ (.int .i64 d'.fuse)).setCell ⟨b, 3, none⟩ (.bool d'.off)) b A' n' c' d' := by
  have hlt := hb.lt
  refine ⟨⟨(hb.q hq).put4 _ _ _ _, (ho.set4 hlt _ _ _ _).dsk hn⟩, ?_⟩
  rw [size_set4]
  exact (own_in ho).imp id fun ⟨g, e, h1, h2⟩ => ⟨g, e, by omega, h2⟩
theorem DO.new {pre W' : World} (hq : Q pre W') {A' : Option Addr} {n' c' : Nat} {d' : Dk} (ho : Own W' pre.heap.size A' n' c' d'.fs) (hn : n' * 48 ≤ 140737488355328) :
    DO (W'.alloc (.cells #[.slice A' n' c', .int .i64 d'.room, .int .i64 d'.fuse, .bool d'.off] 24)) W'.heap.size A' n' c' d' :=
  ⟨DV.new (ho.dsk hn), (own_in ho).imp id fun ⟨g, e, h1, h2⟩ => ⟨g, e, by omega, by simp; omega⟩⟩


def S12 (B : Nat) (A : Option Addr) (m cc : Nat) (d : Dk) (p : Addr) (s : ByteArray) (w' : World) : Prop :=
  w'.cell? ⟨B, 0, none⟩ = some (.slice A m cc) ∧ w'.cell? ⟨B, 1, none⟩ = some (.int .i64 d.room) ∧ w'.cell? ⟨B, 2, none⟩ = some (.int .i64 d.fuse) ∧ w'.cell? ⟨B, 3, none⟩ = some (.bool d.off) ∧ w'.cell? p = some (.string s)
theorem DO.copy {W : World} {B g : Nat} {A A2 : Option Addr} {n c n2 c2 : Nat} {d r : Dk} (hg : DO W g A2 n2 c2 r) (hB : DO W B A n c d) (h : ∀ g2, A2 = some ⟨g2, 0, none⟩ → g2 ≠ B) :
    DO ((((W.setCell ⟨B, 0, none⟩ (.slice A2 n2 c2)).setCell ⟨B, 1, none⟩ (.int .i64 r.room)).setCell ⟨B, 2, none⟩ (.int .i64 r.fuse)).setCell ⟨B, 3, none⟩ (.bool r.off)) B A2 n2 c2 r := by
  have ha : ∀ ad, A2 = some ad → ad.block ≠ B := by
    intro ad e
    rcases hg.own with e' | ⟨g', e', _⟩
    · rw [e'] at e; cases e
    · rw [e'] at e; injection e with e; subst e; exact h g' e'
  refine ⟨⟨hB.dv.box.put4 _ _ _ _, (((hg.dv.dsk.away ha 0 _).away ha 1 _).away ha 2 _).away ha 3 _⟩, ?_⟩
  rw [size_set4]
  exact hg.own.imp id fun ⟨g2, e, _, h2⟩ => ⟨g2, e, h g2 e, h2⟩
theorem DO.copyT {W : World} {B g : Nat} {A A2 : Option Addr} {n c n2 c2 : Nat} {d r : Dk} (hg : DO W g A2 n2 c2 r) (hB : DO W B A n c d) (h : ∀ g2, A2 = some ⟨g2, 0, none⟩ → g2 ≠ B) (hr : r.off = true) :
    DO ((((W.setCell ⟨B, 0, none⟩ (.slice A2 n2 c2)).setCell ⟨B, 1, none⟩ (.int .i64 r.room)).setCell ⟨B, 2, none⟩ (.int .i64 r.fuse)).setCell ⟨B, 3, none⟩ (.bool true)) B A2 n2 c2 r := hr ▸ DO.copy hg hB h
theorem add_blk (a : Addr) (k : Nat) : (a.add k).block = a.block := by unfold Addr.add; split <;> rfl
theorem new_str_0 (w : World) : (w.alloc (.cells #[.string ⟨#[97]⟩, .string ⟨#[98]⟩] 9)).cell? ⟨w.heap.size, 0, none⟩ = some (.string na) :=
  (Bx.new w [.string ⟨#[97]⟩, .string ⟨#[98]⟩] 9 0 _ rfl).1
theorem new_str_1 (w : World) : (w.alloc (.cells #[.string ⟨#[97]⟩, .string ⟨#[98]⟩] 9)).cell? ⟨w.heap.size, 1, none⟩ = some (.string nb) :=
  (Bx.new w [.string ⟨#[97]⟩, .string ⟨#[98]⟩] 9 1 _ rfl).1
theorem far_cell4 {w : World} {b : Nat} {p : Addr} {v : Value} (h : b ≠ p.block) (hc : w.cell? p = some v) {x y z u : Value} :
    ((((w.setCell ⟨b, 0, none⟩ x).setCell ⟨b, 1, none⟩ y).setCell ⟨b, 2, none⟩ z).setCell ⟨b, 3, none⟩ u).cell? p = some v := by
  repeat rw [World.cell?_setCell_far _ _ _ _ (by exact h)]
  exact hc
theorem S12.q {B : Nat} {A : Option Addr} {m cc : Nat} {d : Dk} {p : Addr} {s : ByteArray} {w w' : World} (h : S12 B A m cc d p s w) (hq : Q w w') : S12 B A m cc d p s w' :=
  ⟨box_ hq h.1, box_ hq h.2.1, box_ hq h.2.2.1, box_ hq h.2.2.2.1, box_ hq h.2.2.2.2⟩
theorem S12.far4 {B : Nat} {A : Option Addr} {m cc : Nat} {d : Dk} {p : Addr} {s : ByteArray} {w : World} (h : S12 B A m cc d p s w) {b : Nat} (h1 : b ≠ B) (h2 : b ≠ p.block) (x y z u : Value) :
    S12 B A m cc d p s ((((w.setCell ⟨b, 0, none⟩ x).setCell ⟨b, 1, none⟩ y).setCell ⟨b, 2, none⟩ z).setCell ⟨b, 3, none⟩ u) := by
  obtain ⟨a0, a1, a2, a3, a4⟩ := h
  refine ⟨?_, ?_, ?_, ?_, ?_⟩ <;> (repeat rw [World.cell?_setCell_far _ _ _ _ (by first | exact h1 | exact h2)]) <;> assumption

def Rl (w : World) (B : Nat) (fuse lf : Int) (k : Nat) (wr : World) : Prop :=
  ∃ A n c d, DO wr B A n c d ∧ Inv d ∧ (d.off = true ∨ Alive fuse d lf k) ∧ Q w wr

/-- behind 'k, e := disk.Append(d, ..)'. -/
def Cu2 (wr : World) (B : Nat) (A : Option Addr) (m cc : Nat) (d : Dk) (er : Int) (r : Dk) (s10 s11 : Value) (wx : World) : Prop :=
  ∃ g A2 n2 c2, s10 = .pointer (some ⟨g, 0, none⟩) ∧ s11 = .int .i64 er ∧ DO wx g A2 n2 c2 r ∧ DO wx B A m cc d ∧ (∀ g2, A2 = some ⟨g2, 0, none⟩ → g2 ≠ B) ∧ g ≠ B ∧ Q wr wx
theorem leaf_c {wr pre w4 : World} {B : Nat} {A : Option Addr} {m cc : Nat} {d r : Dk} {er : Int} {A4 : Option Addr} {n4 c4 : Nat} (hv : DO wr B A m cc d) (hq : Q wr pre) (q4 : Q pre w4) (ho : Own w4 pre.heap.size A4 n4 c4 r.fs) (hn : r.fs.length ≤ 64) :
    Cu2 wr B A m cc d er r (.pointer (some ⟨w4.heap.size, 0, none⟩)) (.int .i64 er) (w4.alloc (.cells #[.slice A4 n4 c4, .int .i64 r.room, .int .i64 r.fuse, .bool r.off] 24)) := by
  have hB := hv.dv.box.lt
  have h1 := hq.size
  have h2 := q4.size
  refine ⟨_, A4, n4, c4, rfl, rfl, DO.new q4 ho (by have := ho.len; omega), hv.q ((hq.trans q4).alloc _), fun g e => ?_, by omega, (hq.trans q4).alloc _⟩
  rcases own_in ho with e' | ⟨g', e', h3, _⟩
  · rw [e'] at e; cases e
  · rw [e'] at e; injection e with e; injection e with e; omega
theorem leaf_b {wr pre w4 : World} {B b : Nat} {A : Option Addr} {m cc : Nat} {d r : Dk} {er : Int} {A4 : Option Addr} {n4 c4 : Nat} {x y z u : Value} (hb : Bx pre b [x, y, z, u]) (hbw : wr.heap.size ≤ b) (hv : DO wr B A m cc d) (hq : Q wr pre) (q4 : Q pre w4) (ho : Own w4 pre.heap.size A4 n4 c4 r.fs) (hn : r.fs.length ≤ 64) :
    Cu2 wr B A m cc d er r (.pointer (some ⟨b, 0, none⟩)) (.int .i64 er) ((((w4.setCell ⟨b, 0, none⟩ (.slice A4 n4 c4)).setCell ⟨b, 1, none⟩ (.int .i64 r.room)).setCell ⟨b, 2, none⟩ (.int .i64 r.fuse)).setCell ⟨b, 3, none⟩ (.bool r.off)) := by
  have hB := hv.dv.box.lt
  have h1 := hq.size
  refine ⟨b, A4, n4, c4, rfl, rfl, DO.put hb q4 ho (by have := ho.len; omega), (hv.q (hq.trans q4)).far (by omega) (fun g e => ?_) _ _ _ _, fun g e => ?_, by omega, (hq.trans q4).set4 hbw _ _ _ _⟩
  · rcases hv.own with e' | ⟨g', e', _, h3⟩
    · rw [e'] at e; cases e
    · rw [e'] at e; injection e with e; injection e with e; omega
  · rcases own_in ho with e' | ⟨g', e', h3, _⟩
    · rw [e'] at e; cases e
    · rw [e'] at e; injection e with e; injection e with e; omega

set_option maxRecDepth 100000 in
set_option maxHeartbeats 4000000 in
theorem walk_main (fuse : Int) (L : Option Addr) (n c : Nat) (l : List ByteArray) (w : World) (h0 : 0 ≤ fuse) (h1 : fuse ≤ 10000) (hl : Strs w L n l) (hn : n ≤ 140737488351232) :
    Calls Try.prog 10 #[.int .i64 fuse, .slice L n c] w fun e w' => e = .returned (.bool true) ∧ Q w w' := by
  have HL := Lib.hid hl
  have HN := Lib.hid hl.len
  clear hl
  have t0 : ¬ fuse < 0 := by omega
  have t1 : ¬ 10000 < fuse := by omega
  go_enter Try.func10, Try.ntmps10
  go_wp2_with fail
  refine (shown_any _).mono ?_
  rintro e w1 ⟨rfl, q1⟩
  go_wp2_with fail
  refine (new_any 1048576 _ (by omega)).mono ?_
  rintro e w2 ⟨rfl, q2⟩
  have V := DV.new (W := w2) (d := ⟨[], 1048576, -1, false⟩) (dsk_nil w2)
  have Q2 := Lib.hid ((q1.trans q2).alloc (.cells #[.slice none 0 0, .int .i64 1048576, .int .i64 (-1), .bool false] 24))
  have zB : w.heap.size ≤ w2.heap.size := (q1.trans q2).size
  clear q1 q2
  go_wp2_with fail
  refine (arm_any none 0 0 1048576 (-1) false fuse [] _ V.dsk).mono ?_
  rintro e w3 ⟨A3, n3, c3, rfl, ho, q3⟩
  have n3n : n3 * 48 ≤ 140737488355328 := by have h1 := ho.len; simp at h1; omega
  have V3 := Lib.hid (And.intro (DO.put (d' := ⟨[], 1048576, max fuse (-1), false⟩) V.box q3 ho n3n) ((Q2.out.trans q3).set4 zB (.slice A3 n3 c3) (.int .i64 1048576) (.int .i64 (max fuse (-1))) (.bool false)))
  obtain ⟨⟨e0, e1, e2, e3⟩, f0, f1, f2, f3⟩ := (V.q q3).get
  clear V q3 ho Q2
  go_upto_region 6 with (fail)
  generalize ((((w3.setCell ⟨w2.heap.size, 0, none⟩ (.slice A3 n3 c3)).setCell ⟨w2.heap.size, 1, none⟩ (.int .i64 1048576)).setCell ⟨w2.heap.size, 2, none⟩ (.int .i64 (max fuse (-1)))).setCell ⟨w2.heap.size, 3, none⟩ (.bool false)) = W at V3 ⊢
  clear e0 e1 e2 e3 f0 f1 f2 f3
  generalize w2.heap.size = B at V3 zB ⊢
  go_wp2
  go_loopw [8, 9] (fun lf i wr => ∃ (k : Nat) (x : Int), k ≤ n ∧ k ≤ 100 ∧ i = .int .i64 k ∧ lf = .int .i64 x ∧ -1000000 ≤ x ∧ x ≤ 10000 ∧ Rl w B fuse x k wr) (fun _ i _ => n - (intOf i).toNat)
  case atStart => exact ⟨0, fuse, Nat.zero_le _, by omega, rfl, rfl, by omega, h1, A3, n3, c3, ⟨[], 1048576, max fuse (-1), false⟩, V3.out.1, ⟨by simp, by simp, by unfold In64; simp, by unfold In64; simp only; omega⟩, .inr (arms_new h0), V3.out.2⟩
  case round =>
    obtain ⟨k, x, hk, hk1, rfl, rfl, x0, x1, A, m, cc, d, hv, hi, ha, hq⟩ := hrel
    have HV := Lib.hid hv
    have HJ := Lib.hid (And.intro hi (And.intro ha hq))
    clear hv hi ha hq V3
    by_cases hlt : k < n ∧ k < 100
    · obtain ⟨hlt, hlt1⟩ := hlt
      have hkl : k < l.length := by have := HN.out; omega
      obtain ⟨⟨e0, e1, e2, e3⟩, f0, f1, f2, f3⟩ := HV.out.dv.get
      obtain ⟨la, rfl, lb, l0⟩ := (HL.out.q HJ.out.2.2).load hkl
      have q4 : (k : Int) < (n : Int) := by omega
      have q5 : 0 ≤ (k : Int) := by omega
      have zk : la.block ≠ wr.heap.size := by omega
      have l1 : (wr.alloc (.cells #[.string ⟨#[97]⟩, .string ⟨#[98]⟩] 9)).cell? (la.add k) = some (.string l[k]) := box_ ((Q.refl wr).alloc _) l0
      have l2 : (wr.alloc (.cells #[.slice none 0 0, .int .i64 0, .int .i64 0, .bool false] 24)).cell? (la.add k) = some (.string l[k]) := box_ ((Q.refl wr).alloc _) l0
      have l3 : ((wr.alloc (.cells #[.string ⟨#[97]⟩, .string ⟨#[98]⟩] 9)).alloc (.cells #[.slice none 0 0, .int .i64 0, .int .i64 0, .bool false] 24)).cell? (la.add k) = some (.string l[k]) := box_ (((Q.refl wr).alloc _).alloc _) l0
      have l4 : ((wr.alloc (.cells #[.slice none 0 0, .int .i64 0, .int .i64 0, .bool false] 24)).alloc (.cells #[.string ⟨#[97]⟩, .string ⟨#[98]⟩] 9)).cell? (la.add k) = some (.string l[k]) := box_ (((Q.refl wr).alloc _).alloc _) l0
      have BA : Hid (Bx ((wr.alloc (.cells #[.string ⟨#[97]⟩, .string ⟨#[98]⟩] 9)).alloc (.cells #[.slice none 0 0, .int .i64 0, .int .i64 0, .bool false] 24)) (wr.heap.size + 1) [.slice none 0 0, .int .i64 0, .int .i64 0, .bool false]) := Lib.hid (by have := Bx.new (wr.alloc (.cells #[.string ⟨#[97]⟩, .string ⟨#[98]⟩] 9)) [.slice none 0 0, .int .i64 0, .int .i64 0, .bool false] 24; simpa using this)
      have BB : Hid (Bx ((wr.alloc (.cells #[.slice none 0 0, .int .i64 0, .int .i64 0, .bool false] 24)).alloc (.cells #[.string ⟨#[97]⟩, .string ⟨#[98]⟩] 9)) wr.heap.size [.slice none 0 0, .int .i64 0, .int .i64 0, .bool false]) := Lib.hid ((Bx.new wr [.slice none 0 0, .int .i64 0, .int .i64 0, .bool false] 24).alloc _)
      have zB2 : B < wr.heap.size := HV.out.dv.box.lt
      have zB3 : B ≠ wr.heap.size := by omega
      have zB4 : B ≠ wr.heap.size + 1 := by omega
      by_cases hsz : 1000 < l[k].size
      · go_wp2
        go_ret
        exact ⟨rfl, HJ.out.2.2⟩
      · have KK := Lib.hid (fun (W : World) (hW : Dsk W A m cc d.fs) => append_any (nmI k) l[k] A m cc d W hW (fun f hf => by have := HJ.out.1.sum f hf; omega) (by omega) HJ.out.1.room.2 HJ.out.1.fuse.2)
        have HI := Lib.hid (HJ.out.1.appd (nmI k) l[k])
        have HO := Lib.hid (appd_off d (nmI k) l[k])
        have HA := Lib.hid (fun (h : Alive fuse d x k) => arms_step h1 h l[k] (by omega))
        have HNM : Hid (nmI k = if k % 2 = 0 then na else nb) := Lib.hid rfl
        generalize appd d (nmI k) l[k] = r at KK HI HO HA
        obtain ⟨r, er⟩ := r
        rw [HNM.out] at KK
        clear HNM
        go_upto_region 12 with (fail)
        go_cut [10, 11] (fun s10 s11 wx => Cu2 wr B A m cc d er r s10 s11 wx)
        case first =>
          by_cases hpar : k % 2 = 0
          case' pos =>
            rw [if_pos hpar] at KK
            have hm1 : Int.tmod (k : Int) 2 = 0 := by rw [Int.tmod_eq_emod_of_nonneg (by omega)]; omega
            have hm2 : (k : Int) % 2 = 0 := by omega
          case' neg =>
            rw [if_neg hpar] at KK
            have hm1 : Int.tmod (k : Int) 2 = 1 := by rw [Int.tmod_eq_emod_of_nonneg (by omega)]; omega
            have hm2 : (k : Int) % 2 = 1 := by omega
          case pos =>
            clear hpar
            refine wp_region_held_drew (S := S12 B A m cc d (la.add k) l[k]) (by kernel_rfl) ?_ (fun hHeld => ?_)
            · exact ⟨e0, e1, e2, e3, l0⟩
            have hS0 : S12 B A m cc d (la.add k) l[k] wr := ⟨e0, e1, e2, e3, l0⟩
            have hNA := new_str_0 wr
            have hNB : ((wr.alloc (.cells #[.slice none 0 0, .int .i64 0, .int .i64 0, .bool false] 24)).alloc (.cells #[.string ⟨#[97]⟩, .string ⟨#[98]⟩] 9)).cell? ⟨wr.heap.size + 1, 0, none⟩ = some (.string na) := by have := new_str_0 (wr.alloc (.cells #[.slice none 0 0, .int .i64 0, .int .i64 0, .bool false] 24)); simpa using this
            refine wpAnyH_take (i := 0) (oi := ?ozz0) (v := ?vzz0) ?hzz0 ?azz0 ?bzz0 ?czz0 ?qzz0 ?yzz0 ?szz0 ?rzz0
            case hzz0 => simp only [List.getElem?_toArray, List.getElem?_cons_zero]; rfl
            case azz0 => kernel_rfl
            case bzz0 => kernel_rfl
            case czz0 => kernel_rfl
            case yzz0 =>
              refine Or.inl ⟨by rfl, ?_⟩
              intro w hSw
              obtain ⟨s0, s1, s2, s3, s4⟩ := hSw
              go_simp
              try with_reducible rfl
            case qzz0 => exact fun _ _ _ h => h
            case szz0 => assumption
            case' rzz0 => simp only [Act.put, List.setIfInBounds_toArray, List.set_cons_zero, List.set_cons_succ]
            refine wpAnyH_take (i := 2) (oi := ?ozz1) (v := ?vzz1) ?hzz1 ?azz1 ?bzz1 ?czz1 ?qzz1 ?yzz1 ?szz1 ?rzz1
            case hzz1 => simp only [List.getElem?_toArray, List.getElem?_cons_zero, List.getElem?_cons_succ]; rfl
            case azz1 => kernel_rfl
            case bzz1 => kernel_rfl
            case czz1 => kernel_rfl
            case yzz1 =>
              refine Or.inl ⟨by rfl, ?_⟩
              intro w hSw
              obtain ⟨s0, s1, s2, s3, s4⟩ := hSw
              go_simp
              try with_reducible rfl
            case qzz1 => exact fun _ _ _ h => h
            case szz1 => assumption
            case' rzz1 => simp only [Act.put, List.setIfInBounds_toArray, List.set_cons_zero, List.set_cons_succ]
            refine wpAnyH_take (i := 3) (oi := ?ozz2) (v := ?vzz2) ?hzz2 ?azz2 ?bzz2 ?czz2 ?qzz2 ?yzz2 ?szz2 ?rzz2
            case hzz2 => simp only [List.getElem?_toArray, List.getElem?_cons_zero, List.getElem?_cons_succ]; rfl
            case azz2 => kernel_rfl
            case bzz2 => kernel_rfl
            case czz2 => kernel_rfl
            case yzz2 =>
              refine Or.inl ⟨by rfl, ?_⟩
              intro w hSw
              obtain ⟨s0, s1, s2, s3, s4⟩ := hSw
              go_simp
              try with_reducible rfl
            case qzz2 => exact fun _ _ _ h => h
            case szz2 => assumption
            case' rzz2 => simp only [Act.put, List.setIfInBounds_toArray, List.set_cons_zero, List.set_cons_succ]
            refine wpAnyH_take (i := 6) (oi := ?ozz3) (v := ?vzz3) ?hzz3 ?azz3 ?bzz3 ?czz3 ?qzz3 ?yzz3 ?szz3 ?rzz3
            case hzz3 => simp only [List.getElem?_toArray, List.getElem?_cons_zero, List.getElem?_cons_succ]; rfl
            case azz3 => kernel_rfl
            case bzz3 => kernel_rfl
            case czz3 => kernel_rfl
            case yzz3 =>
              refine Or.inl ⟨by rfl, ?_⟩
              intro w hSw
              obtain ⟨s0, s1, s2, s3, s4⟩ := hSw
              go_simp
              try with_reducible rfl
            case qzz3 => exact fun _ _ _ h => h
            case szz3 => assumption
            case' rzz3 => simp only [Act.put, List.setIfInBounds_toArray, List.set_cons_zero, List.set_cons_succ]
            refine wpAnyH_take (i := 7) (oi := ?ozz4) (v := ?vzz4) ?hzz4 ?azz4 ?bzz4 ?czz4 ?qzz4 ?yzz4 ?szz4 ?rzz4
            case hzz4 => simp only [List.getElem?_toArray, List.getElem?_cons_zero, List.getElem?_cons_succ]; rfl
            case azz4 => kernel_rfl
            case bzz4 => kernel_rfl
            case czz4 => kernel_rfl
            case yzz4 =>
              refine Or.inl ⟨by rfl, ?_⟩
              intro w hSw
              obtain ⟨s0, s1, s2, s3, s4⟩ := hSw
              go_simp
              try with_reducible rfl
            case qzz4 => exact fun _ _ _ h => h
            case szz4 => assumption
            case' rzz4 => simp only [Act.put, List.setIfInBounds_toArray, List.set_cons_zero, List.set_cons_succ]
            refine wpAnyH_take (i := 8) (oi := ?ozz5) (v := ?vzz5) ?hzz5 ?azz5 ?bzz5 ?czz5 ?qzz5 ?yzz5 ?szz5 ?rzz5
            case hzz5 => simp only [List.getElem?_toArray, List.getElem?_cons_zero, List.getElem?_cons_succ]; rfl
            case azz5 => kernel_rfl
            case bzz5 => kernel_rfl
            case czz5 => kernel_rfl
            case yzz5 =>
              refine Or.inl ⟨by rfl, ?_⟩
              intro w hSw
              obtain ⟨s0, s1, s2, s3, s4⟩ := hSw
              go_simp
              try with_reducible rfl
            case qzz5 => exact fun _ _ _ h => h
            case szz5 => assumption
            case' rzz5 => simp only [Act.put, List.setIfInBounds_toArray, List.set_cons_zero, List.set_cons_succ]
            refine wpAnyH_take (i := 9) (oi := ?ozz6) (v := ?vzz6) ?hzz6 ?azz6 ?bzz6 ?czz6 ?qzz6 ?yzz6 ?szz6 ?rzz6
            case hzz6 => simp only [List.getElem?_toArray, List.getElem?_cons_zero, List.getElem?_cons_succ]; rfl
            case azz6 => kernel_rfl
            case bzz6 => kernel_rfl
            case czz6 => kernel_rfl
            case yzz6 =>
              refine Or.inl ⟨by rfl, ?_⟩
              intro w hSw
              obtain ⟨s0, s1, s2, s3, s4⟩ := hSw
              go_simp
              try with_reducible rfl
            case qzz6 => exact fun _ _ _ h => h
            case szz6 => assumption
            case' rzz6 => simp only [Act.put, List.setIfInBounds_toArray, List.set_cons_zero, List.set_cons_succ]
            refine wpAnyH_ready (rs := [1, 14]) (by kernel_rfl) (by simp) ?_
            refine AllReadyH.cons (o := ?ozz34) ?hzz34 (fun K hK => ?kzz34) ?mzz34
            case hzz34 => simp only [List.getElem?_toArray, List.getElem?_cons_zero, List.getElem?_cons_succ]; rfl
            case kzz34 =>
              go_simp
              refine hK.out _ _ ?Szz34 (fun hHeld => ?Rzz34)
              case Szz34 =>
                exact hS0.q (by repeat (first | exact Q.refl _ | refine Q.drew ?_ | refine Q.alloc ?_ _))
              case Rzz34 =>
                clear hK K
                try simp only [Act.put, List.setIfInBounds_toArray, List.set_cons_zero, List.set_cons_succ]
                refine wpAnyH_now (fun w' => S12 B A m cc d (la.add k) l[k] w' ∧ w'.cell? ⟨wr.heap.size, 0, none⟩ = some (.string na)) (fun _ h => h.1) ?hwzz18 (fun hHeld => ?Rzz18)
                case hwzz18 =>
                  exact ⟨hHeld, hNA⟩
                case' Rzz18 => skip
                refine wpAnyH_take (i := 4) (oi := ?ozz19) (v := ?vzz19) ?hzz19 ?azz19 ?bzz19 ?czz19 ?qzz19 ?yzz19 ?szz19 ?rzz19
                case hzz19 => simp only [List.getElem?_toArray, List.getElem?_cons_zero, List.getElem?_cons_succ]; rfl
                case azz19 => kernel_rfl
                case bzz19 => kernel_rfl
                case czz19 => kernel_rfl
                case yzz19 =>
                  refine Or.inl ⟨by rfl, ?_⟩
                  intro w hSw
                  obtain ⟨⟨s0, s1, s2, s3, s4⟩, s5⟩ := hSw
                  go_simp
                  try with_reducible rfl
                case qzz19 => exact fun _ _ _ h => h
                case szz19 => assumption
                case' rzz19 => simp only [Act.put, List.setIfInBounds_toArray, List.set_cons_zero, List.set_cons_succ]
                refine wpAnyH_take (i := 5) (oi := ?ozz20) (v := ?vzz20) ?hzz20 ?azz20 ?bzz20 ?czz20 ?qzz20 ?yzz20 ?szz20 ?rzz20
                case hzz20 => simp only [List.getElem?_toArray, List.getElem?_cons_zero, List.getElem?_cons_succ]; rfl
                case azz20 => kernel_rfl
                case bzz20 => kernel_rfl
                case czz20 => kernel_rfl
                case yzz20 =>
                  refine Or.inl ⟨by rfl, ?_⟩
                  intro w hSw
                  obtain ⟨⟨s0, s1, s2, s3, s4⟩, s5⟩ := hSw
                  go_simp
                  try with_reducible rfl
                case qzz20 => exact fun _ _ _ h => h
                case szz20 => assumption
                case' rzz20 => simp only [Act.put, List.setIfInBounds_toArray, List.set_cons_zero, List.set_cons_succ]
                refine wpAnyH_ready (rs := [10, 14]) (by kernel_rfl) (by simp) ?_
                refine AllReadyH.cons (o := ?ozz22) ?hzz22 (fun K hK => ?kzz22) ?mzz22
                case hzz22 => simp only [List.getElem?_toArray, List.getElem?_cons_zero, List.getElem?_cons_succ]; rfl
                case kzz22 =>
                  go_simp
                  refine (KK.out _ (HV.out.dv.dsk.q (by repeat (first | exact Q.refl _ | refine Q.drew ?_ | refine Q.alloc ?_ _)))).mono ?_
                  rintro e w4 ⟨A4, n4, c4, rfl, ho4, q4⟩
                  go_wp2_with fail
                  refine hK.out _ _ ?Szz22 (fun hHeld => ?Rzz22)
                  case Szz22 =>
                    exact ⟨hHeld.1.q q4, box_ q4 hHeld.2⟩
                  case Rzz22 =>
                    clear hK K
                    try simp only [Act.put, List.setIfInBounds_toArray, List.set_cons_zero, List.set_cons_succ]
                    have hC := hHeld
                    refine wpAnyH_take (i := 11) (oi := ?ozz7) (v := ?vzz7) ?hzz7 ?azz7 ?bzz7 ?czz7 ?qzz7 ?yzz7 ?szz7 ?rzz7
                    case hzz7 => simp only [List.getElem?_toArray, List.getElem?_cons_zero, List.getElem?_cons_succ]; rfl
                    case azz7 => kernel_rfl
                    case bzz7 => kernel_rfl
                    case czz7 => kernel_rfl
                    case yzz7 =>
                      refine Or.inl ⟨by rfl, ?_⟩
                      intro w hSw
                      obtain ⟨⟨s0, s1, s2, s3, s4⟩, s5⟩ := hSw
                      go_simp
                      try with_reducible rfl
                    case qzz7 => exact fun _ _ _ h => h
                    case szz7 => assumption
                    case' rzz7 => simp only [Act.put, List.setIfInBounds_toArray, List.set_cons_zero, List.set_cons_succ]
                    refine wpAnyH_take (i := 12) (oi := ?ozz8) (v := ?vzz8) ?hzz8 ?azz8 ?bzz8 ?czz8 ?qzz8 ?yzz8 ?szz8 ?rzz8
                    case hzz8 => simp only [List.getElem?_toArray, List.getElem?_cons_zero, List.getElem?_cons_succ]; rfl
                    case azz8 => kernel_rfl
                    case bzz8 => kernel_rfl
                    case czz8 => kernel_rfl
                    case yzz8 =>
                      refine Or.inl ⟨by rfl, ?_⟩
                      intro w hSw
                      obtain ⟨⟨s0, s1, s2, s3, s4⟩, s5⟩ := hSw
                      go_simp
                      try with_reducible rfl
                    case qzz8 => exact fun _ _ _ h => h
                    case szz8 => assumption
                    case' rzz8 => simp only [Act.put, List.setIfInBounds_toArray, List.set_cons_zero, List.set_cons_succ]
                    refine wpAnyH_take (i := 13) (oi := ?ozz9) (v := ?vzz9) ?hzz9 ?azz9 ?bzz9 ?czz9 ?qzz9 ?yzz9 ?szz9 ?rzz9
                    case hzz9 => simp only [List.getElem?_toArray, List.getElem?_cons_zero, List.getElem?_cons_succ]; rfl
                    case azz9 => kernel_rfl
                    case bzz9 => kernel_rfl
                    case czz9 => kernel_rfl
                    case yzz9 =>
                      refine Or.inl ⟨by rfl, ?_⟩
                      intro w hSw
                      obtain ⟨⟨s0, s1, s2, s3, s4⟩, s5⟩ := hSw
                      go_simp
                      try with_reducible rfl
                    case qzz9 => exact fun _ _ _ h => h
                    case szz9 => assumption
                    case' rzz9 => simp only [Act.put, List.setIfInBounds_toArray, List.set_cons_zero, List.set_cons_succ]
                    refine wpAnyH_ready (rs := [14]) (by kernel_rfl) (by simp) ?_
                    refine AllReadyH.cons (o := ?ozz12) ?hzz12 (fun K hK => ?kzz12) ?mzz12
                    case hzz12 => simp only [List.getElem?_toArray, List.getElem?_cons_zero, List.getElem?_cons_succ]; rfl
                    case kzz12 =>
                      go_simp
                      refine hK.out _ _ ?Szz12 (fun hHeld => ?Rzz12)
                      case Szz12 =>
                        exact ⟨hC.1.q ((Q.refl _).alloc _), box_ ((Q.refl _).alloc _) hC.2⟩
                      case Rzz12 =>
                        clear hK K
                        try simp only [Act.put, List.setIfInBounds_toArray, List.set_cons_zero, List.set_cons_succ]
                        refine wpAnyH_ready (rs := [15]) (by kernel_rfl) (by simp) ?_
                        refine AllReadyH.cons (o := ?ozz11) ?hzz11 (fun K hK => ?kzz11) ?mzz11
                        case hzz11 => simp only [List.getElem?_toArray, List.getElem?_cons_zero, List.getElem?_cons_succ]; rfl
                        case kzz11 =>
                          go_simp
                          refine hK.out _ _ ?Szz11 (fun hHeld => ?Rzz11)
                          case Szz11 =>
                            exact ⟨hC.1.q ((Q.refl _).alloc _), box_ ((Q.refl _).alloc _) hC.2⟩
                          case Rzz11 =>
                            clear hK K
                            try simp only [Act.put, List.setIfInBounds_toArray, List.set_cons_zero, List.set_cons_succ]
                            refine wpAnyH_take (i := 16) (oi := ?ozz10) (v := ?vzz10) ?hzz10 ?azz10 ?bzz10 ?czz10 ?qzz10 ?yzz10 ?szz10 ?rzz10
                            case hzz10 => simp only [List.getElem?_toArray, List.getElem?_cons_zero, List.getElem?_cons_succ]; rfl
                            case azz10 => kernel_rfl
                            case bzz10 => kernel_rfl
                            case czz10 => kernel_rfl
                            case yzz10 =>
                              refine Or.inl ⟨by rfl, ?_⟩
                              intro w hSw
                              obtain ⟨⟨s0, s1, s2, s3, s4⟩, s5⟩ := hSw
                              go_simp
                              try with_reducible rfl
                            case qzz10 => exact fun _ _ _ h => h
                            case szz10 => assumption
                            case' rzz10 => simp only [Act.put, List.setIfInBounds_toArray, List.set_cons_zero, List.set_cons_succ]
                            refine wpAnyH_done (by kernel_rfl) ?_ _
                            go_wp2_with fail
                            go_meet
                            exact leaf_c HV.out (by repeat (first | exact Q.refl _ | refine Q.drew ?_ | refine Q.alloc ?_ _)) q4 ho4 HI.out.few
                        case' mzz11 => skip
                        exact AllReadyH.nil
                    case' mzz12 => skip
                    exact AllReadyH.nil
                case' mzz22 => skip
                refine AllReadyH.cons (o := ?ozz23) ?hzz23 (fun K hK => ?kzz23) ?mzz23
                case hzz23 => simp only [List.getElem?_toArray, List.getElem?_cons_zero, List.getElem?_cons_succ]; rfl
                case kzz23 =>
                  go_simp
                  refine hK.out _ _ ?Szz23 (fun hHeld => ?Rzz23)
                  case Szz23 =>
                    exact ⟨hS0.q (by repeat (first | exact Q.refl _ | refine Q.drew ?_ | refine Q.alloc ?_ _)), box_ (by repeat (first | exact Q.refl _ | refine Q.drew ?_ | refine Q.alloc ?_ _)) hNA⟩
                  case Rzz23 =>
                    clear hK K
                    try simp only [Act.put, List.setIfInBounds_toArray, List.set_cons_zero, List.set_cons_succ]
                    refine wpAnyH_ready (rs := [10]) (by kernel_rfl) (by simp) ?_
                    refine AllReadyH.cons (o := ?ozz21) ?hzz21 (fun K hK => ?kzz21) ?mzz21
                    case hzz21 => simp only [List.getElem?_toArray, List.getElem?_cons_zero, List.getElem?_cons_succ]; rfl
                    case kzz21 =>
                      go_simp
                      refine (KK.out _ (HV.out.dv.dsk.q (by repeat (first | exact Q.refl _ | refine Q.drew ?_ | refine Q.alloc ?_ _)))).mono ?_
                      rintro e w4 ⟨A4, n4, c4, rfl, ho4, q4⟩
                      obtain ⟨⟨b0, b1, b2, b3⟩, y0, y1, y2, y3⟩ := (BA.out.drew.q q4).get4
                      go_wp2_with fail
                      refine hK.out _ _ ?Szz21 (fun hHeld => ?Rzz21)
                      case Szz21 =>
                        exact ⟨hHeld.1.q q4, box_ q4 hHeld.2⟩
                      case Rzz21 =>
                        clear hK K
                        try simp only [Act.put, List.setIfInBounds_toArray, List.set_cons_zero, List.set_cons_succ]
                        refine wpAnyH_take (i := 11) (oi := ?ozz13) (v := ?vzz13) ?hzz13 ?azz13 ?bzz13 ?czz13 ?qzz13 ?yzz13 ?szz13 ?rzz13
                        case hzz13 => simp only [List.getElem?_toArray, List.getElem?_cons_zero, List.getElem?_cons_succ]; rfl
                        case azz13 => kernel_rfl
                        case bzz13 => kernel_rfl
                        case czz13 => kernel_rfl
                        case yzz13 =>
                          refine Or.inl ⟨by rfl, ?_⟩
                          intro w hSw
                          obtain ⟨⟨s0, s1, s2, s3, s4⟩, s5⟩ := hSw
                          go_simp
                          try with_reducible rfl
                        case qzz13 => exact fun _ _ _ h => h
                        case szz13 => assumption
                        case' rzz13 => simp only [Act.put, List.setIfInBounds_toArray, List.set_cons_zero, List.set_cons_succ]
                        refine wpAnyH_take (i := 12) (oi := ?ozz14) (v := ?vzz14) ?hzz14 ?azz14 ?bzz14 ?czz14 ?qzz14 ?yzz14 ?szz14 ?rzz14
                        case hzz14 => simp only [List.getElem?_toArray, List.getElem?_cons_zero, List.getElem?_cons_succ]; rfl
                        case azz14 => kernel_rfl
                        case bzz14 => kernel_rfl
                        case czz14 => kernel_rfl
                        case yzz14 =>
                          refine Or.inl ⟨by rfl, ?_⟩
                          intro w hSw
                          obtain ⟨⟨s0, s1, s2, s3, s4⟩, s5⟩ := hSw
                          go_simp
                          try with_reducible rfl
                        case qzz14 => exact fun _ _ _ h => h
                        case szz14 => assumption
                        case' rzz14 => simp only [Act.put, List.setIfInBounds_toArray, List.set_cons_zero, List.set_cons_succ]
                        refine wpAnyH_take (i := 13) (oi := ?ozz15) (v := ?vzz15) ?hzz15 ?azz15 ?bzz15 ?czz15 ?qzz15 ?yzz15 ?szz15 ?rzz15
                        case hzz15 => simp only [List.getElem?_toArray, List.getElem?_cons_zero, List.getElem?_cons_succ]; rfl
                        case azz15 => kernel_rfl
                        case bzz15 => kernel_rfl
                        case czz15 => kernel_rfl
                        case yzz15 =>
                          refine Or.inl ⟨by rfl, ?_⟩
                          intro w hSw
                          obtain ⟨⟨s0, s1, s2, s3, s4⟩, s5⟩ := hSw
                          go_simp
                          try with_reducible rfl
                        case qzz15 => exact fun _ _ _ h => h
                        case szz15 => assumption
                        case' rzz15 => simp only [Act.put, List.setIfInBounds_toArray, List.set_cons_zero, List.set_cons_succ]
                        refine wpAnyH_ready (rs := [15]) (by kernel_rfl) (by simp) ?_
                        refine AllReadyH.cons (o := ?ozz17) ?hzz17 (fun K hK => ?kzz17) ?mzz17
                        case hzz17 => simp only [List.getElem?_toArray, List.getElem?_cons_zero, List.getElem?_cons_succ]; rfl
                        case kzz17 =>
                          go_simp
                          refine hK.out _ _ ?Szz17 (fun hHeld => ?Rzz17)
                          case Szz17 =>
                            exact ⟨hHeld.1.far4 (by omega) (by rw [add_blk]; omega) _ _ _ _, far_cell4 (by intro h; simp at h) hHeld.2⟩
                          case Rzz17 =>
                            clear hK K
                            try simp only [Act.put, List.setIfInBounds_toArray, List.set_cons_zero, List.set_cons_succ]
                            refine wpAnyH_take (i := 16) (oi := ?ozz16) (v := ?vzz16) ?hzz16 ?azz16 ?bzz16 ?czz16 ?qzz16 ?yzz16 ?szz16 ?rzz16
                            case hzz16 => simp only [List.getElem?_toArray, List.getElem?_cons_zero, List.getElem?_cons_succ]; rfl
                            case azz16 => kernel_rfl
                            case bzz16 => kernel_rfl
                            case czz16 => kernel_rfl
                            case yzz16 =>
                              refine Or.inl ⟨by rfl, ?_⟩
                              intro w hSw
                              obtain ⟨⟨s0, s1, s2, s3, s4⟩, s5⟩ := hSw
                              go_simp
                              try with_reducible rfl
                            case qzz16 => exact fun _ _ _ h => h
                            case szz16 => assumption
                            case' rzz16 => simp only [Act.put, List.setIfInBounds_toArray, List.set_cons_zero, List.set_cons_succ]
                            refine wpAnyH_done (by kernel_rfl) ?_ _
                            go_wp2_with fail
                            go_meet
                            exact leaf_b BA.out.drew (Nat.le_succ _) HV.out (by repeat (first | exact Q.refl _ | refine Q.drew ?_ | refine Q.alloc ?_ _)) q4 ho4 HI.out.few
                        case' mzz17 => skip
                        exact AllReadyH.nil
                    case' mzz21 => skip
                    exact AllReadyH.nil
                case' mzz23 => skip
                exact AllReadyH.nil
            case' mzz34 => skip
            refine AllReadyH.cons (o := ?ozz35) ?hzz35 (fun K hK => ?kzz35) ?mzz35
            case hzz35 => simp only [List.getElem?_toArray, List.getElem?_cons_zero, List.getElem?_cons_succ]; rfl
            case kzz35 =>
              go_simp
              refine hK.out _ _ ?Szz35 (fun hHeld => ?Rzz35)
              case Szz35 =>
                exact hS0.q (by repeat (first | exact Q.refl _ | refine Q.drew ?_ | refine Q.alloc ?_ _))
              case Rzz35 =>
                clear hK K
                try simp only [Act.put, List.setIfInBounds_toArray, List.set_cons_zero, List.set_cons_succ]
                refine wpAnyH_ready (rs := [1]) (by kernel_rfl) (by simp) ?_
                refine AllReadyH.cons (o := ?ozz33) ?hzz33 (fun K hK => ?kzz33) ?mzz33
                case hzz33 => simp only [List.getElem?_toArray, List.getElem?_cons_zero, List.getElem?_cons_succ]; rfl
                case kzz33 =>
                  go_simp
                  refine hK.out _ _ ?Szz33 (fun hHeld => ?Rzz33)
                  case Szz33 =>
                    exact hS0.q (by repeat (first | exact Q.refl _ | refine Q.drew ?_ | refine Q.alloc ?_ _))
                  case Rzz33 =>
                    clear hK K
                    try simp only [Act.put, List.setIfInBounds_toArray, List.set_cons_zero, List.set_cons_succ]
                    refine wpAnyH_now (fun w' => S12 B A m cc d (la.add k) l[k] w' ∧ w'.cell? ⟨wr.heap.size + 1, 0, none⟩ = some (.string na)) (fun _ h => h.1) ?hwzz24 (fun hHeld => ?Rzz24)
                    case hwzz24 =>
                      exact ⟨hHeld, hNB⟩
                    case' Rzz24 => skip
                    refine wpAnyH_take (i := 4) (oi := ?ozz25) (v := ?vzz25) ?hzz25 ?azz25 ?bzz25 ?czz25 ?qzz25 ?yzz25 ?szz25 ?rzz25
                    case hzz25 => simp only [List.getElem?_toArray, List.getElem?_cons_zero, List.getElem?_cons_succ]; rfl
                    case azz25 => kernel_rfl
                    case bzz25 => kernel_rfl
                    case czz25 => kernel_rfl
                    case yzz25 =>
                      refine Or.inl ⟨by rfl, ?_⟩
                      intro w hSw
                      obtain ⟨⟨s0, s1, s2, s3, s4⟩, s5⟩ := hSw
                      go_simp
                      try with_reducible rfl
                    case qzz25 => exact fun _ _ _ h => h
                    case szz25 => assumption
                    case' rzz25 => simp only [Act.put, List.setIfInBounds_toArray, List.set_cons_zero, List.set_cons_succ]
                    refine wpAnyH_take (i := 5) (oi := ?ozz26) (v := ?vzz26) ?hzz26 ?azz26 ?bzz26 ?czz26 ?qzz26 ?yzz26 ?szz26 ?rzz26
                    case hzz26 => simp only [List.getElem?_toArray, List.getElem?_cons_zero, List.getElem?_cons_succ]; rfl
                    case azz26 => kernel_rfl
                    case bzz26 => kernel_rfl
                    case czz26 => kernel_rfl
                    case yzz26 =>
                      refine Or.inl ⟨by rfl, ?_⟩
                      intro w hSw
                      obtain ⟨⟨s0, s1, s2, s3, s4⟩, s5⟩ := hSw
                      go_simp
                      try with_reducible rfl
                    case qzz26 => exact fun _ _ _ h => h
                    case szz26 => assumption
                    case' rzz26 => simp only [Act.put, List.setIfInBounds_toArray, List.set_cons_zero, List.set_cons_succ]
                    refine wpAnyH_ready (rs := [10]) (by kernel_rfl) (by simp) ?_
                    refine AllReadyH.cons (o := ?ozz32) ?hzz32 (fun K hK => ?kzz32) ?mzz32
                    case hzz32 => simp only [List.getElem?_toArray, List.getElem?_cons_zero, List.getElem?_cons_succ]; rfl
                    case kzz32 =>
                      go_simp
                      refine (KK.out _ (HV.out.dv.dsk.q (by repeat (first | exact Q.refl _ | refine Q.drew ?_ | refine Q.alloc ?_ _)))).mono ?_
                      rintro e w4 ⟨A4, n4, c4, rfl, ho4, q4⟩
                      obtain ⟨⟨b0, b1, b2, b3⟩, y0, y1, y2, y3⟩ := (BB.out.drew.q q4).get4
                      go_wp2_with fail
                      refine hK.out _ _ ?Szz32 (fun hHeld => ?Rzz32)
                      case Szz32 =>
                        exact ⟨hHeld.1.q q4, box_ q4 hHeld.2⟩
                      case Rzz32 =>
                        clear hK K
                        try simp only [Act.put, List.setIfInBounds_toArray, List.set_cons_zero, List.set_cons_succ]
                        refine wpAnyH_take (i := 11) (oi := ?ozz27) (v := ?vzz27) ?hzz27 ?azz27 ?bzz27 ?czz27 ?qzz27 ?yzz27 ?szz27 ?rzz27
                        case hzz27 => simp only [List.getElem?_toArray, List.getElem?_cons_zero, List.getElem?_cons_succ]; rfl
                        case azz27 => kernel_rfl
                        case bzz27 => kernel_rfl
                        case czz27 => kernel_rfl
                        case yzz27 =>
                          refine Or.inl ⟨by rfl, ?_⟩
                          intro w hSw
                          obtain ⟨⟨s0, s1, s2, s3, s4⟩, s5⟩ := hSw
                          go_simp
                          try with_reducible rfl
                        case qzz27 => exact fun _ _ _ h => h
                        case szz27 => assumption
                        case' rzz27 => simp only [Act.put, List.setIfInBounds_toArray, List.set_cons_zero, List.set_cons_succ]
                        refine wpAnyH_take (i := 12) (oi := ?ozz28) (v := ?vzz28) ?hzz28 ?azz28 ?bzz28 ?czz28 ?qzz28 ?yzz28 ?szz28 ?rzz28
                        case hzz28 => simp only [List.getElem?_toArray, List.getElem?_cons_zero, List.getElem?_cons_succ]; rfl
                        case azz28 => kernel_rfl
                        case bzz28 => kernel_rfl
                        case czz28 => kernel_rfl
                        case yzz28 =>
                          refine Or.inl ⟨by rfl, ?_⟩
                          intro w hSw
                          obtain ⟨⟨s0, s1, s2, s3, s4⟩, s5⟩ := hSw
                          go_simp
                          try with_reducible rfl
                        case qzz28 => exact fun _ _ _ h => h
                        case szz28 => assumption
                        case' rzz28 => simp only [Act.put, List.setIfInBounds_toArray, List.set_cons_zero, List.set_cons_succ]
                        refine wpAnyH_take (i := 13) (oi := ?ozz29) (v := ?vzz29) ?hzz29 ?azz29 ?bzz29 ?czz29 ?qzz29 ?yzz29 ?szz29 ?rzz29
                        case hzz29 => simp only [List.getElem?_toArray, List.getElem?_cons_zero, List.getElem?_cons_succ]; rfl
                        case azz29 => kernel_rfl
                        case bzz29 => kernel_rfl
                        case czz29 => kernel_rfl
                        case yzz29 =>
                          refine Or.inl ⟨by rfl, ?_⟩
                          intro w hSw
                          obtain ⟨⟨s0, s1, s2, s3, s4⟩, s5⟩ := hSw
                          go_simp
                          try with_reducible rfl
                        case qzz29 => exact fun _ _ _ h => h
                        case szz29 => assumption
                        case' rzz29 => simp only [Act.put, List.setIfInBounds_toArray, List.set_cons_zero, List.set_cons_succ]
                        refine wpAnyH_ready (rs := [15]) (by kernel_rfl) (by simp) ?_
                        refine AllReadyH.cons (o := ?ozz31) ?hzz31 (fun K hK => ?kzz31) ?mzz31
                        case hzz31 => simp only [List.getElem?_toArray, List.getElem?_cons_zero, List.getElem?_cons_succ]; rfl
                        case kzz31 =>
                          go_simp
                          refine hK.out _ _ ?Szz31 (fun hHeld => ?Rzz31)
                          case Szz31 =>
                            exact ⟨hHeld.1.far4 (by omega) (by rw [add_blk]; omega) _ _ _ _, far_cell4 (by intro h; simp at h) hHeld.2⟩
                          case Rzz31 =>
                            clear hK K
                            try simp only [Act.put, List.setIfInBounds_toArray, List.set_cons_zero, List.set_cons_succ]
                            refine wpAnyH_take (i := 16) (oi := ?ozz30) (v := ?vzz30) ?hzz30 ?azz30 ?bzz30 ?czz30 ?qzz30 ?yzz30 ?szz30 ?rzz30
                            case hzz30 => simp only [List.getElem?_toArray, List.getElem?_cons_zero, List.getElem?_cons_succ]; rfl
                            case azz30 => kernel_rfl
                            case bzz30 => kernel_rfl
                            case czz30 => kernel_rfl
                            case yzz30 =>
                              refine Or.inl ⟨by rfl, ?_⟩
                              intro w hSw
                              obtain ⟨⟨s0, s1, s2, s3, s4⟩, s5⟩ := hSw
                              go_simp
                              try with_reducible rfl
                            case qzz30 => exact fun _ _ _ h => h
                            case szz30 => assumption
                            case' rzz30 => simp only [Act.put, List.setIfInBounds_toArray, List.set_cons_zero, List.set_cons_succ]
                            refine wpAnyH_done (by kernel_rfl) ?_ _
                            go_wp2_with fail
                            go_meet
                            exact leaf_b BB.out.drew (Nat.le_refl _) HV.out (by repeat (first | exact Q.refl _ | refine Q.drew ?_ | refine Q.alloc ?_ _)) q4 ho4 HI.out.few
                        case' mzz31 => skip
                        exact AllReadyH.nil
                    case' mzz32 => skip
                    exact AllReadyH.nil
                case' mzz33 => skip
                exact AllReadyH.nil
            case' mzz35 => skip
            exact AllReadyH.nil
          case neg =>
            clear hpar
            refine wp_region_held_drew (S := S12 B A m cc d (la.add k) l[k]) (by kernel_rfl) ?_ (fun hHeld => ?_)
            · exact ⟨e0, e1, e2, e3, l0⟩
            have hS0 : S12 B A m cc d (la.add k) l[k] wr := ⟨e0, e1, e2, e3, l0⟩
            have hNA := new_str_1 wr
            have hNB : ((wr.alloc (.cells #[.slice none 0 0, .int .i64 0, .int .i64 0, .bool false] 24)).alloc (.cells #[.string ⟨#[97]⟩, .string ⟨#[98]⟩] 9)).cell? ⟨wr.heap.size + 1, 1, none⟩ = some (.string nb) := by have := new_str_1 (wr.alloc (.cells #[.slice none 0 0, .int .i64 0, .int .i64 0, .bool false] 24)); simpa using this
            refine wpAnyH_take (i := 0) (oi := ?ozz36) (v := ?vzz36) ?hzz36 ?azz36 ?bzz36 ?czz36 ?qzz36 ?yzz36 ?szz36 ?rzz36
            case hzz36 => simp only [List.getElem?_toArray, List.getElem?_cons_zero]; rfl
            case azz36 => kernel_rfl
            case bzz36 => kernel_rfl
            case czz36 => kernel_rfl
            case yzz36 =>
              refine Or.inl ⟨by rfl, ?_⟩
              intro w hSw
              obtain ⟨s0, s1, s2, s3, s4⟩ := hSw
              go_simp
              try with_reducible rfl
            case qzz36 => exact fun _ _ _ h => h
            case szz36 => assumption
            case' rzz36 => simp only [Act.put, List.setIfInBounds_toArray, List.set_cons_zero, List.set_cons_succ]
            refine wpAnyH_take (i := 2) (oi := ?ozz37) (v := ?vzz37) ?hzz37 ?azz37 ?bzz37 ?czz37 ?qzz37 ?yzz37 ?szz37 ?rzz37
            case hzz37 => simp only [List.getElem?_toArray, List.getElem?_cons_zero, List.getElem?_cons_succ]; rfl
            case azz37 => kernel_rfl
            case bzz37 => kernel_rfl
            case czz37 => kernel_rfl
            case yzz37 =>
              refine Or.inl ⟨by rfl, ?_⟩
              intro w hSw
              obtain ⟨s0, s1, s2, s3, s4⟩ := hSw
              go_simp
              try with_reducible rfl
            case qzz37 => exact fun _ _ _ h => h
            case szz37 => assumption
            case' rzz37 => simp only [Act.put, List.setIfInBounds_toArray, List.set_cons_zero, List.set_cons_succ]
            refine wpAnyH_take (i := 3) (oi := ?ozz38) (v := ?vzz38) ?hzz38 ?azz38 ?bzz38 ?czz38 ?qzz38 ?yzz38 ?szz38 ?rzz38
            case hzz38 => simp only [List.getElem?_toArray, List.getElem?_cons_zero, List.getElem?_cons_succ]; rfl
            case azz38 => kernel_rfl
            case bzz38 => kernel_rfl
            case czz38 => kernel_rfl
            case yzz38 =>
              refine Or.inl ⟨by rfl, ?_⟩
              intro w hSw
              obtain ⟨s0, s1, s2, s3, s4⟩ := hSw
              go_simp
              try with_reducible rfl
            case qzz38 => exact fun _ _ _ h => h
            case szz38 => assumption
            case' rzz38 => simp only [Act.put, List.setIfInBounds_toArray, List.set_cons_zero, List.set_cons_succ]
            refine wpAnyH_take (i := 6) (oi := ?ozz39) (v := ?vzz39) ?hzz39 ?azz39 ?bzz39 ?czz39 ?qzz39 ?yzz39 ?szz39 ?rzz39
            case hzz39 => simp only [List.getElem?_toArray, List.getElem?_cons_zero, List.getElem?_cons_succ]; rfl
            case azz39 => kernel_rfl
            case bzz39 => kernel_rfl
            case czz39 => kernel_rfl
            case yzz39 =>
              refine Or.inl ⟨by rfl, ?_⟩
              intro w hSw
              obtain ⟨s0, s1, s2, s3, s4⟩ := hSw
              go_simp
              try with_reducible rfl
            case qzz39 => exact fun _ _ _ h => h
            case szz39 => assumption
            case' rzz39 => simp only [Act.put, List.setIfInBounds_toArray, List.set_cons_zero, List.set_cons_succ]
            refine wpAnyH_take (i := 7) (oi := ?ozz40) (v := ?vzz40) ?hzz40 ?azz40 ?bzz40 ?czz40 ?qzz40 ?yzz40 ?szz40 ?rzz40
            case hzz40 => simp only [List.getElem?_toArray, List.getElem?_cons_zero, List.getElem?_cons_succ]; rfl
            case azz40 => kernel_rfl
            case bzz40 => kernel_rfl
            case czz40 => kernel_rfl
            case yzz40 =>
              refine Or.inl ⟨by rfl, ?_⟩
              intro w hSw
              obtain ⟨s0, s1, s2, s3, s4⟩ := hSw
              go_simp
              try with_reducible rfl
            case qzz40 => exact fun _ _ _ h => h
            case szz40 => assumption
            case' rzz40 => simp only [Act.put, List.setIfInBounds_toArray, List.set_cons_zero, List.set_cons_succ]
            refine wpAnyH_take (i := 8) (oi := ?ozz41) (v := ?vzz41) ?hzz41 ?azz41 ?bzz41 ?czz41 ?qzz41 ?yzz41 ?szz41 ?rzz41
            case hzz41 => simp only [List.getElem?_toArray, List.getElem?_cons_zero, List.getElem?_cons_succ]; rfl
            case azz41 => kernel_rfl
            case bzz41 => kernel_rfl
            case czz41 => kernel_rfl
            case yzz41 =>
              refine Or.inl ⟨by rfl, ?_⟩
              intro w hSw
              obtain ⟨s0, s1, s2, s3, s4⟩ := hSw
              go_simp
              try with_reducible rfl
            case qzz41 => exact fun _ _ _ h => h
            case szz41 => assumption
            case' rzz41 => simp only [Act.put, List.setIfInBounds_toArray, List.set_cons_zero, List.set_cons_succ]
            refine wpAnyH_take (i := 9) (oi := ?ozz42) (v := ?vzz42) ?hzz42 ?azz42 ?bzz42 ?czz42 ?qzz42 ?yzz42 ?szz42 ?rzz42
            case hzz42 => simp only [List.getElem?_toArray, List.getElem?_cons_zero, List.getElem?_cons_succ]; rfl
            case azz42 => kernel_rfl
            case bzz42 => kernel_rfl
            case czz42 => kernel_rfl
            case yzz42 =>
              refine Or.inl ⟨by rfl, ?_⟩
              intro w hSw
              obtain ⟨s0, s1, s2, s3, s4⟩ := hSw
              go_simp
              try with_reducible rfl
            case qzz42 => exact fun _ _ _ h => h
            case szz42 => assumption
            case' rzz42 => simp only [Act.put, List.setIfInBounds_toArray, List.set_cons_zero, List.set_cons_succ]
            refine wpAnyH_ready (rs := [1, 14]) (by kernel_rfl) (by simp) ?_
            refine AllReadyH.cons (o := ?ozz70) ?hzz70 (fun K hK => ?kzz70) ?mzz70
            case hzz70 => simp only [List.getElem?_toArray, List.getElem?_cons_zero, List.getElem?_cons_succ]; rfl
            case kzz70 =>
              go_simp
              refine hK.out _ _ ?Szz70 (fun hHeld => ?Rzz70)
              case Szz70 =>
                exact hS0.q (by repeat (first | exact Q.refl _ | refine Q.drew ?_ | refine Q.alloc ?_ _))
              case Rzz70 =>
                clear hK K
                try simp only [Act.put, List.setIfInBounds_toArray, List.set_cons_zero, List.set_cons_succ]
                refine wpAnyH_now (fun w' => S12 B A m cc d (la.add k) l[k] w' ∧ w'.cell? ⟨wr.heap.size, 1, none⟩ = some (.string nb)) (fun _ h => h.1) ?hwzz54 (fun hHeld => ?Rzz54)
                case hwzz54 =>
                  exact ⟨hHeld, hNA⟩
                case' Rzz54 => skip
                refine wpAnyH_take (i := 4) (oi := ?ozz55) (v := ?vzz55) ?hzz55 ?azz55 ?bzz55 ?czz55 ?qzz55 ?yzz55 ?szz55 ?rzz55
                case hzz55 => simp only [List.getElem?_toArray, List.getElem?_cons_zero, List.getElem?_cons_succ]; rfl
                case azz55 => kernel_rfl
                case bzz55 => kernel_rfl
                case czz55 => kernel_rfl
                case yzz55 =>
                  refine Or.inl ⟨by rfl, ?_⟩
                  intro w hSw
                  obtain ⟨⟨s0, s1, s2, s3, s4⟩, s5⟩ := hSw
                  go_simp
                  try with_reducible rfl
                case qzz55 => exact fun _ _ _ h => h
                case szz55 => assumption
                case' rzz55 => simp only [Act.put, List.setIfInBounds_toArray, List.set_cons_zero, List.set_cons_succ]
                refine wpAnyH_take (i := 5) (oi := ?ozz56) (v := ?vzz56) ?hzz56 ?azz56 ?bzz56 ?czz56 ?qzz56 ?yzz56 ?szz56 ?rzz56
                case hzz56 => simp only [List.getElem?_toArray, List.getElem?_cons_zero, List.getElem?_cons_succ]; rfl
                case azz56 => kernel_rfl
                case bzz56 => kernel_rfl
                case czz56 => kernel_rfl
                case yzz56 =>
                  refine Or.inl ⟨by rfl, ?_⟩
                  intro w hSw
                  obtain ⟨⟨s0, s1, s2, s3, s4⟩, s5⟩ := hSw
                  go_simp
                  try with_reducible rfl
                case qzz56 => exact fun _ _ _ h => h
                case szz56 => assumption
                case' rzz56 => simp only [Act.put, List.setIfInBounds_toArray, List.set_cons_zero, List.set_cons_succ]
                refine wpAnyH_ready (rs := [10, 14]) (by kernel_rfl) (by simp) ?_
                refine AllReadyH.cons (o := ?ozz58) ?hzz58 (fun K hK => ?kzz58) ?mzz58
                case hzz58 => simp only [List.getElem?_toArray, List.getElem?_cons_zero, List.getElem?_cons_succ]; rfl
                case kzz58 =>
                  go_simp
                  refine (KK.out _ (HV.out.dv.dsk.q (by repeat (first | exact Q.refl _ | refine Q.drew ?_ | refine Q.alloc ?_ _)))).mono ?_
                  rintro e w4 ⟨A4, n4, c4, rfl, ho4, q4⟩
                  go_wp2_with fail
                  refine hK.out _ _ ?Szz58 (fun hHeld => ?Rzz58)
                  case Szz58 =>
                    exact ⟨hHeld.1.q q4, box_ q4 hHeld.2⟩
                  case Rzz58 =>
                    clear hK K
                    try simp only [Act.put, List.setIfInBounds_toArray, List.set_cons_zero, List.set_cons_succ]
                    have hC := hHeld
                    refine wpAnyH_take (i := 11) (oi := ?ozz43) (v := ?vzz43) ?hzz43 ?azz43 ?bzz43 ?czz43 ?qzz43 ?yzz43 ?szz43 ?rzz43
                    case hzz43 => simp only [List.getElem?_toArray, List.getElem?_cons_zero, List.getElem?_cons_succ]; rfl
                    case azz43 => kernel_rfl
                    case bzz43 => kernel_rfl
                    case czz43 => kernel_rfl
                    case yzz43 =>
                      refine Or.inl ⟨by rfl, ?_⟩
                      intro w hSw
                      obtain ⟨⟨s0, s1, s2, s3, s4⟩, s5⟩ := hSw
                      go_simp
                      try with_reducible rfl
                    case qzz43 => exact fun _ _ _ h => h
                    case szz43 => assumption
                    case' rzz43 => simp only [Act.put, List.setIfInBounds_toArray, List.set_cons_zero, List.set_cons_succ]
                    refine wpAnyH_take (i := 12) (oi := ?ozz44) (v := ?vzz44) ?hzz44 ?azz44 ?bzz44 ?czz44 ?qzz44 ?yzz44 ?szz44 ?rzz44
                    case hzz44 => simp only [List.getElem?_toArray, List.getElem?_cons_zero, List.getElem?_cons_succ]; rfl
                    case azz44 => kernel_rfl
                    case bzz44 => kernel_rfl
                    case czz44 => kernel_rfl
                    case yzz44 =>
                      refine Or.inl ⟨by rfl, ?_⟩
                      intro w hSw
                      obtain ⟨⟨s0, s1, s2, s3, s4⟩, s5⟩ := hSw
                      go_simp
                      try with_reducible rfl
                    case qzz44 => exact fun _ _ _ h => h
                    case szz44 => assumption
                    case' rzz44 => simp only [Act.put, List.setIfInBounds_toArray, List.set_cons_zero, List.set_cons_succ]
                    refine wpAnyH_take (i := 13) (oi := ?ozz45) (v := ?vzz45) ?hzz45 ?azz45 ?bzz45 ?czz45 ?qzz45 ?yzz45 ?szz45 ?rzz45
                    case hzz45 => simp only [List.getElem?_toArray, List.getElem?_cons_zero, List.getElem?_cons_succ]; rfl
                    case azz45 => kernel_rfl
                    case bzz45 => kernel_rfl
                    case czz45 => kernel_rfl
                    case yzz45 =>
                      refine Or.inl ⟨by rfl, ?_⟩
                      intro w hSw
                      obtain ⟨⟨s0, s1, s2, s3, s4⟩, s5⟩ := hSw
                      go_simp
                      try with_reducible rfl
                    case qzz45 => exact fun _ _ _ h => h
                    case szz45 => assumption
                    case' rzz45 => simp only [Act.put, List.setIfInBounds_toArray, List.set_cons_zero, List.set_cons_succ]
                    refine wpAnyH_ready (rs := [14]) (by kernel_rfl) (by simp) ?_
                    refine AllReadyH.cons (o := ?ozz48) ?hzz48 (fun K hK => ?kzz48) ?mzz48
                    case hzz48 => simp only [List.getElem?_toArray, List.getElem?_cons_zero, List.getElem?_cons_succ]; rfl
                    case kzz48 =>
                      go_simp
                      refine hK.out _ _ ?Szz48 (fun hHeld => ?Rzz48)
                      case Szz48 =>
                        exact ⟨hC.1.q ((Q.refl _).alloc _), box_ ((Q.refl _).alloc _) hC.2⟩
                      case Rzz48 =>
                        clear hK K
                        try simp only [Act.put, List.setIfInBounds_toArray, List.set_cons_zero, List.set_cons_succ]
                        refine wpAnyH_ready (rs := [15]) (by kernel_rfl) (by simp) ?_
                        refine AllReadyH.cons (o := ?ozz47) ?hzz47 (fun K hK => ?kzz47) ?mzz47
                        case hzz47 => simp only [List.getElem?_toArray, List.getElem?_cons_zero, List.getElem?_cons_succ]; rfl
                        case kzz47 =>
                          go_simp
                          refine hK.out _ _ ?Szz47 (fun hHeld => ?Rzz47)
                          case Szz47 =>
                            exact ⟨hC.1.q ((Q.refl _).alloc _), box_ ((Q.refl _).alloc _) hC.2⟩
                          case Rzz47 =>
                            clear hK K
                            try simp only [Act.put, List.setIfInBounds_toArray, List.set_cons_zero, List.set_cons_succ]
                            refine wpAnyH_take (i := 16) (oi := ?ozz46) (v := ?vzz46) ?hzz46 ?azz46 ?bzz46 ?czz46 ?qzz46 ?yzz46 ?szz46 ?rzz46
                            case hzz46 => simp only [List.getElem?_toArray, List.getElem?_cons_zero, List.getElem?_cons_succ]; rfl
                            case azz46 => kernel_rfl
                            case bzz46 => kernel_rfl
                            case czz46 => kernel_rfl
                            case yzz46 =>
                              refine Or.inl ⟨by rfl, ?_⟩
                              intro w hSw
                              obtain ⟨⟨s0, s1, s2, s3, s4⟩, s5⟩ := hSw
                              go_simp
                              try with_reducible rfl
                            case qzz46 => exact fun _ _ _ h => h
                            case szz46 => assumption
                            case' rzz46 => simp only [Act.put, List.setIfInBounds_toArray, List.set_cons_zero, List.set_cons_succ]
                            refine wpAnyH_done (by kernel_rfl) ?_ _
                            go_wp2_with fail
                            go_meet
                            exact leaf_c HV.out (by repeat (first | exact Q.refl _ | refine Q.drew ?_ | refine Q.alloc ?_ _)) q4 ho4 HI.out.few
                        case' mzz47 => skip
                        exact AllReadyH.nil
                    case' mzz48 => skip
                    exact AllReadyH.nil
                case' mzz58 => skip
                refine AllReadyH.cons (o := ?ozz59) ?hzz59 (fun K hK => ?kzz59) ?mzz59
                case hzz59 => simp only [List.getElem?_toArray, List.getElem?_cons_zero, List.getElem?_cons_succ]; rfl
                case kzz59 =>
                  go_simp
                  refine hK.out _ _ ?Szz59 (fun hHeld => ?Rzz59)
                  case Szz59 =>
                    exact ⟨hS0.q (by repeat (first | exact Q.refl _ | refine Q.drew ?_ | refine Q.alloc ?_ _)), box_ (by repeat (first | exact Q.refl _ | refine Q.drew ?_ | refine Q.alloc ?_ _)) hNA⟩
                  case Rzz59 =>
                    clear hK K
                    try simp only [Act.put, List.setIfInBounds_toArray, List.set_cons_zero, List.set_cons_succ]
                    refine wpAnyH_ready (rs := [10]) (by kernel_rfl) (by simp) ?_
                    refine AllReadyH.cons (o := ?ozz57) ?hzz57 (fun K hK => ?kzz57) ?mzz57
                    case hzz57 => simp only [List.getElem?_toArray, List.getElem?_cons_zero, List.getElem?_cons_succ]; rfl
                    case kzz57 =>
                      go_simp
                      refine (KK.out _ (HV.out.dv.dsk.q (by repeat (first | exact Q.refl _ | refine Q.drew ?_ | refine Q.alloc ?_ _)))).mono ?_
                      rintro e w4 ⟨A4, n4, c4, rfl, ho4, q4⟩
                      obtain ⟨⟨b0, b1, b2, b3⟩, y0, y1, y2, y3⟩ := (BA.out.drew.q q4).get4
                      go_wp2_with fail
                      refine hK.out _ _ ?Szz57 (fun hHeld => ?Rzz57)
                      case Szz57 =>
                        exact ⟨hHeld.1.q q4, box_ q4 hHeld.2⟩
                      case Rzz57 =>
                        clear hK K
                        try simp only [Act.put, List.setIfInBounds_toArray, List.set_cons_zero, List.set_cons_succ]
                        refine wpAnyH_take (i := 11) (oi := ?ozz49) (v := ?vzz49) ?hzz49 ?azz49 ?bzz49 ?czz49 ?qzz49 ?yzz49 ?szz49 ?rzz49
                        case hzz49 => simp only [List.getElem?_toArray, List.getElem?_cons_zero, List.getElem?_cons_succ]; rfl
                        case azz49 => kernel_rfl
                        case bzz49 => kernel_rfl
                        case czz49 => kernel_rfl
                        case yzz49 =>
                          refine Or.inl ⟨by rfl, ?_⟩
                          intro w hSw
                          obtain ⟨⟨s0, s1, s2, s3, s4⟩, s5⟩ := hSw
                          go_simp
                          try with_reducible rfl
                        case qzz49 => exact fun _ _ _ h => h
                        case szz49 => assumption
                        case' rzz49 => simp only [Act.put, List.setIfInBounds_toArray, List.set_cons_zero, List.set_cons_succ]
                        refine wpAnyH_take (i := 12) (oi := ?ozz50) (v := ?vzz50) ?hzz50 ?azz50 ?bzz50 ?czz50 ?qzz50 ?yzz50 ?szz50 ?rzz50
                        case hzz50 => simp only [List.getElem?_toArray, List.getElem?_cons_zero, List.getElem?_cons_succ]; rfl
                        case azz50 => kernel_rfl
                        case bzz50 => kernel_rfl
                        case czz50 => kernel_rfl
                        case yzz50 =>
                          refine Or.inl ⟨by rfl, ?_⟩
                          intro w hSw
                          obtain ⟨⟨s0, s1, s2, s3, s4⟩, s5⟩ := hSw
                          go_simp
                          try with_reducible rfl
                        case qzz50 => exact fun _ _ _ h => h
                        case szz50 => assumption
                        case' rzz50 => simp only [Act.put, List.setIfInBounds_toArray, List.set_cons_zero, List.set_cons_succ]
                        refine wpAnyH_take (i := 13) (oi := ?ozz51) (v := ?vzz51) ?hzz51 ?azz51 ?bzz51 ?czz51 ?qzz51 ?yzz51 ?szz51 ?rzz51
                        case hzz51 => simp only [List.getElem?_toArray, List.getElem?_cons_zero, List.getElem?_cons_succ]; rfl
                        case azz51 => kernel_rfl
                        case bzz51 => kernel_rfl
                        case czz51 => kernel_rfl
                        case yzz51 =>
                          refine Or.inl ⟨by rfl, ?_⟩
                          intro w hSw
                          obtain ⟨⟨s0, s1, s2, s3, s4⟩, s5⟩ := hSw
                          go_simp
                          try with_reducible rfl
                        case qzz51 => exact fun _ _ _ h => h
                        case szz51 => assumption
                        case' rzz51 => simp only [Act.put, List.setIfInBounds_toArray, List.set_cons_zero, List.set_cons_succ]
                        refine wpAnyH_ready (rs := [15]) (by kernel_rfl) (by simp) ?_
                        refine AllReadyH.cons (o := ?ozz53) ?hzz53 (fun K hK => ?kzz53) ?mzz53
                        case hzz53 => simp only [List.getElem?_toArray, List.getElem?_cons_zero, List.getElem?_cons_succ]; rfl
                        case kzz53 =>
                          go_simp
                          refine hK.out _ _ ?Szz53 (fun hHeld => ?Rzz53)
                          case Szz53 =>
                            exact ⟨hHeld.1.far4 (by omega) (by rw [add_blk]; omega) _ _ _ _, far_cell4 (by intro h; simp at h) hHeld.2⟩
                          case Rzz53 =>
                            clear hK K
                            try simp only [Act.put, List.setIfInBounds_toArray, List.set_cons_zero, List.set_cons_succ]
                            refine wpAnyH_take (i := 16) (oi := ?ozz52) (v := ?vzz52) ?hzz52 ?azz52 ?bzz52 ?czz52 ?qzz52 ?yzz52 ?szz52 ?rzz52
                            case hzz52 => simp only [List.getElem?_toArray, List.getElem?_cons_zero, List.getElem?_cons_succ]; rfl
                            case azz52 => kernel_rfl
                            case bzz52 => kernel_rfl
                            case czz52 => kernel_rfl
                            case yzz52 =>
                              refine Or.inl ⟨by rfl, ?_⟩
                              intro w hSw
                              obtain ⟨⟨s0, s1, s2, s3, s4⟩, s5⟩ := hSw
                              go_simp
                              try with_reducible rfl
                            case qzz52 => exact fun _ _ _ h => h
                            case szz52 => assumption
                            case' rzz52 => simp only [Act.put, List.setIfInBounds_toArray, List.set_cons_zero, List.set_cons_succ]
                            refine wpAnyH_done (by kernel_rfl) ?_ _
                            go_wp2_with fail
                            go_meet
                            exact leaf_b BA.out.drew (Nat.le_succ _) HV.out (by repeat (first | exact Q.refl _ | refine Q.drew ?_ | refine Q.alloc ?_ _)) q4 ho4 HI.out.few
                        case' mzz53 => skip
                        exact AllReadyH.nil
                    case' mzz57 => skip
                    exact AllReadyH.nil
                case' mzz59 => skip
                exact AllReadyH.nil
            case' mzz70 => skip
            refine AllReadyH.cons (o := ?ozz71) ?hzz71 (fun K hK => ?kzz71) ?mzz71
            case hzz71 => simp only [List.getElem?_toArray, List.getElem?_cons_zero, List.getElem?_cons_succ]; rfl
            case kzz71 =>
              go_simp
              refine hK.out _ _ ?Szz71 (fun hHeld => ?Rzz71)
              case Szz71 =>
                exact hS0.q (by repeat (first | exact Q.refl _ | refine Q.drew ?_ | refine Q.alloc ?_ _))
              case Rzz71 =>
                clear hK K
                try simp only [Act.put, List.setIfInBounds_toArray, List.set_cons_zero, List.set_cons_succ]
                refine wpAnyH_ready (rs := [1]) (by kernel_rfl) (by simp) ?_
                refine AllReadyH.cons (o := ?ozz69) ?hzz69 (fun K hK => ?kzz69) ?mzz69
                case hzz69 => simp only [List.getElem?_toArray, List.getElem?_cons_zero, List.getElem?_cons_succ]; rfl
                case kzz69 =>
                  go_simp
                  refine hK.out _ _ ?Szz69 (fun hHeld => ?Rzz69)
                  case Szz69 =>
                    exact hS0.q (by repeat (first | exact Q.refl _ | refine Q.drew ?_ | refine Q.alloc ?_ _))
                  case Rzz69 =>
                    clear hK K
                    try simp only [Act.put, List.setIfInBounds_toArray, List.set_cons_zero, List.set_cons_succ]
                    refine wpAnyH_now (fun w' => S12 B A m cc d (la.add k) l[k] w' ∧ w'.cell? ⟨wr.heap.size + 1, 1, none⟩ = some (.string nb)) (fun _ h => h.1) ?hwzz60 (fun hHeld => ?Rzz60)
                    case hwzz60 =>
                      exact ⟨hHeld, hNB⟩
                    case' Rzz60 => skip
                    refine wpAnyH_take (i := 4) (oi := ?ozz61) (v := ?vzz61) ?hzz61 ?azz61 ?bzz61 ?czz61 ?qzz61 ?yzz61 ?szz61 ?rzz61
                    case hzz61 => simp only [List.getElem?_toArray, List.getElem?_cons_zero, List.getElem?_cons_succ]; rfl
                    case azz61 => kernel_rfl
                    case bzz61 => kernel_rfl
                    case czz61 => kernel_rfl
                    case yzz61 =>
                      refine Or.inl ⟨by rfl, ?_⟩
                      intro w hSw
                      obtain ⟨⟨s0, s1, s2, s3, s4⟩, s5⟩ := hSw
                      go_simp
                      try with_reducible rfl
                    case qzz61 => exact fun _ _ _ h => h
                    case szz61 => assumption
                    case' rzz61 => simp only [Act.put, List.setIfInBounds_toArray, List.set_cons_zero, List.set_cons_succ]
                    refine wpAnyH_take (i := 5) (oi := ?ozz62) (v := ?vzz62) ?hzz62 ?azz62 ?bzz62 ?czz62 ?qzz62 ?yzz62 ?szz62 ?rzz62
                    case hzz62 => simp only [List.getElem?_toArray, List.getElem?_cons_zero, List.getElem?_cons_succ]; rfl
                    case azz62 => kernel_rfl
                    case bzz62 => kernel_rfl
                    case czz62 => kernel_rfl
                    case yzz62 =>
                      refine Or.inl ⟨by rfl, ?_⟩
                      intro w hSw
                      obtain ⟨⟨s0, s1, s2, s3, s4⟩, s5⟩ := hSw
                      go_simp
                      try with_reducible rfl
                    case qzz62 => exact fun _ _ _ h => h
                    case szz62 => assumption
                    case' rzz62 => simp only [Act.put, List.setIfInBounds_toArray, List.set_cons_zero, List.set_cons_succ]
                    refine wpAnyH_ready (rs := [10]) (by kernel_rfl) (by simp) ?_
                    refine AllReadyH.cons (o := ?ozz68) ?hzz68 (fun K hK => ?kzz68) ?mzz68
                    case hzz68 => simp only [List.getElem?_toArray, List.getElem?_cons_zero, List.getElem?_cons_succ]; rfl
                    case kzz68 =>
                      go_simp
                      refine (KK.out _ (HV.out.dv.dsk.q (by repeat (first | exact Q.refl _ | refine Q.drew ?_ | refine Q.alloc ?_ _)))).mono ?_
                      rintro e w4 ⟨A4, n4, c4, rfl, ho4, q4⟩
                      obtain ⟨⟨b0, b1, b2, b3⟩, y0, y1, y2, y3⟩ := (BB.out.drew.q q4).get4
                      go_wp2_with fail
                      refine hK.out _ _ ?Szz68 (fun hHeld => ?Rzz68)
                      case Szz68 =>
                        exact ⟨hHeld.1.q q4, box_ q4 hHeld.2⟩
                      case Rzz68 =>
                        clear hK K
                        try simp only [Act.put, List.setIfInBounds_toArray, List.set_cons_zero, List.set_cons_succ]
                        refine wpAnyH_take (i := 11) (oi := ?ozz63) (v := ?vzz63) ?hzz63 ?azz63 ?bzz63 ?czz63 ?qzz63 ?yzz63 ?szz63 ?rzz63
                        case hzz63 => simp only [List.getElem?_toArray, List.getElem?_cons_zero, List.getElem?_cons_succ]; rfl
                        case azz63 => kernel_rfl
                        case bzz63 => kernel_rfl
                        case czz63 => kernel_rfl
                        case yzz63 =>
                          refine Or.inl ⟨by rfl, ?_⟩
                          intro w hSw
                          obtain ⟨⟨s0, s1, s2, s3, s4⟩, s5⟩ := hSw
                          go_simp
                          try with_reducible rfl
                        case qzz63 => exact fun _ _ _ h => h
                        case szz63 => assumption
                        case' rzz63 => simp only [Act.put, List.setIfInBounds_toArray, List.set_cons_zero, List.set_cons_succ]
                        refine wpAnyH_take (i := 12) (oi := ?ozz64) (v := ?vzz64) ?hzz64 ?azz64 ?bzz64 ?czz64 ?qzz64 ?yzz64 ?szz64 ?rzz64
                        case hzz64 => simp only [List.getElem?_toArray, List.getElem?_cons_zero, List.getElem?_cons_succ]; rfl
                        case azz64 => kernel_rfl
                        case bzz64 => kernel_rfl
                        case czz64 => kernel_rfl
                        case yzz64 =>
                          refine Or.inl ⟨by rfl, ?_⟩
                          intro w hSw
                          obtain ⟨⟨s0, s1, s2, s3, s4⟩, s5⟩ := hSw
                          go_simp
                          try with_reducible rfl
                        case qzz64 => exact fun _ _ _ h => h
                        case szz64 => assumption
                        case' rzz64 => simp only [Act.put, List.setIfInBounds_toArray, List.set_cons_zero, List.set_cons_succ]
                        refine wpAnyH_take (i := 13) (oi := ?ozz65) (v := ?vzz65) ?hzz65 ?azz65 ?bzz65 ?czz65 ?qzz65 ?yzz65 ?szz65 ?rzz65
                        case hzz65 => simp only [List.getElem?_toArray, List.getElem?_cons_zero, List.getElem?_cons_succ]; rfl
                        case azz65 => kernel_rfl
                        case bzz65 => kernel_rfl
                        case czz65 => kernel_rfl
                        case yzz65 =>
                          refine Or.inl ⟨by rfl, ?_⟩
                          intro w hSw
                          obtain ⟨⟨s0, s1, s2, s3, s4⟩, s5⟩ := hSw
                          go_simp
                          try with_reducible rfl
                        case qzz65 => exact fun _ _ _ h => h
                        case szz65 => assumption
                        case' rzz65 => simp only [Act.put, List.setIfInBounds_toArray, List.set_cons_zero, List.set_cons_succ]
                        refine wpAnyH_ready (rs := [15]) (by kernel_rfl) (by simp) ?_
                        refine AllReadyH.cons (o := ?ozz67) ?hzz67 (fun K hK => ?kzz67) ?mzz67
                        case hzz67 => simp only [List.getElem?_toArray, List.getElem?_cons_zero, List.getElem?_cons_succ]; rfl
                        case kzz67 =>
                          go_simp
                          refine hK.out _ _ ?Szz67 (fun hHeld => ?Rzz67)
                          case Szz67 =>
                            exact ⟨hHeld.1.far4 (by omega) (by rw [add_blk]; omega) _ _ _ _, far_cell4 (by intro h; simp at h) hHeld.2⟩
                          case Rzz67 =>
                            clear hK K
                            try simp only [Act.put, List.setIfInBounds_toArray, List.set_cons_zero, List.set_cons_succ]
                            refine wpAnyH_take (i := 16) (oi := ?ozz66) (v := ?vzz66) ?hzz66 ?azz66 ?bzz66 ?czz66 ?qzz66 ?yzz66 ?szz66 ?rzz66
                            case hzz66 => simp only [List.getElem?_toArray, List.getElem?_cons_zero, List.getElem?_cons_succ]; rfl
                            case azz66 => kernel_rfl
                            case bzz66 => kernel_rfl
                            case czz66 => kernel_rfl
                            case yzz66 =>
                              refine Or.inl ⟨by rfl, ?_⟩
                              intro w hSw
                              obtain ⟨⟨s0, s1, s2, s3, s4⟩, s5⟩ := hSw
                              go_simp
                              try with_reducible rfl
                            case qzz66 => exact fun _ _ _ h => h
                            case szz66 => assumption
                            case' rzz66 => simp only [Act.put, List.setIfInBounds_toArray, List.set_cons_zero, List.set_cons_succ]
                            refine wpAnyH_done (by kernel_rfl) ?_ _
                            go_wp2_with fail
                            go_meet
                            exact leaf_b BB.out.drew (Nat.le_refl _) HV.out (by repeat (first | exact Q.refl _ | refine Q.drew ?_ | refine Q.alloc ?_ _)) q4 ho4 HI.out.few
                        case' mzz67 => skip
                        exact AllReadyH.nil
                    case' mzz68 => skip
                    exact AllReadyH.nil
                case' mzz69 => skip
                exact AllReadyH.nil
            case' mzz71 => skip
            exact AllReadyH.nil
        case rest =>
          obtain ⟨g, A2, n2, c2, rfl, rfl, vg, vB, hgB, hgne, qx⟩ := hcut
          have VG := Lib.hid vg
          have VB := Lib.hid vB
          have QX := Lib.hid qx
          have PP := Lib.hid (And.intro hgB hgne)
          have lc : wc.cell? (la.add k) = some (.string l[k]) := box_ qx l0
          clear vg vB qx hgB hgne e0 e1 e2 e3 f0 f1 f2 f3 l0 l1 l2 l3 l4 BA BB KK HV
          obtain ⟨⟨e0, e1, e2, e3⟩, f0, f1, f2, f3⟩ := VB.out.dv.get
          obtain ⟨⟨g0, g1, g2, g3⟩, _⟩ := VG.out.dv.get
          have zB5 : w.heap.size ≤ B := zB
          by_cases hoff : d.off = true
          · obtain ⟨rfl, rfl⟩ := Prod.mk.inj (HO.out hoff)
            have K14 : Hid (∀ W : World, Files W A m r.fs → Files W A2 n2 r.fs → Calls Try.prog 31 #[dkv A m cc r.room r.fuse true, dkv A2 n2 c2 r.room r.fuse true] W fun e w' => e = .returned (.bool true) ∧ Q W w') := Lib.hid fun W h1 h2 => by
              have := same_any A A2 m cc n2 c2 r r W h1 h2 VB.out.dv.dsk.max VG.out.dv.dsk.max
              rw [hoff, show sameD r r = true by simp [sameD]] at this
              exact this
            rw [hoff] at e3 g3
            go_wp2_with fail
            refine (K14.out _ VB.out.dv.dsk.files VG.out.dv.dsk.files).mono ?_
            rintro e w6 ⟨rfl, q6⟩
            go_wp2
            go_ret
            exact ⟨rfl, (HJ.out.2.2.trans QX.out).trans q6⟩
          · have hal : Alive fuse d x k := HJ.out.2.1.resolve_left hoff
            have hoff' : d.off = false := by simpa using hoff
            have hlow := hal.low
            have HS := Lib.hid (HA.out hal)
            rw [hoff'] at e3
            clear hoff hoff' HA HO
            by_cases hfit : (l[k].size : Int) ≤ x
            · obtain ⟨rfl, hal'⟩ := HS.out.1 hfit
              have HAL := Lib.hid hal'
              clear hal' hal HS
              go_wp2
              go_roundw
              case rel => exact ⟨k + 1, x - (l[k].size : Int), by omega, by omega, by go_num, rfl, by omega, by omega, A2, n2, c2, r, DO.copy VG.out VB.out PP.out.1, HI.out, .inr HAL.out, (HJ.out.2.2.trans QX.out).set4 zB _ _ _ _⟩
              case measure => simp [intOf]; omega
            · obtain ⟨rfl, hof⟩ := HS.out.2 (by omega)
              rw [show r.off = true from hof] at g3
              have HOF := Lib.hid hof
              clear hof hal HS
              go_wp2
              go_roundw
              case rel => exact ⟨k + 1, x - (l[k].size : Int), by omega, by omega, by go_num, rfl, by omega, by omega, A2, n2, c2, r, DO.copyT VG.out VB.out PP.out.1 HOF.out, HI.out, .inl HOF.out, (HJ.out.2.2.trans QX.out).set4 zB _ _ _ _⟩
              case measure => simp [intOf]; omega

    · by_cases hkn : k < n
      case' pos =>
        have hk300 : ¬ k < 100 := fun h => hlt ⟨hkn, h⟩
        clear hlt
      case' neg => clear hlt
      all_goals
        go_wp2
        go_ret
        exact ⟨rfl, HJ.out.2.2⟩

theorem opened (W : World) (args : Array Value) (hn : args.size = 2) (h : ∀ (j : Nat) t v, Try.f10.params[j]? = some t → args[j]? = some v → RdV W t v) :
    Calls Try.prog 10 args W fun e W' => e = .returned (.bool true) ∧ Q W W' := by
  obtain ⟨v, a, rfl⟩ := args2 hn
  rw [Try.params10] at h
  obtain ⟨fuse, rfl, hf⟩ := (h 0 3 v rfl rfl).int Try.underlying3
  obtain ⟨L, n, c, rfl, hr⟩ := (h 1 66 a rfl rfl).slice Try.underlying66
  obtain ⟨L', n', c', l, e, hl, hn⟩ := open_strs hr
  simp at e
  obtain ⟨rfl, rfl, rfl⟩ := e
  by_cases hh : fuse < 0 ∨ 10000 < fuse
  · exact walk_up fuse L n c W hh
  · exact walk_main fuse L n c l W (by omega) (by omega) hl hn

set_option maxRecDepth 100000 in
theorem lifted (os : Os) (started : os.Started) (H : Type) (enc : TypeId × Value → H) :
    ReturnsInHanded {} Try.checked os 10 .any (Rows.diskArmsSpec.pre6 enc Try.prog Try.f10 Rows.diskArmsRow.domain false) (Rows.diskArmsSpec.post enc Try.prog Try.f10 false true false false) :=
  framed 2 Try.func10 (by rw [Try.params10]; rfl) rfl (by kernel_rfl) (by kernel_rfl) (by kernel_rfl)
    (fun H ds h => by match ds, h with | [d0, d1], _ => exact ⟨rfl, rfl, rfl⟩)
    opened os started H enc
    (ChangeSpec.witness6 (enc := enc) (C := Try.checked) false ⟨#[], #[.int .i64 0, .slice none 0 0], []⟩ 8 (by kernel_rfl) (by kernel_rfl) (by kernel_rfl) (by kernel_rfl))

theorem over : Rows.diskArmsRow.holds Try.pinned (OpenSpec.ofChange Rows.diskArmsSpec) :=
  OpenClaim.holds_of_wide 10 Try.f10 rfl rfl rfl rfl rfl rfl rfl ⟨rfl, rfl, rfl, rfl, rfl⟩ rfl rfl rfl rfl rfl (by kernel_rfl) Try.func10 (by kernel_rfl)
    (of_decide_eq_true (by kernel_rfl)) (by unfold Func.isWrapper; first | (rw [if_pos (by decide +kernel)]; kernel_rfl) | (rw [if_neg (by decide +kernel)]; exact ⟨rfl, rfl⟩))
    (fun os started H enc _ => lifted os started H enc)

theorem proved : Rows.DiskArmsSaid := over
end Go.Proofs.Ytpjadjbniddmgaa.diskArms

