/- What comes in: files, disks, lists of integers, opened out of a reading. -/
import Derived.Test.YtpjadjbniddmgaaFrame
import Derived.Test.YtpjadjbniddmgaaDiskMath2
import Derived.Test.YtpjadjbniddmgaaDiskOwn
namespace Go.Proofs.Ytpjadjbniddmgaa
open Go.ChangeShapes Go.WideShapes Go.RowKit Dkm
set_option linter.unusedVariables false

theorem choose_list {α : Type} {R : Nat → α → Prop} : ∀ (n : Nat), (∀ i, i < n → ∃ a, R i a) → ∃ l : List α, l.length = n ∧ ∀ i (hi : i < l.length), R i l[i]
  | 0, _ => ⟨[], rfl, fun i hi => by simp at hi⟩
  | n + 1, h => by
    obtain ⟨l, hl, hr⟩ := choose_list n (fun i hi => h i (by omega))
    obtain ⟨a, ha⟩ := h n (by omega)
    refine ⟨l ++ [a], by simp [hl], fun i hi => ?_⟩
    by_cases hlt : i < l.length
    · rw [List.getElem_append_left hlt]; exact hr i hlt
    · have e : i = l.length := by simp at hi; omega
      subst e
      rw [List.getElem_append_right (Nat.le_refl _)]
      simpa [hl] using ha

theorem flat_at {α : Type} (g : α → List Value) (k : Nat) (hg : ∀ a, (g a).length = k) : ∀ (l : List α) (j : Nat) (u : Value), (l.flatMap g)[j]? = some u → ∃ i r, ∃ hi : i < l.length, j = i * k + r ∧ r < k ∧ (g l[i])[r]? = some u
  | [], j, u, h => by simp at h
  | a :: l, j, u, h => by
    rw [List.flatMap_cons] at h
    by_cases hj : j < k
    · rw [List.getElem?_append_left (by rw [hg]; exact hj)] at h
      exact ⟨0, j, by simp, by omega, hj, by simpa using h⟩
    · rw [List.getElem?_append_right (by rw [hg]; omega), hg] at h
      obtain ⟨i, r, hi, he, hr, hu⟩ := flat_at g k hg l (j - k) u h
      refine ⟨i + 1, r, by simpa using hi, ?_, hr, by simpa using hu⟩
      rw [Nat.succ_mul]; omega
theorem flat_len {α : Type} (g : α → List Value) (k : Nat) (hg : ∀ a, (g a).length = k) : ∀ (l : List α), (l.flatMap g).length = l.length * k
  | [] => by simp
  | a :: l => by rw [List.flatMap_cons, List.length_append, hg, flat_len g k hg l, List.length_cons, Nat.succ_mul]; omega
theorem holds_flat {α : Type} (g : α → List Value) (k : Nat) (hg : ∀ a, (g a).length = k) (w : World) (ad : Addr) (l : List α) (h : ∀ i (hi : i < l.length), w.cells? 0 (ad.add (i * k)) k = some (g l[i])) :
    Holds w w.heap.size k (some ad) l.length (l.flatMap g) := by
  refine ⟨flat_len g k hg l, fun j u hu => ?_⟩
  obtain ⟨i, r, hi, rfl, hr, hv⟩ := flat_at g k hg l j u hu
  obtain ⟨_, _, hat⟩ := World.cells?_some (h i hi)
  have hc := hat r hr
  rw [hv, addr_add] at hc
  refine ⟨ad, rfl, ?_, hc⟩
  have := block_lt_of_cell hc
  rwa [addr_block] at this

theorem rows_flat (l : List Fil) : rows l = l.flatMap Fil.row := by
  induction l with
  | nil => rfl
  | cons f l ih => rw [rows, ih, List.flatMap_cons]

/-- a file's texts are within the reach. -/
def FilIn (f : Fil) : Prop := f.nm.size ≤ 140737488351232 ∧ f.sf.size ≤ 140737488351232 ∧ f.wt.size ≤ 140737488351232

theorem open_file {w : World} {cs : List Value} (h : Rd w 29 cs) : ∃ f : Fil, cs = f.row ∧ FilIn f := by
  obtain ⟨hl, hf⟩ := h.struct Try.underlying29
  rw [show Try.prog.cellsOf 29 = 3 by kernel_rfl] at hl
  match cs, hl with
  | [a, b, c], _ =>
    obtain ⟨s0, e0, r0⟩ := (h.field Try.underlying29 0 (ty := 9) 0 1 rfl (by kernel_rfl)).string Try.underlying9
    obtain ⟨s1, e1, r1⟩ := (h.field Try.underlying29 1 (ty := 9) 1 1 rfl (by kernel_rfl)).string Try.underlying9
    obtain ⟨s2, e2, r2⟩ := (h.field Try.underlying29 2 (ty := 9) 2 1 rfl (by kernel_rfl)).string Try.underlying9
    simp at e0 e1 e2
    subst e0 e1 e2
    exact ⟨⟨s0, s1, s2⟩, rfl, r0, r1, r2⟩

theorem open_files {w : World} {cs : List Value} (h : Rd w 22 cs) : ∃ A n c l, cs = [.slice A n c] ∧ Dsk w A n c l ∧ ∀ f ∈ l, FilIn f := by
  rcases h.slice Try.underlying22 with rfl | ⟨a, len, cap, rfl, hlc, hcm, hby, hi⟩
  · exact ⟨none, 0, 0, [], rfl, ⟨Holds.none_ _ _ _ _, fun _ => ⟨rfl, rfl⟩, Nat.le_refl _, Nat.zero_le _, by omega⟩, by simp⟩
  · rw [show Try.prog.bytesOf 29 = 48 by kernel_rfl] at hby
    rw [show Try.prog.cellsOf 29 = 3 by kernel_rfl] at hi
    obtain ⟨l, hl, hr⟩ := choose_list (R := fun i (f : Fil) => w.cells? 0 (a.add (i * 3)) 3 = some f.row ∧ FilIn f) len (fun i hlt => by
      obtain ⟨cs', hc, hrd⟩ := hi i (by omega)
      obtain ⟨f, rfl, hf⟩ := open_file hrd
      exact ⟨f, hc, hf⟩)
    refine ⟨some a, len, cap, l, rfl, ⟨?_, fun e => by (cases e), hlc, hcm, by omega⟩, fun f hf => ?_⟩
    · have := holds_flat Fil.row 3 (fun f => rfl) w a l (fun i hi => (hr i hi).1)
      rw [hl, ← rows_flat] at this
      exact this
    · obtain ⟨i, hi, rfl⟩ := List.getElem_of_mem hf
      exact (hr i hi).2

theorem flat_one (f : Int → Value) : ∀ (l : List Int), l.flatMap (fun x : Int => [f x]) = l.map f
  | [] => rfl
  | a :: l => by rw [List.flatMap_cons, flat_one f l]; rfl
theorem open_ints {w : World} {cs : List Value} (h : Rd w 47 cs) : ∃ A n c ks, cs = [.slice A n c] ∧ Ints w A n ks ∧ n * 8 ≤ 140737488351232 ∧ n ≤ c ∧ ∀ x ∈ ks, (Lit.int .i64 x).wf = true := by
  rcases h.slice Try.underlying47 with rfl | ⟨a, len, cap, rfl, hlc, hcm, hby, hi⟩
  · exact ⟨none, 0, 0, [], rfl, Holds.none_ _ _ _ _, by omega, by omega, by simp⟩
  · rw [show Try.prog.bytesOf 3 = 8 by kernel_rfl] at hby
    rw [show Try.prog.cellsOf 3 = 1 by kernel_rfl] at hi
    obtain ⟨l, hl, hr⟩ := choose_list (R := fun i (x : Int) => w.cells? 0 (a.add (i * 1)) 1 = some [.int .i64 x] ∧ (Lit.int .i64 x).wf = true) len (fun i hlt => by
      obtain ⟨cs', hc, hrd⟩ := hi i (by omega)
      obtain ⟨x, rfl, hx⟩ := hrd.int Try.underlying3
      exact ⟨x, hc, hx⟩)
    refine ⟨some a, len, cap, l, rfl, ?_, by omega, hlc, fun x hx => ?_⟩
    · have := holds_flat (fun x : Int => [Value.int .i64 x]) 1 (fun f => rfl) w a l (fun i hi => (hr i hi).1)
      rw [hl, flat_one] at this
      exact this
    · obtain ⟨i, hi, rfl⟩ := List.getElem_of_mem hx
      exact (hr i hi).2

/-- a disk as it comes in. -/
structure DkIn (w : World) (A : Option Addr) (n c : Nat) (d : Dk) : Prop where
  dsk : Dsk w A n c d.fs
  fil : ∀ f ∈ d.fs, FilIn f
  room : -9223372036854775808 ≤ d.room ∧ d.room ≤ 9223372036854775807
  fuse : -9223372036854775808 ≤ d.fuse ∧ d.fuse ≤ 9223372036854775807
theorem wf_i64 {x : Int} (h : (Lit.int .i64 x).wf = true) : -9223372036854775808 ≤ x ∧ x ≤ 9223372036854775807 := by
  simp only [Lit.wf, Bool.and_eq_true, decide_eq_true_eq] at h
  have e1 : IntKind.i64.min = -9223372036854775808 := by decide
  have e2 : IntKind.i64.max = 9223372036854775807 := by decide
  omega
theorem open_disk {w : World} {cs : List Value} (h : Rd w 24 cs) : ∃ A n c d, cs = [.slice A n c, .int .i64 d.room, .int .i64 d.fuse, .bool d.off] ∧ DkIn w A n c d := by
  obtain ⟨hl, hf⟩ := h.struct Try.underlying24
  rw [show Try.prog.cellsOf 24 = 4 by kernel_rfl] at hl
  match cs, hl with
  | [x, y, z, u], _ =>
    obtain ⟨A, n, c, l, e0, hd, hi⟩ := open_files (h.field Try.underlying24 0 (ty := 22) 0 1 rfl (by kernel_rfl))
    obtain ⟨r, e1, hr⟩ := (h.field Try.underlying24 1 (ty := 3) 1 1 rfl (by kernel_rfl)).int Try.underlying3
    obtain ⟨s, e2, hs⟩ := (h.field Try.underlying24 2 (ty := 3) 2 1 rfl (by kernel_rfl)).int Try.underlying3
    obtain ⟨b, e3⟩ := (h.field Try.underlying24 3 (ty := 4) 3 1 rfl (by kernel_rfl)).bool Try.underlying4
    simp at e0 e1 e2 e3
    subst e0 e1 e2 e3
    exact ⟨A, n, c, ⟨l, r, s, b⟩, rfl, hd, hi, wf_i64 hr, wf_i64 hs⟩

theorem open_act {w : World} {cs : List Value} (h : Rd w 56 cs) : ∃ (kind num : Int) (nm s : ByteArray), cs = [.int .i64 kind, .int .i64 num, .string nm, .string s] ∧ (-9223372036854775808 ≤ num ∧ num ≤ 9223372036854775807) ∧ nm.size ≤ 140737488351232 ∧ s.size ≤ 140737488351232 := by
  obtain ⟨hl, _⟩ := h.struct Try.underlying56
  rw [show Try.prog.cellsOf 56 = 4 by kernel_rfl] at hl
  match cs, hl with
  | [x, y, z, u], _ =>
    obtain ⟨a, e0, _⟩ := (h.field Try.underlying56 0 (ty := 3) 0 1 rfl (by kernel_rfl)).int Try.underlying3
    obtain ⟨b, e1, hb⟩ := (h.field Try.underlying56 1 (ty := 3) 1 1 rfl (by kernel_rfl)).int Try.underlying3
    obtain ⟨c, e2, hc⟩ := (h.field Try.underlying56 2 (ty := 9) 2 1 rfl (by kernel_rfl)).string Try.underlying9
    obtain ⟨d, e3, hd⟩ := (h.field Try.underlying56 3 (ty := 9) 3 1 rfl (by kernel_rfl)).string Try.underlying9
    simp at e0 e1 e2 e3
    subst e0 e1 e2 e3
    exact ⟨a, b, c, d, rfl, wf_i64 hb, hc, hd⟩
/-- an act. -/
structure Ac where
  kind : Int
  num : Int
  nm : ByteArray
  s : ByteArray
def Ac.row (a : Ac) : List Value := [.int .i64 a.kind, .int .i64 a.num, .string a.nm, .string a.s]
def AcIn (a : Ac) : Prop := (-9223372036854775808 ≤ a.num ∧ a.num ≤ 9223372036854775807) ∧ a.nm.size ≤ 140737488351232 ∧ a.s.size ≤ 140737488351232
/-- a slice of acts reads so. -/
def Acts (w : World) (A : Option Addr) (n : Nat) (l : List Ac) : Prop := Holds w w.heap.size 4 A n (l.flatMap Ac.row)
theorem Acts.q {w w' : World} {A : Option Addr} {n : Nat} {l : List Ac} (h : Acts w A n l) (hq : Q w w') : Acts w' A n l := Holds.q h hq
theorem Acts.len {w : World} {A : Option Addr} {n : Nat} {l : List Ac} (h : Acts w A n l) : l.length = n := by
  have := h.1; rw [flat_len Ac.row 4 (fun _ => rfl)] at this; omega
theorem flat_get {α : Type} (g : α → List Value) (k : Nat) (hg : ∀ a, (g a).length = k) : ∀ (l : List α) (i : Nat) (hi : i < l.length) (r : Nat), r < k → (l.flatMap g)[i * k + r]? = (g l[i])[r]?
  | a :: l, 0, hi, r, hr => by
    rw [List.flatMap_cons, Nat.zero_mul, Nat.zero_add, List.getElem?_append_left (by rw [hg]; exact hr)]; rfl
  | a :: l, i + 1, hi, r, hr => by
    rw [List.flatMap_cons, List.getElem?_append_right (by rw [hg, Nat.succ_mul]; omega), hg, show (i + 1) * k + r - k = i * k + r by rw [Nat.succ_mul]; omega]
    exact flat_get g k hg l i (by simpa using hi) r hr
theorem Acts.load {w : World} {A : Option Addr} {n : Nat} {l : List Ac} (h : Acts w A n l) {k : Nat} (hl : k < l.length) :
    ∃ ad, A = some ad ∧ ad.block < w.heap.size ∧ w.cell? (ad.add (k * 4)) = some (.int .i64 l[k].kind) ∧ w.cell? ⟨(ad.add (k * 4)).block, (ad.add (k * 4)).off + 1, none⟩ = some (.int .i64 l[k].num) ∧
      w.cell? ⟨(ad.add (k * 4)).block, (ad.add (k * 4)).off + 2, none⟩ = some (.string l[k].nm) ∧ w.cell? ⟨(ad.add (k * 4)).block, (ad.add (k * 4)).off + 3, none⟩ = some (.string l[k].s) := by
  have g := fun r hr => flat_get Ac.row 4 (fun _ => rfl) l k hl r hr
  obtain ⟨ad, rfl, hb, c0⟩ := h.2 (k * 4 + 0) _ (g 0 (by omega))
  obtain ⟨_, e1, _, c1⟩ := h.2 (k * 4 + 1) _ (g 1 (by omega))
  obtain ⟨_, e2, _, c2⟩ := h.2 (k * 4 + 2) _ (g 2 (by omega))
  obtain ⟨_, e3, _, c3⟩ := h.2 (k * 4 + 3) _ (g 3 (by omega))
  injection e1 with e1; subst e1
  injection e2 with e2; subst e2
  injection e3 with e3; subst e3
  rw [← addr_add] at c1 c2 c3
  exact ⟨ad, rfl, hb, c0, c1, c2, c3⟩
theorem open_acts {w : World} {cs : List Value} (h : Rd w 53 cs) : ∃ A n c l, cs = [.slice A n c] ∧ Acts w A n l ∧ n ≤ 140737488351232 ∧ ∀ a ∈ l, AcIn a := by
  rcases h.slice Try.underlying53 with rfl | ⟨a, len, cap, rfl, hlc, hcm, hby, hi⟩
  · exact ⟨none, 0, 0, [], rfl, Holds.none_ _ _ _ _, by omega, by simp⟩
  · rw [show Try.prog.bytesOf 56 = 48 by kernel_rfl] at hby
    rw [show Try.prog.cellsOf 56 = 4 by kernel_rfl] at hi
    obtain ⟨l, hl, hr⟩ := choose_list (R := fun i (x : Ac) => w.cells? 0 (a.add (i * 4)) 4 = some x.row ∧ AcIn x) len (fun i hlt => by
      obtain ⟨cs', hc, hrd⟩ := hi i (by omega)
      obtain ⟨k, m, nm, s, rfl, h1, h2, h3⟩ := open_act hrd
      exact ⟨⟨k, m, nm, s⟩, hc, h1, h2, h3⟩)
    refine ⟨some a, len, cap, l, rfl, ?_, by omega, fun x hx => ?_⟩
    · have := holds_flat Ac.row 4 (fun _ => rfl) w a l (fun i hi => (hr i hi).1)
      rw [hl] at this
      exact this
    · obtain ⟨i, hi, rfl⟩ := List.getElem_of_mem hx
      exact (hr i hi).2
end Go.Proofs.Ytpjadjbniddmgaa
