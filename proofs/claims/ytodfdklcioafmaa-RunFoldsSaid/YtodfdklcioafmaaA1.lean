/- Base, DiskMath, Mem, Files, DiskFind, DiskOwn, Boxes: merged. -/
import Derived.Test.YtodfdklcioafmaaRows
import Derived.WalkKit
import Derived.WalkSpells
import Derived.WalkLawsBesides
import Derived.ProofKit
import Derived.OpenShut
import Derived.ShutString
import Derived.Lib.Hide
import Derived.Deep.QuietTactic
import Derived.BigQuiet
import Derived.Laws.IdiomStrings
import Derived.Laws.OwnMore
import Derived.Laws.Rows
import Derived.Deep.MidRow
import Derived.Deep.AppendLies
import Derived.Deep.Fields
import Derived.OwnWalk
import Derived.Maps.AppendAt
import Derived.Laws.AppendOwnNone
/- The words that all contracts share: 'Q w w'': behind the call all that was there is as it was. -/
namespace Go.Proofs.Ytodfdklcioafmaa
set_option maxRecDepth 100000
open Go.RowKit

def Q (w w' : World) : Prop := Below w.heap.size w w'
theorem Q.below {w w' : World} (h : Q w w') : Below w.heap.size w w' := h
theorem Q.refl (w : World) : Q w w := Below.refl _ _
theorem Q.trans {a b c : World} (h : Q a b) (k : Q b c) : Q a c := Below.trans h (Below.mono k h.below.size)
theorem Q.drew {a w : World} (h : Q a w) : Q a w.drew := Below.drew h
theorem Q.drewN {a w : World} (h : Q a w) (n : Nat) : Q a (w.drewN n) := ⟨h.below.os, h.below.tape, h.below.output, h.below.size, h.below.block⟩
theorem Q.alloc {a w : World} (h : Q a w) (o : Obj) : Q a (w.alloc o) := Below.alloc h h.below.size o
theorem Q.setCell {a w : World} (h : Q a w) {p : Addr} (hp : a.heap.size ≤ p.block) (u : Value) : Q a (w.setCell p u) := Below.setCell h hp u
theorem Q.set3 {a w : World} (h : Q a w) {b : Nat} (hb : a.heap.size ≤ b) (x y z : Value) : Q a (((w.setCell ⟨b, 0, none⟩ x).setCell ⟨b, 1, none⟩ y).setCell ⟨b, 2, none⟩ z) :=
  ((h.setCell (p := ⟨b, 0, none⟩) hb x).setCell (p := ⟨b, 1, none⟩) hb y).setCell (p := ⟨b, 2, none⟩) hb z
theorem Q.set4 {a w : World} (h : Q a w) {b : Nat} (hb : a.heap.size ≤ b) (x y z u : Value) : Q a ((((w.setCell ⟨b, 0, none⟩ x).setCell ⟨b, 1, none⟩ y).setCell ⟨b, 2, none⟩ z).setCell ⟨b, 3, none⟩ u) :=
  (h.set3 hb x y z).setCell (p := ⟨b, 3, none⟩) hb u
theorem Q.size {w w' : World} (h : Q w w') : w.heap.size ≤ w'.heap.size := h.below.size

theorem ret_int {k : IntKind} {a b : Int} (h : a = b) : Ending.returned (.int k a) = .returned (.int k b) := by rw [h]
theorem ret_bool {a b : Bool} (h : a = b) : Ending.returned (.bool a) = .returned (.bool b) := by rw [h]
end Go.Proofs.Ytodfdklcioafmaa

/- The disk of chapter 3 in plain mathematics: files, places, what each call makes of a disk. -/
namespace Go.Proofs.Ytodfdklcioafmaa.Dkm
set_option maxRecDepth 100000

structure Fil where
  nm : ByteArray
  sf : ByteArray
  wt : ByteArray

theorem Fil.ext_ {f g : Fil} (a : f.nm = g.nm) (b : f.sf = g.sf) (c : f.wt = g.wt) : f = g := by
  cases f; cases g; simp_all

/-- the first place, k on, of a name. -/
def plc (nm : ByteArray) : List Fil → Nat → Int
  | [], _ => -1
  | f :: l, k => if f.nm = nm then k else plc nm l (k + 1)

theorem plc_drop (nm : ByteArray) (l : List Fil) (k : Nat) (h : k < l.length) : plc nm (l.drop k) k = if l[k].nm = nm then (k : Int) else plc nm (l.drop (k + 1)) (k + 1) := by
  rw [List.drop_eq_getElem_cons h]; rfl
theorem plc_end (nm : ByteArray) (l : List Fil) (k : Nat) (h : l.length ≤ k) : plc nm (l.drop k) k = -1 := by
  rw [List.drop_eq_nil_of_le h]; rfl
theorem plc_from (nm : ByteArray) (l : List Fil) : ∀ m, (plc nm l m = -1 ∧ ∀ f ∈ l, f.nm ≠ nm) ∨ ∃ k, ∃ h : k < l.length, plc nm l m = ((m + k : Nat) : Int) ∧ l[k].nm = nm ∧ ∀ j, ∀ h : j < l.length, j < k → l[j].nm ≠ nm := by
  induction l with
  | nil => intro m; left; exact ⟨rfl, by simp⟩
  | cons f l ih =>
    intro m
    by_cases hf : f.nm = nm
    · right; exact ⟨0, by simp, by simp [plc, hf], by simpa using hf, fun j h hj => by omega⟩
    · rcases ih (m + 1) with ⟨h1, h2⟩ | ⟨k, hk, h1, h2, h3⟩
      · left
        refine ⟨by simp [plc, hf, h1], ?_⟩
        intro g hg
        rcases List.mem_cons.1 hg with rfl | hg
        · exact hf
        · exact h2 g hg
      · right
        refine ⟨k + 1, by simpa using hk, by simp only [plc, hf, if_false, h1]; omega, by simpa using h2, ?_⟩
        intro j hj hjk
        cases j with
        | zero => simpa using hf
        | succ j => simpa using h3 j (by simpa using hj) (by omega)
theorem plc_cases (nm : ByteArray) (l : List Fil) : (plc nm l 0 = -1 ∧ ∀ f ∈ l, f.nm ≠ nm) ∨ ∃ k, ∃ h : k < l.length, plc nm l 0 = (k : Int) ∧ l[k].nm = nm ∧ ∀ j, ∀ h : j < l.length, j < k → l[j].nm ≠ nm := by
  rcases plc_from nm l 0 with h | ⟨k, h, e, r⟩
  · exact .inl h
  · exact .inr ⟨k, h, by simpa using e, r⟩

structure Dk where
  fs : List Fil
  room : Int
  fuse : Int
  off : Bool

/-- the file of a name, or an empty one behind all, and its place. -/
def opn (nm : ByteArray) (l : List Fil) : Fil × Nat :=
  match l.findIdx? (fun f => decide (f.nm = nm)) with
  | some k => (l.getD k ⟨nm, ⟨#[]⟩, ⟨#[]⟩⟩, k)
  | none => (⟨nm, ⟨#[]⟩, ⟨#[]⟩⟩, l.length)
theorem idx_none {nm : ByteArray} {l : List Fil} (h : ∀ f ∈ l, f.nm ≠ nm) : l.findIdx? (fun f => decide (f.nm = nm)) = none := by
  rw [List.findIdx?_eq_none_iff]; simpa using h
theorem idx_at {nm : ByteArray} {l : List Fil} {k : Nat} (hk : k < l.length) (hn : l[k].nm = nm) (hf : ∀ j, ∀ h : j < l.length, j < k → l[j].nm ≠ nm) : l.findIdx? (fun f => decide (f.nm = nm)) = some k := by
  rw [List.findIdx?_eq_some_iff_getElem]
  exact ⟨hk, by simpa using hn, fun j hj => by simpa using hf j (by omega) hj⟩
theorem opn_none {nm : ByteArray} {l : List Fil} (h : ∀ f ∈ l, f.nm ≠ nm) : opn nm l = (⟨nm, ⟨#[]⟩, ⟨#[]⟩⟩, l.length) := by
  unfold opn; rw [idx_none h]
theorem opn_at {nm : ByteArray} {l : List Fil} {k : Nat} (hk : k < l.length) (hn : l[k].nm = nm) (hf : ∀ j, ∀ h : j < l.length, j < k → l[j].nm ≠ nm) : opn nm l = (l[k], k) := by
  unfold opn; rw [idx_at hk hn hf]; simp [hk]

/-- a change needs power: the fuse, off, and why not. -/
def chg (at_ fuse : Int) (off : Bool) : Int × Bool × Int :=
  if at_ < 0 ∧ off = false then (fuse, off, 7) else if off = true ∨ fuse = 0 then (fuse, true, 6) else if 0 < fuse then (fuse - 1, off, 0) else (fuse, off, 0)

/-- the file of a name, and whether there is one. -/
def hit (nm : ByteArray) (l : List Fil) : Fil × Bool :=
  match l.find? (fun f => decide (f.nm = nm)) with
  | some f => (f, true)
  | none => (⟨⟨#[]⟩, ⟨#[]⟩, ⟨#[]⟩⟩, false)

theorem hit_none {nm : ByteArray} {l : List Fil} (h : ∀ f ∈ l, f.nm ≠ nm) : hit nm l = (⟨⟨#[]⟩, ⟨#[]⟩, ⟨#[]⟩⟩, false) := by
  unfold hit
  rw [List.find?_eq_none.2 (by simpa using h)]
theorem hit_at {nm : ByteArray} {l : List Fil} {k : Nat} (hk : k < l.length) (hn : l[k].nm = nm) (hf : ∀ j, ∀ h : j < l.length, j < k → l[j].nm ≠ nm) : hit nm l = (l[k], true) := by
  unfold hit
  have : l.find? (fun f => decide (f.nm = nm)) = some l[k] := by
    rw [List.find?_eq_some_iff_getElem]
    exact ⟨by simpa using hn, k, hk, rfl, fun j hj => by simpa using hf j (by omega) hj⟩
  rw [this]

/-- what Sync makes of a disk. -/
def syn (d : Dk) (nm : ByteArray) : Dk × Int :=
  if d.off then (d, 6)
  else if (hit nm d.fs).2 then ({ d with fs := d.fs.set (opn nm d.fs).2 ⟨(hit nm d.fs).1.nm, (hit nm d.fs).1.sf ++ (hit nm d.fs).1.wt, ⟨#[]⟩⟩ }, 0) else (d, 7)
theorem syn_none {nm : ByteArray} {l : List Fil} {room fuse : Int} (h : ∀ f ∈ l, f.nm ≠ nm) : syn ⟨l, room, fuse, false⟩ nm = (⟨l, room, fuse, false⟩, 7) := by
  simp [syn, hit_none h]
theorem syn_at {nm : ByteArray} {l : List Fil} {room fuse : Int} {k : Nat} (hk : k < l.length) (hn : l[k].nm = nm) (hf : ∀ j, ∀ h : j < l.length, j < k → l[j].nm ≠ nm) :
    syn ⟨l, room, fuse, false⟩ nm = (⟨l.set k ⟨l[k].nm, l[k].sf ++ l[k].wt, ⟨#[]⟩⟩, room, fuse, false⟩, 0) := by
  simp [syn, hit_at hk hn hf, opn_at hk hn hf]

def nmOk (nm : ByteArray) : Bool := decide (1 ≤ nm.size ∧ nm.size ≤ 16)

/-- a text cut by the fuse. -/
def short (fuse : Int) (s : ByteArray) : Bool := decide (0 ≤ fuse ∧ fuse < s.size)
def cut (fuse : Int) (s : ByteArray) : ByteArray := if short fuse s then s.extract 0 fuse.toNat else s
def put (l : List Fil) (k : Nat) (f : Fil) : List Fil := if k = l.length then l ++ [f] else l.set k f
/-- what Append makes of a disk. -/
def appd (d : Dk) (nm s : ByteArray) : Dk × Int :=
  if d.off then (d, 6)
  else if nmOk nm = false then (d, 1)
  else if ((opn nm d.fs).2 = d.fs.length ∧ 64 ≤ d.fs.length) ∨ d.room < s.size then (d, 5)
  else if 65536 < (opn nm d.fs).1.sf.size + (opn nm d.fs).1.wt.size + s.size then (d, 4)
  else (⟨put d.fs (opn nm d.fs).2 ⟨(opn nm d.fs).1.nm, (opn nm d.fs).1.sf, (opn nm d.fs).1.wt ++ cut d.fuse s⟩, d.room - (cut d.fuse s).size, if 0 ≤ d.fuse then d.fuse - (cut d.fuse s).size else d.fuse, short d.fuse s⟩, if short d.fuse s then 6 else 0)
theorem opn_le (nm : ByteArray) (l : List Fil) : (opn nm l).2 ≤ l.length := by
  rcases plc_cases nm l with ⟨_, h⟩ | ⟨k, hk, _, hn, hf⟩
  · rw [opn_none h]; exact Nat.le_refl _
  · rw [opn_at hk hn hf]; exact Nat.le_of_lt hk

/-- what is read: the file's bytes, or 7. -/
def redd (nm : ByteArray) (l : List Fil) : ByteArray × Int :=
  if (hit nm l).2 then ((hit nm l).1.sf ++ (hit nm l).1.wt, 0) else (⟨#[]⟩, 7)
theorem redd_none {nm : ByteArray} {l : List Fil} (h : ∀ f ∈ l, f.nm ≠ nm) : redd nm l = (⟨#[]⟩, 7) := by
  unfold redd; rw [hit_none h]; rfl
theorem redd_at {nm : ByteArray} {l : List Fil} {k : Nat} (hk : k < l.length) (hn : l[k].nm = nm) (hf : ∀ j, ∀ h : j < l.length, j < k → l[j].nm ≠ nm) : redd nm l = (l[k].sf ++ l[k].wt, 0) := by
  unfold redd; rw [hit_at hk hn hf]; rfl
end Go.Proofs.Ytodfdklcioafmaa.Dkm

/- Memory: addresses, what a slice holds, cells that are as they were; strings that are the same. -/
namespace Go.Proofs.Ytodfdklcioafmaa
set_option maxRecDepth 100000
open Go.RowKit
set_option linter.unusedVariables false

theorem addr_add (a : Addr) (i j : Nat) : (a.add i).add j = a.add (i + j) := by
  unfold Addr.add
  by_cases hi : i = 0 <;> by_cases hj : j = 0 <;> simp [hi, hj, Nat.add_assoc]
theorem addr_block (a : Addr) (i : Nat) : (a.add i).block = a.block := by
  unfold Addr.add; split <;> rfl

/-- The slice '.slice A n c' holds the cells xs (k of them each element), below block B. -/
def Holds (w : World) (B k : Nat) (A : Option Addr) (n : Nat) (xs : List Value) : Prop :=
  xs.length = n * k ∧ ∀ j u, xs[j]? = some u → ∃ ad, A = some ad ∧ ad.block < B ∧ w.cell? (ad.add j) = some u

theorem Holds.carry {w w' : World} {B B' k : Nat} {A : Option Addr} {n : Nat} {xs : List Value} (h : Holds w B k A n xs) (hB : B ≤ B') (hc : ∀ p : Addr, p.block < B → w'.cell? p = w.cell? p) : Holds w' B' k A n xs :=
  ⟨h.1, fun j u hu => by
    obtain ⟨ad, e, hb, hx⟩ := h.2 j u hu
    exact ⟨ad, e, by omega, (hc _ (by rw [addr_block]; exact hb)).trans hx⟩⟩
theorem Holds.q {w w' : World} {k : Nat} {A : Option Addr} {n : Nat} {xs : List Value} (h : Holds w w.heap.size k A n xs) (hq : Q w w') : Holds w' w'.heap.size k A n xs :=
  h.carry hq.size fun _ hp => hq.below.cell hp
theorem Holds.none_ (w : World) (B k : Nat) (A : Option Addr) : Holds w B k A 0 [] := ⟨by simp, fun j u h => by simp at h⟩

theorem bcell {W w1 : World} (hb : Below W.heap.size W w1) : (∀ b o, b < W.heap.size → w1.cell? ⟨b, o, none⟩ = W.cell? ⟨b, o, none⟩) ∧ (∀ b o, b < W.heap.size → w1.frozen? ⟨b, o, none⟩ = W.frozen? ⟨b, o, none⟩) :=
  ⟨fun b o h => hb.cell (p := ⟨b, o, none⟩) h, fun b o h => hb.frozen (p := ⟨b, o, none⟩) h⟩

theorem same_str (a b : ByteArray) : (a.toList == b.toList) = decide (a = b) := by
  by_cases h : a = b
  · subst h; simp
  · have : ¬ a.toList = b.toList := fun e => h (by
      have e1 : a.data.toList = b.data.toList := by simpa [ByteArray.toList_eq] using e
      exact ByteArray.ext (Array.ext' e1))
    simp [h, this]

theorem str_inj (a b : ByteArray) : (a.toList = b.toList) = (a = b) := by
  refine propext ⟨fun h => ?_, fun h => by rw [h]⟩
  have e := same_str a b
  rw [h] at e
  simpa using e

theorem box_ {W w1 : World} (q : Q W w1) {p : Addr} {v : Value} (h : W.cell? p = some v) : w1.cell? p = some v := (q.below.cell (block_lt_of_cell h)).trans h
theorem box4 {W w1 : World} (q : Q W w1) {b : Nat} {x y z u : Value} (h0 : W.cell? ⟨b, 0, none⟩ = some x) (h1 : W.cell? ⟨b, 1, none⟩ = some y) (h2 : W.cell? ⟨b, 2, none⟩ = some z) (h3 : W.cell? ⟨b, 3, none⟩ = some u) :
    w1.cell? ⟨b, 0, none⟩ = some x ∧ w1.cell? ⟨b, 1, none⟩ = some y ∧ w1.cell? ⟨b, 2, none⟩ = some z ∧ w1.cell? ⟨b, 3, none⟩ = some u := ⟨box_ q h0, box_ q h1, box_ q h2, box_ q h3⟩
theorem box3 {W w1 : World} (q : Q W w1) {b : Nat} {x y z : Value} (h0 : W.cell? ⟨b, 0, none⟩ = some x) (h1 : W.cell? ⟨b, 1, none⟩ = some y) (h2 : W.cell? ⟨b, 2, none⟩ = some z) :
    w1.cell? ⟨b, 0, none⟩ = some x ∧ w1.cell? ⟨b, 1, none⟩ = some y ∧ w1.cell? ⟨b, 2, none⟩ = some z := ⟨box_ q h0, box_ q h1, box_ q h2⟩

end Go.Proofs.Ytodfdklcioafmaa

/- Files in memory: a list of files as the cells of a slice; what is read of it. -/
namespace Go.Proofs.Ytodfdklcioafmaa
set_option maxRecDepth 100000
open Go.RowKit Dkm
set_option linter.unusedVariables false

def Dkm.Fil.row (f : Fil) : List Value := [.string f.nm, .string f.sf, .string f.wt]
abbrev Dkm.Fil.val (f : Fil) : Value := .agg #[.string f.nm, .string f.sf, .string f.wt]
def rows : List Fil → List Value
  | [] => []
  | f :: l => f.row ++ rows l

theorem rows_length (l : List Fil) : (rows l).length = l.length * 3 := by
  induction l with
  | nil => rfl
  | cons f l ih => simp only [rows, List.length_append, ih, List.length_cons, Fil.row, List.length_nil]; omega
theorem rows_append (l m : List Fil) : rows (l ++ m) = rows l ++ rows m := by
  induction l with
  | nil => rfl
  | cons f l ih => simp [rows, ih]
theorem rows_at (l : List Fil) (k : Nat) (h : k < l.length) (j : Nat) (hj : j < 3) : (rows l)[k * 3 + j]? = (l[k]).row[j]? := by
  induction l generalizing k with
  | nil => simp at h
  | cons f l ih =>
    cases k with
    | zero =>
      simp only [rows, Nat.zero_mul, Nat.zero_add, List.getElem_cons_zero]
      exact List.getElem?_append_left (by simpa [Fil.row] using hj)
    | succ k =>
      simp only [rows, List.getElem_cons_succ]
      rw [List.getElem?_append_right (by simp [Fil.row]; omega), ← ih k (by simpa using h)]
      congr 1
      simp [Fil.row]; omega
theorem rows_one (l : List Fil) : ∀ u ∈ rows l, u.oneCell' = true := by
  induction l with
  | nil => simp [rows]
  | cons f l ih =>
    intro u hu
    rcases List.mem_append.1 hu with h | h
    · simp only [Fil.row, List.mem_cons, List.not_mem_nil, or_false] at h
      rcases h with rfl | rfl | rfl <;> rfl
    · exact ih u h

def Files (w : World) (A : Option Addr) (n : Nat) (l : List Fil) : Prop := Holds w w.heap.size 3 A n (rows l)
theorem Files.q {w w' : World} {A : Option Addr} {n : Nat} {l : List Fil} (h : Files w A n l) (hq : Q w w') : Files w' A n l := Holds.q h hq
theorem Files.len {w : World} {A : Option Addr} {n : Nat} {l : List Fil} (h : Files w A n l) : l.length = n := by
  have := h.1; rw [rows_length] at this; omega

/-- What a load of the file in place k reads. -/
theorem Files.load {w : World} {A : Option Addr} {n : Nat} {l : List Fil} (h : Files w A n l) {k : Nat} (hk : k < n) (hl : k < l.length) :
    ∃ ad, A = some ad ∧ ad.block < w.heap.size ∧ w.cell? (ad.add (k * 3)) = some (.string l[k].nm) ∧ w.cell? ⟨(ad.add (k * 3)).block, (ad.add (k * 3)).off + 1, none⟩ = some (.string l[k].sf) ∧
      w.cell? ⟨(ad.add (k * 3)).block, (ad.add (k * 3)).off + 2, none⟩ = some (.string l[k].wt) := by
  have h0 := h.2 (k * 3 + 0) _ (rows_at l k hl 0 (by omega))
  have h1 := h.2 (k * 3 + 1) _ (rows_at l k hl 1 (by omega))
  have h2 := h.2 (k * 3 + 2) _ (rows_at l k hl 2 (by omega))
  obtain ⟨ad, rfl, hb, c0⟩ := h0
  obtain ⟨_, e1, _, c1⟩ := h1
  obtain ⟨_, e2, _, c2⟩ := h2
  injection e1 with e1; subst e1
  injection e2 with e2; subst e2
  rw [← addr_add] at c1 c2
  exact ⟨ad, rfl, hb, c0, c1, c2⟩
end Go.Proofs.Ytodfdklcioafmaa

/- Contracts: the place of a file, and the file, in the program and in the document's answer. -/
namespace Go.Proofs.Ytodfdklcioafmaa
set_option maxRecDepth 100000
open Go.RowKit Dkm
set_option linter.unusedVariables false

theorem place1 (f : Fil) (nm : ByteArray) (B : Nat) (w : World) (hB : B < w.heap.size) (hc : w.cell? ⟨B, 0, none⟩ = some (.string nm)) :
    Calls Try.prog 87 #[f.val, .pointer (some ⟨B, 0, none⟩)] w fun e w' => e = .returned (.bool (decide (f.nm = nm))) ∧ Q w w' := by
  obtain ⟨a, b, c⟩ := f
  go_enter Try.func87, Try.ntmps87
  go_wp2
  go_ret
  exact ⟨ret_bool (same_str a nm), (Q.refl _).alloc _⟩

set_option maxHeartbeats 1000000 in
theorem indexFunc (nm : ByteArray) (B : Nat) (A : Option Addr) (n c : Nat) (l : List Fil) (w : World) (hB : B < w.heap.size) (hc : w.cell? ⟨B, 0, none⟩ = some (.string nm)) (hf : Files w A n l) (hn : n ≤ maxLen) :
    Calls Try.prog 86 #[.slice A n c, .func (.func 87) #[] #[.pointer (some ⟨B, 0, none⟩)]] w fun e w' => e = .returned (.int .i64 (plc nm l 0)) ∧ Q w w' := by
  unfold maxLen at hn
  have HC := Lib.hid hc
  have HF := Lib.hid hf
  clear hc hf
  go_enter Try.func86, Try.ntmps86
  go_wp2
  go_loopw [8] (fun i wr => ∃ k : Nat, k ≤ n ∧ i = .int .i64 k ∧ Q w wr ∧ plc nm l 0 = plc nm (l.drop k) k) (fun i _ => n - (intOf i).toNat)
  case atStart => exact ⟨0, Nat.zero_le _, rfl, Q.refl _, rfl⟩
  case round =>
    obtain ⟨k, hk, rfl, hq, hp⟩ := hrel
    have HP := Lib.hid hp
    clear hp
    by_cases hlt : k < n
    · have hlen := HF.out.len
      have hkl : k < l.length := by omega
      obtain ⟨ad, rfl, hb, c0, c1, c2⟩ := (HF.out.q hq).load hlt hkl
      clear hlen
      have hcell : Hid (wr.cell? ⟨B, 0, none⟩ = some (.string nm)) := Lib.hid ((hq.below.cell (p := ⟨B, 0, none⟩) hB).trans HC.out)
      go_wp2_with fail
      refine (place1 l[k] nm B _ (Nat.lt_of_lt_of_le hB hq.size) hcell.out).mono ?_
      rintro e w1 ⟨rfl, q1⟩
      by_cases hh : l[k].nm = nm
      · have hd : decide (l[k].nm = nm) = true := by simpa using hh
        go_wp2
        go_ret
        exact ⟨ret_int (by rw [HP.out, plc_drop _ _ _ hkl, if_pos hh]), hq.trans q1⟩
      · have hd : decide (l[k].nm = nm) = false := by simpa using hh
        go_wp2
        go_roundw
        case rel => exact ⟨k + 1, by omega, by go_num, hq.trans q1, by rw [HP.out, plc_drop _ _ _ hkl, if_neg hh]⟩
        case measure => simp [intOf]; omega
    · have hlen := HF.out.len
      have HL := Lib.hid hlen
      clear hlen
      go_wp2
      go_ret
      exact ⟨ret_int (by rw [HP.out, plc_end _ _ _ (by have := HL.out; omega)]), hq⟩

abbrev dkv (A : Option Addr) (n c : Nat) (room fuse : Int) (off : Bool) : Value := .agg #[.slice A n c, .int .i64 room, .int .i64 fuse, .bool off]

set_option maxHeartbeats 1000000 in
theorem place (nm : ByteArray) (A : Option Addr) (n c : Nat) (room fuse : Int) (off : Bool) (l : List Fil) (w : World) (hf : Files w A n l) (hn : n ≤ maxLen) :
    Calls Try.prog 57 #[dkv A n c room fuse off, .string nm] w fun e w' => e = .returned (.int .i64 (plc nm l 0)) ∧ Q w w' := by
  have HF := Lib.hid hf
  clear hf
  go_enter Try.func57, Try.ntmps57
  go_wp2_with fail
  refine (indexFunc nm (w.heap.size + 1) A n c l _ (by simp) (by simp) (HF.out.q (((Q.refl _).alloc _).alloc _)) hn).mono ?_
  rintro e w1 ⟨rfl, q1⟩
  go_wp2
  go_ret
  exact ⟨rfl, (((Q.refl _).alloc _).alloc _).trans q1⟩

set_option maxHeartbeats 1000000 in
theorem ref_at (nm : ByteArray) (A : Option Addr) (n c : Nat) (room fuse : Int) (off : Bool) (l : List Fil) (w : World) (hf : Files w A n l) (hn : n ≤ maxLen) :
    Calls Try.prog 56 #[dkv A n c room fuse off, .string nm] w fun e w' => e = .returned (.int .i64 (plc nm l 0)) ∧ Q w w' := by
  unfold maxLen at hn
  have HF := Lib.hid hf
  clear hf
  go_enter Try.func56, Try.ntmps56
  go_wp2
  go_loop [5] (fun i => ∃ k : Nat, k ≤ n ∧ i = .int .i64 k ∧ plc nm l 0 = plc nm (l.drop k) k) (fun i => n - (intOf i).toNat)
  case atStart => exact ⟨0, Nat.zero_le _, rfl, rfl⟩
  case round =>
    obtain ⟨k, hk, rfl, hp⟩ := hrel
    have HP := Lib.hid hp
    have HL := Lib.hid HF.out.len
    clear hp
    by_cases hlt : k < n
    · have hkl : k < l.length := by have := HL.out; omega
      obtain ⟨ad, rfl, hb, c0, c1, c2⟩ := (HF.out.q ((Q.refl _).alloc (.cells #[.slice A n c, .int .i64 room, .int .i64 fuse, .bool off] 24))).load hlt hkl
      clear c1 c2
      by_cases hh : l[k].nm = nm
      · have hd : (l[k].nm.toList == nm.toList) = true := by rw [same_str]; simpa using hh
        have HH := Lib.hid hh
        clear hh
        go_wp2
        go_ret
        exact ⟨ret_int (by rw [HP.out, plc_drop _ _ _ hkl, if_pos HH.out]), (Q.refl _).alloc _⟩
      · have hd : (l[k].nm.toList == nm.toList) = false := by rw [same_str]; simpa using hh
        have HH := Lib.hid hh
        clear hh
        go_wp2
        go_round
        case rel => exact ⟨k + 1, by omega, by go_num, by rw [HP.out, plc_drop _ _ _ hkl, if_neg HH.out]⟩
        case measure => simp [intOf]; omega
    · go_wp2
      go_ret
      exact ⟨ret_int (by rw [HP.out, plc_end _ _ _ (by have := HL.out; omega)]), (Q.refl _).alloc _⟩

theorem named_any (nm : ByteArray) (w : World) :
    Calls Try.prog 62 #[.string nm] w fun e w' => e = .returned (.bool (nmOk nm)) ∧ w = w' := by
  by_cases h0 : nm.size = 0
  · obtain rfl : nm = ⟨#[]⟩ := ByteArray.ext (by apply Array.eq_empty_of_size_eq_zero; simpa using h0)
    have h : nmOk ⟨#[]⟩ = false := by decide
    rw [h]
    go_enter Try.func62, Try.ntmps62
    go_wp2
    go_ret
    exact ⟨rfl, rfl⟩
  · have h1 : nm.toList ≠ [] := by
      intro e
      have : nm.data.toList = [] := by simpa [ByteArray.toList_eq] using e
      have e2 : nm.data = #[] := by simpa using this
      exact h0 (by show nm.data.size = 0; rw [e2]; rfl)
    have h2 : nm.toList.isEmpty = false := by simpa using h1
    have h3 : (nm.toList == []) = false := by simpa using h1
    by_cases h4 : nm.size ≤ 16
    · have h : nmOk nm = true := by unfold nmOk; simp; omega
      rw [h]; clear h
      go_enter Try.func62, Try.ntmps62
      go_wp2
      go_ret
      exact ⟨ret_bool (by simp; omega), rfl⟩
    · have h : nmOk nm = false := by unfold nmOk; simp; omega
      rw [h]; clear h
      go_enter Try.func62, Try.ntmps62
      go_wp2
      go_ret
      exact ⟨ret_bool (by simp; omega), rfl⟩
theorem size_any (f : Fil) (w : World) (h : f.sf.size + f.wt.size ≤ maxLen) :
    Calls Try.prog 63 #[f.val] w fun e w' => e = .returned (.int .i64 ((f.sf.size + f.wt.size : Nat) : Int)) ∧ Q w w' := by
  unfold maxLen at h
  obtain ⟨a, b, c⟩ := f
  simp only at h
  go_enter Try.func63, Try.ntmps63
  go_wp2
  go_ret
  exact ⟨ret_int (by simp), (Q.refl _).alloc _⟩

set_option maxHeartbeats 1000000 in
theorem find_any (nm : ByteArray) (A : Option Addr) (n c : Nat) (room fuse : Int) (off : Bool) (l : List Fil) (w : World) (hf : Files w A n l) (hn : n ≤ maxLen) :
    Calls Try.prog 28 #[dkv A n c room fuse off, .string nm] w fun e w' => e = .returned (.tuple #[(hit nm l).1.val, .bool (hit nm l).2]) ∧ Q w w' := by
  have HF := Lib.hid hf
  have HN := Lib.hid hn
  unfold maxLen at hn
  clear hf
  rcases plc_cases nm l with ⟨hp, hall⟩ | ⟨k, hk, hp, hkn, hfirst⟩
  · rw [hit_none hall]
    have HP := Lib.hid hp
    clear hp hall
    go_enter Try.func28, Try.ntmps28
    go_wp2_with fail
    refine (place nm A n c room fuse off l _ (HF.out.q (((Q.refl _).alloc _).alloc _)) HN.out).mono ?_
    rintro e w1 ⟨rfl, q1⟩
    rw [HP.out]
    obtain ⟨hc, hz⟩ := bcell q1.below
    go_wp2
    exact bodyPost_ret (v := .tuple #[Fil.val ⟨⟨#[]⟩, ⟨#[]⟩, ⟨#[]⟩⟩, .bool false]) (by simp [results, Try.results28, go_sem, hc]) rfl ⟨rfl, ((((Q.refl _).alloc _).alloc _).trans q1).set3 (by simp) _ _ _⟩
  · rw [hit_at hk hkn hfirst]
    have HL := Lib.hid HF.out.len
    have hkn' : k < n := by have := HL.out; omega
    have HP := Lib.hid hp
    clear hp hkn hfirst
    go_enter Try.func28, Try.ntmps28
    go_wp2_with fail
    refine (place nm A n c room fuse off l _ (HF.out.q (((Q.refl _).alloc _).alloc _)) HN.out).mono ?_
    rintro e w1 ⟨rfl, q1⟩
    rw [HP.out]
    obtain ⟨ad, rfl, hb, c0, c1, c2⟩ := (HF.out.q ((((Q.refl _).alloc _).alloc _).trans q1)).load hkn' hk
    obtain ⟨hc, hz⟩ := bcell q1.below
    go_wp2
    exact bodyPost_ret (v := .tuple #[(l[k]).val, .bool true]) (by simp [results, Try.results28, go_sem, hc]) rfl ⟨rfl, ((((Q.refl _).alloc _).alloc _).trans q1).set3 (by simp) _ _ _⟩

set_option maxHeartbeats 1000000 in
theorem ref_find (nm : ByteArray) (A : Option Addr) (n c : Nat) (room fuse : Int) (off : Bool) (l : List Fil) (w : World) (hf : Files w A n l) (hn : n ≤ maxLen) :
    Calls Try.prog 27 #[dkv A n c room fuse off, .string nm] w fun e w' => e = .returned (.tuple #[(hit nm l).1.val, .bool (hit nm l).2]) ∧ Q w w' := by
  have HF := Lib.hid hf
  have HN := Lib.hid hn
  unfold maxLen at hn
  clear hf
  rcases plc_cases nm l with ⟨hp, hall⟩ | ⟨k, hk, hp, hkn, hfirst⟩
  · rw [hit_none hall]
    have HP := Lib.hid hp
    clear hp hall
    go_enter Try.func27, Try.ntmps27
    go_wp2_with fail
    refine (ref_at nm A n c room fuse off l _ (HF.out.q (((Q.refl _).alloc _).alloc _)) HN.out).mono ?_
    rintro e w1 ⟨rfl, q1⟩
    rw [HP.out]
    obtain ⟨hc, hz⟩ := bcell q1.below
    go_wp2
    exact bodyPost_ret (v := .tuple #[Fil.val ⟨⟨#[]⟩, ⟨#[]⟩, ⟨#[]⟩⟩, .bool false]) (by simp [results, Try.results27, go_sem, hc]) rfl ⟨rfl, ((((Q.refl _).alloc _).alloc _).trans q1).set3 (by simp) _ _ _⟩
  · rw [hit_at hk hkn hfirst]
    have HL := Lib.hid HF.out.len
    have hkn' : k < n := by have := HL.out; omega
    have HP := Lib.hid hp
    clear hp hkn hfirst
    go_enter Try.func27, Try.ntmps27
    go_wp2_with fail
    refine (ref_at nm A n c room fuse off l _ (HF.out.q (((Q.refl _).alloc _).alloc _)) HN.out).mono ?_
    rintro e w1 ⟨rfl, q1⟩
    rw [HP.out]
    obtain ⟨ad, rfl, hb, c0, c1, c2⟩ := (HF.out.q ((((Q.refl _).alloc _).alloc _).trans q1)).load hkn' hk
    obtain ⟨hc, hz⟩ := bcell q1.below
    go_wp2
    exact bodyPost_ret (v := .tuple #[(l[k]).val, .bool true]) (by simp [results, Try.results27, go_sem, hc]) rfl ⟨rfl, ((((Q.refl _).alloc _).alloc _).trans q1).set3 (by simp) _ _ _⟩

set_option maxHeartbeats 1000000 in
theorem read_any (nm : ByteArray) (A : Option Addr) (n c : Nat) (room fuse : Int) (off : Bool) (l : List Fil) (w : World) (hf : Files w A n l) (hn : n ≤ maxLen) (hs : ∀ f ∈ l, f.sf.size + f.wt.size ≤ maxLen) :
    Calls Try.prog 37 #[dkv A n c room fuse off, .string nm] w fun e w' => e = .returned (.tuple #[.string (redd nm l).1, .int .i64 (redd nm l).2]) ∧ Q w w' := by
  have HF := Lib.hid hf
  have HN := Lib.hid hn
  unfold maxLen at hn
  clear hf
  rcases plc_cases nm l with ⟨hp, hall⟩ | ⟨k, hk, hp, hkn, hfirst⟩
  · have HH := Lib.hid (hit_none hall)
    rw [redd_none hall]
    clear hp hall hs
    go_enter Try.func37, Try.ntmps37
    go_wp2_with fail
    refine (find_any nm A n c room fuse off l _ (HF.out.q ((Q.refl _).alloc _)) HN.out).mono ?_
    rintro e w1 ⟨rfl, q1⟩
    rw [HH.out]
    go_wp2
    go_ret2
    exact ⟨rfl, (((Q.refl _).alloc _).trans q1).alloc _⟩
  · have HH := Lib.hid (hit_at hk hkn hfirst)
    have hs1 := hs l[k] (List.getElem_mem hk)
    unfold maxLen at hs1
    rw [redd_at hk hkn hfirst]
    clear hp hkn hfirst hs
    go_enter Try.func37, Try.ntmps37
    go_wp2_with fail
    refine (find_any nm A n c room fuse off l _ (HF.out.q ((Q.refl _).alloc _)) HN.out).mono ?_
    rintro e w1 ⟨rfl, q1⟩
    rw [HH.out]
    go_wp2
    go_ret2
    exact ⟨rfl, (((Q.refl _).alloc _).trans q1).alloc _⟩

set_option maxHeartbeats 1000000 in
theorem ref_read (nm : ByteArray) (A : Option Addr) (n c : Nat) (room fuse : Int) (off : Bool) (l : List Fil) (w : World) (hf : Files w A n l) (hn : n ≤ maxLen) (hs : ∀ f ∈ l, f.sf.size + f.wt.size ≤ maxLen) :
    Calls Try.prog 38 #[dkv A n c room fuse off, .string nm] w fun e w' => e = .returned (.tuple #[.string (redd nm l).1, .int .i64 (redd nm l).2]) ∧ Q w w' := by
  have HF := Lib.hid hf
  have HN := Lib.hid hn
  unfold maxLen at hn
  clear hf
  rcases plc_cases nm l with ⟨hp, hall⟩ | ⟨k, hk, hp, hkn, hfirst⟩
  · have HH := Lib.hid (hit_none hall)
    rw [redd_none hall]
    clear hp hall hs
    go_enter Try.func38, Try.ntmps38
    go_wp2_with fail
    refine (ref_find nm A n c room fuse off l _ (HF.out.q ((Q.refl _).alloc _)) HN.out).mono ?_
    rintro e w1 ⟨rfl, q1⟩
    rw [HH.out]
    go_wp2
    go_ret2
    exact ⟨rfl, (((Q.refl _).alloc _).trans q1).alloc _⟩
  · have HH := Lib.hid (hit_at hk hkn hfirst)
    have hs1 := hs l[k] (List.getElem_mem hk)
    unfold maxLen at hs1
    rw [redd_at hk hkn hfirst]
    clear hp hkn hfirst hs
    go_enter Try.func38, Try.ntmps38
    go_wp2_with fail
    refine (ref_find nm A n c room fuse off l _ (HF.out.q ((Q.refl _).alloc _)) HN.out).mono ?_
    rintro e w1 ⟨rfl, q1⟩
    rw [HH.out]
    go_wp2
    go_ret2
    exact ⟨rfl, (((Q.refl _).alloc _).trans q1).alloc _⟩

end Go.Proofs.Ytodfdklcioafmaa

/- Contracts: lists of files of the call's own: a clone, a file that is set. -/
namespace Go.Proofs.Ytodfdklcioafmaa
set_option maxRecDepth 100000
open Go.RowKit Dkm
set_option linter.unusedVariables false

/-- The slice is the call's own, from block 'base' on, and holds these files. -/
def Own (w : World) (base : Nat) (A : Option Addr) (n c : Nat) (l : List Fil) : Prop := w.ownsRow base 52 3 (.slice A n c) n (rows l)

/-- A slice of files as it comes in. -/
structure Dsk (w : World) (A : Option Addr) (n c : Nat) (l : List Fil) : Prop where
  files : Files w A n l
  nil : A = none → n = 0 ∧ c = 0
  le : n ≤ c
  cap : c ≤ maxLen
  few : n * 48 ≤ 140737488355328

theorem Dsk.len {w : World} {A : Option Addr} {n c : Nat} {l : List Fil} (h : Dsk w A n c l) : l.length = n := h.files.len
theorem Dsk.q {w w' : World} {A : Option Addr} {n c : Nat} {l : List Fil} (h : Dsk w A n c l) (hq : Q w w') : Dsk w' A n c l := ⟨h.files.q hq, h.nil, h.le, h.cap, h.few⟩
theorem Dsk.max {w : World} {A : Option Addr} {n c : Nat} {l : List Fil} (h : Dsk w A n c l) : n ≤ maxLen := Nat.le_trans h.le h.cap

theorem Own.parts {w : World} {base : Nat} {A : Option Addr} {n c : Nat} {l : List Fil} (h : Own w base A n c l) :
    (A = none ∧ n = 0 ∧ c = 0 ∧ l = []) ∨ ∃ g cur, A = some ⟨g, 0, none⟩ ∧ base ≤ g ∧ w.heap[g]? = some (.cells cur 52 (0, 0)) ∧ n ≤ c ∧ c ≤ maxLen ∧ cur.size = c * 3 ∧ cur.toList.take (n * 3) = rows l := by
  rcases h.2 with ⟨e, h0⟩ | ⟨g, cap, cur, e, hb, hh, hc, hm, hs, ht⟩
  · injection e with e1 e2 e3
    refine .inl ⟨e1, e2, e3, ?_⟩
    have := h.1; rw [rows_length] at this
    exact List.eq_nil_of_length_eq_zero (by omega)
  · injection e with e1 e2 e3
    subst e1 e3
    exact .inr ⟨g, cur, rfl, hb, hh, hc, hm, hs, ht⟩
theorem Own.len {w : World} {base : Nat} {A : Option Addr} {n c : Nat} {l : List Fil} (h : Own w base A n c l) : l.length = n := by
  have := h.1; rw [rows_length] at this; omega
theorem Own.files {w : World} {base : Nat} {A : Option Addr} {n c : Nat} {l : List Fil} (h : Own w base A n c l) : Files w A n l := by
  refine ⟨h.1, fun j u hu => ?_⟩
  rcases h.parts with ⟨rfl, rfl, rfl, rfl⟩ | ⟨g, cur, rfl, hb, hh, hc, hm, hs, ht⟩
  · simp [rows] at hu
  · have hj : j < n * 3 := by
      have := (List.getElem?_eq_some_iff.1 hu).1; rw [h.1] at this; exact this
    refine ⟨_, rfl, ?_, ?_⟩
    · rcases Nat.lt_or_ge g w.heap.size with hlt | hge
      · exact hlt
      · rw [Array.getElem?_eq_none hge] at hh; cases hh
    · rw [Addr.add_mid, Nat.zero_add, World.ownsRow.cellAt h j hj]; exact hu
theorem Own.dsk {w : World} {base : Nat} {A : Option Addr} {n c : Nat} {l : List Fil} (h : Own w base A n c l) (hn : n * 48 ≤ 140737488355328) : Dsk w A n c l := by
  refine ⟨h.files, ?_, ?_, ?_, hn⟩ <;> rcases h.parts with ⟨rfl, rfl, rfl, rfl⟩ | ⟨g, cur, rfl, hb, hh, hc, hm, hs, ht⟩
  · intro _; exact ⟨rfl, rfl⟩
  · intro e; cases e
  · exact Nat.le_refl _
  · exact hc
  · exact Nat.zero_le _
  · exact hm
theorem Own.keep {w w' : World} {base B : Nat} {A : Option Addr} {n c : Nat} {l : List Fil} (h : Own w base A n c l) (hb : Below B w w') (hB : w.heap.size ≤ B) : Own w' base A n c l := by
  refine ⟨h.1, ?_⟩
  rcases h.2 with ⟨e, h0⟩ | ⟨g, cap, cur, e, hg, hh, r⟩
  · exact .inl ⟨e, h0⟩
  · have hlt : g < w.heap.size := by
      rcases Nat.lt_or_ge g w.heap.size with hlt | hge
      · exact hlt
      · rw [Array.getElem?_eq_none hge] at hh; cases hh
    exact .inr ⟨g, cap, cur, e, hg, (hb.block g (by omega)).trans hh, r⟩
theorem Own.q {w w' : World} {base : Nat} {A : Option Addr} {n c : Nat} {l : List Fil} (h : Own w base A n c l) (hq : Q w w') : Own w' base A n c l := h.keep hq.below (Nat.le_refl _)
theorem Own.setCell {w : World} {base : Nat} {A : Option Addr} {n c : Nat} {l : List Fil} (h : Own w base A n c l) {p : Addr} (hp : p.block < base) (u : Value) : Own (w.setCell p u) base A n c l := by
  refine ⟨h.1, ?_⟩
  rcases h.2 with ⟨e, h0⟩ | ⟨g, cap, cur, e, hg, hh, r⟩
  · exact .inl ⟨e, h0⟩
  · exact .inr ⟨g, cap, cur, e, hg, (heap_setCell_other w p g u (by omega)).trans hh, r⟩
theorem Own.alloc {w : World} {base : Nat} {A : Option Addr} {n c : Nat} {l : List Fil} (h : Own w base A n c l) (o : Obj) : Own (w.alloc o) base A n c l := h.q ((Q.refl _).alloc o)
theorem Own.lower {w : World} {base b2 : Nat} {A : Option Addr} {n c : Nat} {l : List Fil} (h : Own w base A n c l) (hb : b2 ≤ base) : Own w b2 A n c l := by
  refine ⟨h.1, ?_⟩
  rcases h.2 with ⟨e, h0⟩ | ⟨g, cap, cur, e, hg, hh, r⟩
  · exact .inl ⟨e, h0⟩
  · exact .inr ⟨g, cap, cur, e, by omega, hh, r⟩

theorem file_info : (Try.prog.info? 52).map (fun i => (i.zero, i.size, i.bytes)) = some (some (.agg #[.string ⟨#[]⟩, .string ⟨#[]⟩, .string ⟨#[]⟩]), 3, 48) := by kernel_rfl

/-- 'append(own, more...)', the source nil or not. -/
theorem run_app (w : World) (base : Nat) (A : Option Addr) (n c : Nat) (l : List Fil) (h : Own w base A n c l) (A2 : Option Addr) (m c2 : Nat) (l2 : List Fil) (h2 : Files w A2 m l2) (hnil : A2 = none → m = 0 ∧ c2 = 0)
    (hb : (n + m) * 48 ≤ 140737488355328) (hbase : base ≤ w.heap.size) (ty : TypeId) :
    ∃ A' c' w', (Builtin.append_ #[22, 22] ty #[.slice A n c, .slice A2 m c2]).run Try.prog w = .ok (.slice A' (n + m) c') w' ∧ Own w' base A' (n + m) c' (l ++ l2) ∧ Below base w w' := by
  obtain ⟨i, hi, hz, hs, hy⟩ := info_parts file_info
  have hmax : n + m ≤ maxLen := by unfold maxLen; omega
  cases A2 with
  | none =>
    obtain ⟨rfl, rfl⟩ := hnil rfl
    have e2 : l2 = [] := List.eq_nil_of_length_eq_zero h2.len
    subst e2
    refine ⟨A, c, w, run_append_owned_none (P := Try.prog) (w := w) base _ ty 52 i 3 Try.underlying22 hi _ n (rows l) h, by simpa using h, Below.refl _ _⟩
  | some ad =>
    obtain ⟨v', w', hr, ho, hg, hn, hat⟩ := run_append_own_at (P := Try.prog) w base 22 ty 52 i _ 3 48 Try.underlying22 hi hz hs hy rfl (by omega) (.slice A n c) n (rows l) h ad m c2 (rows l2) h2.1
      (fun j u hu => by obtain ⟨a', e, _, hc⟩ := h2.2 j u hu; injection e with e; subst e; exact hc) (rows_one l2) hmax hb hbase
    rw [← rows_append] at ho
    have hbl : Below base w w' := (Below.refl _ _).grown hg hbase (fun k hk => by
      rcases h.parts with ⟨rfl, _⟩ | ⟨g, cur, rfl, hb, _⟩
      · cases hk
      · simp only [Value.ownBlock, Option.some.injEq] at hk; omega)
    rcases ho.2 with ⟨e, h0⟩ | ⟨g, cap, cur, e, _⟩
    · have h00 : Value.slice none 0 0 = .slice none (n + m) 0 := by rw [h0]
      rw [h00] at e
      subst e
      exact ⟨none, 0, w', hr, ho, hbl⟩
    · subst e
      exact ⟨_, cap, w', hr, ho, hbl⟩

/-- The same, for a plain region's list. -/
theorem wpl_app {w : World} {ops : Array Oper} {rest : List Oper} {o : Oper} {a : Act} {R : Exit → Act → World → Prop} (hgd : o.guard = none) (s x : Operand)
    (ho : o.op = .call { callee := .builtin .append, args := #[s, x], argTypes := #[22, 22] })
    (base : Nat) (A : Option Addr) (n c : Nat) (l : List Fil) (hs : a.eval s = .slice A n c) (h : Own w base A n c l) (A2 : Option Addr) (m c2 : Nat) (l2 : List Fil) (hx : a.eval x = .slice A2 m c2) (h2 : Files w A2 m l2) (hnil : A2 = none → m = 0 ∧ c2 = 0)
    (hb : (n + m) * 48 ≤ 140737488355328) (hbase : base ≤ w.heap.size)
    (hk : ∀ A' c' w', Own w' base A' (n + m) c' (l ++ l2) → Below base w w' → wpList Try.prog ops R rest (a.put o.dst (.slice A' (n + m) c')) w') : wpList Try.prog ops R (o :: rest) a w := by
  refine wpList_plain hgd fun K hK => ?_
  obtain ⟨A', c', w', hr, h3, h4⟩ := run_app w base A n c l h A2 m c2 l2 h2 hnil hb hbase o.type
  unfold Oper.wp execOp
  simp only [ho, resolve, invoke, builtin, Sem.run_bind, Sem.run_pure, Result.andThen_ok, List.map_toArray, List.map_cons, List.map_nil, hs, hx, hr]
  exact hK _ _ (hk A' c' w' h3 h4)

def RetOwn (w : World) (n : Nat) (l : List Fil) (e : Ending) (w' : World) : Prop :=
  ∃ A' c', e = .returned (.slice A' n c') ∧ Own w' w.heap.size A' n c' l ∧ Q w w'

theorem own_lit0 (w : World) (base : Nat) (hb : base ≤ w.heap.size) : Own (w.alloc (.cells #[] 52)) base (some ⟨w.heap.size, 0, none⟩) 0 0 [] :=
  World.ownsRow_lit w #[] 0 hb (Nat.zero_le _) rfl

theorem eql_nil (W : World) (A : Option Addr) (n c : Nat) : (binOp .eql 22 (.slice A n c) (.slice none 0 0)).run Try.prog W = .ok (.bool A.isNone) W := by
  have h : ∀ d, (Op.equalIn (d + 1) 22 (.slice A n c) (.slice none 0 0)).run Try.prog W = .ok A.isNone W := by
    intro d
    cases A <;> simp [Op.equalIn, run_underlying Try.underlying22]
  have h2 : (Op.equal 22 (.slice A n c) (.slice none 0 0)).run Try.prog W = .ok A.isNone W := h 9999
  simp [binOp, h2]

set_option maxHeartbeats 1000000 in
theorem clone (A : Option Addr) (n c : Nat) (l : List Fil) (w : World) (hd : Dsk w A n c l) :
    Calls Try.prog 88 #[.slice A n c] w fun e w' => RetOwn w n l e w' := by
  have HD := Lib.hid hd
  clear hd
  cases A with
  | none =>
    obtain ⟨h1, h2⟩ := HD.out.nil rfl
    subst h1 h2
    have hl : l = [] := List.eq_nil_of_length_eq_zero HD.out.len
    subst hl
    have hnil := fun W : World => eql_nil W none 0 0
    go_enter Try.func88, Try.ntmps88
    go_wp2
    go_ret
    exact ⟨none, 0, rfl, ⟨rfl, .inl ⟨rfl, rfl⟩⟩, Q.refl _⟩
  | some ad =>
    have hnil := fun W : World => eql_nil W (some ad) n c
    go_enter Try.func88, Try.ntmps88
    go_wp2_with (at_builtin
                 refine wpl_app rfl (.tmp 5) (.tmp 6) rfl w.heap.size (some ⟨w.heap.size, 0, none⟩) 0 0 [] rfl (own_lit0 w _ (Nat.le_refl _)) (some ad) n c l rfl (HD.out.files.q ((Q.refl _).alloc _)) (fun e => by cases e) (by have := HD.out.few; omega) (by simp) ?_
                 intro A1 c1 w1 ho1 hb1)
    go_ret
    refine ⟨A1, c1, by simp, by simpa using ho1, ((Q.refl _).alloc _).below.trans hb1⟩

def RetOwnD (w : World) (n : Nat) (room fuse : Int) (off : Bool) (l : List Fil) (e : Ending) (w' : World) : Prop :=
  ∃ A' c', e = .returned (dkv A' n c' room fuse off) ∧ Own w' w.heap.size A' n c' l ∧ Q w w'

set_option maxHeartbeats 1000000 in
theorem own_any (A : Option Addr) (n c : Nat) (room fuse : Int) (off : Bool) (l : List Fil) (w : World) (hd : Dsk w A n c l) :
    Calls Try.prog 58 #[dkv A n c room fuse off] w fun e w' => RetOwnD w n room fuse off l e w' := by
  have HD := Lib.hid hd
  clear hd
  go_enter Try.func58, Try.ntmps58
  go_wp2_with fail
  refine (clone A n c l _ (HD.out.q (((Q.refl _).alloc _).alloc _))).mono ?_
  rintro e w1 ⟨A1, c1, rfl, ho, q1⟩
  have HO := Lib.hid ho
  clear ho
  obtain ⟨e0, e1, e2, e3⟩ := box4 q1 (b := w.heap.size) (x := .slice A n c) (y := .int .i64 room) (z := .int .i64 fuse) (u := .bool off) (by simp) (by simp) (by simp) (by simp)
  obtain ⟨r0, r1, r2, r3⟩ := box4 q1 (b := w.heap.size + 1) (x := .slice none 0 0) (y := .int .i64 0) (z := .int .i64 0) (u := .bool false) (by simp) (by simp) (by simp) (by simp)
  obtain ⟨hc, hz⟩ := bcell q1.below
  clear hc
  go_wp2
  refine bodyPost_ret (v := dkv A1 n c1 room fuse off) (by simp [results, Try.results58, go_sem, r0, r1, r2, r3]) rfl ⟨A1, c1, rfl, ?_, ?_⟩
  · exact (((((HO.out.setCell (p := ⟨_, _, none⟩) (by simp <;> omega) _).setCell (p := ⟨_, _, none⟩) (by simp <;> omega) _).setCell (p := ⟨_, _, none⟩) (by simp <;> omega) _).setCell (p := ⟨_, _, none⟩) (by simp <;> omega) _).setCell (p := ⟨_, _, none⟩) (by simp <;> omega) _).lower (by simp <;> omega)
  · exact ((((Q.refl _).alloc _).alloc _).trans q1).setCell (by simp) _ |>.set4 (by simp) _ _ _ _

theorem rows_set (l : List Fil) (k : Nat) (h : k < l.length) (f : Fil) : (((rows l).set (k * 3) (.string f.nm)).set (k * 3 + 1) (.string f.sf)).set (k * 3 + 2) (.string f.wt) = rows (l.set k f) := by
  induction l generalizing k with
  | nil => simp at h
  | cons g l ih =>
    cases k with
    | zero => simp [rows, Fil.row]
    | succ k =>
      have e := ih k (by simpa using h)
      have e0 : (k + 1) * 3 = k * 3 + 3 := by omega
      simp only [rows, List.set_cons_succ, Fil.row, e0, List.cons_append, List.nil_append, ← e]

theorem Own.set3 {w : World} {base g n c : Nat} {l : List Fil} (h : Own w base (some ⟨g, 0, none⟩) n c l) {k : Nat} (hk : k < n) (f : Fil) :
    Own (((w.setCell ⟨g, k * 3, none⟩ (.string f.nm)).setCell ⟨g, k * 3 + 1, none⟩ (.string f.sf)).setCell ⟨g, k * 3 + 2, none⟩ (.string f.wt)) base (some ⟨g, 0, none⟩) n c (l.set k f) ∧
    Below base w (((w.setCell ⟨g, k * 3, none⟩ (.string f.nm)).setCell ⟨g, k * 3 + 1, none⟩ (.string f.sf)).setCell ⟨g, k * 3 + 2, none⟩ (.string f.wt)) := by
  have h1 := World.ownsRow.stored h (k * 3) (.string f.nm)
  have h2 := World.ownsRow.stored h1.1 (k * 3 + 1) (.string f.sf)
  have h3 := World.ownsRow.stored h2.1 (k * 3 + 2) (.string f.wt)
  have hl : k < l.length := by have := h.len; omega
  have hg : base ≤ g := by
    rcases h.parts with ⟨e, _⟩ | ⟨g', cur, e, hb, _⟩
    · cases e
    · injection e with e; injection e with e; omega
  refine ⟨?_, (((Below.refl _ _).setCell (p := ⟨g, _, none⟩) hg _).setCell (p := ⟨g, _, none⟩) hg _).setCell (p := ⟨g, _, none⟩) hg _⟩
  have := h3.1
  rw [rows_set l k hl f] at this
  exact this

set_option maxHeartbeats 1000000 in
theorem set_mid (base : Nat) (A : Option Addr) (n c : Nat) (k : Nat) (f : Fil) (l : List Fil) (w : World) (h : Own w base A n c l) (hk : k < n) :
    Calls Try.prog 64 #[.slice A n c, .int .i64 k, f.val] w fun e w' => e = .returned (.slice A n c) ∧ Own w' base A n c (l.set k f) ∧ Below base w w' := by
  rcases h.parts with ⟨rfl, rfl, _⟩ | ⟨g, cur, rfl, hb, hh, hc, hm, hs, ht⟩
  · omega
  have hgw : g < w.heap.size := by
    rcases Nat.lt_or_ge g w.heap.size with hlt | hge
    · exact hlt
    · rw [Array.getElem?_eq_none hge] at hh; cases hh
  have hkl : k < l.length := by have := h.len; omega
  have c0 : w.cell? ⟨g, k * 3, none⟩ = some (.string l[k].nm) := by rw [World.ownsRow.cellAt h _ (by omega)]; exact rows_at l k hkl 0 (by omega)
  have c1 : w.cell? ⟨g, k * 3 + 1, none⟩ = some (.string l[k].sf) := by rw [World.ownsRow.cellAt h _ (by omega)]; exact rows_at l k hkl 1 (by omega)
  have c2 : w.cell? ⟨g, k * 3 + 2, none⟩ = some (.string l[k].wt) := by rw [World.ownsRow.cellAt h _ (by omega)]; exact rows_at l k hkl 2 (by omega)
  have f0 : w.frozen? ⟨g, k * 3, none⟩ = false := World.ownsRow.frozenAt h _
  have f1 : w.frozen? ⟨g, k * 3 + 1, none⟩ = false := World.ownsRow.frozenAt h _
  have f2 : w.frozen? ⟨g, k * 3 + 2, none⟩ = false := World.ownsRow.frozenAt h _
  unfold maxLen at hm
  have HO := Lib.hid h
  have hkn : ((k : Int) == (n : Int)) = false := by simp; omega
  have hkn2 : (k == n) = false := by simp; omega
  clear h hh hs ht
  obtain ⟨a, b, d⟩ := f
  go_enter Try.func64, Try.ntmps64
  go_wp2
  go_ret
  exact ⟨rfl, (HO.out.set3 hk ⟨a, b, d⟩).1.alloc _, (HO.out.set3 hk ⟨a, b, d⟩).2.alloc (by simp <;> omega) _⟩

theorem files_lit1 (w : World) (f : Fil) : Files (w.alloc (.cells #[.string f.nm, .string f.sf, .string f.wt] 52)) (some ⟨w.heap.size, 0, none⟩) 1 [f] :=
  Own.files (base := 0) (c := 1) (World.ownsRow_lit w #[.string f.nm, .string f.sf, .string f.wt] 1 (Nat.zero_le _) (by unfold maxLen; omega) rfl)

def RetOwnB (w : World) (base n : Nat) (l : List Fil) (e : Ending) (w' : World) : Prop :=
  ∃ A' c', e = .returned (.slice A' n c') ∧ Own w' base A' n c' l ∧ Below base w w'

set_option maxHeartbeats 1000000 in
theorem set_end (base : Nat) (A : Option Addr) (n c : Nat) (f : Fil) (l : List Fil) (w : World) (h : Own w base A n c l) (hn : (n + 1) * 48 ≤ 140737488355328) (hbase : base ≤ w.heap.size) :
    Calls Try.prog 64 #[.slice A n c, .int .i64 n, f.val] w fun e w' => RetOwnB w base (n + 1) (l ++ [f]) e w' := by
  have HO := Lib.hid h
  clear h
  obtain ⟨a, b, d⟩ := f
  go_enter Try.func64, Try.ntmps64
  go_wp2_with (at_builtin
               refine wpl_app rfl (.tmp 11) (.tmp 13) rfl base A n c l rfl ((HO.out.alloc _).alloc _) (some ⟨w.heap.size + 1, 0, none⟩) 1 1 [⟨a, b, d⟩] rfl (by have := files_lit1 (w.alloc (.cells #[.string a, .string b, .string d] 52)) ⟨a, b, d⟩; simpa using this) (fun e => by cases e) hn (by simp <;> omega) ?_
               intro A1 c1 w1 ho1 hb1)
  go_ret
  exact ⟨A1, c1, rfl, ho1, (((Below.refl _ _).alloc hbase _).alloc (by simp <;> omega) _).trans hb1⟩
end Go.Proofs.Ytodfdklcioafmaa

/- Boxes: what lies in a block of three or four cells, and may be written. -/
namespace Go.Proofs.Ytodfdklcioafmaa
set_option maxRecDepth 100000
open Go.RowKit Dkm
set_option linter.unusedVariables false

/-- the cells of block b hold these values, and may be written. -/
def Bx (w : World) (b : Nat) (vs : List Value) : Prop := ∀ j v, vs[j]? = some v → w.cell? ⟨b, j, none⟩ = some v ∧ w.frozen? ⟨b, j, none⟩ = false

theorem Bx.new (w : World) (cs : List Value) (t : TypeId) : Bx (w.alloc (.cells cs.toArray t)) w.heap.size cs := fun j v h => by
  have e := heap_alloc_new w (.cells cs.toArray t)
  exact ⟨(cell_of_row _ _ j _ t (0, 0) e).trans (by simpa using h), frozen_of_row _ _ j _ t e⟩
theorem Bx.lt {w : World} {b : Nat} {v : Value} {vs : List Value} (h : Bx w b (v :: vs)) : b < w.heap.size := block_lt_of_cell (h 0 v rfl).1
theorem Bx.below {w w' : World} {b B : Nat} {vs : List Value} (h : Bx w b vs) (hb : Below B w w') (hB : b < B) : Bx w' b vs := fun j v hj =>
  ⟨(hb.cell (p := ⟨b, j, none⟩) hB).trans (h j v hj).1, (hb.frozen (p := ⟨b, j, none⟩) hB).trans (h j v hj).2⟩
theorem Bx.q {w w' : World} {b : Nat} {vs : List Value} (h : Bx w b vs) (hq : Q w w') : Bx w' b vs := fun j v hj => by
  have hb : b < w.heap.size := block_lt_of_cell (h j v hj).1
  exact ⟨(hq.below.cell (p := ⟨b, j, none⟩) hb).trans (h j v hj).1, (hq.below.frozen (p := ⟨b, j, none⟩) hb).trans (h j v hj).2⟩
theorem Bx.alloc {w : World} {b : Nat} {vs : List Value} (h : Bx w b vs) (o : Obj) : Bx (w.alloc o) b vs := h.q ((Q.refl _).alloc o)
theorem Bx.drew {w : World} {b : Nat} {vs : List Value} (h : Bx w b vs) : Bx w.drew b vs := h
theorem Bx.far {w : World} {b : Nat} {vs : List Value} (h : Bx w b vs) {p : Addr} (hp : p.block ≠ b) (u : Value) : Bx (w.setCell p u) b vs := fun j v hj =>
  ⟨(World.cell?_setCell_other _ _ _ _ (by rintro rfl; exact hp rfl)).trans (h j v hj).1, by rw [World.frozen?_setCell]; exact (h j v hj).2⟩
theorem Bx.set {w : World} {b : Nat} {vs : List Value} (h : Bx w b vs) {k : Nat} (hk : k < vs.length) (u : Value) : Bx (w.setCell ⟨b, k, none⟩ u) b (vs.set k u) := fun j v hj => by
  rw [World.frozen?_setCell]
  by_cases e : k = j
  · subst e
    rw [World.cell?_setCell_same _ _ _ (h k _ (List.getElem?_eq_getElem hk)).1]
    simp only [List.getElem?_set_self hk] at hj
    exact ⟨hj, (h k _ (List.getElem?_eq_getElem hk)).2⟩
  · rw [World.cell?_setCell_other _ _ _ _ (by intro he; injection he with _ he; exact e he)]
    rw [List.getElem?_set_ne e] at hj
    exact h j v hj
theorem Bx.put4 {w : World} {b : Nat} {x y z u : Value} (h : Bx w b [x, y, z, u]) (x' y' z' u' : Value) : Bx ((((w.setCell ⟨b, 0, none⟩ x').setCell ⟨b, 1, none⟩ y').setCell ⟨b, 2, none⟩ z').setCell ⟨b, 3, none⟩ u') b [x', y', z', u'] :=
  (((h.set (k := 0) (by simp) x').set (k := 1) (by simp) y').set (k := 2) (by simp) z').set (k := 3) (by simp) u'
theorem Bx.far4 {w : World} {b c : Nat} {vs : List Value} (h : Bx w b vs) (hc : c ≠ b) (x' y' z' u' : Value) : Bx ((((w.setCell ⟨c, 0, none⟩ x').setCell ⟨c, 1, none⟩ y').setCell ⟨c, 2, none⟩ z').setCell ⟨c, 3, none⟩ u') b vs :=
  (((h.far (p := ⟨c, 0, none⟩) hc x').far (p := ⟨c, 1, none⟩) hc y').far (p := ⟨c, 2, none⟩) hc z').far (p := ⟨c, 3, none⟩) hc u'
theorem Bx.get3 {w : World} {b : Nat} {x y z : Value} (h : Bx w b [x, y, z]) : (w.cell? ⟨b, 0, none⟩ = some x ∧ w.cell? ⟨b, 1, none⟩ = some y ∧ w.cell? ⟨b, 2, none⟩ = some z) ∧ w.frozen? ⟨b, 0, none⟩ = false ∧ w.frozen? ⟨b, 1, none⟩ = false ∧ w.frozen? ⟨b, 2, none⟩ = false :=
  ⟨⟨(h 0 _ rfl).1, (h 1 _ rfl).1, (h 2 _ rfl).1⟩, (h 0 _ rfl).2, (h 1 _ rfl).2, (h 2 _ rfl).2⟩
theorem Bx.get4 {w : World} {b : Nat} {x y z u : Value} (h : Bx w b [x, y, z, u]) : (w.cell? ⟨b, 0, none⟩ = some x ∧ w.cell? ⟨b, 1, none⟩ = some y ∧ w.cell? ⟨b, 2, none⟩ = some z ∧ w.cell? ⟨b, 3, none⟩ = some u) ∧
    w.frozen? ⟨b, 0, none⟩ = false ∧ w.frozen? ⟨b, 1, none⟩ = false ∧ w.frozen? ⟨b, 2, none⟩ = false ∧ w.frozen? ⟨b, 3, none⟩ = false :=
  ⟨⟨(h 0 _ rfl).1, (h 1 _ rfl).1, (h 2 _ rfl).1, (h 3 _ rfl).1⟩, (h 0 _ rfl).2, (h 1 _ rfl).2, (h 2 _ rfl).2, (h 3 _ rfl).2⟩
theorem Own.set4 {w : World} {base : Nat} {A : Option Addr} {n c : Nat} {l : List Fil} (h : Own w base A n c l) {b : Nat} (hp : b < base) (x y z u : Value) : Own ((((w.setCell ⟨b, 0, none⟩ x).setCell ⟨b, 1, none⟩ y).setCell ⟨b, 2, none⟩ z).setCell ⟨b, 3, none⟩ u) base A n c l :=
  (((h.setCell (p := ⟨b, 0, none⟩) hp x).setCell (p := ⟨b, 1, none⟩) hp y).setCell (p := ⟨b, 2, none⟩) hp z).setCell (p := ⟨b, 3, none⟩) hp u

/-- Two boxes of disks: the variable's and the result's. -/
theorem two_new (w : World) (x y z u x' y' z' u' : Value) (t : TypeId) :
    Bx ((w.alloc (.cells #[x, y, z, u] t)).alloc (.cells #[x', y', z', u'] t)) w.heap.size [x, y, z, u] ∧ Bx ((w.alloc (.cells #[x, y, z, u] t)).alloc (.cells #[x', y', z', u'] t)) (w.heap.size + 1) [x', y', z', u'] := by
  refine ⟨(Bx.new w [x, y, z, u] t).alloc _, ?_⟩
  have := Bx.new (w.alloc (.cells #[x, y, z, u] t)) [x', y', z', u'] t
  simpa using this
theorem size_two (w : World) (o o' : Obj) : ((w.alloc o).alloc o').heap.size = w.heap.size + 2 := by simp

end Go.Proofs.Ytodfdklcioafmaa
