/- The disk of chapter 3 in plain mathematics: files, places, what each call makes of a disk. -/
import Derived.Test.YtlbjobbmjccekaaBase
namespace Go.Proofs.Ytlbjobbmjccekaa.Dkm
set_option maxRecDepth 100000

structure Fil where
  nm : ByteArray
  sf : ByteArray
  wt : ByteArray

theorem Fil.ext_ {f g : Fil} (a : f.nm = g.nm) (b : f.sf = g.sf) (c : f.wt = g.wt) : f = g := by
  cases f; cases g; simp_all

/-- the first place, k on, of a name. -/
def plc (nm : ByteArray) : List Fil → Nat → Int
  | [], _ => -1
  | f :: l, k => if f.nm = nm then k else plc nm l (k + 1)

theorem plc_drop (nm : ByteArray) (l : List Fil) (k : Nat) (h : k < l.length) : plc nm (l.drop k) k = if l[k].nm = nm then (k : Int) else plc nm (l.drop (k + 1)) (k + 1) := by
  rw [List.drop_eq_getElem_cons h]; rfl
theorem plc_end (nm : ByteArray) (l : List Fil) (k : Nat) (h : l.length ≤ k) : plc nm (l.drop k) k = -1 := by
  rw [List.drop_eq_nil_of_le h]; rfl
theorem plc_from (nm : ByteArray) (l : List Fil) : ∀ m, (plc nm l m = -1 ∧ ∀ f ∈ l, f.nm ≠ nm) ∨ ∃ k, ∃ h : k < l.length, plc nm l m = ((m + k : Nat) : Int) ∧ l[k].nm = nm ∧ ∀ j, ∀ h : j < l.length, j < k → l[j].nm ≠ nm := by
  induction l with
  | nil => intro m; left; exact ⟨rfl, by simp⟩
  | cons f l ih =>
    intro m
    by_cases hf : f.nm = nm
    · right; exact ⟨0, by simp, by simp [plc, hf], by simpa using hf, fun j h hj => by omega⟩
    · rcases ih (m + 1) with ⟨h1, h2⟩ | ⟨k, hk, h1, h2, h3⟩
      · left
        refine ⟨by simp [plc, hf, h1], ?_⟩
        intro g hg
        rcases List.mem_cons.1 hg with rfl | hg
        · exact hf
        · exact h2 g hg
      · right
        refine ⟨k + 1, by simpa using hk, by simp only [plc, hf, if_false, h1]; omega, by simpa using h2, ?_⟩
        intro j hj hjk
        cases j with
        | zero => simpa using hf
        | succ j => simpa using h3 j (by simpa using hj) (by omega)
theorem plc_cases (nm : ByteArray) (l : List Fil) : (plc nm l 0 = -1 ∧ ∀ f ∈ l, f.nm ≠ nm) ∨ ∃ k, ∃ h : k < l.length, plc nm l 0 = (k : Int) ∧ l[k].nm = nm ∧ ∀ j, ∀ h : j < l.length, j < k → l[j].nm ≠ nm := by
  rcases plc_from nm l 0 with h | ⟨k, h, e, r⟩
  · exact .inl h
  · exact .inr ⟨k, h, by simpa using e, r⟩

structure Dk where
  fs : List Fil
  room : Int
  fuse : Int
  off : Bool

/-- the file of a name, or an empty one behind all, and its place. -/
def opn (nm : ByteArray) (l : List Fil) : Fil × Nat :=
  match l.findIdx? (fun f => decide (f.nm = nm)) with
  | some k => (l.getD k ⟨nm, ⟨#[]⟩, ⟨#[]⟩⟩, k)
  | none => (⟨nm, ⟨#[]⟩, ⟨#[]⟩⟩, l.length)
theorem idx_none {nm : ByteArray} {l : List Fil} (h : ∀ f ∈ l, f.nm ≠ nm) : l.findIdx? (fun f => decide (f.nm = nm)) = none := by
  rw [List.findIdx?_eq_none_iff]; simpa using h
theorem idx_at {nm : ByteArray} {l : List Fil} {k : Nat} (hk : k < l.length) (hn : l[k].nm = nm) (hf : ∀ j, ∀ h : j < l.length, j < k → l[j].nm ≠ nm) : l.findIdx? (fun f => decide (f.nm = nm)) = some k := by
  rw [List.findIdx?_eq_some_iff_getElem]
  exact ⟨hk, by simpa using hn, fun j hj => by simpa using hf j (by omega) hj⟩
theorem opn_none {nm : ByteArray} {l : List Fil} (h : ∀ f ∈ l, f.nm ≠ nm) : opn nm l = (⟨nm, ⟨#[]⟩, ⟨#[]⟩⟩, l.length) := by
  unfold opn; rw [idx_none h]
theorem opn_at {nm : ByteArray} {l : List Fil} {k : Nat} (hk : k < l.length) (hn : l[k].nm = nm) (hf : ∀ j, ∀ h : j < l.length, j < k → l[j].nm ≠ nm) : opn nm l = (l[k], k) := by
  unfold opn; rw [idx_at hk hn hf]; simp [hk]

/-- a change needs power: the fuse, off, and why not. -/
def chg (at_ fuse : Int) (off : Bool) : Int × Bool × Int :=
  if at_ < 0 ∧ off = false then (fuse, off, 7) else if off = true ∨ fuse = 0 then (fuse, true, 6) else if 0 < fuse then (fuse - 1, off, 0) else (fuse, off, 0)

/-- the file of a name, and whether there is one. -/
def hit (nm : ByteArray) (l : List Fil) : Fil × Bool :=
  match l.find? (fun f => decide (f.nm = nm)) with
  | some f => (f, true)
  | none => (⟨⟨#[]⟩, ⟨#[]⟩, ⟨#[]⟩⟩, false)

theorem hit_none {nm : ByteArray} {l : List Fil} (h : ∀ f ∈ l, f.nm ≠ nm) : hit nm l = (⟨⟨#[]⟩, ⟨#[]⟩, ⟨#[]⟩⟩, false) := by
  unfold hit
  rw [List.find?_eq_none.2 (by simpa using h)]
theorem hit_at {nm : ByteArray} {l : List Fil} {k : Nat} (hk : k < l.length) (hn : l[k].nm = nm) (hf : ∀ j, ∀ h : j < l.length, j < k → l[j].nm ≠ nm) : hit nm l = (l[k], true) := by
  unfold hit
  have : l.find? (fun f => decide (f.nm = nm)) = some l[k] := by
    rw [List.find?_eq_some_iff_getElem]
    exact ⟨by simpa using hn, k, hk, rfl, fun j hj => by simpa using hf j (by omega) hj⟩
  rw [this]

/-- what Sync makes of a disk. -/
def syn (d : Dk) (nm : ByteArray) : Dk × Int :=
  if d.off then (d, 6)
  else if (hit nm d.fs).2 then ({ d with fs := d.fs.set (opn nm d.fs).2 ⟨(hit nm d.fs).1.nm, (hit nm d.fs).1.sf ++ (hit nm d.fs).1.wt, ⟨#[]⟩⟩ }, 0) else (d, 7)
theorem syn_none {nm : ByteArray} {l : List Fil} {room fuse : Int} (h : ∀ f ∈ l, f.nm ≠ nm) : syn ⟨l, room, fuse, false⟩ nm = (⟨l, room, fuse, false⟩, 7) := by
  simp [syn, hit_none h]
theorem syn_at {nm : ByteArray} {l : List Fil} {room fuse : Int} {k : Nat} (hk : k < l.length) (hn : l[k].nm = nm) (hf : ∀ j, ∀ h : j < l.length, j < k → l[j].nm ≠ nm) :
    syn ⟨l, room, fuse, false⟩ nm = (⟨l.set k ⟨l[k].nm, l[k].sf ++ l[k].wt, ⟨#[]⟩⟩, room, fuse, false⟩, 0) := by
  simp [syn, hit_at hk hn hf, opn_at hk hn hf]

def nmOk (nm : ByteArray) : Bool := decide (1 ≤ nm.size ∧ nm.size ≤ 16)

/-- a text cut by the fuse. -/
def short (fuse : Int) (s : ByteArray) : Bool := decide (0 ≤ fuse ∧ fuse < s.size)
def cut (fuse : Int) (s : ByteArray) : ByteArray := if short fuse s then s.extract 0 fuse.toNat else s
def put (l : List Fil) (k : Nat) (f : Fil) : List Fil := if k = l.length then l ++ [f] else l.set k f
/-- what Append makes of a disk. -/
def appd (d : Dk) (nm s : ByteArray) : Dk × Int :=
  if d.off then (d, 6)
  else if nmOk nm = false then (d, 1)
  else if ((opn nm d.fs).2 = d.fs.length ∧ 64 ≤ d.fs.length) ∨ d.room < s.size then (d, 5)
  else if 65536 < (opn nm d.fs).1.sf.size + (opn nm d.fs).1.wt.size + s.size then (d, 4)
  else (⟨put d.fs (opn nm d.fs).2 ⟨(opn nm d.fs).1.nm, (opn nm d.fs).1.sf, (opn nm d.fs).1.wt ++ cut d.fuse s⟩, d.room - (cut d.fuse s).size, if 0 ≤ d.fuse then d.fuse - (cut d.fuse s).size else d.fuse, short d.fuse s⟩, if short d.fuse s then 6 else 0)
theorem opn_le (nm : ByteArray) (l : List Fil) : (opn nm l).2 ≤ l.length := by
  rcases plc_cases nm l with ⟨_, h⟩ | ⟨k, hk, _, hn, hf⟩
  · rw [opn_none h]; exact Nat.le_refl _
  · rw [opn_at hk hn hf]; exact Nat.le_of_lt hk

/-- what is read: the file's bytes, or 7. -/
def redd (nm : ByteArray) (l : List Fil) : ByteArray × Int :=
  if (hit nm l).2 then ((hit nm l).1.sf ++ (hit nm l).1.wt, 0) else (⟨#[]⟩, 7)
theorem redd_none {nm : ByteArray} {l : List Fil} (h : ∀ f ∈ l, f.nm ≠ nm) : redd nm l = (⟨#[]⟩, 7) := by
  unfold redd; rw [hit_none h]; rfl
theorem redd_at {nm : ByteArray} {l : List Fil} {k : Nat} (hk : k < l.length) (hn : l[k].nm = nm) (hf : ∀ j, ∀ h : j < l.length, j < k → l[j].nm ≠ nm) : redd nm l = (l[k].sf ++ l[k].wt, 0) := by
  unfold redd; rw [hit_at hk hn hf]; rfl
end Go.Proofs.Ytlbjobbmjccekaa.Dkm
