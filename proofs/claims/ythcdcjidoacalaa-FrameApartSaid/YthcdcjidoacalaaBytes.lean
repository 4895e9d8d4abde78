/- Strings and bytes in memory. -/
import Derived.Test.YthcdcjidoacalaaBase
import Derived.Laws.IdiomStrings
import Derived.Laws.OwnMore
import Derived.Laws.Rows
namespace Go.Proofs.Ythcdcjidoacalaa
set_option maxRecDepth 100000
open Go.RowKit
set_option linter.unusedVariables false

theorem Blk.cell_new (w : World) (cs : Array Value) (t : TypeId) (i : Nat) : (w.alloc (.cells cs t)).cell? ⟨w.heap.size, i, none⟩ = cs[i]? :=
  cell_of_row (w.alloc (.cells cs t)) w.heap.size i cs t (0, 0) (heap_alloc_new w _)

theorem conv_row (W : World) (b o n cap : Nat) (l : List UInt8) (hn : l.length = n) (hc : ∀ k (h : k < l.length), W.cell? ⟨b, o + k, none⟩ = some (.int .u8 (l[k].toNat : Int))) :
    (convert 62 9 (.slice (some ⟨b, o, none⟩) n cap)).run Try.prog W = .ok (.string ⟨l.toArray⟩) W := by
  subst hn
  refine run_convert_bytes_back W 62 9 5 ⟨b, o, none⟩ cap l Try.underlying62 Try.underlying5 Try.underlying9 (fun j hj => ?_)
  have e : (⟨b, o, none⟩ : Addr).add j = ⟨b, o + j, none⟩ := by
    unfold Addr.add
    by_cases hz : j = 0
    · subst hz; rfl
    · rw [if_neg hz]
  rw [e]; exact hc j hj

theorem app_list (l : List UInt8) (s : ByteArray) : (⟨l.toArray⟩ : ByteArray) ++ s = ⟨(l ++ s.data.toList).toArray⟩ := by
  apply ByteArray.ext
  rw [ByteArray.data_append]
  simp
theorem app_lists (l m : List UInt8) : (⟨l.toArray⟩ : ByteArray) ++ ⟨m.toArray⟩ = ⟨(l ++ m).toArray⟩ := by rw [app_list]
theorem ret_str {a b : ByteArray} (h : a = b) : Ending.returned (.string a) = .returned (.string b) := by rw [h]
theorem str_eq {a b : ByteArray} (h : a = b) : Value.string a = .string b := by rw [h]

theorem size_list (s : ByteArray) : s.data.toList.length = s.size := by simp

/-- '[]byte(s)': a new row that holds the bytes, and may be written. -/
theorem to_bytes (W : World) (s : ByteArray) : ∃ cap W2, (convert 9 62 (.string s)).run Try.prog W = .ok (.slice (some ⟨W.heap.size, 0, none⟩) s.size cap) W2 ∧ Q W W2 ∧ W2.heap.size = W.heap.size + 1 ∧
    (∀ i (h : i < s.size), W2.cell? ⟨W.heap.size, i, none⟩ = some (.int .u8 (s[i].toNat : Int))) ∧ (∀ i, i < s.size → W2.frozen? ⟨W.heap.size, i, none⟩ = false) := by
  refine ⟨_, _, run_bytes_of_string W 9 62 5 s Try.underlying9 Try.underlying62 Try.underlying5, (Q.refl W).drew.alloc _, ?_, ?_, ?_⟩
  · show (W.heap.push _).size = _
    simp
  · intro i h
    have e := World.cell?_alloc_mark W.drew (bytesRow s (grownCap W s.size 0 5)) 5 ((bytesRow s (grownCap W s.size 0 5)).size, (bytesRow s (grownCap W s.size 0 5)).size + 1) i
    refine e.trans ?_
    unfold bytesRow
    have h1 : i < (s.data.map (fun b => Value.int .u8 b.toNat)).size := by simpa using h
    rw [Array.getElem?_append_left h1]
    simp only [Array.getElem?_map]
    have h2 : s.data[i]? = some s[i] := Array.getElem?_eq_getElem (by simpa using h)
    rw [h2]; rfl
  · intro i h
    have e := World.frozen?_alloc_mark W.drew (bytesRow s (grownCap W s.size 0 5)) 5 (bytesRow s (grownCap W s.size 0 5)).size ((bytesRow s (grownCap W s.size 0 5)).size + 1) i
    refine e.trans ?_
    have h1 : i < (bytesRow s (grownCap W s.size 0 5)).size := by
      unfold bytesRow; simp; omega
    have h2 : decide ((bytesRow s (grownCap W s.size 0 5)).size ≤ i) = false := by simp; omega
    rw [h2]; rfl

/-- a row with one byte written holds the list with it. -/
theorem cells_set (W : World) (g : Nat) (l : List UInt8) (k : Nat) (c : UInt8) (a : Int) (ha : (c.toNat : Int) = a) (hk : k < l.length)
    (hc : ∀ i (h : i < l.length), W.cell? ⟨g, i, none⟩ = some (.int .u8 (l[i].toNat : Int))) :
    ∀ i (h : i < (l.set k c).length), (W.setCell ⟨g, k, none⟩ (.int .u8 a)).cell? ⟨g, i, none⟩ = some (.int .u8 ((l.set k c)[i].toNat : Int)) := by
  intro i h
  by_cases e : k = i
  · subst e
    rw [World.cell?_setCell_same _ _ _ (hc k hk)]
    simp [← ha]
  · rw [World.cell?_setCell_other _ _ _ _ (by intro he; injection he with _ he; exact e he)]
    rw [hc i (by simpa using h)]
    simp [e]
end Go.Proofs.Ythcdcjidoacalaa
