/- The contract of frame.rest. -/
import Derived.Test.YthcdcjidoacalaaFrmWhole2
import Derived.Lib.BufferWrite
import Derived.Laws.CopyOwn
import Derived.Deep.RegionHeld3
import Derived.Deep.DeepCutAuto
namespace Go.Proofs.Ythcdcjidoacalaa
set_option maxRecDepth 100000
open Go.RowKit
set_option linter.unusedVariables false
namespace Fm

def zs : Array Value := Array.replicate 2053 (.int .u8 0)
theorem zs_size : zs.size = 2053 := by simp [zs]
theorem zero_room (W : World) : (zeroValue 61).run Try.prog W = .ok (.agg zs) W := by kernel_rfl

theorem all_room (W : World) (b : Nat) : (Instr.sliceAt 61 (.pointer (some ⟨b, 0, none⟩)) none none none).run Try.prog W = .ok (.slice (some ⟨b, 0, none⟩) 2053 2053) W := by
  have hl : Try.prog.arrayLen 61 = 2053 := by kernel_rfl
  have he : Try.prog.elem 61 = 5 := by kernel_rfl
  have hs : (sizeOf 5).run Try.prog W = .ok 1 W := by kernel_rfl
  rw [run_sliceAt_array_all W 61 _ (by rw [hl, he]; exact Try.underlying61), he, hs, hl]
  rfl
theorem some_room (W : World) (b m : Nat) (hm : m ≤ 2053) : (Instr.sliceAt 61 (.pointer (some ⟨b, 0, none⟩)) none (some (.int .i64 m)) (some (.int .i64 m))).run Try.prog W = .ok (.slice (some ⟨b, 0, none⟩) m m) W := by
  have hl : Try.prog.arrayLen 61 = 2053 := by kernel_rfl
  have he : Try.prog.elem 61 = 5 := by kernel_rfl
  have hs : (sizeOf 5).run Try.prog W = .ok 1 W := by kernel_rfl
  rw [run_sliceAt_array_hm W 61 _ (by rw [hl, he]; exact Try.underlying61) .i64 .i64 _ _ (by omega) (by omega) (by rw [hl]; omega), he, hs]
  simp [Result.andThen, slicedAt, Addr.add]
def laid (t : ByteArray) : Array Value := (zs.toList.take 0 ++ Lib.byteCells t.data.toList ++ zs.toList.drop (0 + t.size)).toArray
theorem copy_room (W : World) (b : Nat) (t : ByteArray) (ht : t.size ≤ 2053) (h : W.heap[b]? = some (.cells zs 61 (0, 0))) (ty : TypeId) :
    (Builtin.copy_ #[62, 9] ty #[.slice (some ⟨b, 0, none⟩) 2053 2053, .string t]).run Try.prog W = .ok (goInt t.size) (W.setRow b (laid t)) :=
  Lib.run_copy_row_string W 62 9 ty 5 b 0 2053 2053 t zs 61 Try.underlying62 (by kernel_rfl) h ht (by rw [zs_size]; omega)
theorem laid_get (t : ByteArray) (k : Nat) (h : k < t.data.toList.length) : (laid t)[k]? = some (.int .u8 (t.data.toList[k].toNat : Int)) := by
  unfold laid
  rw [List.take_zero, List.nil_append, List.getElem?_toArray, List.getElem?_append_left (by rw [Lib.byteCells_length]; exact h)]
  unfold Lib.byteCells
  rw [List.getElem?_map, List.getElem?_eq_getElem h]
  rfl

set_option maxHeartbeats 2000000 in
theorem frest_any (s : ByteArray) (n : Nat) (w : World) (hs : s.size ≤ maxLen) (hn : n ≤ s.size) (hl : s.size - n ≤ 2053) :
    Calls Try.prog 22 #[.string s, .int .i64 n] w fun e w' => e = .returned (.string (s.extract n s.size)) ∧ Q w w' := by
  have hz := zero_room w
  go_enter Try.func22, Try.ntmps22
  go_upto_region 2 with (fail)
  have hEs : (s.extract n s.size).size = s.size - n := by rw [ByteArray.size_extract]; omega
  have h1 := all_room (w.alloc (.cells zs 61)) w.heap.size
  have h1d := all_room (w.alloc (.cells zs 61)).drew w.heap.size
  have hA : (w.alloc (.cells zs 61)).drew.heap[w.heap.size]? = some (.cells zs 61 (0, 0)) := by
    show (w.heap.push (.cells zs 61))[w.heap.size]? = _
    exact Array.getElem?_push_size
  have h2 := copy_room (w.alloc (.cells zs 61)).drew w.heap.size (s.extract n s.size) (by omega) hA
  have hq : Q w ((w.alloc (.cells zs 61)).drew.setRow w.heap.size (laid (s.extract n s.size))) :=
    below_setRow ((Q.refl w).alloc (.cells zs 61)).drew.below (Nat.le_refl _) _
  have hrow : ((w.alloc (.cells zs 61)).drew.setRow w.heap.size (laid (s.extract n s.size))).heap[w.heap.size]? = some (.cells (laid (s.extract n s.size)) 61 (0, 0)) :=
    setRow_heap _ _ _ _ _ _ hA
  clear hA
  go_region
  generalize (w.alloc (.cells zs 61)).drew.setRow w.heap.size (laid (s.extract n s.size)) = W3 at hq hrow ⊢
  clear h1 h1d h2 hz
  have h3 := some_room W3 w.heap.size (s.size - n) hl
  have h4 : (convert 62 9 (.slice (some ⟨w.heap.size, 0, none⟩) (s.size - n) (s.size - n))).run Try.prog W3 = .ok (.string (s.extract n s.size)) W3 := conv_row W3 w.heap.size 0 (s.size - n) (s.size - n) (s.extract n s.size).data.toList (by rw [size_list]; exact hEs) (fun k h => by
    rw [Nat.zero_add, cell_of_row _ _ k _ 61 (0, 0) hrow]
    exact laid_get _ k h)
  clear hrow hl hn hs
  go_wp2
  go_ret
  exact ⟨rfl, hq⟩
end Fm
end Go.Proofs.Ythcdcjidoacalaa
