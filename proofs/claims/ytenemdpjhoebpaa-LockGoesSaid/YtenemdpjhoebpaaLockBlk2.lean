/- Contract: lock.Blockers. -/
import Derived.Test.YtenemdpjhoebpaaLockBlk
import Derived.Test.YtenemdpjhoebpaaShelfKeys
import Derived.Test.YtenemdpjhoebpaaLockRef2
namespace Go.Proofs.Ytenemdpjhoebpaa
set_option maxRecDepth 100000
open Go.RowKit Prm Lm Sm Go.Maps
set_option linter.unusedVariables false
set_option linter.unusedSimpArgs false

theorem sorts_keys (m : Nat) : AnyZI.SortsIn Try.prog Try.sortedM_ren Fence.wide m :=
  ⟨fun blk off cap ss W hH hblk hsz => callsIn_wide.2 (AnyM.slices_Sort_int Try.sortM blk off cap ss W hH hblk hsz),
   fun p cap W => callsIn_wide.2 (AnyM.slices_Sort_int_none Try.sortM p cap W)⟩
theorem keys_any (mb : Option Nat) (W : World) : Calls Try.prog 39 #[.map mb] W fun e w' => e = .returned (.func (.func 62) #[] #[.pointer (some ⟨W.heap.size, 0, none⟩)]) ∧ w' = W.alloc (.cells #[.map mb] 64) :=
  (callsIn_wide (n := 5)).1 (AnyZI.keys_in Try.keysM Fence.wide 5 trivial rfl mb W)
set_option maxHeartbeats 1000000 in
theorem sorted_any (b nn : Nat) (D : DataW Unit) (out : List Int) (w : World) (hown : w.ownsMap Try.prog 3 unitElem b nn D) (hk : KeysAre D out) (hs : out.Pairwise (· < ·)) (hn : nn ≤ 1000000) :
    Calls Try.prog 38 #[.func (.func 62) #[] #[.pointer (some ⟨w.heap.size, 0, none⟩)]] (w.alloc (.cells #[.map (some b)] 64)) fun e w' =>
      ∃ A c, e = .returned (.slice A out.length c) ∧ OwnK numK w' w.heap.size A out.length c out ∧ Q w w' := by
  have hbl := hown.lt
  have hsz : Maps.size D ≤ nn := hown.size_le
  have hmax : Maps.size D ≤ maxLen := by unfold maxLen; omega
  have hseq : SeqGives Fence.wide 2 Try.prog 62 #[.pointer (some ⟨w.heap.size, 0, none⟩)] encZ (fun ss => ss.Perm (intKeys D)) (Maps.size D) (w.alloc (.cells #[.map (some b)] 64)) :=
    AnyZI.keys_gives (ρ := Try.keysM_ren) { Try.keysM with } Fence.wide _ trivial rfl (by omega) w.heap.size b nn D _ (by simp) (by simp) (by
      obtain ⟨es, clock, hb, Ft, hs, hD⟩ := hown
      exact ⟨es, clock, (Below.heap_alloc _ _ b hbl).trans hb, Ft, hs, hD⟩)
  have cS := AnyZI.sorted_in Try.sortedM Fence.wide 5 trivial trivial trivial trivial rfl (by omega) (sorts_keys _) (enters_of Try.func61 (by kernel_rfl) rfl) 62 #[.pointer (some ⟨w.heap.size, 0, none⟩)] trivial (enters_of Try.func62 (by kernel_rfl) rfl) _ _ hmax (by omega) _ hseq
  refine Calls.mono ((callsIn_wide (n := 5)).1 cS) ?_
  rintro e w' ⟨v, ss, rfl, hS, hrow, hnil, hb⟩
  have hnd : out.Nodup := hs.imp fun h => Int.ne_of_lt h
  have hp : out.Perm (intKeys D) := CollectedI.perm (left := fun _ => false) ⟨hnd, fun x => by rw [hk.2 x]; simp⟩ hown lawI Try.underlying3 (fun _ => rfl)
  have he : ss.mergeSort (fun x y => decide (x ≤ y)) = out := by
    have h1 := mergeSort_of_perm_i (hS.trans hp.symm)
    refine h1.trans ?_
    exact List.mergeSort_of_pairwise (hs.imp fun h => by simp only [leI, decide_eq_true_eq]; omega)
  rw [he] at hrow
  have hl : ss.length = out.length := (hS.trans hp.symm).length_eq
  rw [hl] at hrow
  have hbq : Q w w' := ((Q.refl w).alloc _).below.trans (hb.mono (by simp))
  have hrow : w'.ownsRow w.heap.size 3 1 v out.length (numK.rows out) := by
    rw [numK_rows]
    exact ownsRow_base_a hrow (by simp)
  rcases hrow.2 with ⟨e1, h0⟩ | ⟨g, cap, cur, e1, _⟩
  · subst e1
    exact ⟨none, 0, by rw [h0], by have h2 := hrow; unfold OwnK; rw [h0] at h2 ⊢; exact h2, hbq⟩
  · subst e1
    exact ⟨some ⟨g, 0, none⟩, cap, rfl, hrow, hbq⟩

/-- the boxes of Blockers: the locks, the number, the span, the map, its variable. -/
structure Gb (w : World) (A : Option Addr) (n c : Nat) (B : Option Addr) (m d : Nat) (txn : Int) (x : Wn) (wr : World) : Prop where
  b0 : wr.cell? ⟨w.heap.size, 0, none⟩ = some (.slice A n c)
  b1 : wr.cell? ⟨w.heap.size, 1, none⟩ = some (.slice B m d)
  cap : Cap2 wr txn x (w.heap.size + 1) (w.heap.size + 1 + 1)
  cm : wr.cell? ⟨w.heap.size + 1 + 1 + 1 + 1, 0, none⟩ = some (.map (some (w.heap.size + 1 + 1 + 1)))
  q : Q w wr
  hl : w.heap.size + 5 ≤ wr.heap.size
section
variable {w wr w2 : World} {A B : Option Addr} {n c m d : Nat} {txn : Int} {x : Wn}
theorem Gb.step (h : Gb w A n c B m d txn x wr) (q : Q wr w2) : Gb w A n c B m d txn x w2 := ⟨box_ q h.b0, box_ q h.b1, h.cap.q q, box_ q h.cm, h.q.trans q, Nat.le_trans h.hl q.size⟩
theorem Gb.turn (h : Gb w A n c B m d txn x wr) (g : wr.grownBy w2 (some (w.heap.size + 1 + 1 + 1))) : Gb w A n c B m d txn x w2 := by
  have hl := h.hl
  have cell : ∀ b o v, wr.cell? ⟨b, o, none⟩ = some v → b < w.heap.size + 5 → b ≠ w.heap.size + 1 + 1 + 1 → w2.cell? ⟨b, o, none⟩ = some v := fun b o v hv h1 h2 =>
    (only_cell g (p := ⟨b, o, none⟩) (by show b < _; omega) h2).trans hv
  refine ⟨cell _ _ _ h.b0 (by omega) (by omega), cell _ _ _ h.b1 (by omega) (by omega), ?_, cell _ _ _ h.cm (by omega) (by omega), h.q.below.trans (only_below g (by omega) (by omega)), Nat.le_trans hl g.size⟩
  · obtain ⟨h1, h2, h3, h4, h5, h6⟩ := h.cap
    exact ⟨Nat.lt_of_lt_of_le h1 g.size, Nat.lt_of_lt_of_le h2 g.size, cell _ _ _ h3 (by omega) (by omega), cell _ _ _ h4 (by omega) (by omega), cell _ _ _ h5 (by omega) (by omega), cell _ _ _ h6 (by omega) (by omega)⟩
end
end Go.Proofs.Ytenemdpjhoebpaa
