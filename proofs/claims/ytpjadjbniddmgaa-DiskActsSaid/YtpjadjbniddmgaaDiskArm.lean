/- Contracts: Arm. -/
import Derived.Test.YtpjadjbniddmgaaDiskSame
import Derived.Lib.MinMax
import Derived.Deep.Cut
namespace Go.Proofs.Ytpjadjbniddmgaa
open Go.RowKit Dkm
set_option linter.unusedVariables false

def RetD (w : World) (d : Dk) (e : Ending) (w' : World) : Prop :=
  ∃ A' n' c', e = .returned (dkv A' n' c' d.room d.fuse d.off) ∧ Own w' w.heap.size A' n' c' d.fs ∧ Q w w'

set_option maxHeartbeats 1000000 in
theorem arm_any (A : Option Addr) (n c : Nat) (room fuse : Int) (off : Bool) (fuse2 : Int) (l : List Fil) (w : World) (hd : Dsk w A n c l) :
    Calls Try.prog 29 #[dkv A n c room fuse off, .int .i64 fuse2] w fun e w' => RetD w ⟨l, room, max fuse2 (-1), off⟩ e w' := by
  have HD := Lib.hid hd
  clear hd
  go_enter Try.func29, Try.ntmps29
  go_wp2_with fail
  have B0 := two_new w (.slice A n c) (.int .i64 room) (.int .i64 fuse) (.bool off) (.slice none 0 0) (.int .i64 0) (.int .i64 0) (.bool false) 24
  refine (own_any A n c room fuse off l _ (HD.out.q (((Q.refl _).alloc _).alloc _))).mono ?_
  rintro e w1 ⟨A1, c1, rfl, ho, q1⟩
  rw [size_two] at ho
  have HO := ho.set4 (b := w.heap.size) (by omega) (.slice A1 n c1) (.int .i64 room) (.int .i64 fuse) (.bool off)
  have D1 := (B0.1.q q1).put4 (.slice A1 n c1) (.int .i64 room) (.int .i64 fuse) (.bool off)
  have R1 := (B0.2.q q1).far4 (c := w.heap.size) (by omega) (.slice A1 n c1) (.int .i64 room) (.int .i64 fuse) (.bool off)
  have Q1 := (((((Q.refl w).alloc _).alloc _).trans q1)).set4 (b := w.heap.size) (Nat.le_refl _) (.slice A1 n c1) (.int .i64 room) (.int .i64 fuse) (.bool off)
  obtain ⟨⟨e0, e1, e2, e3⟩, f0, f1, f2, f3⟩ := (B0.1.q q1).get4
  clear B0 q1 ho
  have X := Lib.hid (And.intro HO (And.intro D1 (And.intro R1 Q1)))
  clear HO D1 R1 Q1
  go_upto_region 2 with (fail)

  generalize ((((w1.setCell ⟨w.heap.size, 0, none⟩ (.slice A1 n c1)).setCell ⟨w.heap.size, 1, none⟩ (.int .i64 room)).setCell ⟨w.heap.size, 2, none⟩ (.int .i64 fuse)).setCell ⟨w.heap.size, 3, none⟩ (.bool off)) = w2 at X ⊢
  obtain ⟨HO, D1, R1, Q1⟩ := X.out
  clear X e0 e1 e2 e3 f0 f1 f2 f3
  have HO := Lib.hid HO
  have HQ := Lib.hid Q1
  obtain ⟨⟨e0, e1, e2, e3⟩, f0, f1, f2, f3⟩ := D1.get4
  obtain ⟨⟨s0, s1, s2, s3⟩, g0, g1, g2, g3⟩ := R1.get4
  clear D1 R1 Q1
  go_wp2

  refine bodyPost_ret (v := dkv A1 n c1 room (max fuse2 (-1)) off) (by simp [results, Try.results29, go_sem, s0, s1, s2, s3]) rfl ⟨A1, n, c1, rfl, ?_, ?_⟩
  · exact ((HO.out.setCell (p := ⟨w.heap.size, 2, none⟩) (by simp) _).set4 (b := w.heap.size + 1) (by omega) _ _ _ _).lower (by omega)
  · exact (HQ.out.setCell (p := ⟨w.heap.size, 2, none⟩) (Nat.le_refl _) _).set4 (b := w.heap.size + 1) (by omega) _ _ _ _
end Go.Proofs.Ytpjadjbniddmgaa
