/- The document's example of chapter 3. -/
import Derived.Test.YtpjadjbniddmgaaDiskCrash
import Derived.Test.YtpjadjbniddmgaaDiskAppend5
namespace Go.Proofs.Ytpjadjbniddmgaa
open Go.RowKit Dkm
set_option linter.unusedVariables false

theorem dsk_nil (w : World) : Dsk w none 0 0 [] := ⟨Holds.none_ _ _ _ _, fun _ => ⟨rfl, rfl⟩, Nat.le_refl _, Nat.zero_le _, by omega⟩
theorem ex1 : appd ⟨[], 100, -1, false⟩ ⟨#[102]⟩ ⟨#[97, 98]⟩ = (⟨[⟨⟨#[102]⟩, ⟨#[]⟩, ⟨#[97, 98]⟩⟩], 98, -1, false⟩, 0) := by rfl
theorem ex2 : syn ⟨[⟨⟨#[102]⟩, ⟨#[]⟩, ⟨#[97, 98]⟩⟩], 98, -1, false⟩ ⟨#[102]⟩ = (⟨[⟨⟨#[102]⟩, ⟨#[97, 98]⟩, ⟨#[]⟩⟩], 98, -1, false⟩, 0) := by rfl
theorem ex3 : appd ⟨[⟨⟨#[102]⟩, ⟨#[97, 98]⟩, ⟨#[]⟩⟩], 98, -1, false⟩ ⟨#[102]⟩ ⟨#[99, 100]⟩ = (⟨[⟨⟨#[102]⟩, ⟨#[97, 98]⟩, ⟨#[99, 100]⟩⟩], 96, -1, false⟩, 0) := by rfl
theorem ex4 : crs ⟨[⟨⟨#[102]⟩, ⟨#[97, 98]⟩, ⟨#[99, 100]⟩⟩], 96, -1, false⟩ [1] = ⟨[⟨⟨#[102]⟩, ⟨#[97, 98, 99]⟩, ⟨#[]⟩⟩], 97, -1, false⟩ := by
  simp [crs, crl, croom, crf, kp, wrap64]
  exact ⟨by decide, by decide⟩
theorem ex5 : redd ⟨#[102]⟩ [⟨⟨#[102]⟩, ⟨#[97, 98, 99]⟩, ⟨#[]⟩⟩] = (⟨#[97, 98, 99]⟩, 0) := by rfl

theorem Own.few {w : World} {base : Nat} {A : Option Addr} {n c : Nat} {l : List Fil} (h : Own w base A n c l) (hl : l.length ≤ 1000) : Dsk w A n c l := h.dsk (by have := h.len; omega)

/-- a disk in a variable's box, in a world W. -/
structure DV (W : World) (B : Nat) (A : Option Addr) (n c : Nat) (d : Dk) : Prop where
  box : Bx W B [.slice A n c, .int .i64 d.room, .int .i64 d.fuse, .bool d.off]
  dsk : Dsk W A n c d.fs
theorem DV.q {W W' : World} {B : Nat} {A : Option Addr} {n c : Nat} {d : Dk} (h : DV W B A n c d) (hq : Q W W') : DV W' B A n c d := ⟨h.box.q hq, h.dsk.q hq⟩
/-- a new variable. -/
theorem DV.new {W : World} {A : Option Addr} {n c : Nat} {d : Dk} (h : Dsk W A n c d.fs) : DV (W.alloc (.cells #[.slice A n c, .int .i64 d.room, .int .i64 d.fuse, .bool d.off] 24)) W.heap.size A n c d :=
  ⟨Bx.new W [.slice A n c, .int .i64 d.room, .int .i64 d.fuse, .bool d.off] 24, h.q ((Q.refl _).alloc _)⟩
/-- what a call returned is stored into the variable. -/
theorem DV.put {W W' : World} {B : Nat} {A A' : Option Addr} {n c n' c' : Nat} {d d' : Dk} (h : DV W B A n c d) (hq : Q W W') (ho : Own W' W.heap.size A' n' c' d'.fs) (hn : n' * 48 ≤ 140737488355328) :
    DV ((((W'.setCell ⟨B, 0, none⟩ (.slice A' n' c')).setCell ⟨B, 1, none⟩ (.int .i64 d'.room)).setCell ⟨B, 2, none⟩ (.int .i64 d'.fuse)).setCell ⟨B, 3, none⟩ (.bool d'.off)) B A' n' c' d' :=
  ⟨(h.box.q hq).put4 _ _ _ _, (ho.set4 h.box.lt _ _ _ _).dsk hn⟩
theorem DV.get {W : World} {B : Nat} {A : Option Addr} {n c : Nat} {d : Dk} (h : DV W B A n c d) : (W.cell? ⟨B, 0, none⟩ = some (.slice A n c) ∧ W.cell? ⟨B, 1, none⟩ = some (.int .i64 d.room) ∧ W.cell? ⟨B, 2, none⟩ = some (.int .i64 d.fuse) ∧ W.cell? ⟨B, 3, none⟩ = some (.bool d.off)) ∧
    W.frozen? ⟨B, 0, none⟩ = false ∧ W.frozen? ⟨B, 1, none⟩ = false ∧ W.frozen? ⟨B, 2, none⟩ = false ∧ W.frozen? ⟨B, 3, none⟩ = false := h.box.get4

theorem ints_lit1 (w : World) (x : Int) : Ints (w.alloc (.cells #[.int .i64 x] 3)) (some ⟨w.heap.size, 0, none⟩) 1 [x] := by
  refine ⟨rfl, fun j u hj => ?_⟩
  have hj0 : j = 0 := by
    have := (List.getElem?_eq_some_iff.1 hj).1; simp at this; exact this
  subst hj0
  simp only [List.map_cons, List.map_nil, List.getElem?_cons_zero, Option.some.injEq] at hj
  subst hj
  exact ⟨⟨w.heap.size, 0, none⟩, rfl, by simp, by simp [Addr.add]⟩

set_option maxHeartbeats 2000000 in
theorem shown_any (w : World) : Calls Try.prog 11 #[] w fun e w' => e = .returned (.bool true) ∧ Q w w' := by
  go_enter Try.func11, Try.ntmps11
  go_wp2_with fail
  refine (new_any 100 _ (by omega)).mono ?_
  rintro e w1 ⟨rfl, q1⟩
  have hz : w.heap.size ≤ w1.heap.size := q1.size
  go_wp2_with fail
  have V1 := DV.new (W := w1) (d := ⟨[], 100, -1, false⟩) (dsk_nil w1)
  have QA := Lib.hid (q1.alloc (.cells #[.slice none 0 0, .int .i64 100, .int .i64 (-1), .bool false] 24))
  have k2 := append_any ⟨#[102]⟩ ⟨#[97, 98]⟩ none 0 0 ⟨[], 100, -1, false⟩ (w1.alloc (.cells #[.slice none 0 0, .int .i64 100, .int .i64 (-1), .bool false] 24)) V1.dsk (by simp) (by decide) (by decide) (by decide)
  rw [ex1] at k2
  refine k2.mono ?_
  clear k2 q1
  rintro e w2 ⟨A2, n2, c2, rfl, ho, q2⟩
  have l2 : n2 = 1 := ho.len.symm
  subst l2
  obtain ⟨⟨e0, e1, e2, e3⟩, f0, f1, f2, f3⟩ := (V1.q q2).get
  have V2 := V1.put q2 ho (by omega)
  have QB := Lib.hid ((QA.out.trans q2).set4 hz (.slice A2 1 c2) (.int .i64 98) (.int .i64 (-1)) (.bool false))
  clear V1 q2 ho
  have HV2 := Lib.hid V2
  clear V2
  go_wp2_with fail
  have k3 := sync_any ⟨#[102]⟩ A2 1 c2 ⟨[⟨⟨#[102]⟩, ⟨#[]⟩, ⟨#[97, 98]⟩⟩], 98, -1, false⟩ _ HV2.out.dsk (by simp [maxLen]; decide)
  rw [ex2] at k3
  refine k3.mono ?_
  clear k3
  rintro e w3 ⟨A3, n3, c3, rfl, ho, q3⟩
  have l3 : n3 = 1 := ho.len.symm
  subst l3
  clear e0 e1 e2 e3 f0 f1 f2 f3
  obtain ⟨⟨e0, e1, e2, e3⟩, f0, f1, f2, f3⟩ := (HV2.out.q q3).get
  have HV3 := Lib.hid (HV2.out.put q3 ho (by omega))
  have QC := Lib.hid ((QB.out.trans q3).set4 hz (.slice A3 1 c3) (.int .i64 98) (.int .i64 (-1)) (.bool false))
  clear q3 ho HV2
  go_wp2_with fail
  have k4 := append_any ⟨#[102]⟩ ⟨#[99, 100]⟩ A3 1 c3 ⟨[⟨⟨#[102]⟩, ⟨#[97, 98]⟩, ⟨#[]⟩⟩], 98, -1, false⟩ _ HV3.out.dsk (by simp; decide) (by decide) (by decide) (by decide)
  rw [ex3] at k4
  refine k4.mono ?_
  clear k4
  rintro e w4 ⟨A4, n4, c4, rfl, ho, q4⟩
  have l4 : n4 = 1 := ho.len.symm
  subst l4
  clear e0 e1 e2 e3 f0 f1 f2 f3
  obtain ⟨⟨e0, e1, e2, e3⟩, f0, f1, f2, f3⟩ := (HV3.out.q q4).get
  have HV4 := Lib.hid (HV3.out.put q4 ho (by omega))
  have QD := Lib.hid ((QC.out.trans q4).set4 hz (.slice A4 1 c4) (.int .i64 96) (.int .i64 (-1)) (.bool false))
  clear q4 ho HV3
  go_wp2_with fail
  have k5 := crash_any A4 1 c4 96 (-1) false (some ⟨w4.heap.size, 0, none⟩) 1 1 [1] [⟨⟨#[102]⟩, ⟨#[97, 98]⟩, ⟨#[99, 100]⟩⟩] _ (HV4.out.dsk.q ((Q.refl _).alloc (.cells #[.int .i64 1] 3)))
    (by have := ints_lit1 ((((w4.setCell ⟨w1.heap.size, 0, none⟩ (.slice A4 1 c4)).setCell ⟨w1.heap.size, 1, none⟩ (.int .i64 96)).setCell ⟨w1.heap.size, 2, none⟩ (.int .i64 (-1))).setCell ⟨w1.heap.size, 3, none⟩ (.bool false)) 1; simpa using this)
    (by unfold maxLen; omega) (by simp [maxLen]; decide)
  rw [ex4] at k5
  refine k5.mono ?_
  clear k5
  rintro e w5 ⟨A5, n5, c5, rfl, ho, q5⟩
  have l5 : n5 = 1 := ho.len.symm
  subst l5
  have HO := Lib.hid ho
  have QE := Lib.hid ((QD.out.alloc (.cells #[.int .i64 1] 3)).trans q5)
  clear ho q5 e0 e1 e2 e3 f0 f1 f2 f3
  go_wp2_with fail
  have k6 := read_any ⟨#[102]⟩ A5 1 c5 97 (-1) false [⟨⟨#[102]⟩, ⟨#[97, 98, 99]⟩, ⟨#[]⟩⟩] _ HO.out.files (by unfold maxLen; omega) (by simp [maxLen]; decide)
  rw [ex5] at k6
  refine k6.mono ?_
  clear k6
  rintro e w6 ⟨rfl, q6⟩
  go_wp2
  go_ret
  exact ⟨rfl, QE.out.trans q6⟩
end Go.Proofs.Ytpjadjbniddmgaa
