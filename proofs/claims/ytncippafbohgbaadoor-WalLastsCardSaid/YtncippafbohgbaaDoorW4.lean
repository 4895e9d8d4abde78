/- DiskRef, DiskRef2, DiskRef3, WalName, WalPut, DiskRef4, DiskRef7, DiskRef8, Held, HeldL, App, DiskRef9, DiskRef10, WalPut2: merged. -/
import Derived.Test.YtncippafbohgbaaDoorW2
import Derived.Test.YtncippafbohgbaaDoorW1
import Derived.Test.YtncippafbohgbaaDoorW3
import Derived.Test.YtncippafbohgbaaDoorShelf
import Derived.Lib.ItoaMem
import Derived.Deep.RegionHeld3
import Derived.Outline
import Derived.Maps.AppendAt
import Derived.Laws.AppendOwnNone
import Derived.Deep.DeepCutAuto
/- Contracts: the document's New, Arm, Same, power, with, less. -/
namespace Go.Proofs.YtncippafbohgbaaDoor
set_option maxRecDepth 100000
open Go.RowKit Dkm
set_option linter.unusedVariables false

set_option maxHeartbeats 1000000 in
theorem ref_new_neg (room : Int) (w : World) (h : room < 0) :
    Calls Tryd.prog 5 #[.int .i64 room] w fun e w' => e = .returned (.tuple #[dkv none 0 0 0 0 false, .int .i64 1]) ∧ Q w w' := by
  go_enter Tryd.func5, Tryd.ntmps5
  go_wp2
  exact bodyPost_ret (v := .tuple #[dkv none 0 0 0 0 false, .int .i64 1]) (by simp [results, Tryd.results5, go_sem]) rfl ⟨rfl, (Q.refl _).alloc _⟩
set_option maxHeartbeats 1000000 in
theorem ref_new_any (room : Int) (w : World) (h : 0 ≤ room) :
    Calls Tryd.prog 5 #[.int .i64 room] w fun e w' => e = .returned (.tuple #[dkv none 0 0 room (-1) false, .int .i64 0]) ∧ Q w w' := by
  go_enter Tryd.func5, Tryd.ntmps5
  go_wp2
  exact bodyPost_ret (v := .tuple #[dkv none 0 0 room (-1) false, .int .i64 0]) (by simp [results, Tryd.results5, go_sem]) rfl ⟨rfl, (Q.refl _).alloc _⟩

theorem ref_arm (A : Option Addr) (n c : Nat) (room fuse : Int) (off : Bool) (fuse2 : Int) (w : World) :
    Calls Tryd.prog 14 #[dkv A n c room fuse off, .int .i64 fuse2] w fun e w' => e = .returned (dkv A n c room (max fuse2 (-1)) off) ∧ Q w w' := by
  by_cases h : fuse2 < 0
  · rw [show max fuse2 (-1) = -1 by omega]
    go_enter Tryd.func14, Tryd.ntmps14
    go_wp2
    exact bodyPost_ret (v := dkv A n c room (-1) off) (by simp [results, Tryd.results14, go_sem]) rfl ⟨rfl, ((Q.refl _).alloc _).alloc _⟩
  · rw [show max fuse2 (-1) = fuse2 by omega]
    go_enter Tryd.func14, Tryd.ntmps14
    go_wp2
    exact bodyPost_ret (v := dkv A n c room fuse2 off) (by simp [results, Tryd.results14, go_sem]) rfl ⟨rfl, ((Q.refl _).alloc _).alloc _⟩

set_option maxHeartbeats 2000000 in
theorem ref_same_len (A B : Option Addr) (n c m c2 : Nat) (l l2 : List Fil) (room fuse : Int) (off : Bool) (w : World) (h1 : Files w A n l) (h2 : Files w B n l2) (hn : n ≤ maxLen) :
    Calls Tryd.prog 11 #[dkv A n c room fuse off, dkv B n c2 room fuse off] w fun e w' => e = .returned (.bool (decide (l = l2))) ∧ Q w w' := by
  unfold maxLen at hn
  have H1 := Lib.hid h1
  have H2 := Lib.hid h2
  have L1 := Lib.hid h1.len
  have L2 := Lib.hid h2.len
  clear h1 h2
  have X := Lib.hid (And.intro (Bx.new w [.slice A n c, .int .i64 room, .int .i64 fuse, .bool off] 26) (Bx.new (w.alloc (.cells #[.slice A n c, .int .i64 room, .int .i64 fuse, .bool off] 26)) [.slice B n c2, .int .i64 room, .int .i64 fuse, .bool off] 26))
  rw [World.size_alloc] at X
  go_enter Tryd.func11, Tryd.ntmps11
  go_wp2
  have Y := Lib.hid (And.intro (X.out.1.alloc (.cells #[.slice B n c2, .int .i64 room, .int .i64 fuse, .bool off] 26)) (And.intro X.out.2 (((Q.refl w).alloc (.cells #[.slice A n c, .int .i64 room, .int .i64 fuse, .bool off] 26)).alloc (.cells #[.slice B n c2, .int .i64 room, .int .i64 fuse, .bool off] 26))))
  clear X
  generalize ((w.alloc (.cells #[.slice A n c, .int .i64 room, .int .i64 fuse, .bool off] 26)).alloc (.cells #[.slice B n c2, .int .i64 room, .int .i64 fuse, .bool off] 26)) = W at Y ⊢
  go_loopw [5] (fun i wr => ∃ k : Nat, k ≤ n ∧ i = .int .i64 k ∧ Q W wr ∧ l.take k = l2.take k) (fun i _ => n - (intOf i).toNat)
  case atStart => exact ⟨0, Nat.zero_le _, rfl, Q.refl _, by simp⟩
  case round =>
    obtain ⟨k, hk, rfl, hq, ht⟩ := hrel
    have HT := Lib.hid ht
    have HQ := Lib.hid hq
    clear ht hq
    obtain ⟨⟨e0, e1, e2, e3⟩, _⟩ := (Y.out.1.q HQ.out).get4
    obtain ⟨⟨g0, g1, g2, g3⟩, _⟩ := (Y.out.2.1.q HQ.out).get4
    by_cases hlt : k < n
    · have k1 : k < l.length := by have := L1.out; omega
      have k2 : k < l2.length := by have := L2.out; omega
      obtain ⟨ad, rfl, hb, c0, c1, c3⟩ := (H1.out.q (Y.out.2.2.trans HQ.out)).load hlt k1
      obtain ⟨ae, rfl, he, d0, d1, d2⟩ := (H2.out.q (Y.out.2.2.trans HQ.out)).load hlt k2
      have q4 : (k : Int) < (n : Int) := by omega
      have q5 : 0 ≤ (k : Int) := by omega
      have hne := fun W => neq_file W l[k] l2[k]
      by_cases heq : l[k] = l2[k]
      · have hd : decide (l[k] = l2[k]) = true := by simpa using heq
        have HE := Lib.hid heq
        clear heq
        go_wp2
        go_quiet (fail)
        go_wp2
        exact ⟨⟨k + 1, by omega, by go_num, HQ.out.drewN _, by rw [List.take_succ_eq_append_getElem k1, List.take_succ_eq_append_getElem k2, HT.out, HE.out]⟩, by simp [intOf]; omega⟩
      · have hd : decide (l[k] = l2[k]) = false := by simpa using heq
        have HE := Lib.hid heq
        clear heq
        go_wp2
        go_quiet (fail)
        go_wp2
        go_ret
        exact ⟨ret_bool (by symm; simp only [decide_eq_false_iff_not]; rintro rfl; exact HE.out rfl), Y.out.2.2.trans (HQ.out.drewN _)⟩
    · go_wp2
      go_ret
      exact ⟨ret_bool (by symm; simp only [decide_eq_true_eq]; have h1 := HT.out; rwa [List.take_of_length_le (by have := L1.out; omega), List.take_of_length_le (by have := L2.out; omega)] at h1), Y.out.2.2.trans HQ.out⟩
end Go.Proofs.YtncippafbohgbaaDoor

/- Contracts: the document's Same whole, with, less. -/
namespace Go.Proofs.YtncippafbohgbaaDoor
set_option maxRecDepth 100000
open Go.RowKit Dkm
set_option linter.unusedVariables false

set_option maxHeartbeats 2000000 in
theorem ref_same_any (A B : Option Addr) (n c m c2 : Nat) (x y : Dk) (w : World) (h1 : Files w A n x.fs) (h2 : Files w B m y.fs) (hn : n ≤ maxLen) (hm : m ≤ maxLen) :
    Calls Tryd.prog 11 #[dkv A n c x.room x.fuse x.off, dkv B m c2 y.room y.fuse y.off] w fun e w' => e = .returned (.bool (sameD x y)) ∧ Q w w' := by
  obtain ⟨l, r1, u1, o1⟩ := x
  obtain ⟨l2, r2, u2, o2⟩ := y
  simp only at h1 h2 ⊢
  by_cases hr : r1 = r2
  · by_cases hu : u1 = u2
    · by_cases ho : o1 = o2
      · by_cases hl : n = m
        · subst hr hu ho hl
          rw [show sameD ⟨l, r1, u1, o1⟩ ⟨l2, r1, u1, o1⟩ = decide (l = l2) by simp [sameD]]
          exact ref_same_len A B n c n c2 l l2 r1 u1 o1 w h1 h2 hn
        · have e : sameD ⟨l, r1, u1, o1⟩ ⟨l2, r2, u2, o2⟩ = false := by
            simp only [sameD, decide_eq_false_iff_not]
            rintro ⟨rfl, _⟩
            exact hl (h1.len.symm.trans h2.len)
          subst hr hu ho
          rw [e]
          have b1 : ((n : Int) != (m : Int)) = true := by simp; omega
          have b2 : (n != m) = true := by simp; omega
          have b3 : (n == m) = false := by simp; omega
          have b4 : ((n : Int) == (m : Int)) = false := by simp; omega
          have b5 : ¬ (n : Int) = m := by omega
          clear h1 h2 hl e
          go_enter Tryd.func11, Tryd.ntmps11
          go_wp2
          go_ret
          exact ⟨rfl, ((Q.refl _).alloc _).alloc _⟩
      · have e : sameD ⟨l, r1, u1, o1⟩ ⟨l2, r2, u2, o2⟩ = false := by simp [sameD, ho]
        subst hr hu
        rw [e]
        have b1 : (o1 != o2) = true := by simpa using ho
        have b2 : (o1 == o2) = false := by simpa using ho
        clear h1 h2 e
        go_enter Tryd.func11, Tryd.ntmps11
        go_wp2
        go_ret
        exact ⟨rfl, ((Q.refl _).alloc _).alloc _⟩
    · have e : sameD ⟨l, r1, u1, o1⟩ ⟨l2, r2, u2, o2⟩ = false := by simp [sameD, hu]
      subst hr
      rw [e]
      have b1 : (u1 != u2) = true := by simpa using hu
      have b2 : (u1 == u2) = false := by simpa using hu
      clear h1 h2 e
      go_enter Tryd.func11, Tryd.ntmps11
      go_wp2
      go_ret
      exact ⟨rfl, ((Q.refl _).alloc _).alloc _⟩
  · have e : sameD ⟨l, r1, u1, o1⟩ ⟨l2, r2, u2, o2⟩ = false := by simp [sameD, hr]
    rw [e]
    have b1 : (r1 != r2) = true := by simpa using hr
    have b2 : (r1 == r2) = false := by simpa using hr
    clear h1 h2 e
    go_enter Tryd.func11, Tryd.ntmps11
    go_wp2
    go_ret
    exact ⟨rfl, ((Q.refl _).alloc _).alloc _⟩

end Go.Proofs.YtncippafbohgbaaDoor

/- Contracts: the document's Delete. -/
namespace Go.Proofs.YtncippafbohgbaaDoor
set_option maxRecDepth 100000
open Go.RowKit Dkm
set_option linter.unusedVariables false

/-- the boxes of a call: the variable's, the result's. -/
structure Sb (w : World) (A : Option Addr) (n c : Nat) (room fuse : Int) (off : Bool) (wr : World) : Prop where
  box : Bx wr w.heap.size [.slice A n c, .int .i64 room, .int .i64 fuse, .bool off]
  res : Bx wr (w.heap.size + 1) [.slice none 0 0, .int .i64 0, .int .i64 0, .bool false]
  q : Q w wr
theorem Sb.new (w : World) (A : Option Addr) (n c : Nat) (room fuse : Int) (off : Bool) : Sb w A n c room fuse off ((w.alloc (.cells #[.slice A n c, .int .i64 room, .int .i64 fuse, .bool off] 26)).alloc (.cells #[.slice none 0 0, .int .i64 0, .int .i64 0, .bool false] 26)) :=
  ⟨(two_new w (.slice A n c) (.int .i64 room) (.int .i64 fuse) (.bool off) (.slice none 0 0) (.int .i64 0) (.int .i64 0) (.bool false) 26).1, (two_new w (.slice A n c) (.int .i64 room) (.int .i64 fuse) (.bool off) (.slice none 0 0) (.int .i64 0) (.int .i64 0) (.bool false) 26).2, ((Q.refl w).alloc _).alloc _⟩
section
variable {w wr : World} {A : Option Addr} {n c : Nat} {room fuse : Int} {off : Bool}
theorem Sb.step {w2 : World} (h : Sb w A n c room fuse off wr) (q : Q wr w2) : Sb w A n c room fuse off w2 := ⟨h.box.q q, h.res.q q, h.q.trans q⟩
theorem Sb.put4 (h : Sb w A n c room fuse off wr) (A2 : Option Addr) (n2 c2 : Nat) (room2 fuse2 : Int) (off2 : Bool) :
    Sb w A2 n2 c2 room2 fuse2 off2 ((((wr.setCell ⟨w.heap.size, 0, none⟩ (.slice A2 n2 c2)).setCell ⟨w.heap.size, 1, none⟩ (.int .i64 room2)).setCell ⟨w.heap.size, 2, none⟩ (.int .i64 fuse2)).setCell ⟨w.heap.size, 3, none⟩ (.bool off2)) :=
  ⟨h.box.put4 _ _ _ _, h.res.far4 (c := w.heap.size) (by omega) _ _ _ _, h.q.set4 (b := w.heap.size) (Nat.le_refl _) _ _ _ _⟩
theorem Sb.get (h : Sb w A n c room fuse off wr) : ((wr.cell? ⟨w.heap.size, 0, none⟩ = some (.slice A n c) ∧ wr.cell? ⟨w.heap.size, 1, none⟩ = some (.int .i64 room) ∧ wr.cell? ⟨w.heap.size, 2, none⟩ = some (.int .i64 fuse) ∧ wr.cell? ⟨w.heap.size, 3, none⟩ = some (.bool off)) ∧
    wr.frozen? ⟨w.heap.size, 0, none⟩ = false ∧ wr.frozen? ⟨w.heap.size, 1, none⟩ = false ∧ wr.frozen? ⟨w.heap.size, 2, none⟩ = false ∧ wr.frozen? ⟨w.heap.size, 3, none⟩ = false) := h.box.get4
theorem Sb.getR (h : Sb w A n c room fuse off wr) : ((wr.cell? ⟨w.heap.size + 1, 0, none⟩ = some (.slice none 0 0) ∧ wr.cell? ⟨w.heap.size + 1, 1, none⟩ = some (.int .i64 0) ∧ wr.cell? ⟨w.heap.size + 1, 2, none⟩ = some (.int .i64 0) ∧ wr.cell? ⟨w.heap.size + 1, 3, none⟩ = some (.bool false)) ∧
    wr.frozen? ⟨w.heap.size + 1, 0, none⟩ = false ∧ wr.frozen? ⟨w.heap.size + 1, 1, none⟩ = false ∧ wr.frozen? ⟨w.heap.size + 1, 2, none⟩ = false ∧ wr.frozen? ⟨w.heap.size + 1, 3, none⟩ = false) := h.res.get4
end

end Go.Proofs.YtncippafbohgbaaDoor

/- Contracts: wal's numbered, Name, own, has. -/
namespace Go.Proofs.YtncippafbohgbaaDoor
set_option maxRecDepth 100000
open Go.RowKit Dkm
set_option linter.unusedVariables false

theorem dec_dg (v : Nat) : Lib.decDigits v = Dm.dg v := by
  induction v using Nat.strongRecOn with
  | _ v ih =>
    rw [Lib.decDigits, Dm.dg]
    by_cases h : v < 10
    · rw [dif_pos h, if_pos h]; rfl
    · rw [dif_neg h, if_neg h, ih (v / 10) (by omega)]; rfl
theorem itoa_seg {seg : Int} (h : segOk seg) : Lib.itoa seg = Dm.dg seg.toNat := by
  have := h.1
  unfold Lib.itoa
  rw [if_neg (by omega), dec_dg]
theorem itoa_any (seg : Int) (h : segOk seg) (w : World) (hT : Tab w) :
    Calls Tryd.prog 27 #[.int .i64 seg] w fun e w' => e = .returned (.string ⟨(Dm.dg seg.toNat).toArray⟩) ∧ Q w w' := by
  have h1 := h.1
  have h2 := h.2
  refine (Tryd.strconv_Itoa seg (by omega) (by omega) w hT).mono fun e w' he => ?_
  obtain ⟨he, k, os, rfl⟩ := he
  rw [itoa_seg h] at he
  exact ⟨he, Lib.below_grow w.heap.size w (Nat.le_refl _) k os⟩

theorem numbered_yes (seg : Int) (h : segOk seg) (w : World) : Calls Tryd.prog 16 #[.int .i64 seg] w fun e w' => e = .returned (.bool true) ∧ Q w w' := by
  have h1 := h.1
  have h2 := h.2
  clear h
  go_enter Tryd.func16, Tryd.ntmps16
  go_wp2
  all_goals go_ret
  all_goals exact ⟨rfl, by first | exact Q.refl _ | exact (Q.refl _).drew⟩
theorem numbered_no (seg : Int) (h : ¬ segOk seg) (w : World) : Calls Tryd.prog 16 #[.int .i64 seg] w fun e w' => e = .returned (.bool false) ∧ Q w w' := by
  by_cases h1 : 1 ≤ seg
  case' pos => have h2 : ¬ seg ≤ 1000000 := fun h2 => h ⟨h1, h2⟩
  all_goals
    clear h
    go_enter Tryd.func16, Tryd.ntmps16
    go_wp2
    all_goals go_ret
    all_goals exact ⟨rfl, by first | exact Q.refl _ | exact (Q.refl _).drew⟩

theorem name_any (seg : Int) (w : World) (hT : Tab w) : Calls Tryd.prog 18 #[.int .i64 seg] w fun e w' => e = .returned (.string (namB seg)) ∧ Q w w' := by
  by_cases h : segOk seg
  · have hR := namB_ok h
    have e : namB seg = (⟨#[119]⟩ : ByteArray) ++ ⟨(Dm.dg seg.toNat).toArray⟩ := by
      unfold namB; rw [nam_ok h]; rw [app_lists [119]]; rfl
    have hI := itoa_any seg h
    have hsz : (⟨(Dm.dg seg.toNat).toArray⟩ : ByteArray).size ≤ 8 := by
      rw [e, ByteArray.size_append] at hR; omega
    have HE := Lib.hid e
    have HT := Lib.hid hT
    clear e hR hT
    generalize (⟨(Dm.dg seg.toNat).toArray⟩ : ByteArray) = R at hI HE hsz
    go_enter Tryd.func18, Tryd.ntmps18
    go_wp2_with fail
    refine (numbered_yes seg h _).mono ?_
    rintro e w1 ⟨rfl, q1⟩
    go_wp2_with fail
    refine (hI _ (HT.out.q q1)).mono ?_
    rintro e w2 ⟨rfl, q2⟩
    go_wp2
    go_ret
    exact ⟨by rw [HE.out]; rfl, q1.trans q2⟩
  · rw [namB_no h]
    go_enter Tryd.func18, Tryd.ntmps18
    go_wp2_with fail
    refine (numbered_no seg h _).mono ?_
    rintro e w1 ⟨rfl, q1⟩
    go_wp2
    go_ret
    exact ⟨rfl, q1⟩

theorem has_any (nm : ByteArray) (A : Option Addr) (n c : Nat) (room fuse : Int) (off : Bool) (l : List Fil) (w : World) (hf : Files w A n l) (hn : n ≤ maxLen) :
    Calls Tryd.prog 24 #[dkv A n c room fuse off, .string nm] w fun e w' => e = .returned (.bool (hit nm l).2) ∧ Q w w' := by
  have HF := Lib.hid hf
  have HN := Lib.hid hn
  have KK := Lib.hid (fun w hf => find_any nm A n c room fuse off l w hf hn)
  clear hf hn
  generalize hit nm l = r at KK ⊢
  obtain ⟨f, b⟩ := r
  go_enter Tryd.func24, Tryd.ntmps24
  go_wp2_with fail
  refine (KK.out _ (HF.out.q ((Q.refl _).alloc _))).mono ?_
  rintro e w1 ⟨rfl, q1⟩
  have hq := Lib.hid (((Q.refl w).alloc _).trans q1)
  clear q1
  go_wp2
  go_ret
  exact ⟨rfl, hq.out.alloc _⟩

set_option maxHeartbeats 1000000 in
theorem wown_any (A : Option Addr) (n c : Nat) (room fuse : Int) (off : Bool) (l : List Fil) (w : World) (hd : Dsk w A n c l) :
    Calls Tryd.prog 15 #[dkv A n c room fuse off] w fun e w' => RetOwnD w n room fuse off l e w' := by
  have HD := Lib.hid hd
  clear hd
  go_enter Tryd.func15, Tryd.ntmps15
  go_wp2_with fail
  refine (clone A n c l _ (HD.out.q (((Q.refl _).alloc _).alloc _))).mono ?_
  rintro e w1 ⟨A1, c1, rfl, ho, q1⟩
  have HO := Lib.hid ho
  clear ho
  obtain ⟨e0, e1, e2, e3⟩ := box4 q1 (b := w.heap.size) (x := .slice A n c) (y := .int .i64 room) (z := .int .i64 fuse) (u := .bool off) (by simp) (by simp) (by simp) (by simp)
  obtain ⟨r0, r1, r2, r3⟩ := box4 q1 (b := w.heap.size + 1) (x := .slice none 0 0) (y := .int .i64 0) (z := .int .i64 0) (u := .bool false) (by simp) (by simp) (by simp) (by simp)
  obtain ⟨hc, hz⟩ := bcell q1.below
  clear hc
  go_wp2
  refine bodyPost_ret (v := dkv A1 n c1 room fuse off) (by simp [results, Tryd.results15, go_sem, r0, r1, r2, r3]) rfl ⟨A1, c1, rfl, ?_, ?_⟩
  · exact (((((HO.out.setCell (p := ⟨_, _, none⟩) (by simp <;> omega) _).setCell (p := ⟨_, _, none⟩) (by simp <;> omega) _).setCell (p := ⟨_, _, none⟩) (by simp <;> omega) _).setCell (p := ⟨_, _, none⟩) (by simp <;> omega) _).setCell (p := ⟨_, _, none⟩) (by simp <;> omega) _).lower (by simp <;> omega)
  · exact ((((Q.refl _).alloc _).alloc _).trans q1).setCell (by simp) _ |>.set4 (by simp) _ _ _ _
end Go.Proofs.YtncippafbohgbaaDoor

/- Contracts: wal.Sync, wal.Put. -/
namespace Go.Proofs.YtncippafbohgbaaDoor
set_option maxRecDepth 100000
open Go.RowKit Dkm Wm
set_option linter.unusedVariables false

/-- a disk of the call's own, and what is told beside it. -/
def RetW (w : World) (d : Dk) (vs : List Value) (e : Ending) (w' : World) : Prop :=
  ∃ A n c, e = .returned (.tuple (dkv A n c d.room d.fuse d.off :: vs).toArray) ∧ Dsk w' A n c d.fs ∧ (∀ ad, A = some ad → w.heap.size ≤ ad.block) ∧ Q w w'
theorem Sb.endW {w wr : World} {A : Option Addr} {n c : Nat} {room fuse : Int} {off : Bool} (h : Sb w A n c room fuse off wr) {w2 : World} (q : Q wr w2) {A2 : Option Addr} {n2 c2 : Nat} {d : Dk} (ho : Own w2 wr.heap.size A2 n2 c2 d.fs) (hn : n2 * 48 ≤ 140737488355328) (vs : List Value) (x y z u : Value) :
    RetW w d vs (.returned (.tuple (dkv A2 n2 c2 d.room d.fuse d.off :: vs).toArray)) ((((w2.setCell ⟨w.heap.size + 1, 0, none⟩ x).setCell ⟨w.heap.size + 1, 1, none⟩ y).setCell ⟨w.heap.size + 1, 2, none⟩ z).setCell ⟨w.heap.size + 1, 3, none⟩ u) :=
  ⟨A2, n2, c2, rfl, (ho.set4 h.res.lt _ _ _ _).dsk hn, fun ad e => by have h1 := ho.far_ ad e; have h2 := h.q.size; omega, (h.q.trans q).set4 (b := w.heap.size + 1) (by omega) _ _ _ _⟩

set_option maxHeartbeats 2000000 in
theorem wsync_any (seg : Int) (A : Option Addr) (n c : Nat) (d : Dk) (w : World) (hT : Tab w) (hd : Dsk w A n c d.fs) (hs : ∀ f ∈ d.fs, f.sf.size + f.wt.size ≤ maxLen) :
    Calls Tryd.prog 13 #[dkv A n c d.room d.fuse d.off, .int .i64 seg] w fun e w' => RetW w (syncM d seg).1 [.int .i64 (syncM d seg).2] e w' := by
  obtain ⟨l, room, fuse, off⟩ := d
  have HT := Lib.hid hT
  have HD := Lib.hid hd
  have HN := Lib.hid hd.max
  have HS := Lib.hid hs
  clear hT hd hs
  have hsl := syn_len ⟨l, room, fuse, off⟩ (namB seg)
  have KS := Lib.hid (fun w hd => sync_any (namB seg) A n c ⟨l, room, fuse, off⟩ w hd HS.out)
  have KH := Lib.hid (fun w hf hn => has_any (namB seg) A n c room fuse off l w hf hn)
  unfold syncM
  generalize syn ⟨l, room, fuse, off⟩ (namB seg) = r at hsl KS ⊢
  generalize hit (namB seg) l = b at KH ⊢
  obtain ⟨f, b⟩ := b
  have KN := Lib.hid (name_any seg)
  cases b
  · simp only [Bool.false_eq_true, if_false]
    go_enter Tryd.func13, Tryd.ntmps13
    go_upto_region 1 with (fail)
    have X := Lib.hid (Sb.new w A n c room fuse off)
    generalize ((w.alloc (.cells #[.slice A n c, .int .i64 room, .int .i64 fuse, .bool off] 26)).alloc (.cells #[.slice none 0 0, .int .i64 0, .int .i64 0, .bool false] 26)) = W at X ⊢
    obtain ⟨⟨e0, e1, e2, e3⟩, f0, f1, f2', f3⟩ := X.out.get
    go_region_held3 (fun w' => w'.cell? ⟨w.heap.size, 0, none⟩ = some (.slice A n c) ∧ w'.cell? ⟨w.heap.size, 1, none⟩ = some (.int .i64 room) ∧ w'.cell? ⟨w.heap.size, 2, none⟩ = some (.int .i64 fuse) ∧ w'.cell? ⟨w.heap.size, 3, none⟩ = some (.bool off))
      (first
        | go_keep
        | (go_split_ands
           (repeat' apply And.intro) <;> exact box_ ‹Q _ _› (by assumption)))
      (first
        | (go_at_call 18
           (with_reducible refine (KN.out _ (HT.out.q (X.out.q.trans (Q.refl W).drew))).mono ?_)
           rintro e w2 ⟨rfl, q2⟩)
        | (go_at_call 24
           (with_reducible refine (KH.out _ (HD.out.files.q (X.out.q.trans ((Q.refl W).drew.trans q2))) HN.out).mono ?_)
           rintro e w3 ⟨rfl, q3⟩))
    have Y := Lib.hid (X.out.step (((Q.refl W).drew.trans q2).trans q3))
    clear X q2 q3 e0 e1 e2 e3 f0 f1 f2' f3
    obtain ⟨⟨e0, e1, e2, e3⟩, f0, f1, f2', f3⟩ := Y.out.get
    go_wp2_with fail
    refine (wown_any A n c room fuse off l _ (HD.out.q Y.out.q)).mono ?_
    rintro e w4 ⟨A4, c4, rfl, ho, q4⟩
    have Z := Lib.hid (And.intro ho q4)
    obtain ⟨⟨s0, s1, s2, s3⟩, h0, h1, h2, h3⟩ := (Y.out.step q4).getR
    clear ho q4 e0 e1 e2 e3 f0 f1 f2' f3
    go_wp2
    refine bodyPost_ret (v := .tuple #[dkv A4 n c4 room fuse off, .int .i64 0]) (by simp [results, Tryd.results13, go_sem, s0, s1, s2, s3]) rfl ?_
    exact Y.out.endW Z.out.2 (d := ⟨l, room, fuse, off⟩) Z.out.1 HD.out.few [.int .i64 0] _ _ _ _
  · simp only [if_true]
    go_enter Tryd.func13, Tryd.ntmps13
    go_upto_region 1 with (fail)
    have X := Lib.hid (Sb.new w A n c room fuse off)
    generalize ((w.alloc (.cells #[.slice A n c, .int .i64 room, .int .i64 fuse, .bool off] 26)).alloc (.cells #[.slice none 0 0, .int .i64 0, .int .i64 0, .bool false] 26)) = W at X ⊢
    obtain ⟨⟨e0, e1, e2, e3⟩, f0, f1, f2', f3⟩ := X.out.get
    go_region_held3 (fun w' => w'.cell? ⟨w.heap.size, 0, none⟩ = some (.slice A n c) ∧ w'.cell? ⟨w.heap.size, 1, none⟩ = some (.int .i64 room) ∧ w'.cell? ⟨w.heap.size, 2, none⟩ = some (.int .i64 fuse) ∧ w'.cell? ⟨w.heap.size, 3, none⟩ = some (.bool off))
      (first
        | go_keep
        | (go_split_ands
           (repeat' apply And.intro) <;> exact box_ ‹Q _ _› (by assumption)))
      (first
        | (go_at_call 18
           (with_reducible refine (KN.out _ (HT.out.q (X.out.q.trans (Q.refl W).drew))).mono ?_)
           rintro e w2 ⟨rfl, q2⟩)
        | (go_at_call 24
           (with_reducible refine (KH.out _ (HD.out.files.q (X.out.q.trans ((Q.refl W).drew.trans q2))) HN.out).mono ?_)
           rintro e w3 ⟨rfl, q3⟩))
    have Y := Lib.hid (X.out.step (((Q.refl W).drew.trans q2).trans q3))
    clear X q2 q3 e0 e1 e2 e3 f0 f1 f2' f3
    obtain ⟨⟨e0, e1, e2, e3⟩, f0, f1, f2', f3⟩ := Y.out.get
    go_upto_region 3 with (fail)
    go_region_held3 (fun w' => w'.cell? ⟨w.heap.size, 0, none⟩ = some (.slice A n c) ∧ w'.cell? ⟨w.heap.size, 1, none⟩ = some (.int .i64 room) ∧ w'.cell? ⟨w.heap.size, 2, none⟩ = some (.int .i64 fuse) ∧ w'.cell? ⟨w.heap.size, 3, none⟩ = some (.bool off))
      (first
        | go_keep
        | (go_split_ands
           (repeat' apply And.intro) <;> exact box_ ‹Q _ _› (by assumption)))
      (first
        | (go_at_call 18
           (with_reducible refine (KN.out _ (HT.out.q (Y.out.q.trans (Q.refl _).drew))).mono ?_)
           rintro e w4 ⟨rfl, q4⟩)
        | (go_at_call 21
           (with_reducible refine (KS.out _ (HD.out.q (Y.out.q.trans ((Q.refl _).drew.trans q4)))).mono ?_)
           rintro e w5 ⟨A5, n5, c5, rfl, ho, q5⟩
           obtain ⟨⟨s0, s1, s2, s3⟩, h0, h1, h2, h3⟩ := ((Y.out.step ((Q.refl _).drew.trans q4)).step q5).getR))
    have hn5 : n5 * 48 ≤ 140737488355328 := by have h1 := ho.len; have h2 := HD.out.len; have h3 := HD.out.few; omega
    have Z := Lib.hid (And.intro ho (And.intro q5 hn5))
    have Y4 := Lib.hid (Y.out.step ((Q.refl _).drew.trans q4))
    clear ho q4 q5 hn5 e0 e1 e2 e3 f0 f1 f2' f3 Y
    go_wp2
    refine bodyPost_ret (v := .tuple #[dkv A5 n5 c5 r.1.room r.1.fuse r.1.off, .int .i64 r.2]) (by simp [results, Tryd.results13, go_sem, s0, s1, s2, s3]) rfl ?_
    exact Y4.out.endW Z.out.2.1 (d := r.1) Z.out.1 Z.out.2.2 [.int .i64 r.2] _ _ _ _
end Go.Proofs.YtncippafbohgbaaDoor

/- Contracts: the document's Rename. -/
namespace Go.Proofs.YtncippafbohgbaaDoor
set_option maxRecDepth 100000
open Go.RowKit Dkm
set_option linter.unusedVariables false

end Go.Proofs.YtncippafbohgbaaDoor

/- Contracts: the document's Sync; its Append, where it is refused. -/
namespace Go.Proofs.YtncippafbohgbaaDoor
set_option maxRecDepth 100000
open Go.RowKit Dkm
set_option linter.unusedVariables false

end Go.Proofs.YtncippafbohgbaaDoor

/- Contracts: the document's Append, where the file would be too big. -/
namespace Go.Proofs.YtncippafbohgbaaDoor
set_option maxRecDepth 100000
open Go.RowKit Dkm
set_option linter.unusedVariables false

end Go.Proofs.YtncippafbohgbaaDoor

/- A region that draws its order: the condition on the world may be made stronger on the way. -/
namespace Go
set_option maxRecDepth 100000
section
variable {P : Program} {ops : Array Oper} {Q : Exit → Act → World → Prop} {md : Region.Mode} {S S' : World → Prop}
end
end Go

/- A region that draws its order and stores, as its operation k, into a cell that it loads: what is known of the world is asked only till k comes up; a load may be taken first if k waits for it. -/
namespace Go.Proofs.YtncippafbohgbaaDoor
set_option maxRecDepth 100000
section
variable {P : Program} {ops : Array Oper} {Q : Exit → Act → World → Prop} {md : Region.Mode} {k : Nat}

/-- The pair of what is owed behind a step: S, as long as k has not come up; and what follows. -/
def Till (k : Nat) (S : World → Prop) (T : Array Bool → Act → World → Prop) (l : Array Bool) : Act → World → Prop := fun a w => (l.getD k true = false → S w) ∧ T l a w
/-- In whatever order the rest comes up: Q at the end; S till k. -/
def wpAnyL (P : Program) (md : Region.Mode) (ops : Array Oper) (Q : Exit → Act → World → Prop) (k : Nat) (S : World → Prop) (fuel : Nat) : Array Bool → Act → World → Prop :=
  Nat.rec (fun l a w => Region.ready md ops l = [] ∧ Q .normal a w)
    (fun _ T l a w => (Region.ready md ops l = [] → Q .normal a w) ∧ ∀ j, j ∈ Region.ready md ops l → wpOp P ops Q j (Till k S T (l.setIfInBounds j true)) a w) fuel

variable {S S' : World → Prop}
theorem wpAnyL_zero {l : Array Bool} {a : Act} {w : World} : wpAnyL P md ops Q k S 0 l a w ↔ Region.ready md ops l = [] ∧ Q .normal a w := Iff.rfl
theorem wpAnyL_succ {n : Nat} {l : Array Bool} {a : Act} {w : World} : wpAnyL P md ops Q k S (n + 1) l a w ↔
    (Region.ready md ops l = [] → Q .normal a w) ∧ ∀ j, j ∈ Region.ready md ops l → wpOp P ops Q j (Till k S (wpAnyL P md ops Q k S n) (l.setIfInBounds j true)) a w := Iff.rfl

/-- S dropped altogether. -/
theorem wpAnyL_plain (n : Nat) : ∀ (l : Array Bool) (a : Act) (w : World), wpAnyL P md ops Q k S n l a w → wpAny P md ops Q n l a w := by
  induction n with
  | zero => exact fun l a w h => h
  | succ n ih => exact fun l a w h => ⟨(wpAnyL_succ.1 h).1, fun j hj => wpOp_mono (fun a' w' h' => ih _ a' w' h'.2) ((wpAnyL_succ.1 h).2 j hj)⟩
theorem getD_set_up {l : Array Bool} {j : Nat} (h : l.getD k true = true) : (l.setIfInBounds j true).getD k true = true := by
  rcases Nat.decEq j k with e | rfl
  · rw [getD_set_ne true e]; exact h
  · simp [Array.getElem?_setIfInBounds]; split <;> simp
/-- Behind k nothing is asked. -/
theorem wpAnyL_free (n : Nat) : ∀ (l : Array Bool) (a : Act) (w : World), l.getD k true = true → wpAnyH P md ops Q (fun _ => True) n l a w → wpAnyL P md ops Q k S n l a w := by
  induction n with
  | zero => exact fun l a w _ h => h
  | succ n ih =>
    intro l a w hl h
    refine wpAnyL_succ.2 ⟨h.1, fun j hj => wpOp_mono (fun a' w' h' => ⟨fun e => ?_, ih _ a' w' (getD_set_up hl) h'.2⟩) (h.2 j hj)⟩
    rw [getD_set_up hl] at e
    cases e

/-- k waits for i. -/
def waitsFor (md : Region.Mode) (ops : Array Oper) (k i : Nat) : Bool := match ops[k]? with | some o => o.after.any (fun e => Region.binds md e && e.on == i) | none => false
/-- Of two that may come up now none waits for the other one. -/
theorem ready_free {l : Array Bool} {i j : Nat} {o : Oper} (hi : i ∈ Region.ready md ops l) (hj : j ∈ Region.ready md ops l) (ho : ops[j]? = some o) : ∀ e ∈ o.after, Region.binds md e = true → e.on ≠ i := by
  obtain ⟨hi0, _⟩ := mem_ready.1 hi
  obtain ⟨_, o', ho', hall⟩ := mem_ready.1 hj
  obtain rfl : o = o' := by rw [ho] at ho'; injection ho'
  intro e he hb heq
  have hl := hall e he hb
  rw [heq] at hl
  cases hg : l[i]? with
  | none => simp [hg] at hl
  | some b => simp [hg] at hi0 hl; rw [hi0] at hl; cases hl
theorem not_waits {l : Array Bool} {i : Nat} (hi : i ∈ Region.ready md ops l) (hk : waitsFor md ops k i = true) : ¬ k ∈ Region.ready md ops l := fun hj => by
  unfold waitsFor at hk
  split at hk
  · rename_i o ho
    obtain ⟨e, he, h2⟩ := Array.any_eq_true'.1 hk
    rw [Bool.and_eq_true, beq_iff_eq] at h2
    exact ready_free hi hj ho e he h2.1 h2.2
  · cases hk

/-- Number i first: nobody who could come ahead of it makes a difference, and k waits for it. -/
theorem wpAnyL_take {i : Nat} {oi : Oper} {v : Value} {fuel : Nat} {listed : Array Bool} {a : Act} {w : World} (hi : ops[i]? = some oi)
    (hs : Region.noSelect ops = true) (hf : Region.free md ops listed i = true) (hr : (Region.ready md ops listed).contains i = true)
    (hk : (listed.getD k true == false && waitsFor md ops k i && i != k) = true)
    (hQ : ∀ c a w, Q (.panic c) (a.put oi.dst v) w → Q (.panic c) a w) (hy : YieldsIf P ops S oi v a) (hS : S w)
    (h : wpAnyL P md ops Q k S fuel (listed.setIfInBounds i true) (a.put oi.dst v) w) : wpAnyL P md ops Q k S (fuel + 1) listed a w := by
  simp only [Bool.and_eq_true, beq_iff_eq, bne_iff_ne, ne_eq] at hk
  obtain ⟨⟨hku, hkw⟩, hik⟩ := hk
  have hap := Region.free_spec hi hf
  have hr' : i ∈ Region.ready md ops listed := by simpa using hr
  have hno := Region.noSelect_spec hs
  clear hf hr
  -- the same for every state: by the number of those that are left
  induction fuel generalizing listed a w with
  | zero =>
    refine wpAnyL_succ.2 ⟨fun e => absurd hr' (by rw [e]; exact List.not_mem_nil), fun j hj => ?_⟩
    rcases Nat.decEq j i with e | rfl
    · exact absurd (ready_mono hj e) (by rw [(wpAnyL_zero.1 h).1]; exact List.not_mem_nil)
    · exact hy.wpOp hi hS ⟨fun _ => hS, h⟩
  | succ n ih =>
    refine wpAnyL_succ.2 ⟨fun e => absurd hr' (by rw [e]; exact List.not_mem_nil), fun j hj => ?_⟩
    rcases Nat.decEq j i with e | rfl
    case isTrue => exact hy.wpOp hi hS ⟨fun _ => hS, h⟩
    have hjk : j ≠ k := by rintro rfl; exact not_waits hr' hkw hj
    obtain ⟨hun, oj, hoj, _⟩ := mem_ready.1 hj
    have other := wpOp_putIf hoj (hap j oj hoj e hun (ready_free hr' hj hoj)) (fun cs b => hno i oi cs b hi) (fun cs b => hno j oj cs b hoj) hQ hy ((wpAnyL_succ.1 h).2 j (ready_mono hj e))
    have hku' : (listed.setIfInBounds j true).getD k true = false := (getD_set_ne true hjk).trans hku
    refine wpOp_mono (fun a' w' ⟨hy', hS', hT⟩ => ?_) other
    have hSw : S w' := hS' (by rw [getD_set_ne true hjk, getD_set_ne true hik]; exact hku)
    rw [Array.setIfInBounds_comm _ _ (Ne.symm e)] at hT
    refine ⟨fun _ => hSw, ih hy' hSw hT hku' (fun m om hm hmi hmu hme => hap m om hm hmi ?_ hme) (ready_mono hr' (Ne.symm e))⟩
    rcases Nat.decEq j m with e2 | rfl
    · rwa [getD_set_ne true e2] at hmu
    · exact hun

def AllReadyL (P : Program) (md : Region.Mode) (ops : Array Oper) (Q : Exit → Act → World → Prop) (k : Nat) (S : World → Prop) (fuel : Nat) (listed : Array Bool) (a : Act) (w : World) (rs : List Nat) : Prop :=
  ∀ j, j ∈ rs → wpOp P ops Q j (Till k S (wpAnyL P md ops Q k S fuel) (listed.setIfInBounds j true)) a w
theorem AllReadyL.nil {fuel : Nat} {listed : Array Bool} {a : Act} {w : World} : AllReadyL P md ops Q k S fuel listed a w [] := fun _ h => absurd h List.not_mem_nil
/-- a step ahead of k: S is shown anew, and handed on. -/
theorem AllReadyL.cons {fuel : Nat} {listed : Array Bool} {a : Act} {w : World} {i : Nat} {o : Oper} {rs : List Nat} (ho : ops[i]? = some o)
    (h : ∀ K : Act → World → Prop, Shut (∀ a w, S w → (S w → wpAnyL P md ops Q k S fuel (listed.setIfInBounds i true) a w) → K a w) → if Region.wanted o (yielded ops a.tmps) = true then Oper.wp P o a w K Q else K (a.put o.dst undef) w)
    (hs : AllReadyL P md ops Q k S fuel listed a w rs) : AllReadyL P md ops Q k S fuel listed a w (i :: rs) :=
  List.forall_mem_cons.2 ⟨wpOp_step ho fun K hK => h K fun a w h1 h2 => hK a w ⟨fun _ => h1, h2 h1⟩, hs⟩
/-- the step k itself: nothing is to be shown anew. -/
theorem AllReadyL.consK {fuel : Nat} {listed : Array Bool} {a : Act} {w : World} {o : Oper} {rs : List Nat} (ho : ops[k]? = some o) (hl : (listed.setIfInBounds k true).getD k true = true)
    (h : ∀ K : Act → World → Prop, Shut (∀ a w, wpAnyH P md ops Q (fun _ => True) fuel (listed.setIfInBounds k true) a w → K a w) → if Region.wanted o (yielded ops a.tmps) = true then Oper.wp P o a w K Q else K (a.put o.dst undef) w)
    (hs : AllReadyL P md ops Q k S fuel listed a w rs) : AllReadyL P md ops Q k S fuel listed a w (k :: rs) :=
  List.forall_mem_cons.2 ⟨wpOp_step ho fun K hK => h K fun a w h2 => hK a w ⟨(fun e => by rw [hl] at e; cases e), wpAnyL_free fuel _ a w hl h2⟩, hs⟩
theorem wpAnyL_ready {rs : List Nat} {fuel : Nat} {listed : Array Bool} {a : Act} {w : World} (hr : Region.ready md ops listed = rs) (hne : rs ≠ [])
    (h : AllReadyL P md ops Q k S fuel listed a w rs) : wpAnyL P md ops Q k S (fuel + 1) listed a w :=
  wpAnyL_succ.2 ⟨fun e => absurd (hr.symm.trans e) hne, fun j hj => h j (by rwa [hr] at hj)⟩
/-- the beginning. -/
theorem wp_region_heldL (k : Nat) (S : World → Prop) {id : Nat} {a : Act} {w : World} (hm : P.follows .mixedOrders = true) (hS : S w.drew)
    (h : S w.drew → wpAnyL P .any ops Q k S ops.size (Array.replicate ops.size false) a w.drew) : (Code.region id ops true).wp P Q a w :=
  wp_region_any hm (wpAnyL_plain _ _ _ _ (h hS))
end
end Go.Proofs.YtncippafbohgbaaDoor

/- 'append(own, more...)' for rows of any kind of element: the source nil or not; only the own block has turned. -/
namespace Go.Proofs.YtncippafbohgbaaDoor
set_option maxRecDepth 100000
open Go.RowKit
set_option linter.unusedVariables false

theorem run_appG {P : Program} {w : World} (base : Nat) (t ty e : TypeId) (z : Value) (size bytes : Nat) (ht : P.underlying t = some (.slice e)) (hinfo : (P.info? e).map (fun i => (i.zero, i.size, i.bytes)) = some (some z, size, bytes))
    (hzs : z.cells.size = size) (hsz : 0 < size) (A : Option Addr) (n c : Nat) (xs : List Value) (h : w.ownsRow base e size (.slice A n c) n xs)
    (A2 : Option Addr) (m c2 : Nat) (news : List Value) (hl : news.length = m * size) (hnews : ∀ j u, news[j]? = some u → ∃ a, A2 = some a ∧ w.cell? (a.add j) = some u) (h1 : ∀ u ∈ news, u.oneCell' = true)
    (hnil : A2 = none → m = 0 ∧ c2 = 0) (hmax : n + m ≤ maxLen) (hb : (n + m) * bytes ≤ 140737488355328) (hbase : base ≤ w.heap.size) :
    ∃ A' c' w', (Builtin.append_ #[t, t] ty #[.slice A n c, .slice A2 m c2]).run P w = .ok (.slice A' (n + m) c') w' ∧ w'.ownsRow base e size (.slice A' (n + m) c') (n + m) (xs ++ news) ∧
      w.grownBy w' (Value.slice A n c).ownBlock ∧ ((Value.slice A' (n + m) c').ownBlock = (Value.slice A n c).ownBlock ∨ (Value.slice A' (n + m) c').ownBlock = some w.heap.size) := by
  obtain ⟨i, hi, hz, hs, hy⟩ := info_parts hinfo
  cases A2 with
  | none =>
    obtain ⟨rfl, rfl⟩ := hnil rfl
    have e2 : news = [] := List.eq_nil_of_length_eq_zero (by omega)
    subst e2
    exact ⟨A, c, w, run_append_owned_none (P := P) (w := w) base _ ty e i size ht hi _ n xs h, by simpa using h, World.grownBy.refl _ _, .inl rfl⟩
  | some ad =>
    obtain ⟨v', w', hr, ho, hg, hn, hat⟩ := run_append_own_at (P := P) (w := w) base t ty e i z size bytes ht hi hz hs hy hzs hsz (.slice A n c) n xs h ad m c2 news hl
      (fun j u hu => by obtain ⟨a', e, hc⟩ := hnews j u hu; injection e with e; subst e; exact hc) h1 hmax hb hbase
    rcases ho.2 with ⟨e, h0⟩ | ⟨g, cap, cur, e, _⟩
    · have h00 : Value.slice none 0 0 = .slice none (n + m) 0 := by rw [h0]
      rw [h00] at e
      subst e
      exact ⟨none, 0, w', hr, ho, hg, hat⟩
    · subst e
      exact ⟨_, cap, w', hr, ho, hg, hat⟩

theorem wanted_plain {ops : Array Oper} {o : Oper} {a : Act} (hgd : o.guard = none) : Region.wanted o (yielded ops a.tmps) = true := by simp [Region.wanted, hgd]
theorem below_grown {B : Nat} {w w' : World} {row : Option Nat} (hg : w.grownBy w' row) (hB : B ≤ w.heap.size) (hr : ∀ k, row = some k → B ≤ k) : Below B w w' := (Below.refl _ _).grown hg hB hr
end Go.Proofs.YtncippafbohgbaaDoor

/- Contracts: the document's Append, where it is done. -/
namespace Go.Proofs.YtncippafbohgbaaDoor
set_option maxRecDepth 100000
open Go.RowKit Dkm
set_option linter.unusedVariables false

theorem Files.grown {w w' : World} {A : Option Addr} {n : Nat} {l : List Fil} {row : Option Nat} (h : Files w A n l) (hg : w.grownBy w' row) (hne : ∀ ad, A = some ad → some ad.block ≠ row) : Files w' A n l := by
  refine ⟨h.1, fun j u hu => ?_⟩
  obtain ⟨a, e, hb, hc⟩ := h.2 j u hu
  have hblk : (a.add j).block = a.block := by unfold Addr.add; split <;> rfl
  exact ⟨a, e, Nat.lt_of_lt_of_le hb hg.size, hg.cell hc (by rw [hblk]; exact hne a e)⟩

section
variable {w wr : World} {A : Option Addr} {n c : Nat} {room fuse : Int} {off : Bool}
theorem Sb.setRoom (h : Sb w A n c room fuse off wr) (x : Int) : Sb w A n c x fuse off (wr.setCell ⟨w.heap.size, 1, none⟩ (.int .i64 x)) :=
  ⟨h.box.set (k := 1) (by simp) _, h.res.far (p := ⟨w.heap.size, 1, none⟩) (by simp) _, h.q.setCell (p := ⟨w.heap.size, 1, none⟩) (Nat.le_refl _) _⟩
/-- the boxes, and the list, behind 'with'. -/
structure Sd (w : World) (A : Option Addr) (n c : Nat) (room fuse : Int) (off : Bool) (L : List Fil) (wr : World) : Prop where
  sb : Sb w A n c room fuse off wr
  own : Own wr (w.heap.size + 2) A n c L
variable {L : List Fil}
theorem Sd.setRoom (h : Sd w A n c room fuse off L wr) (x : Int) : Sd w A n c x fuse off L (wr.setCell ⟨w.heap.size, 1, none⟩ (.int .i64 x)) := ⟨h.sb.setRoom x, h.own.setCell (p := ⟨w.heap.size, 1, none⟩) (by simp) _⟩
theorem Sd.new {w5 : World} {A0 : Option Addr} {n0 c0 : Nat} (h : Sb w A0 n0 c0 room fuse off wr) (q : Q wr w5) (ho : Own w5 wr.heap.size A n c L) :
    Sd w A n c room fuse off L ((((w5.setCell ⟨w.heap.size, 0, none⟩ (.slice A n c)).setCell ⟨w.heap.size, 1, none⟩ (.int .i64 room)).setCell ⟨w.heap.size, 2, none⟩ (.int .i64 fuse)).setCell ⟨w.heap.size, 3, none⟩ (.bool off)) :=
  ⟨(h.step q).put4 A n c room fuse off, (ho.lower (by have := h.res.lt; omega)).set4 (b := w.heap.size) (by omega) _ _ _ _⟩
end

end Go.Proofs.YtncippafbohgbaaDoor

/- Contracts: the document's Append, Sync, all cases together. -/
namespace Go.Proofs.YtncippafbohgbaaDoor
set_option maxRecDepth 100000
open Go.RowKit Dkm
set_option linter.unusedVariables false

end Go.Proofs.YtncippafbohgbaaDoor

/- The contract of wal.Put. -/
namespace Go.Proofs.YtncippafbohgbaaDoor
set_option maxRecDepth 100000
open Go.RowKit Dkm Wm
set_option linter.unusedVariables false

theorem Sd.endW {w wr : World} {A : Option Addr} {n c : Nat} {room fuse : Int} {off : Bool} {L : List Fil} (h : Sd w A n c room fuse off L wr) (hn : n * 48 ≤ 140737488355328) (vs : List Value) (x y z u : Value) :
    RetW w ⟨L, room, fuse, off⟩ vs (.returned (.tuple (dkv A n c room fuse off :: vs).toArray)) ((((wr.setCell ⟨w.heap.size + 1, 0, none⟩ x).setCell ⟨w.heap.size + 1, 1, none⟩ y).setCell ⟨w.heap.size + 1, 2, none⟩ z).setCell ⟨w.heap.size + 1, 3, none⟩ u) :=
  ⟨A, n, c, rfl, (h.own.set4 (b := w.heap.size + 1) (by omega) _ _ _ _).dsk hn, fun ad e => by have h1 := h.own.far_ ad e; omega, h.sb.q.set4 (b := w.heap.size + 1) (by omega) _ _ _ _⟩

theorem Sd.new2 {w wr w5 : World} {A A0 : Option Addr} {n c n0 c0 : Nat} {room fuse room0 fuse0 : Int} {off off0 : Bool} {L : List Fil} (h : Sb w A0 n0 c0 room0 fuse0 off0 wr) (q : Q wr w5) (ho : Own w5 wr.heap.size A n c L) :
    Sd w A n c room fuse off L ((((w5.setCell ⟨w.heap.size, 0, none⟩ (.slice A n c)).setCell ⟨w.heap.size, 1, none⟩ (.int .i64 room)).setCell ⟨w.heap.size, 2, none⟩ (.int .i64 fuse)).setCell ⟨w.heap.size, 3, none⟩ (.bool off)) :=
  ⟨(h.step q).put4 A n c room fuse off, (ho.lower (by have := h.res.lt; omega)).set4 (b := w.heap.size) (by omega) _ _ _ _⟩

set_option maxHeartbeats 4000000 in
theorem put_fit (seg : Int) (rec : ByteArray) (A : Option Addr) (n c : Nat) (d : Dk) (w : World) (hT : Tab w) (hd : Dsk w A n c d.fs) (hB : Bnd 2305843009213693952 d) (h1 : segOk seg) (h2 : rec.size ≤ 2048) (h3 : (redd (namB seg) d.fs).1.size < 256) :
    Calls Tryd.prog 12 #[dkv A n c d.room d.fuse d.off, .int .i64 seg, .string rec] w fun e w' => RetW w (putA d seg rec).1 [.int .i64 seg, .int .i64 (putA d seg rec).2.2] e w' := by
  obtain ⟨l, room, fuse, off⟩ := d
  have HT := Lib.hid hT
  have HD := Lib.hid hd
  have HN := Lib.hid hd.max
  have HB := Lib.hid hB
  have hmx : ∀ f ∈ l, f.sf.size + f.wt.size ≤ maxLen := fun f hf => Nat.le_trans (hB.sum f hf) (by unfold maxLen; omega)
  have hal := appd_few ⟨l, room, fuse, off⟩ (namB seg) (sealB rec)
  have hsb : (sealB rec).size ≤ 2305843009213693952 := by rw [sealB_size]; have := sld_length rec.data.toList (by rw [size_list]; omega); rw [size_list] at this; omega
  have KA := Lib.hid (fun w hd => append_any (namB seg) (sealB rec) A n c ⟨l, room, fuse, off⟩ w hd HB.out.sum hsb HB.out.room.2 HB.out.fuse.2)
  have KL := Lib.hid (fun w => seal_any rec w (by omega))
  have KR := Lib.hid (fun w hf => read_any (namB seg) A n c room fuse off l w hf HN.out hmx)
  have KN := Lib.hid (name_any seg)
  have KU := Lib.hid (numbered_yes seg h1)
  unfold putA
  generalize appd ⟨l, room, fuse, off⟩ (namB seg) (sealB rec) = r at hal KA ⊢
  have h3' : (redd (namB seg) l).1.size < 256 := h3
  generalize redd (namB seg) l = b at KR h3'
  obtain ⟨b, be⟩ := b
  have t3 : ¬ 256 ≤ b.size := by have : b.size < 256 := h3'; omega
  clear hT hd hB hmx h1 h3 h3' hsb
  change Hid (∀ w, Calls _ _ _ w fun e w' => e = .returned (.string (sealB rec)) ∧ Q w w') at KL
  generalize sealB rec = sr at KA KL
  go_enter Tryd.func12, Tryd.ntmps12
  go_wp2_with fail
  refine (KU.out _).mono ?_
  rintro e w1 ⟨rfl, q1⟩
  have X := Lib.hid ((Sb.new w A n c room fuse off).step q1)
  clear q1
  go_upto_region 5 with (fail)
  obtain ⟨⟨e0, e1, e2, e3⟩, f0, f1, f2', f3⟩ := X.out.get
  go_region_held3 (fun w' => w'.cell? ⟨w.heap.size, 0, none⟩ = some (.slice A n c) ∧ w'.cell? ⟨w.heap.size, 1, none⟩ = some (.int .i64 room) ∧ w'.cell? ⟨w.heap.size, 2, none⟩ = some (.int .i64 fuse) ∧ w'.cell? ⟨w.heap.size, 3, none⟩ = some (.bool off))
    (first
      | go_keep
      | (go_split_ands
         (repeat' apply And.intro) <;> exact box_ ‹Q _ _› (by assumption)))
    (first
      | (go_at_call 18
         (with_reducible refine (KN.out _ (HT.out.q (X.out.q.trans (Q.refl w1).drew))).mono ?_)
         rintro e w2 ⟨rfl, q2⟩)
      | (go_at_call 17
         (with_reducible refine (KR.out _ (HD.out.files.q (X.out.q.trans ((Q.refl w1).drew.trans q2)))).mono ?_)
         rintro e w3 ⟨rfl, q3⟩))
  have Y := Lib.hid (X.out.step (((Q.refl w1).drew.trans q2).trans q3))
  clear X q2 q3 e0 e1 e2 e3 f0 f1 f2' f3
  have DW := Lib.hid (HD.out.q Y.out.q)
  obtain ⟨⟨e0, e1, e2, e3⟩, f0, f1, f2', f3⟩ := Y.out.get
  go_upto_region 14 with (fail)
  generalize w3 = W at Y DW e0 e1 e2 e3 f0 f1 f2' f3 ⊢
  have QW := Lib.hid (Q.refl W)
  refine wp_region_heldL 9 (Q W) (by kernel_rfl) ?szz0 (fun hHeld => ?rzz0)
  case szz0 =>
    exact (Q.refl W).drew
  case' rzz0 => skip
  refine wpAnyL_take (i := 0) (oi := ?ozz1) (v := ?vzz1) ?hzz1 ?azz1 ?bzz1 ?czz1 ?kzz1 ?qzz1 ?yzz1 ?szz1 ?rzz1
  case hzz1 => simp only [List.getElem?_toArray, List.getElem?_cons_zero]; rfl
  case azz1 => kernel_rfl
  case bzz1 => kernel_rfl
  case czz1 => kernel_rfl
  case kzz1 => kernel_rfl
  case yzz1 =>
    refine Or.inl ⟨by rfl, ?_⟩
    intro w hSw
    have x0 := box_ hSw e0; have x1 := box_ hSw e1; have x2 := box_ hSw e2; have x3 := box_ hSw e3; clear hSw
    go_simp
    try with_reducible rfl
  case qzz1 => exact fun _ _ _ h => h
  case szz1 => first | assumption | trivial
  case' rzz1 => simp only [Act.put, List.setIfInBounds_toArray, List.set_cons_zero, List.set_cons_succ]
  refine wpAnyL_take (i := 1) (oi := ?ozz2) (v := ?vzz2) ?hzz2 ?azz2 ?bzz2 ?czz2 ?kzz2 ?qzz2 ?yzz2 ?szz2 ?rzz2
  case hzz2 => simp only [List.getElem?_toArray, List.getElem?_cons_zero, List.getElem?_cons_succ]; rfl
  case azz2 => kernel_rfl
  case bzz2 => kernel_rfl
  case czz2 => kernel_rfl
  case kzz2 => kernel_rfl
  case yzz2 =>
    refine Or.inl ⟨by rfl, ?_⟩
    intro w hSw
    skip
    go_simp
    try with_reducible rfl
  case qzz2 => exact fun _ _ _ h => h
  case szz2 => first | assumption | trivial
  case' rzz2 => simp only [Act.put, List.setIfInBounds_toArray, List.set_cons_zero, List.set_cons_succ]
  refine wpAnyL_take (i := 3) (oi := ?ozz3) (v := ?vzz3) ?hzz3 ?azz3 ?bzz3 ?czz3 ?kzz3 ?qzz3 ?yzz3 ?szz3 ?rzz3
  case hzz3 => simp only [List.getElem?_toArray, List.getElem?_cons_zero, List.getElem?_cons_succ]; rfl
  case azz3 => kernel_rfl
  case bzz3 => kernel_rfl
  case czz3 => kernel_rfl
  case kzz3 => kernel_rfl
  case yzz3 =>
    refine Or.inl ⟨by rfl, ?_⟩
    intro w hSw
    skip
    go_simp
    try with_reducible rfl
  case qzz3 => exact fun _ _ _ h => h
  case szz3 => first | assumption | trivial
  case' rzz3 => simp only [Act.put, List.setIfInBounds_toArray, List.set_cons_zero, List.set_cons_succ]
  refine wpAnyL_ready (rs := [2]) (by kernel_rfl) (by simp) ?_
  refine AllReadyL.cons (o := ?ozz14) ?hzz14 (fun K hK => ?kzz14) ?mzz14
  case hzz14 => simp only [List.getElem?_toArray, List.getElem?_cons_zero, List.getElem?_cons_succ]; rfl
  case kzz14 =>
    go_simp
    refine (KN.out _ (HT.out.q (Y.out.q.trans hHeld))).mono ?_
    rintro e w3 ⟨rfl, q3⟩
    go_wp2_with fail
    refine hK.out _ _ ?Szz14 (fun hHeld => ?Rzz14)
    case Szz14 =>
      exact hHeld.trans q3
    case Rzz14 =>
      clear hK K
      try simp only [Act.put, List.setIfInBounds_toArray, List.set_cons_zero, List.set_cons_succ]
      refine wpAnyL_ready (rs := [4]) (by kernel_rfl) (by simp) ?_
      refine AllReadyL.cons (o := ?ozz13) ?hzz13 (fun K hK => ?kzz13) ?mzz13
      case hzz13 => simp only [List.getElem?_toArray, List.getElem?_cons_zero, List.getElem?_cons_succ]; rfl
      case kzz13 =>
        go_simp
        refine (KL.out _).mono ?_
        rintro e w4 ⟨rfl, q4⟩
        go_wp2_with fail
        refine hK.out _ _ ?Szz13 (fun hHeld => ?Rzz13)
        case Szz13 =>
          exact hHeld.trans q4
        case Rzz13 =>
          clear hK K
          try simp only [Act.put, List.setIfInBounds_toArray, List.set_cons_zero, List.set_cons_succ]
          refine wpAnyL_ready (rs := [5]) (by kernel_rfl) (by simp) ?_
          refine AllReadyL.cons (o := ?ozz12) ?hzz12 (fun K hK => ?kzz12) ?mzz12
          case hzz12 => simp only [List.getElem?_toArray, List.getElem?_cons_zero, List.getElem?_cons_succ]; rfl
          case kzz12 =>
            go_simp
            refine (KA.out _ (DW.out.q hHeld)).mono ?_
            rintro e w5 ⟨A5, n5, c5, rfl, ho, q5⟩
            obtain ⟨⟨x0, x1, x2, x3⟩, y0, y1, y2, y3⟩ := ((Y.out.step hHeld).step q5).get
            have Z5 := Lib.hid (And.intro ho (And.intro hHeld q5))
            go_wp2_with fail
            refine hK.out _ _ ?Szz12 (fun hHeld => ?Rzz12)
            case Szz12 =>
              exact hHeld.trans q5
            case Rzz12 =>
              clear hK K
              try simp only [Act.put, List.setIfInBounds_toArray, List.set_cons_zero, List.set_cons_succ]
              refine wpAnyL_take (i := 6) (oi := ?ozz4) (v := ?vzz4) ?hzz4 ?azz4 ?bzz4 ?czz4 ?kzz4 ?qzz4 ?yzz4 ?szz4 ?rzz4
              case hzz4 => simp only [List.getElem?_toArray, List.getElem?_cons_zero, List.getElem?_cons_succ]; rfl
              case azz4 => kernel_rfl
              case bzz4 => kernel_rfl
              case czz4 => kernel_rfl
              case kzz4 => kernel_rfl
              case yzz4 =>
                refine Or.inl ⟨by rfl, ?_⟩
                intro w hSw
                skip
                go_simp
                try with_reducible rfl
              case qzz4 => exact fun _ _ _ h => h
              case szz4 => first | assumption | trivial
              case' rzz4 => simp only [Act.put, List.setIfInBounds_toArray, List.set_cons_zero, List.set_cons_succ]
              refine wpAnyL_take (i := 7) (oi := ?ozz5) (v := ?vzz5) ?hzz5 ?azz5 ?bzz5 ?czz5 ?kzz5 ?qzz5 ?yzz5 ?szz5 ?rzz5
              case hzz5 => simp only [List.getElem?_toArray, List.getElem?_cons_zero, List.getElem?_cons_succ]; rfl
              case azz5 => kernel_rfl
              case bzz5 => kernel_rfl
              case czz5 => kernel_rfl
              case kzz5 => kernel_rfl
              case yzz5 =>
                refine Or.inl ⟨by rfl, ?_⟩
                intro w hSw
                skip
                go_simp
                try with_reducible rfl
              case qzz5 => exact fun _ _ _ h => h
              case szz5 => first | assumption | trivial
              case' rzz5 => simp only [Act.put, List.setIfInBounds_toArray, List.set_cons_zero, List.set_cons_succ]
              refine wpAnyL_ready (rs := [8, 9]) (by kernel_rfl) (by simp) ?_
              refine AllReadyL.cons (o := ?ozz10) ?hzz10 (fun K hK => ?kzz10) ?mzz10
              case hzz10 => simp only [List.getElem?_toArray, List.getElem?_cons_zero, List.getElem?_cons_succ]; rfl
              case kzz10 =>
                go_simp
                refine hK.out _ _ ?Szz10 (fun hHeld => ?Rzz10)
                case Szz10 =>
                  exact hHeld
                case Rzz10 =>
                  clear hK K
                  try simp only [Act.put, List.setIfInBounds_toArray, List.set_cons_zero, List.set_cons_succ]
                  refine wpAnyL_ready (rs := [9]) (by kernel_rfl) (by simp) ?_
                  refine AllReadyL.consK (o := ?ozz7) ?hzz7 ?lzz7 (fun K hK => ?kzz7) ?mzz7
                  case hzz7 => simp only [List.getElem?_toArray, List.getElem?_cons_zero, List.getElem?_cons_succ]; rfl
                  case lzz7 => kernel_rfl
                  case kzz7 =>
                    go_simp
                    refine hK.out _ _ ?Rzz7
                    case Rzz7 =>
                      clear hK K
                      try simp only [Act.put, List.setIfInBounds_toArray, List.set_cons_zero, List.set_cons_succ]
                      refine wpAnyH_take (i := 10) (oi := ?ozz6) (v := ?vzz6) ?hzz6 ?azz6 ?bzz6 ?czz6 ?qzz6 ?yzz6 ?szz6 ?rzz6
                      case hzz6 => simp only [List.getElem?_toArray, List.getElem?_cons_zero, List.getElem?_cons_succ]; rfl
                      case azz6 => kernel_rfl
                      case bzz6 => kernel_rfl
                      case czz6 => kernel_rfl
                      case yzz6 =>
                        refine Or.inl ⟨by rfl, ?_⟩
                        intro w hSw
                        skip
                        go_simp
                        try with_reducible rfl
                      case qzz6 => exact fun _ _ _ h => h
                      case szz6 => first | assumption | trivial
                      case' rzz6 => simp only [Act.put, List.setIfInBounds_toArray, List.set_cons_zero, List.set_cons_succ]
                      refine wpAnyH_done (by kernel_rfl) ?_ _
                      have hn5 : n5 * 48 ≤ 140737488355328 := by have h1 := Z5.out.1.len; have h2 := HD.out.len; have h3 := HD.out.few; omega
                      have D1 := Lib.hid (Sd.new2 (room := r.1.room) (fuse := r.1.fuse) (off := r.1.off) (Y.out.step Z5.out.2.1) Z5.out.2.2 Z5.out.1)
                      clear e0 e1 e2 e3 f0 f1 f2' f3 x0 x1 x2 x3 y0 y1 y2 y3
                      generalize ((((w5.setCell ⟨w.heap.size, 0, none⟩ (.slice A5 n5 c5)).setCell ⟨w.heap.size, 1, none⟩ (.int .i64 r.1.room)).setCell ⟨w.heap.size, 2, none⟩ (.int .i64 r.1.fuse)).setCell ⟨w.heap.size, 3, none⟩ (.bool r.1.off)) = V at D1 ⊢
                      obtain ⟨⟨e0, e1, e2, e3⟩, f0, f1, f2', f3⟩ := D1.out.sb.get
                      obtain ⟨⟨s0, s1, s2, s3⟩, h0, h1, h2, h3⟩ := D1.out.sb.getR
                      go_wp2
                      refine bodyPost_ret (v := .tuple #[dkv A5 n5 c5 r.1.room r.1.fuse r.1.off, .int .i64 seg, .int .i64 r.2]) (by simp [results, Tryd.results12, go_sem, s0, s1, s2, s3]) rfl ?_
                      exact D1.out.endW hn5 [.int .i64 seg, .int .i64 r.2] _ _ _ _
                  case' mzz7 => skip
                  exact AllReadyL.nil
              case' mzz10 => skip
              refine AllReadyL.consK (o := ?ozz11) ?hzz11 ?lzz11 (fun K hK => ?kzz11) ?mzz11
              case hzz11 => simp only [List.getElem?_toArray, List.getElem?_cons_zero, List.getElem?_cons_succ]; rfl
              case lzz11 => kernel_rfl
              case kzz11 =>
                go_simp
                refine hK.out _ _ ?Rzz11
                case Rzz11 =>
                  clear hK K
                  try simp only [Act.put, List.setIfInBounds_toArray, List.set_cons_zero, List.set_cons_succ]
                  refine wpAnyH_take (i := 8) (oi := ?ozz8) (v := ?vzz8) ?hzz8 ?azz8 ?bzz8 ?czz8 ?qzz8 ?yzz8 ?szz8 ?rzz8
                  case hzz8 => simp only [List.getElem?_toArray, List.getElem?_cons_zero, List.getElem?_cons_succ]; rfl
                  case azz8 => kernel_rfl
                  case bzz8 => kernel_rfl
                  case czz8 => kernel_rfl
                  case yzz8 =>
                    refine Or.inl ⟨by rfl, ?_⟩
                    intro w hSw
                    skip
                    go_simp
                    try with_reducible rfl
                  case qzz8 => exact fun _ _ _ h => h
                  case szz8 => first | assumption | trivial
                  case' rzz8 => simp only [Act.put, List.setIfInBounds_toArray, List.set_cons_zero, List.set_cons_succ]
                  refine wpAnyH_take (i := 10) (oi := ?ozz9) (v := ?vzz9) ?hzz9 ?azz9 ?bzz9 ?czz9 ?qzz9 ?yzz9 ?szz9 ?rzz9
                  case hzz9 => simp only [List.getElem?_toArray, List.getElem?_cons_zero, List.getElem?_cons_succ]; rfl
                  case azz9 => kernel_rfl
                  case bzz9 => kernel_rfl
                  case czz9 => kernel_rfl
                  case yzz9 =>
                    refine Or.inl ⟨by rfl, ?_⟩
                    intro w hSw
                    skip
                    go_simp
                    try with_reducible rfl
                  case qzz9 => exact fun _ _ _ h => h
                  case szz9 => first | assumption | trivial
                  case' rzz9 => simp only [Act.put, List.setIfInBounds_toArray, List.set_cons_zero, List.set_cons_succ]
                  refine wpAnyH_done (by kernel_rfl) ?_ _
                  have hn5 : n5 * 48 ≤ 140737488355328 := by have h1 := Z5.out.1.len; have h2 := HD.out.len; have h3 := HD.out.few; omega
                  have D1 := Lib.hid (Sd.new2 (room := r.1.room) (fuse := r.1.fuse) (off := r.1.off) (Y.out.step Z5.out.2.1) Z5.out.2.2 Z5.out.1)
                  clear e0 e1 e2 e3 f0 f1 f2' f3 x0 x1 x2 x3 y0 y1 y2 y3
                  generalize ((((w5.setCell ⟨w.heap.size, 0, none⟩ (.slice A5 n5 c5)).setCell ⟨w.heap.size, 1, none⟩ (.int .i64 r.1.room)).setCell ⟨w.heap.size, 2, none⟩ (.int .i64 r.1.fuse)).setCell ⟨w.heap.size, 3, none⟩ (.bool r.1.off)) = V at D1 ⊢
                  obtain ⟨⟨e0, e1, e2, e3⟩, f0, f1, f2', f3⟩ := D1.out.sb.get
                  obtain ⟨⟨s0, s1, s2, s3⟩, h0, h1, h2, h3⟩ := D1.out.sb.getR
                  go_wp2
                  refine bodyPost_ret (v := .tuple #[dkv A5 n5 c5 r.1.room r.1.fuse r.1.off, .int .i64 seg, .int .i64 r.2]) (by simp [results, Tryd.results12, go_sem, s0, s1, s2, s3]) rfl ?_
                  exact D1.out.endW hn5 [.int .i64 seg, .int .i64 r.2] _ _ _ _
              case' mzz11 => skip
              exact AllReadyL.nil
          case' mzz12 => skip
          exact AllReadyL.nil
      case' mzz13 => skip
      exact AllReadyL.nil
  case' mzz14 => skip
  exact AllReadyL.nil
end Go.Proofs.YtncippafbohgbaaDoor
