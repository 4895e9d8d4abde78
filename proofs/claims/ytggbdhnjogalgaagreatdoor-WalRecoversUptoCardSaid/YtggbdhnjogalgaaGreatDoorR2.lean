/- DiskSync, DiskSame, DiskArm, DiskSt, DiskMath3, DiskDelete, DiskDrop, DiskDel, DiskRen, DiskRen2, DiskCrash, DiskAppend, DiskAppend2, DiskAppend3, DiskAppend4: merged. -/
import Derived.Test.YtggbdhnjogalgaaGreatDoorR1
import Derived.Laws.StructEq
import Derived.Lib.MinMax
import Derived.Deep.Cut
import Derived.Deep.RegionLaw
import Derived.Deep.RegionHeld3
/- Contracts: open, change, Sync, Arm, New. -/
namespace Go.Proofs.YtggbdhnjogalgaaGreatDoor
set_option maxRecDepth 100000
open Go.RowKit Dkm
set_option linter.unusedVariables false

/-- a disk, and why not, in memory of the call's own. -/
def RetDE (w : World) (d : Dk) (er : Int) (e : Ending) (w' : World) : Prop :=
  ∃ A' n' c', e = .returned (.tuple #[dkv A' n' c' d.room d.fuse d.off, .int .i64 er]) ∧ Own w' w.heap.size A' n' c' d.fs ∧ Q w w'

set_option maxHeartbeats 1000000 in
theorem open_any (nm : ByteArray) (A : Option Addr) (n c : Nat) (room fuse : Int) (off : Bool) (l : List Fil) (w : World) (hf : Files w A n l) (hn : n ≤ maxLen) :
    Calls Tryz.prog 57 #[dkv A n c room fuse off, .string nm] w fun e w' => e = .returned (.tuple #[(opn nm l).1.val, .int .i64 (opn nm l).2]) ∧ Q w w' := by
  have HF := Lib.hid hf
  have HN := Lib.hid hn
  have HL := Lib.hid hf.len
  unfold maxLen at hn
  clear hf
  rcases plc_cases nm l with ⟨hp, hall⟩ | ⟨k, hk, hp, hkn, hfirst⟩
  · rw [opn_none hall, HL.out]
    have HP := Lib.hid hp
    clear hp hall
    go_enter Tryz.func57, Tryz.ntmps57
    go_wp2_with fail
    refine (place nm A n c room fuse off l _ (HF.out.q (((Q.refl _).alloc _).alloc _)) HN.out).mono ?_
    rintro e w1 ⟨rfl, q1⟩
    rw [HP.out]
    obtain ⟨e0, e1, e2, e3⟩ := box4 q1 (b := w.heap.size) (x := .slice A n c) (y := .int .i64 room) (z := .int .i64 fuse) (u := .bool off) (by simp) (by simp) (by simp) (by simp)
    obtain ⟨r0, r1, r2⟩ := box3 q1 (b := w.heap.size + 1) (x := .string ⟨#[]⟩) (y := .string ⟨#[]⟩) (z := .string ⟨#[]⟩) (by simp) (by simp) (by simp)
    obtain ⟨hc, hz⟩ := bcell q1.below
    clear hc
    go_wp2
    go_region
    all_goals (try go_wp2)
    all_goals exact bodyPost_ret (v := .tuple #[Fil.val ⟨nm, ⟨#[]⟩, ⟨#[]⟩⟩, .int .i64 n]) (by simp [results, Tryz.results57, go_sem, r0, r1, r2]) rfl ⟨rfl, ((((Q.refl _).alloc _).alloc _).trans q1).drew.set3 (by simp) _ _ _⟩
  · rw [opn_at hk hkn hfirst]
    have hkn' : k < n := by have := HL.out; omega
    have HP := Lib.hid hp
    clear hp hkn hfirst
    go_enter Tryz.func57, Tryz.ntmps57
    go_wp2_with fail
    refine (place nm A n c room fuse off l _ (HF.out.q (((Q.refl _).alloc _).alloc _)) HN.out).mono ?_
    rintro e w1 ⟨rfl, q1⟩
    rw [HP.out]
    obtain ⟨ad, rfl, hb, c0, c1, c2⟩ := (HF.out.q ((((Q.refl _).alloc _).alloc _).trans q1)).load hkn' hk
    obtain ⟨e0, e1, e2, e3⟩ := box4 q1 (b := w.heap.size) (x := .slice (some ad) n c) (y := .int .i64 room) (z := .int .i64 fuse) (u := .bool off) (by simp) (by simp) (by simp) (by simp)
    obtain ⟨r0, r1, r2⟩ := box3 q1 (b := w.heap.size + 1) (x := .string ⟨#[]⟩) (y := .string ⟨#[]⟩) (z := .string ⟨#[]⟩) (by simp) (by simp) (by simp)
    obtain ⟨hc, hz⟩ := bcell q1.below
    clear hc
    go_wp2
    exact bodyPost_ret (v := .tuple #[(l[k]).val, .int .i64 k]) (by simp [results, Tryz.results57, go_sem, r0, r1, r2]) rfl ⟨rfl, ((((Q.refl _).alloc _).alloc _).trans q1).set3 (by simp) _ _ _⟩

theorem change_none (A : Option Addr) (n c : Nat) (room fuse at_ : Int) (w : World) (h1 : at_ < 0) :
    Calls Tryz.prog 51 #[dkv A n c room fuse false, .int .i64 at_] w fun e w' => e = .returned (.tuple #[dkv A n c room (fuse) false, .int .i64 7]) ∧ Q w w' := by
  go_enter Tryz.func51, Tryz.ntmps51
  go_wp2
  exact bodyPost_ret (v := .tuple #[dkv A n c room (fuse) false, .int .i64 7]) (by simp [results, Tryz.results51, go_sem]) rfl ⟨rfl, ((Q.refl _).alloc _).alloc _⟩

theorem change_zero (A : Option Addr) (n c : Nat) (room fuse at_ : Int) (w : World) (h1 : 0 ≤ at_) (h2 : fuse = 0) :
    Calls Tryz.prog 51 #[dkv A n c room fuse false, .int .i64 at_] w fun e w' => e = .returned (.tuple #[dkv A n c room (0) true, .int .i64 6]) ∧ Q w w' := by
  subst h2
  go_enter Tryz.func51, Tryz.ntmps51
  go_wp2
  exact bodyPost_ret (v := .tuple #[dkv A n c room (0) true, .int .i64 6]) (by simp [results, Tryz.results51, go_sem]) rfl ⟨rfl, ((Q.refl _).alloc _).alloc _⟩

theorem change_pos (A : Option Addr) (n c : Nat) (room fuse at_ : Int) (w : World) (h1 : 0 ≤ at_) (h2 : 0 < fuse) (h3 : fuse ≤ 9223372036854775807) :
    Calls Tryz.prog 51 #[dkv A n c room fuse false, .int .i64 at_] w fun e w' => e = .returned (.tuple #[dkv A n c room (fuse - 1) false, .int .i64 0]) ∧ Q w w' := by
  have hz : (fuse == 0) = false := by simp; omega
  go_enter Tryz.func51, Tryz.ntmps51
  go_wp2
  exact bodyPost_ret (v := .tuple #[dkv A n c room (fuse - 1) false, .int .i64 0]) (by simp [results, Tryz.results51, go_sem]) rfl ⟨rfl, ((Q.refl _).alloc _).alloc _⟩

theorem change_neg (A : Option Addr) (n c : Nat) (room fuse at_ : Int) (w : World) (h1 : 0 ≤ at_) (h2 : fuse < 0) :
    Calls Tryz.prog 51 #[dkv A n c room fuse false, .int .i64 at_] w fun e w' => e = .returned (.tuple #[dkv A n c room (fuse) false, .int .i64 0]) ∧ Q w w' := by
  have hz : (fuse == 0) = false := by simp; omega
  go_enter Tryz.func51, Tryz.ntmps51
  go_wp2
  exact bodyPost_ret (v := .tuple #[dkv A n c room (fuse) false, .int .i64 0]) (by simp [results, Tryz.results51, go_sem]) rfl ⟨rfl, ((Q.refl _).alloc _).alloc _⟩

theorem change_off1 (A : Option Addr) (n c : Nat) (room fuse at_ : Int) (w : World) (h1 : at_ < 0) :
    Calls Tryz.prog 51 #[dkv A n c room fuse true, .int .i64 at_] w fun e w' => e = .returned (.tuple #[dkv A n c room (fuse) true, .int .i64 6]) ∧ Q w w' := by
  go_enter Tryz.func51, Tryz.ntmps51
  go_wp2
  exact bodyPost_ret (v := .tuple #[dkv A n c room (fuse) true, .int .i64 6]) (by simp [results, Tryz.results51, go_sem]) rfl ⟨rfl, ((Q.refl _).alloc _).alloc _⟩

theorem change_off2 (A : Option Addr) (n c : Nat) (room fuse at_ : Int) (w : World) (h1 : 0 ≤ at_) :
    Calls Tryz.prog 51 #[dkv A n c room fuse true, .int .i64 at_] w fun e w' => e = .returned (.tuple #[dkv A n c room (fuse) true, .int .i64 6]) ∧ Q w w' := by
  go_enter Tryz.func51, Tryz.ntmps51
  go_wp2
  exact bodyPost_ret (v := .tuple #[dkv A n c room (fuse) true, .int .i64 6]) (by simp [results, Tryz.results51, go_sem]) rfl ⟨rfl, ((Q.refl _).alloc _).alloc _⟩

theorem change_any (A : Option Addr) (n c : Nat) (room fuse : Int) (off : Bool) (at_ : Int) (w : World) (hf : fuse ≤ 9223372036854775807) :
    Calls Tryz.prog 51 #[dkv A n c room fuse off, .int .i64 at_] w fun e w' => e = .returned (.tuple #[dkv A n c room (chg at_ fuse off).1 (chg at_ fuse off).2.1, .int .i64 (chg at_ fuse off).2.2]) ∧ Q w w' := by
  cases off
  · by_cases h1 : at_ < 0
    · rw [show chg at_ fuse false = (fuse, false, 7) by simp [chg, h1]]
      exact change_none A n c room fuse at_ w h1
    · rcases Int.lt_trichotomy fuse 0 with h2 | h2 | h2
      · rw [show chg at_ fuse false = (fuse, false, 0) by unfold chg; rw [if_neg (by simp; omega), if_neg (by simp; omega), if_neg (by omega)]]
        exact change_neg A n c room fuse at_ w (by omega) h2
      · subst h2
        rw [show chg at_ 0 false = (0, true, 6) by unfold chg; rw [if_neg (by simp; omega), if_pos (by simp)]]
        exact change_zero A n c room 0 at_ w (by omega) rfl
      · rw [show chg at_ fuse false = (fuse - 1, false, 0) by unfold chg; rw [if_neg (by simp; omega), if_neg (by simp; omega), if_pos h2]]
        exact change_pos A n c room fuse at_ w (by omega) h2 hf
  · rw [show chg at_ fuse true = (fuse, true, 6) by simp [chg]]
    by_cases h1 : at_ < 0
    · exact change_off1 A n c room fuse at_ w h1
    · exact change_off2 A n c room fuse at_ w (by omega)

set_option maxHeartbeats 2000000 in
theorem sync_off (nm : ByteArray) (A : Option Addr) (n c : Nat) (room fuse : Int) (l : List Fil) (w : World) (hd : Dsk w A n c l) (p : Int) (hp : plc nm l 0 = p) :
    Calls Tryz.prog 32 #[dkv A n c room fuse true, .string nm] w fun e w' => RetDE w ⟨l, room, fuse, true⟩ 6 e w' := by
  have HD := Lib.hid hd
  have HN := Lib.hid hd.max
  have HP := Lib.hid hp
  clear hd hp
  go_enter Tryz.func32, Tryz.ntmps32
  go_wp2_with fail
  have B0 := two_new w (.slice A n c) (.int .i64 room) (.int .i64 fuse) (.bool true) (.slice none 0 0) (.int .i64 0) (.int .i64 0) (.bool false) 24
  refine (own_any A n c room fuse true l _ (HD.out.q (((Q.refl _).alloc _).alloc _))).mono ?_
  rintro e w1 ⟨A1, c1, rfl, ho, q1⟩
  rw [size_two] at ho
  have HO := Lib.hid (ho.set4 (b := w.heap.size) (by omega) (.slice A1 n c1) (.int .i64 room) (.int .i64 fuse) (.bool true))
  have D1 := Lib.hid ((B0.1.q q1).put4 (.slice A1 n c1) (.int .i64 room) (.int .i64 fuse) (.bool true))
  have R1 := Lib.hid ((B0.2.q q1).far4 (c := w.heap.size) (by omega) (.slice A1 n c1) (.int .i64 room) (.int .i64 fuse) (.bool true))
  have Q1 := Lib.hid ((((((Q.refl w).alloc _).alloc _).trans q1)).set4 (b := w.heap.size) (Nat.le_refl _) (.slice A1 n c1) (.int .i64 room) (.int .i64 fuse) (.bool true))
  obtain ⟨⟨e0, e1, e2, e3⟩, f0, f1, f2, f3⟩ := (B0.1.q q1).get4
  clear B0 q1 ho
  go_wp2_with fail
  refine (place nm A1 n c1 room fuse true l _ HO.out.files HN.out).mono ?_
  rintro e w2 ⟨rfl, q2⟩
  rw [HP.out]
  have HO2 := Lib.hid (HO.out.q q2)
  have Q2 := Lib.hid (Q1.out.trans q2)
  have z0 : w.heap.size < w2.heap.size := (D1.out.q q2).lt
  have z1 : w.heap.size + 1 < w2.heap.size := (R1.out.q q2).lt
  have z2 : w.heap.size ≠ w2.heap.size := by omega
  have z3 : w.heap.size + 1 ≠ w2.heap.size := by omega
  have D2 := Lib.hid (D1.out.q q2)
  have R2 := Lib.hid (R1.out.q q2)
  obtain ⟨⟨d0, d1, d2, d3⟩, g0, g1, g2, g3⟩ := (D1.out.q q2).get4
  obtain ⟨⟨s0, s1, s2, s3⟩, h0, h1, h2, h3⟩ := (R1.out.q q2).get4
  clear q2 e0 e1 e2 e3 f0 f1 f2 f3
  go_wp2
  refine bodyPost_ret (v := .tuple #[dkv A1 n c1 room fuse true, .int .i64 6]) (by simp [results, Tryz.results32, go_sem, s0, s1, s2, s3]) rfl ⟨A1, n, c1, rfl, (HO2.out.set4 (b := w.heap.size + 1) (by omega) _ _ _ _).lower (by omega), Q2.out.set4 (b := w.heap.size + 1) (by omega) _ _ _ _⟩

set_option maxHeartbeats 2000000 in
theorem sync_none (nm : ByteArray) (A : Option Addr) (n c : Nat) (room fuse : Int) (l : List Fil) (w : World) (hd : Dsk w A n c l) (hp : plc nm l 0 = -1) :
    Calls Tryz.prog 32 #[dkv A n c room fuse false, .string nm] w fun e w' => RetDE w ⟨l, room, fuse, false⟩ 7 e w' := by
  have HD := Lib.hid hd
  have HN := Lib.hid hd.max
  have HP := Lib.hid hp
  clear hd hp
  go_enter Tryz.func32, Tryz.ntmps32
  go_wp2_with fail
  have B0 := two_new w (.slice A n c) (.int .i64 room) (.int .i64 fuse) (.bool false) (.slice none 0 0) (.int .i64 0) (.int .i64 0) (.bool false) 24
  refine (own_any A n c room fuse false l _ (HD.out.q (((Q.refl _).alloc _).alloc _))).mono ?_
  rintro e w1 ⟨A1, c1, rfl, ho, q1⟩
  rw [size_two] at ho
  have HO := Lib.hid (ho.set4 (b := w.heap.size) (by omega) (.slice A1 n c1) (.int .i64 room) (.int .i64 fuse) (.bool false))
  have D1 := Lib.hid ((B0.1.q q1).put4 (.slice A1 n c1) (.int .i64 room) (.int .i64 fuse) (.bool false))
  have R1 := Lib.hid ((B0.2.q q1).far4 (c := w.heap.size) (by omega) (.slice A1 n c1) (.int .i64 room) (.int .i64 fuse) (.bool false))
  have Q1 := Lib.hid ((((((Q.refl w).alloc _).alloc _).trans q1)).set4 (b := w.heap.size) (Nat.le_refl _) (.slice A1 n c1) (.int .i64 room) (.int .i64 fuse) (.bool false))
  obtain ⟨⟨e0, e1, e2, e3⟩, f0, f1, f2, f3⟩ := (B0.1.q q1).get4
  clear B0 q1 ho
  go_wp2_with fail
  refine (place nm A1 n c1 room fuse false l _ HO.out.files HN.out).mono ?_
  rintro e w2 ⟨rfl, q2⟩
  rw [HP.out]
  have HO2 := Lib.hid (HO.out.q q2)
  have Q2 := Lib.hid (Q1.out.trans q2)
  have z0 : w.heap.size < w2.heap.size := (D1.out.q q2).lt
  have z1 : w.heap.size + 1 < w2.heap.size := (R1.out.q q2).lt
  have z2 : w.heap.size ≠ w2.heap.size := by omega
  have z3 : w.heap.size + 1 ≠ w2.heap.size := by omega
  have D2 := Lib.hid (D1.out.q q2)
  have R2 := Lib.hid (R1.out.q q2)
  obtain ⟨⟨d0, d1, d2, d3⟩, g0, g1, g2, g3⟩ := (D1.out.q q2).get4
  obtain ⟨⟨s0, s1, s2, s3⟩, h0, h1, h2, h3⟩ := (R1.out.q q2).get4
  clear q2 e0 e1 e2 e3 f0 f1 f2 f3
  go_wp2
  refine bodyPost_ret (v := .tuple #[dkv A1 n c1 room fuse false, .int .i64 7]) (by simp [results, Tryz.results32, go_sem, s0, s1, s2, s3]) rfl ⟨A1, n, c1, rfl, (HO2.out.set4 (b := w.heap.size + 1) (by omega) _ _ _ _).lower (by omega), Q2.out.set4 (b := w.heap.size + 1) (by omega) _ _ _ _⟩

set_option maxHeartbeats 2000000 in
theorem sync_at (nm : ByteArray) (A : Option Addr) (n c : Nat) (room fuse : Int) (l : List Fil) (w : World) (hd : Dsk w A n c l) (k : Nat) (hk : k < l.length) (hp : plc nm l 0 = k) (hs : l[k].sf.size + l[k].wt.size ≤ maxLen) :
    Calls Tryz.prog 32 #[dkv A n c room fuse false, .string nm] w fun e w' => RetDE w ⟨l.set k ⟨l[k].nm, l[k].sf ++ l[k].wt, ⟨#[]⟩⟩, room, fuse, false⟩ 0 e w' := by
  unfold maxLen at hs
  have hkn : k < n := by have := hd.len; omega
  have hnm := hd.max
  unfold maxLen at hnm
  have HD := Lib.hid hd
  have HN := Lib.hid hd.max
  have HP := Lib.hid hp
  clear hd hp
  go_enter Tryz.func32, Tryz.ntmps32
  go_wp2_with fail
  have B0 := two_new w (.slice A n c) (.int .i64 room) (.int .i64 fuse) (.bool false) (.slice none 0 0) (.int .i64 0) (.int .i64 0) (.bool false) 24
  refine (own_any A n c room fuse false l _ (HD.out.q (((Q.refl _).alloc _).alloc _))).mono ?_
  rintro e w1 ⟨A1, c1, rfl, ho, q1⟩
  rw [size_two] at ho
  have HO := Lib.hid (ho.set4 (b := w.heap.size) (by omega) (.slice A1 n c1) (.int .i64 room) (.int .i64 fuse) (.bool false))
  have D1 := Lib.hid ((B0.1.q q1).put4 (.slice A1 n c1) (.int .i64 room) (.int .i64 fuse) (.bool false))
  have R1 := Lib.hid ((B0.2.q q1).far4 (c := w.heap.size) (by omega) (.slice A1 n c1) (.int .i64 room) (.int .i64 fuse) (.bool false))
  have Q1 := Lib.hid ((((((Q.refl w).alloc _).alloc _).trans q1)).set4 (b := w.heap.size) (Nat.le_refl _) (.slice A1 n c1) (.int .i64 room) (.int .i64 fuse) (.bool false))
  obtain ⟨⟨e0, e1, e2, e3⟩, f0, f1, f2, f3⟩ := (B0.1.q q1).get4
  clear B0 q1 ho
  go_wp2_with fail
  refine (place nm A1 n c1 room fuse false l _ HO.out.files HN.out).mono ?_
  rintro e w2 ⟨rfl, q2⟩
  rw [HP.out]
  have HO2 := Lib.hid (HO.out.q q2)
  have Q2 := Lib.hid (Q1.out.trans q2)
  have z0 : w.heap.size < w2.heap.size := (D1.out.q q2).lt
  have z1 : w.heap.size + 1 < w2.heap.size := (R1.out.q q2).lt
  have z2 : w.heap.size ≠ w2.heap.size := by omega
  have z3 : w.heap.size + 1 ≠ w2.heap.size := by omega
  have D2 := Lib.hid (D1.out.q q2)
  have R2 := Lib.hid (R1.out.q q2)
  obtain ⟨⟨d0, d1, d2, d3⟩, g0, g1, g2, g3⟩ := (D1.out.q q2).get4
  obtain ⟨⟨s0, s1, s2, s3⟩, h0, h1, h2, h3⟩ := (R1.out.q q2).get4
  clear q2 e0 e1 e2 e3 f0 f1 f2 f3
  obtain ⟨ad, rfl, hb, c0, c1', c2⟩ := HO2.out.files.load hkn hk
  go_wp2_with fail
  refine (set_mid (w.heap.size + 2) (some ad) n c1 k ⟨l[k].nm, l[k].sf ++ l[k].wt, ⟨#[]⟩⟩ l _ (HO2.out.alloc _) hkn).mono ?_
  rintro e w3 ⟨rfl, ho3, b3⟩
  have HO3 := Lib.hid ho3
  have Q3 := Lib.hid (show Q w w3 from (Q2.out.alloc _).below.trans (b3.mono (by omega)))
  have D3 := (D2.out.alloc _).below b3 (by omega)
  have R3 := (R2.out.alloc _).below b3 (by omega)
  clear ho3 b3 d0 d1 d2 d3 g0 g1 g2 g3 s0 s1 s2 s3 h0 h1 h2 h3 c0 c1' c2
  obtain ⟨⟨d0, d1, d2, d3⟩, g0, g1, g2, g3⟩ := D3.get4
  obtain ⟨⟨s0, s1, s2, s3⟩, h0, h1, h2, h3⟩ := R3.get4
  clear D3 R3
  go_wp2
  refine bodyPost_ret (v := .tuple #[dkv (some ad) n c1 room fuse false, .int .i64 0]) (by simp [results, Tryz.results32, go_sem, s0, s1, s2, s3]) rfl ⟨some ad, n, c1, rfl, ((HO3.out.setCell (p := ⟨w.heap.size, 0, none⟩) (by simp) _).set4 (b := w.heap.size + 1) (by omega) _ _ _ _).lower (by omega), (Q3.out.setCell (p := ⟨w.heap.size, 0, none⟩) (Nat.le_refl _) _).set4 (b := w.heap.size + 1) (by omega) _ _ _ _⟩

/-- what Sync makes of a disk. -/
theorem sync_any (nm : ByteArray) (A : Option Addr) (n c : Nat) (d : Dk) (w : World) (hd : Dsk w A n c d.fs) (hs : ∀ f ∈ d.fs, f.sf.size + f.wt.size ≤ maxLen) :
    Calls Tryz.prog 32 #[dkv A n c d.room d.fuse d.off, .string nm] w fun e w' => RetDE w (syn d nm).1 (syn d nm).2 e w' := by
  obtain ⟨l, room, fuse, off⟩ := d
  cases off
  · rcases plc_cases nm l with ⟨hp, hall⟩ | ⟨k, hk, hp, hkn, hfirst⟩
    · rw [syn_none hall]
      exact sync_none nm A n c room fuse l w hd hp
    · rw [syn_at hk hkn hfirst]
      exact sync_at nm A n c room fuse l w hd k hk hp (hs _ (List.getElem_mem hk))
  · exact sync_off nm A n c room fuse l w hd _ rfl
end Go.Proofs.YtggbdhnjogalgaaGreatDoor

/- Contracts: New, Arm, Same, in the program and in the document's answer. -/
namespace Go.Proofs.YtggbdhnjogalgaaGreatDoor
set_option maxRecDepth 100000
open Go.RowKit Dkm
set_option linter.unusedVariables false

instance : DecidableEq Fil := fun f g => decidable_of_iff (f.nm = g.nm ∧ f.sf = g.sf ∧ f.wt = g.wt) ⟨fun h => Fil.ext_ h.1 h.2.1 h.2.2, fun h => by subst h; exact ⟨rfl, rfl, rfl⟩⟩

theorem neq_file (W : World) (f g : Fil) : (binOp .neq 42 f.val g.val).run Tryz.prog W = .ok (.bool (!decide (f = g))) W := by
  have u := Tryz.underlying9
  have hS : Tryz.prog.underlying 42 = some (.struct (Tryz.prog.fieldsOf 42)) := by kernel_rfl
  have hp : Tryz.prog.stoodInHeld 42 = false := by kernel_rfl
  have a3 := Tryz.isAgg9
  have z3 := Tryz.sizeOf9
  obtain ⟨a, b, c⟩ := f
  obtain ⟨a', b', c'⟩ := g
  rw [run_neq_struct, show (10000 : Nat) = 9999 + 1 from rfl, run_equalIn_agg W 9999 _ _ _ hS hp]
  simp only [Program.fieldsOf, Tryz.underlying42]
  go_simp
  simp only [str_inj]
  by_cases h1 : a = a' <;> by_cases h2 : b = b' <;> by_cases h3 : c = c' <;> simp [h1, h2, h3]

/-- are two disks the same? -/
def sameD (a b : Dk) : Bool := decide (a.fs = b.fs ∧ a.room = b.room ∧ a.fuse = b.fuse ∧ a.off = b.off)

end Go.Proofs.YtggbdhnjogalgaaGreatDoor

/- Contracts: Arm. -/
namespace Go.Proofs.YtggbdhnjogalgaaGreatDoor
set_option maxRecDepth 100000
open Go.RowKit Dkm
set_option linter.unusedVariables false

def RetD (w : World) (d : Dk) (e : Ending) (w' : World) : Prop :=
  ∃ A' n' c', e = .returned (dkv A' n' c' d.room d.fuse d.off) ∧ Own w' w.heap.size A' n' c' d.fs ∧ Q w w'

end Go.Proofs.YtggbdhnjogalgaaGreatDoor

/- The state of a call that has taken a disk of its own: the variable's box, the result's box, the list. -/
namespace Go.Proofs.YtggbdhnjogalgaaGreatDoor
set_option maxRecDepth 100000
open Go.RowKit Dkm
set_option linter.unusedVariables false

structure St (w : World) (A1 : Option Addr) (n c1 : Nat) (room fuse : Int) (off : Bool) (l : List Fil) (wr : World) : Prop where
  own : Own wr (w.heap.size + 2) A1 n c1 l
  box : Bx wr w.heap.size [.slice A1 n c1, .int .i64 room, .int .i64 fuse, .bool off]
  res : Bx wr (w.heap.size + 1) [.slice none 0 0, .int .i64 0, .int .i64 0, .bool false]
  q : Q w wr

theorem St.new {w w1 : World} {A A1 : Option Addr} {n c n1 c1 : Nat} {room fuse room1 fuse1 : Int} {off off1 : Bool} {l : List Fil}
    (ho : Own w1 ((w.alloc (.cells #[.slice A n c, .int .i64 room, .int .i64 fuse, .bool off] 24)).alloc (.cells #[.slice none 0 0, .int .i64 0, .int .i64 0, .bool false] 24)).heap.size A1 n1 c1 l)
    (q1 : Q ((w.alloc (.cells #[.slice A n c, .int .i64 room, .int .i64 fuse, .bool off] 24)).alloc (.cells #[.slice none 0 0, .int .i64 0, .int .i64 0, .bool false] 24)) w1) :
    St w A1 n1 c1 room1 fuse1 off1 l ((((w1.setCell ⟨w.heap.size, 0, none⟩ (.slice A1 n1 c1)).setCell ⟨w.heap.size, 1, none⟩ (.int .i64 room1)).setCell ⟨w.heap.size, 2, none⟩ (.int .i64 fuse1)).setCell ⟨w.heap.size, 3, none⟩ (.bool off1)) := by
  have B0 := two_new w (.slice A n c) (.int .i64 room) (.int .i64 fuse) (.bool off) (.slice none 0 0) (.int .i64 0) (.int .i64 0) (.bool false) 24
  rw [size_two] at ho
  exact ⟨ho.set4 (b := w.heap.size) (by omega) _ _ _ _, (B0.1.q q1).put4 _ _ _ _, (B0.2.q q1).far4 (c := w.heap.size) (by omega) _ _ _ _, (((((Q.refl w).alloc _).alloc _).trans q1)).set4 (b := w.heap.size) (Nat.le_refl _) _ _ _ _⟩
theorem St.get0 {w w1 : World} {A : Option Addr} {n c : Nat} {room fuse : Int} {off : Bool}
    (q1 : Q ((w.alloc (.cells #[.slice A n c, .int .i64 room, .int .i64 fuse, .bool off] 24)).alloc (.cells #[.slice none 0 0, .int .i64 0, .int .i64 0, .bool false] 24)) w1) :
    (w1.cell? ⟨w.heap.size, 0, none⟩ = some (.slice A n c) ∧ w1.cell? ⟨w.heap.size, 1, none⟩ = some (.int .i64 room) ∧ w1.cell? ⟨w.heap.size, 2, none⟩ = some (.int .i64 fuse) ∧ w1.cell? ⟨w.heap.size, 3, none⟩ = some (.bool off)) ∧
    w1.frozen? ⟨w.heap.size, 0, none⟩ = false ∧ w1.frozen? ⟨w.heap.size, 1, none⟩ = false ∧ w1.frozen? ⟨w.heap.size, 2, none⟩ = false ∧ w1.frozen? ⟨w.heap.size, 3, none⟩ = false :=
  ((two_new w (.slice A n c) (.int .i64 room) (.int .i64 fuse) (.bool off) (.slice none 0 0) (.int .i64 0) (.int .i64 0) (.bool false) 24).1.q q1).get4

section
variable {w wr : World} {A1 : Option Addr} {n c1 : Nat} {room fuse : Int} {off : Bool} {l : List Fil}
theorem St.lt (h : St w A1 n c1 room fuse off l wr) : w.heap.size < wr.heap.size ∧ w.heap.size + 1 < wr.heap.size ∧ w.heap.size ≠ wr.heap.size ∧ w.heap.size + 1 ≠ wr.heap.size := by
  have := h.res.lt; omega
theorem St.step {w2 : World} (h : St w A1 n c1 room fuse off l wr) (hq : Q wr w2) : St w A1 n c1 room fuse off l w2 := ⟨h.own.q hq, h.box.q hq, h.res.q hq, h.q.trans hq⟩
theorem St.alloc (h : St w A1 n c1 room fuse off l wr) (o : Obj) : St w A1 n c1 room fuse off l (wr.alloc o) := h.step ((Q.refl _).alloc o)
theorem St.drewN (h : St w A1 n c1 room fuse off l wr) (k : Nat) : St w A1 n c1 room fuse off l (wr.drewN k) := h.step ((Q.refl _).drewN k)
theorem St.drew (h : St w A1 n c1 room fuse off l wr) : St w A1 n c1 room fuse off l wr.drew := h.step (Q.refl _).drew
theorem St.put (h : St w A1 n c1 room fuse off l wr) {k : Nat} (hk : k < 4) (u : Value) {A2 : Option Addr} {n2 c2 : Nat} {room2 fuse2 : Int} {off2 : Bool} {l2 : List Fil} (hv : [Value.slice A1 n c1, .int .i64 room, .int .i64 fuse, .bool off].set k u = [.slice A2 n2 c2, .int .i64 room2, .int .i64 fuse2, .bool off2]) (ho : Own wr (w.heap.size + 2) A2 n2 c2 l2) :
    St w A2 n2 c2 room2 fuse2 off2 l2 (wr.setCell ⟨w.heap.size, k, none⟩ u) :=
  ⟨ho.setCell (p := ⟨w.heap.size, k, none⟩) (by simp) u, by rw [← hv]; exact h.box.set (k := k) (by simpa using hk) u, h.res.far (p := ⟨w.heap.size, k, none⟩) (by simp) u, h.q.setCell (p := ⟨w.heap.size, k, none⟩) (Nat.le_refl _) u⟩
theorem St.setRoom (h : St w A1 n c1 room fuse off l wr) (x : Int) : St w A1 n c1 x fuse off l (wr.setCell ⟨w.heap.size, 1, none⟩ (.int .i64 x)) := h.put (k := 1) (by omega) _ rfl h.own
theorem St.setFuse (h : St w A1 n c1 room fuse off l wr) (x : Int) : St w A1 n c1 room x off l (wr.setCell ⟨w.heap.size, 2, none⟩ (.int .i64 x)) := h.put (k := 2) (by omega) _ rfl h.own
theorem St.setOff (h : St w A1 n c1 room fuse off l wr) (x : Bool) : St w A1 n c1 room fuse x l (wr.setCell ⟨w.heap.size, 3, none⟩ (.bool x)) := h.put (k := 3) (by omega) _ rfl h.own
/-- behind a call that wrote into the list alone. -/
theorem St.wrote {w2 : World} (h : St w A1 n c1 room fuse off l wr) {A2 : Option Addr} {n2 c2 : Nat} {l2 : List Fil} (ho : Own w2 (w.heap.size + 2) A2 n2 c2 l2) (hb : Below (w.heap.size + 2) wr w2) :
    St w A2 n2 c2 room fuse off l2 (w2.setCell ⟨w.heap.size, 0, none⟩ (.slice A2 n2 c2)) := by
  have hb0 : Bx w2 w.heap.size [.slice A1 n c1, .int .i64 room, .int .i64 fuse, .bool off] := h.box.below hb (by omega)
  have hr0 : Bx w2 (w.heap.size + 1) [.slice none 0 0, .int .i64 0, .int .i64 0, .bool false] := h.res.below hb (by omega)
  have hq : Q w w2 := h.q.below.trans (hb.mono (by omega))
  exact ⟨ho.setCell (p := ⟨w.heap.size, 0, none⟩) (by simp) _, hb0.set (k := 0) (by simp) _, hr0.far (p := ⟨w.heap.size, 0, none⟩) (by simp) _, hq.setCell (p := ⟨w.heap.size, 0, none⟩) (Nat.le_refl _) _⟩
theorem St.get (h : St w A1 n c1 room fuse off l wr) : ((wr.cell? ⟨w.heap.size, 0, none⟩ = some (.slice A1 n c1) ∧ wr.cell? ⟨w.heap.size, 1, none⟩ = some (.int .i64 room) ∧ wr.cell? ⟨w.heap.size, 2, none⟩ = some (.int .i64 fuse) ∧ wr.cell? ⟨w.heap.size, 3, none⟩ = some (.bool off)) ∧
    wr.frozen? ⟨w.heap.size, 0, none⟩ = false ∧ wr.frozen? ⟨w.heap.size, 1, none⟩ = false ∧ wr.frozen? ⟨w.heap.size, 2, none⟩ = false ∧ wr.frozen? ⟨w.heap.size, 3, none⟩ = false) := h.box.get4
theorem St.getR (h : St w A1 n c1 room fuse off l wr) : ((wr.cell? ⟨w.heap.size + 1, 0, none⟩ = some (.slice none 0 0) ∧ wr.cell? ⟨w.heap.size + 1, 1, none⟩ = some (.int .i64 0) ∧ wr.cell? ⟨w.heap.size + 1, 2, none⟩ = some (.int .i64 0) ∧ wr.cell? ⟨w.heap.size + 1, 3, none⟩ = some (.bool false)) ∧
    wr.frozen? ⟨w.heap.size + 1, 0, none⟩ = false ∧ wr.frozen? ⟨w.heap.size + 1, 1, none⟩ = false ∧ wr.frozen? ⟨w.heap.size + 1, 2, none⟩ = false ∧ wr.frozen? ⟨w.heap.size + 1, 3, none⟩ = false) := h.res.get4
theorem St.endDE (h : St w A1 n c1 room fuse off l wr) (er : Int) (x y z u : Value) : RetDE w ⟨l, room, fuse, off⟩ er (.returned (.tuple #[dkv A1 n c1 room fuse off, .int .i64 er])) ((((wr.setCell ⟨w.heap.size + 1, 0, none⟩ x).setCell ⟨w.heap.size + 1, 1, none⟩ y).setCell ⟨w.heap.size + 1, 2, none⟩ z).setCell ⟨w.heap.size + 1, 3, none⟩ u) :=
  ⟨A1, n, c1, rfl, (h.own.set4 (b := w.heap.size + 1) (by omega) _ _ _ _).lower (by omega), h.q.set4 (b := w.heap.size + 1) (by omega) _ _ _ _⟩
end
end Go.Proofs.YtggbdhnjogalgaaGreatDoor

/- The disk in plain mathematics: lengths and sizes of what each call makes of a disk; renames and deletions. -/
namespace Go.Proofs.YtggbdhnjogalgaaGreatDoor
set_option maxRecDepth 100000
open Go.RowKit Dkm
namespace Dkm
theorem set_sum {B : Nat} {l : List Fil} (h : ∀ f ∈ l, f.sf.size + f.wt.size ≤ B) {k : Nat} {g : Fil} (hg : g.sf.size + g.wt.size ≤ B) : ∀ f ∈ l.set k g, f.sf.size + f.wt.size ≤ B := by
  intro f hf
  rcases List.mem_or_eq_of_mem_set hf with hf | rfl
  · exact h f hf
  · exact hg
theorem syn_len (d : Dk) (nm : ByteArray) : (syn d nm).1.fs.length = d.fs.length := by
  unfold syn; split
  · rfl
  · split <;> simp
theorem syn_sum {B : Nat} (d : Dk) (nm : ByteArray) (h : ∀ f ∈ d.fs, f.sf.size + f.wt.size ≤ B) : ∀ f ∈ (syn d nm).1.fs, f.sf.size + f.wt.size ≤ B := by
  obtain ⟨l, room, fuse, off⟩ := d
  cases off
  · rcases plc_cases nm l with ⟨hp, hall⟩ | ⟨k, hk, hp, hkn, hfirst⟩
    · rw [syn_none hall]; exact h
    · rw [syn_at hk hkn hfirst]
      refine set_sum h ?_
      have e : (⟨#[]⟩ : ByteArray).size = 0 := rfl
      have := h _ (List.getElem_mem hk)
      simp only [ByteArray.size_append, e]; omega
  · exact h
theorem put_sum {B : Nat} {l : List Fil} (h : ∀ f ∈ l, f.sf.size + f.wt.size ≤ B) {k : Nat} {g : Fil} (hg : g.sf.size + g.wt.size ≤ B) : ∀ f ∈ put l k g, f.sf.size + f.wt.size ≤ B := by
  unfold put; split
  · intro f hf
    rcases List.mem_append.1 hf with hf | hf
    · exact h f hf
    · simp at hf; subst hf; exact hg
  · exact set_sum h hg
theorem cut_size (fuse : Int) (s : ByteArray) : (cut fuse s).size ≤ s.size := by
  unfold cut; split
  · rw [ByteArray.size_extract]; omega
  · exact Nat.le_refl _
theorem appd_sum {B : Nat} (d : Dk) (nm s : ByteArray) (hB : 65536 ≤ B) (h : ∀ f ∈ d.fs, f.sf.size + f.wt.size ≤ B) : ∀ f ∈ (appd d nm s).1.fs, f.sf.size + f.wt.size ≤ B := by
  unfold appd
  split
  · exact h
  split
  · exact h
  split
  · exact h
  split
  · exact h
  rename_i _ _ _ h4
  refine put_sum h ?_
  have := cut_size d.fuse s
  simp only [ByteArray.size_append]
  omega
theorem appd_len (d : Dk) (nm s : ByteArray) : (appd d nm s).1.fs.length ≤ d.fs.length + 1 := by
  unfold appd
  split
  · exact Nat.le_succ _
  split
  · exact Nat.le_succ _
  split
  · exact Nat.le_succ _
  split
  · exact Nat.le_succ _
  show (put _ _ _).length ≤ _
  unfold put; split <;> simp
/-- a file goes: Room is more by its bytes. -/
def lss (d : Dk) (k : Nat) : Dk :=
  { d with fs := d.fs.eraseIdx k, room := wrap64 (d.room + (((d.fs.getD k ⟨⟨#[]⟩, ⟨#[]⟩, ⟨#[]⟩⟩).sf.size + (d.fs.getD k ⟨⟨#[]⟩, ⟨#[]⟩, ⟨#[]⟩⟩).wt.size : Nat) : Int)) }
/-- power for a change. -/
def pow (d : Dk) : Dk × Bool := if d.fuse = 0 then ({ d with off := true }, false) else if 0 < d.fuse then ({ d with fuse := d.fuse - 1 }, true) else (d, true)
/-- what Delete makes of a disk. -/
def del (d : Dk) (nm : ByteArray) : Dk × Int :=
  if d.off then (d, 6) else if (hit nm d.fs).2 = false then (d, 7) else if (pow d).2 = false then ((pow d).1, 6) else (lss (pow d).1 (opn nm d.fs).2, 0)
/-- a file gets another name. -/
def nmd (d : Dk) (k : Nat) (to : ByteArray) : Dk :=
  { d with fs := d.fs.set k ⟨to, (d.fs.getD k ⟨⟨#[]⟩, ⟨#[]⟩, ⟨#[]⟩⟩).sf, (d.fs.getD k ⟨⟨#[]⟩, ⟨#[]⟩, ⟨#[]⟩⟩).wt⟩ }
/-- what Rename makes of a disk. -/
def ren (d : Dk) (fr to : ByteArray) : Dk × Int :=
  if d.off then (d, 6) else if nmOk to = false then (d, 1) else if (hit fr d.fs).2 = false then (d, 7) else if fr = to then (d, 0) else if (pow d).2 = false then ((pow d).1, 6)
  else if (hit to d.fs).2 then (lss (nmd (pow d).1 (opn fr d.fs).2 to) (opn to d.fs).2, 0) else (nmd (pow d).1 (opn fr d.fs).2 to, 0)
theorem wrap_rng (x : Int) : -9223372036854775808 ≤ wrap64 x ∧ wrap64 x ≤ 9223372036854775807 := by unfold wrap64; omega
end Dkm
end Go.Proofs.YtggbdhnjogalgaaGreatDoor

/- Contracts: slices.Delete at files. -/
namespace Go.Proofs.YtggbdhnjogalgaaGreatDoor
set_option maxRecDepth 100000
open Go.RowKit Dkm
set_option linter.unusedVariables false

theorem rows_drop (l : List Fil) : ∀ (m : Nat), rows (l.drop m) = (rows l).drop (m * 3) := by
  induction l with
  | nil => intro m; simp [rows]
  | cons f l ih =>
    intro m
    cases m with
    | zero => simp
    | succ m =>
      rw [List.drop_succ_cons, ih m, rows, show (m + 1) * 3 = f.row.length + m * 3 by simp [Fil.row]; omega, List.drop_length_add_append]
theorem rows_take (l : List Fil) : ∀ (m : Nat), rows (l.take m) = (rows l).take (m * 3) := by
  induction l with
  | nil => intro m; simp [rows]
  | cons f l ih =>
    intro m
    cases m with
    | zero => simp [rows]
    | succ m =>
      rw [List.take_succ_cons, rows, ih m, rows, show (m + 1) * 3 = f.row.length + m * 3 by simp [Fil.row]; omega, List.take_length_add_append]
theorem own_cells {w : World} {base g n c : Nat} {l : List Fil} (h : Own w base (some ⟨g, 0, none⟩) n c l) (m : Nat) : ∀ j u, (rows (l.drop m))[j]? = some u → w.cell? ⟨g, m * 3 + j, none⟩ = some u := by
  intro j u hu
  rw [rows_drop, List.getElem?_drop] at hu
  have hl : m * 3 + j < (rows l).length := (List.getElem?_eq_some_iff.1 hu).1
  rw [World.ownsRow.cellAt h _ (by rw [← h.1]; exact hl)]
  exact hu
theorem own_spare {w : World} {base g n c : Nat} {l : List Fil} (h : Own w base (some ⟨g, 0, none⟩) n c l) (j : Nat) (hj : j < c * 3) : (w.cell? ⟨g, j, none⟩).isSome = true ∧ w.frozen? ⟨g, j, none⟩ = false := by
  refine ⟨?_, World.ownsRow.frozenAt h _⟩
  rcases h.parts with ⟨e, _⟩ | ⟨g', cur, e, hb, hh, hc, hm, hs, ht⟩
  · cases e
  injection e with e
  injection e with e
  subst e
  rw [cell_of_row _ _ j _ 42 (0, 0) hh]
  rw [Array.getElem?_eq_getElem (by omega)]
  rfl

theorem row_spare {w : World} {base g n c : Nat} {xs : List Value} (h : w.ownsRow base 42 3 (.slice (some ⟨g, 0, none⟩) n c) n xs) (j : Nat) (hj : j < c * 3) : (w.cell? ⟨g, j, none⟩).isSome = true ∧ w.frozen? ⟨g, j, none⟩ = false := by
  refine ⟨?_, World.ownsRow.frozenAt h _⟩
  rcases h.2 with ⟨e, _⟩ | ⟨g', cap, cur, e, hb, hh, hc, hm, hs, ht⟩
  · cases e
  injection e with e e2 e3
  injection e with e
  injection e with e
  subst e e3
  rw [cell_of_row _ _ j _ 42 (0, 0) hh]
  rw [Array.getElem?_eq_getElem (by omega)]
  rfl
theorem clear_one (w : World) (ty : TypeId) (b o c : Nat) (hc : ∀ j, j < 3 → (w.cell? ⟨b, o + j, none⟩).isSome = true) (hf : ∀ j, j < 3 → w.frozen? ⟨b, o + j, none⟩ = false) :
    (Builtin.clear_ #[22] ty #[.slice (some ⟨b, o, none⟩) 1 c]).run Tryz.prog w = .ok (.tuple #[]) (w.setCells b o [.string ⟨#[]⟩, .string ⟨#[]⟩, .string ⟨#[]⟩]) := by
  have hst := run_storeCells_cells (P := Tryz.prog) b o [.string ⟨#[]⟩, .string ⟨#[]⟩, .string ⟨#[]⟩] 0 w (by simpa using hc) (by simpa using hf) (by intro v hv; simp at hv; subst hv; rfl)
  simp only [Nat.add_zero] at hst
  have e : (Builtin.zeroCells (Value.agg #[.string ⟨#[]⟩, .string ⟨#[]⟩, .string ⟨#[]⟩]).cells 1).toList = [.string ⟨#[]⟩, .string ⟨#[]⟩, .string ⟨#[]⟩] := by kernel_rfl
  simp [Builtin.clear_, run_underlying Tryz.underlying22, e, hst]
theorem take_mid {α : Type} {P R Z D : List α} {L : Nat} (h : P.length = L) : ((P ++ R).take L ++ Z ++ D).take L = P := by
  rw [List.take_left' h, List.append_assoc, List.take_left' h]
theorem erase_rows (l : List Fil) (k m : Nat) (R Z D : List Value) (hl : l.length = m + 1) (hk : k < m + 1) :
    (((rows l).take (0 + k * 3) ++ rows (l.drop (k + 1)) ++ R).take (m * 3) ++ Z ++ D).take (m * 3) = rows (l.eraseIdx k) := by
  rw [List.eraseIdx_eq_take_drop_succ, rows_append, rows_take, Nat.zero_add]
  exact take_mid (by rw [List.length_append, List.length_take, rows_length, rows_length, List.length_drop, hl]; omega)

theorem fin_ {w : World} {base g c k m : Nat} {l : List Fil} {R Z D : List Value} (hl : l.length = m + 1) (hk : k < m + 1)
    (h : w.ownsRow base 42 3 (.slice (some ⟨g, 0, none⟩) m c) m ((((rows l).take (k * 3) ++ rows (l.drop (k + 1)) ++ R).take (m * 3) ++ Z ++ D).take (m * 3))) : Own w base (some ⟨g, 0, none⟩) m c (l.eraseIdx k) := by
  have e := erase_rows l k m R Z D hl hk
  rw [Nat.zero_add] at e
  rw [e] at h
  exact h

set_option maxHeartbeats 2000000 in
theorem delete_at (base : Nat) (g m c k : Nat) (l : List Fil) (w : World) (h : Own w base (some ⟨g, 0, none⟩) (m + 1) c l) (hk : k < m + 1) :
    Calls Tryz.prog 76 #[.slice (some ⟨g, 0, none⟩) (m + 1) c, .int .i64 k, .int .i64 ((k : Int) + 1)] w fun e w' => e = .returned (.slice (some ⟨g, 0, none⟩) m c) ∧ Own w' base (some ⟨g, 0, none⟩) m c (l.eraseIdx k) ∧ w.grownBy w' (some g) := by
  obtain ⟨i0, hi, hz, hsz, hy⟩ := info_parts file_info
  obtain ⟨hb, hc, hm⟩ : base ≤ g ∧ m + 1 ≤ c ∧ c ≤ maxLen := by
    rcases h.parts with ⟨e, _⟩ | ⟨g', cur, e, hb, hh, hc, hm, hs, ht⟩
    · cases e
    injection e with e
    injection e with e
    subst e
    exact ⟨hb, hc, hm⟩
  unfold maxLen at hm
  have HO := Lib.hid h
  have HL := Lib.hid h.len
  clear h
  have b1 : ((k : Int) == (k : Int) + 1) = false := by simp; omega
  have s1 := Lib.hid (show (rows (l.drop (k + 1))).length = (m - k) * 3 by rw [rows_length, List.length_drop, HL.out]; omega)
  have s3 := Lib.hid (show ∀ u ∈ rows (l.drop (k + 1)), u.oneCell' = true from rows_one _)
  have s4 := Lib.hid (show ∀ j, j < (rows (l.drop (k + 1))).length → (w.drew.cell? ⟨g, 0 + k * 3 + j, none⟩).isSome = true ∧ w.drew.frozen? ⟨g, 0 + k * 3 + j, none⟩ = false from fun j hj => by
    rw [s1.out] at hj
    exact own_spare HO.out (0 + k * 3 + j) (by omega))
  have HB := Lib.hid hb
  clear hb
  have q1 : k ≤ c := by omega
  have q2 : k + 1 ≤ c := by omega
  have q3 : k ≤ m := by omega
  have q4 : (k : Int) + 1 ≤ (m : Int) + 1 := by omega
  have q5 : (k : Int) + 1 ≤ c := by omega
  have q6 : (k : Int) ≤ c := by omega
  have q7 : 0 ≤ (k : Int) + 1 := by omega
  have q11 : (k : Int) ≤ (k : Int) + 1 := by omega
  have q12 : k ≤ k + 1 := by omega
  have q8 : m ≤ c := by omega
  have q9 : (m : Int) ≤ c := by omega
  have q10 : (c = m) = False := by simp; omega
  have y := owns_setCells (e := 42) (sz := 3) (rows (l.drop (k + 1))) (k * 3) w.drew (rows l) (show w.drew.ownsRow base 42 3 (.slice (some ⟨g, 0, none⟩) (m + 1) c) (m + 1) (rows l) from HO.out) (by rw [s1.out, rows_length, HL.out]; omega)
  have Y := Lib.hid (And.intro y (only_sets (rows (l.drop (k + 1))) (k * 3) w.drew (only_drew (only_refl w g))))
  clear y
  by_cases hck : c = k + 1
  · have e : k = m := by omega
    subst e
    subst hck
    have s2 := Lib.hid (show ∀ j u, (rows (l.drop (k + 1)))[j]? = some u → w.drew.cell? ((⟨g, 0, none⟩ : Addr).add j) = some u from fun j u hu => by
      have := (List.getElem?_eq_some_iff.1 hu).1
      rw [s1.out] at this
      omega)
    clear q3
    rw [Nat.sub_self] at s1
    go_enter Tryz.func76, Tryz.ntmps76
    go_wp2
    go_region_law ((refine step_append_room (by rfl) _ _ _ (by rfl) _ i0 3 Tryz.underlying22 hi hsz _ _ _ _ (by rfl) _ _ _ (rows (l.drop (k + 1))) (by rfl) s1.out s2.out s3.out (by omega) s4.out ?_))
    generalize w.drew.setCells g (k * 3) (rows (l.drop (k + 1))) = W1 at Y ⊢
    obtain ⟨y, z⟩ := Y.out
    have hcl : ∀ ty, (Builtin.clear_ #[22] ty #[.slice (some ⟨g, k * 3, none⟩) 1 1]).run Tryz.prog W1 = .ok (.tuple #[]) (W1.setCells g (k * 3) [.string ⟨#[]⟩, .string ⟨#[]⟩, .string ⟨#[]⟩]) := fun ty =>
      clear_one W1 ty g (k * 3) 1 (fun j hj => (row_spare y (k * 3 + j) (by omega)).1) (fun j hj => (row_spare y (k * 3 + j) (by omega)).2)
    have F := Lib.hid (And.intro (owns_short (owns_setCells (e := 42) (sz := 3) [.string ⟨#[]⟩, .string ⟨#[]⟩, .string ⟨#[]⟩] (k * 3) W1 _ y (by rw [y.1]; simp; omega)) (Nat.le_succ k)) (only_sets [.string ⟨#[]⟩, .string ⟨#[]⟩, .string ⟨#[]⟩] (k * 3) W1 z))
    clear y z Y
    go_wp2
    go_ret
    exact ⟨rfl, fin_ HL.out hk F.out.1, F.out.2⟩
  · have s2 := Lib.hid (show ∀ j u, (rows (l.drop (k + 1)))[j]? = some u → w.drew.cell? ((⟨g, (k + 1) * 3, none⟩ : Addr).add j) = some u from fun j u hu => by
      rw [Addr.add_lit]; exact own_cells HO.out (k + 1) j u hu)
    go_enter Tryz.func76, Tryz.ntmps76
    go_wp2
    go_region_law ((refine step_append_room (by rfl) _ _ _ (by rfl) _ i0 3 Tryz.underlying22 hi hsz _ _ _ _ (by rfl) _ _ _ (rows (l.drop (k + 1))) (by rfl) s1.out s2.out s3.out (by omega) s4.out ?_))
    generalize w.drew.setCells g (k * 3) (rows (l.drop (k + 1))) = W1 at Y ⊢
    obtain ⟨y, z⟩ := Y.out
    have hcl : ∀ ty, (Builtin.clear_ #[22] ty #[.slice (some ⟨g, m * 3, none⟩) 1 (c - m)]).run Tryz.prog W1 = .ok (.tuple #[]) (W1.setCells g (m * 3) [.string ⟨#[]⟩, .string ⟨#[]⟩, .string ⟨#[]⟩]) := fun ty =>
      clear_one W1 ty g (m * 3) (c - m) (fun j hj => (row_spare y (m * 3 + j) (by omega)).1) (fun j hj => (row_spare y (m * 3 + j) (by omega)).2)
    have F := Lib.hid (And.intro (owns_short (owns_setCells (e := 42) (sz := 3) [.string ⟨#[]⟩, .string ⟨#[]⟩, .string ⟨#[]⟩] (m * 3) W1 _ y (by rw [y.1]; simp; omega)) (Nat.le_succ m)) (only_sets [.string ⟨#[]⟩, .string ⟨#[]⟩, .string ⟨#[]⟩] (m * 3) W1 z))
    clear y z Y
    go_wp2
    go_ret
    exact ⟨rfl, fin_ HL.out hk F.out.1, F.out.2⟩
end Go.Proofs.YtggbdhnjogalgaaGreatDoor

/- Contracts: drop. -/
namespace Go.Proofs.YtggbdhnjogalgaaGreatDoor
set_option maxRecDepth 100000
open Go.RowKit Dkm
set_option linter.unusedVariables false

theorem own_file {w : World} {base g n c : Nat} {l : List Fil} (h : Own w base (some ⟨g, 0, none⟩) n c l) {k : Nat} (hk : k < l.length) :
    w.cell? ⟨g, k * 3, none⟩ = some (.string l[k].nm) ∧ w.cell? ⟨g, k * 3 + 1, none⟩ = some (.string l[k].sf) ∧ w.cell? ⟨g, k * 3 + 2, none⟩ = some (.string l[k].wt) ∧ g < w.heap.size := by
  have hn := h.len
  have c0 : w.cell? ⟨g, k * 3, none⟩ = some (.string l[k].nm) := by rw [World.ownsRow.cellAt h _ (by omega)]; exact rows_at l k hk 0 (by omega)
  have c1 : w.cell? ⟨g, k * 3 + 1, none⟩ = some (.string l[k].sf) := by rw [World.ownsRow.cellAt h _ (by omega)]; exact rows_at l k hk 1 (by omega)
  have c2 : w.cell? ⟨g, k * 3 + 2, none⟩ = some (.string l[k].wt) := by rw [World.ownsRow.cellAt h _ (by omega)]; exact rows_at l k hk 2 (by omega)
  exact ⟨c0, c1, c2, block_lt_of_cell c0⟩

theorem own_far {w : World} {base g n c : Nat} {l : List Fil} (h : Own w base (some ⟨g, 0, none⟩) n c l) {p : Addr} (hp : p.block ≠ g) (u : Value) : Own (w.setCell p u) base (some ⟨g, 0, none⟩) n c l := by
  refine ⟨h.1, ?_⟩
  rcases h.2 with ⟨e, h0⟩ | ⟨g', cap, cur, e, hg, hh, r⟩
  · exact .inl ⟨e, h0⟩
  · have e' := e
    injection e' with e1
    injection e1 with e1
    injection e1 with e1
    exact .inr ⟨g', cap, cur, e, hg, (heap_setCell_other w p g' u (by omega)).trans hh, r⟩
theorem Bx.only {w w' : World} {b g : Nat} {vs : List Value} (h : Bx w b vs) (hg : w.grownBy w' (some g)) (hne : b ≠ g) : Bx w' b vs := fun j v hj => by
  have hb : b < w.heap.size := block_lt_of_cell (h j v hj).1
  have e := hg.block b hb (by intro e; injection e with e; exact hne e)
  exact ⟨(World.cell?_of_block (a := ⟨b, j, none⟩) e).trans (h j v hj).1, (World.frozen?_of_block (a := ⟨b, j, none⟩) e).trans (h j v hj).2⟩

set_option maxHeartbeats 2000000 in
theorem drop_at (base g m c k : Nat) (room fuse : Int) (off : Bool) (l : List Fil) (w : World) (h : Own w base (some ⟨g, 0, none⟩) (m + 1) c l) (hk : k < m + 1) (hkl : k < l.length) (hs : l[k].sf.size + l[k].wt.size ≤ maxLen) (hm : m + 1 ≤ maxLen) :
    Calls Tryz.prog 52 #[dkv (some ⟨g, 0, none⟩) (m + 1) c room fuse off, .int .i64 k] w fun e w' => e = .returned (dkv (some ⟨g, 0, none⟩) m c (wrap64 (room + ((l[k].sf.size + l[k].wt.size : Nat) : Int))) fuse off) ∧ Own w' base (some ⟨g, 0, none⟩) m c (l.eraseIdx k) ∧ w.grownBy w' (some g) := by
  have HO := Lib.hid h
  have HS := Lib.hid hs
  clear h
  unfold maxLen at hs hm
  have B0 := two_new w (.slice (some ⟨g, 0, none⟩) (m + 1) c) (.int .i64 room) (.int .i64 fuse) (.bool off) (.slice none 0 0) (.int .i64 0) (.int .i64 0) (.bool false) 24
  have O0 := HO.out.q (((Q.refl w).alloc (.cells #[.slice (some ⟨g, 0, none⟩) (m + 1) c, .int .i64 room, .int .i64 fuse, .bool off] 24)).alloc (.cells #[.slice none 0 0, .int .i64 0, .int .i64 0, .bool false] 24))
  have G0 := ((World.grownBy_alloc w (.cells #[.slice (some ⟨g, 0, none⟩) (m + 1) c, .int .i64 room, .int .i64 fuse, .bool off] 24) (some g)).trans (World.grownBy_alloc _ (.cells #[.slice none 0 0, .int .i64 0, .int .i64 0, .bool false] 24) (some g)))
  have q4 : (k : Int) < (m : Int) + 1 := by omega
  have q5 : 0 ≤ (k : Int) := by omega
  have gw : g < w.heap.size := (own_file HO.out hkl).2.2.2
  go_enter Tryz.func52, Tryz.ntmps52
  go_wp2
  generalize ((w.alloc (.cells #[.slice (some ⟨g, 0, none⟩) (m + 1) c, .int .i64 room, .int .i64 fuse, .bool off] 24)).alloc (.cells #[.slice none 0 0, .int .i64 0, .int .i64 0, .bool false] 24)) = W at B0 O0 G0 ⊢
  obtain ⟨⟨e0, e1, e2, e3⟩, f0, f1, f2, f3⟩ := B0.1.get4
  obtain ⟨c0, c1, c2, _⟩ := own_file O0 hkl
  have X := Lib.hid (And.intro B0 (And.intro O0 G0))
  clear B0 O0 G0
  go_region_with ((go_at_call 59
                   refine (size_any l[k] _ HS.out).mono ?_
                   rintro e w1 ⟨rfl, q1⟩
                   obtain ⟨⟨x0, x1, x2, x3⟩, y0, y1, y2, y3⟩ := (X.out.1.1.q ((Q.refl W).drew.trans q1)).get4))
  all_goals
    have hr : IntKind.i64.wrap (room + ((l[k].sf.size : Int) + (l[k].wt.size : Int))) = wrap64 (room + ((l[k].sf.size + l[k].wt.size : Nat) : Int)) := by
      rw [IntKind.wrap_i64]; unfold wrap64; omega
    rw [hr]
    clear hr
    generalize hR : wrap64 (room + ((l[k].sf.size + l[k].wt.size : Nat) : Int)) = room2
    have HR := Lib.hid hR
    clear hR
    obtain ⟨B0, O0, G0⟩ := X.out
    have q2 := (Q.refl W).drew.trans q1
    have D1 := (B0.1.q q2).set (k := 1) (by simp) (.int .i64 room2)
    have R1 := (B0.2.q q2).far (p := ⟨w.heap.size, 1, none⟩) (by simp) (.int .i64 room2)
    have O1 := own_far (O0.q q2) (p := ⟨w.heap.size, 1, none⟩) (by simp; omega) (.int .i64 room2)
    have G1 := only_new (G0.trans (only_q q2)) (p := ⟨w.heap.size, 1, none⟩) (Nat.le_refl _) (.int .i64 room2)
    clear B0 O0 G0 q1 q2 X e0 e1 e2 e3 f0 f1 f2 f3 x0 x1 x2 x3 y0 y1 y2 y3 c0 c1 c2
    generalize w1.setCell ⟨w.heap.size, 1, none⟩ (.int .i64 room2) = W2 at D1 R1 O1 G1 ⊢
    have Y := Lib.hid (And.intro D1 (And.intro R1 (And.intro O1 G1)))
    obtain ⟨⟨e0, e1, e2, e3⟩, f0, f1, f2, f3⟩ := D1.get4
    clear D1 R1 O1 G1
    go_wp2_with fail
    refine (delete_at base g m c k l W2 Y.out.2.2.1 hk).mono ?_
    rintro e w3 ⟨rfl, o3, g3⟩
    obtain ⟨D1, R1, O1, G1⟩ := Y.out
    have hne : w.heap.size ≠ g := by omega
    have hne1 : w.heap.size + 1 ≠ g := by omega
    have D3 := D1.only g3 hne
    have R3 := R1.only g3 hne1
    have F := Lib.hid (And.intro (own_far o3 (p := ⟨w.heap.size, 0, none⟩) hne (.slice (some ⟨g, 0, none⟩) m c)) (only_new (G1.trans g3) (p := ⟨w.heap.size, 0, none⟩) (Nat.le_refl _) (.slice (some ⟨g, 0, none⟩) m c)))
    clear e0 e1 e2 e3 f0 f1 f2 f3 D1 R1 O1 G1 o3 g3
    obtain ⟨⟨e0, e1, e2, e3⟩, f0, f1, f2, f3⟩ := D3.get4
    obtain ⟨⟨s0, s1, s2, s3⟩, h0, h1, h2, h3⟩ := R3.get4
    clear D3 R3
    go_wp2
    refine bodyPost_ret (v := dkv (some ⟨g, 0, none⟩) m c room2 fuse off) (by simp [results, Tryz.results52, go_sem, s0, s1, s2, s3]) rfl ⟨by rw [HR.out], ?_, ?_⟩
    · exact own_far (own_far (own_far (own_far F.out.1 (p := ⟨w.heap.size + 1, 0, none⟩) hne1 _) (p := ⟨w.heap.size + 1, 1, none⟩) hne1 _) (p := ⟨w.heap.size + 1, 2, none⟩) hne1 _) (p := ⟨w.heap.size + 1, 3, none⟩) hne1 _
    · exact only_new (only_new (only_new (only_new F.out.2 (p := ⟨w.heap.size + 1, 0, none⟩) (Nat.le_succ _) _) (p := ⟨w.heap.size + 1, 1, none⟩) (Nat.le_succ _) _) (p := ⟨w.heap.size + 1, 2, none⟩) (Nat.le_succ _) _) (p := ⟨w.heap.size + 1, 3, none⟩) (Nat.le_succ _) _
end Go.Proofs.YtggbdhnjogalgaaGreatDoor

/- Contracts: Delete. -/
namespace Go.Proofs.YtggbdhnjogalgaaGreatDoor
set_option maxRecDepth 100000
open Go.RowKit Dkm
set_option linter.unusedVariables false

theorem St.put4 {w wr : World} {A1 : Option Addr} {n c1 : Nat} {room fuse : Int} {off : Bool} {l : List Fil} (h : St w A1 n c1 room fuse off l wr) {A2 : Option Addr} {n2 c2 : Nat} {room2 fuse2 : Int} {off2 : Bool} {l2 : List Fil} (ho : Own wr (w.heap.size + 2) A2 n2 c2 l2) :
    St w A2 n2 c2 room2 fuse2 off2 l2 ((((wr.setCell ⟨w.heap.size, 0, none⟩ (.slice A2 n2 c2)).setCell ⟨w.heap.size, 1, none⟩ (.int .i64 room2)).setCell ⟨w.heap.size, 2, none⟩ (.int .i64 fuse2)).setCell ⟨w.heap.size, 3, none⟩ (.bool off2)) :=
  ⟨ho.set4 (b := w.heap.size) (by omega) _ _ _ _, h.box.put4 _ _ _ _, h.res.far4 (c := w.heap.size) (by omega) _ _ _ _, h.q.set4 (b := w.heap.size) (Nat.le_refl _) _ _ _ _⟩

set_option maxHeartbeats 2000000 in
theorem delete_no (nm : ByteArray) (A : Option Addr) (n c : Nat) (room fuse : Int) (off : Bool) (l : List Fil) (w : World) (hd : Dsk w A n c l) (hfu : fuse ≤ 9223372036854775807) (p : Int) (hp : plc nm l 0 = p) (f2 er : Int) (o2 : Bool) (hc : chg p fuse off = (f2, o2, er)) (hne : er ≠ 0) :
    Calls Tryz.prog 28 #[dkv A n c room fuse off, .string nm] w fun e w' => RetDE w ⟨l, room, f2, o2⟩ er e w' := by
  have HD := Lib.hid hd
  have HN := Lib.hid hd.max
  have HP := Lib.hid hp
  have HC := Lib.hid hc
  have b1 : (er == 0) = false := by simpa using hne
  have b2 : (er != 0) = true := by simpa using hne
  clear hd hp hc hne
  go_enter Tryz.func28, Tryz.ntmps28
  go_wp2_with fail
  refine (own_any A n c room fuse off l _ (HD.out.q (((Q.refl _).alloc _).alloc _))).mono ?_
  rintro e w1 ⟨A1, c1, rfl, ho, q1⟩
  have X := Lib.hid (St.new (room1 := room) (fuse1 := fuse) (off1 := off) ho q1)
  obtain ⟨⟨e0, e1, e2, e3⟩, f0, f1, f2', f3⟩ := St.get0 q1
  clear q1 ho
  go_wp2_with fail
  refine (place nm A1 n c1 room fuse off l _ X.out.own.files HN.out).mono ?_
  rintro e w2 ⟨rfl, q2⟩
  rw [HP.out]
  have Y := Lib.hid (X.out.step q2)
  clear X q2 e0 e1 e2 e3 f0 f1 f2' f3
  obtain ⟨⟨e0, e1, e2, e3⟩, f0, f1, f2', f3⟩ := Y.out.get
  go_wp2_with fail
  have k3 := change_any A1 n c1 room fuse off p w2 hfu
  rw [HC.out] at k3
  refine k3.mono ?_
  clear k3
  rintro e w3 ⟨rfl, q3⟩
  have Z := Lib.hid ((Y.out.step q3).put4 (room2 := room) (fuse2 := f2) (off2 := o2) (Y.out.step q3).own)
  have Z0 := Y.out.step q3
  clear Y q3 e0 e1 e2 e3 f0 f1 f2' f3
  obtain ⟨⟨e0, e1, e2, e3⟩, f0, f1, f2', f3⟩ := Z0.get
  obtain ⟨⟨s0, s1, s2, s3⟩, h0, h1, h2, h3⟩ := Z0.getR
  clear Z0
  go_upto_region 4 with (fail)
  generalize ((((w3.setCell ⟨w.heap.size, 0, none⟩ (.slice A1 n c1)).setCell ⟨w.heap.size, 1, none⟩ (.int .i64 room)).setCell ⟨w.heap.size, 2, none⟩ (.int .i64 f2)).setCell ⟨w.heap.size, 3, none⟩ (.bool o2)) = w4 at Z ⊢
  clear e0 e1 e2 e3 f0 f1 f2' f3 s0 s1 s2 s3 h0 h1 h2 h3
  obtain ⟨⟨e0, e1, e2, e3⟩, f0, f1, f2', f3⟩ := Z.out.get
  obtain ⟨⟨s0, s1, s2, s3⟩, h0, h1, h2, h3⟩ := Z.out.getR
  go_wp2
  refine bodyPost_ret (v := .tuple #[dkv A1 n c1 room f2 o2, .int .i64 er]) (by simp [results, Tryz.results28, go_sem, s0, s1, s2, s3]) rfl ?_
  exact Z.out.endDE er _ _ _ _

set_option maxHeartbeats 2000000 in
theorem delete_yes (nm : ByteArray) (A : Option Addr) (n c : Nat) (room fuse : Int) (l : List Fil) (w : World) (hd : Dsk w A n c l) (hfu : fuse ≤ 9223372036854775807) (k : Nat) (hk : k < l.length) (hp : plc nm l 0 = k) (f2 : Int) (hc : chg k fuse false = (f2, false, 0)) (hs : l[k].sf.size + l[k].wt.size ≤ maxLen) :
    Calls Tryz.prog 28 #[dkv A n c room fuse false, .string nm] w fun e w' => RetDE w ⟨l.eraseIdx k, wrap64 (room + ((l[k].sf.size + l[k].wt.size : Nat) : Int)), f2, false⟩ 0 e w' := by
  have hkn : k < n := by have := hd.len; omega
  obtain ⟨m, rfl⟩ : ∃ m, n = m + 1 := ⟨n - 1, by omega⟩
  have HD := Lib.hid hd
  have HN := Lib.hid hd.max
  have HP := Lib.hid hp
  have HC := Lib.hid hc
  have HS := Lib.hid hs
  clear hd hp hc hs
  go_enter Tryz.func28, Tryz.ntmps28
  go_wp2_with fail
  refine (own_any A (m + 1) c room fuse false l _ (HD.out.q (((Q.refl _).alloc _).alloc _))).mono ?_
  rintro e w1 ⟨A1, c1, rfl, ho, q1⟩
  obtain ⟨g, rfl, hg⟩ : ∃ g, A1 = some ⟨g, 0, none⟩ ∧ w.heap.size + 2 ≤ g := by
    rcases ho.parts with ⟨_, e, _⟩ | ⟨g, cur, rfl, hb, _⟩
    · cases e
    · rw [size_two] at hb; exact ⟨g, rfl, hb⟩
  have X := Lib.hid (St.new (room1 := room) (fuse1 := fuse) (off1 := false) ho q1)
  obtain ⟨⟨e0, e1, e2, e3⟩, f0, f1, f2', f3⟩ := St.get0 q1
  clear q1 ho
  go_wp2_with fail
  refine (place nm (some ⟨g, 0, none⟩) (m + 1) c1 room fuse false l _ X.out.own.files HN.out).mono ?_
  rintro e w2 ⟨rfl, q2⟩
  rw [HP.out]
  have Y := Lib.hid (X.out.step q2)
  clear X q2 e0 e1 e2 e3 f0 f1 f2' f3
  obtain ⟨⟨e0, e1, e2, e3⟩, f0, f1, f2', f3⟩ := Y.out.get
  go_wp2_with fail
  have k3 := change_any (some ⟨g, 0, none⟩) (m + 1) c1 room fuse false k w2 hfu
  rw [HC.out] at k3
  refine k3.mono ?_
  clear k3
  rintro e w3 ⟨rfl, q3⟩
  have Z := Lib.hid ((Y.out.step q3).put4 (room2 := room) (fuse2 := f2) (off2 := false) (Y.out.step q3).own)
  have Z0 := Y.out.step q3
  clear Y q3 e0 e1 e2 e3 f0 f1 f2' f3
  obtain ⟨⟨e0, e1, e2, e3⟩, f0, f1, f2', f3⟩ := Z0.get
  clear Z0
  go_upto_region 4 with (fail)
  generalize ((((w3.setCell ⟨w.heap.size, 0, none⟩ (.slice (some ⟨g, 0, none⟩) (m + 1) c1)).setCell ⟨w.heap.size, 1, none⟩ (.int .i64 room)).setCell ⟨w.heap.size, 2, none⟩ (.int .i64 f2)).setCell ⟨w.heap.size, 3, none⟩ (.bool false)) = w4 at Z ⊢
  clear e0 e1 e2 e3 f0 f1 f2' f3
  obtain ⟨⟨e0, e1, e2, e3⟩, f0, f1, f2', f3⟩ := Z.out.get
  go_wp2_with fail
  refine (drop_at (w.heap.size + 2) g m c1 k room f2 false l w4 Z.out.own hkn hk HS.out HN.out).mono ?_
  rintro e w5 ⟨rfl, o5, g5⟩
  have R5 := Z.out.res.only g5 (by omega)
  have Q5 := Lib.hid (show Q w w5 from Z.out.q.below.trans (only_below g5 (by omega) Z.out.q.size))
  have O5 := Lib.hid o5
  clear o5 g5 e0 e1 e2 e3 f0 f1 f2' f3
  obtain ⟨⟨s0, s1, s2, s3⟩, h0, h1, h2, h3⟩ := R5.get4
  clear R5
  go_wp2
  refine bodyPost_ret (v := .tuple #[dkv (some ⟨g, 0, none⟩) m c1 (wrap64 (room + ((l[k].sf.size + l[k].wt.size : Nat) : Int))) f2 false, .int .i64 0]) (by simp [results, Tryz.results28, go_sem, s0, s1, s2, s3]) rfl ?_
  exact ⟨some ⟨g, 0, none⟩, m, c1, rfl, (O5.out.set4 (b := w.heap.size + 1) (by omega) _ _ _ _).lower (by omega), Q5.out.set4 (b := w.heap.size + 1) (by omega) _ _ _ _⟩
end Go.Proofs.YtggbdhnjogalgaaGreatDoor

/- Contracts: Rename. -/
namespace Go.Proofs.YtggbdhnjogalgaaGreatDoor
set_option maxRecDepth 100000
open Go.RowKit Dkm
set_option linter.unusedVariables false

theorem str_eqb {a b : ByteArray} (h : a = b) : (a.toList == b.toList) = true := by rw [same_str]; simpa using h
theorem str_ne {a b : ByteArray} (h : a ≠ b) : (a.toList == b.toList) = false := by rw [same_str]; simpa using h

set_option maxHeartbeats 2000000 in
theorem ren_off (fr to : ByteArray) (A : Option Addr) (n c : Nat) (room fuse : Int) (l : List Fil) (w : World) (hd : Dsk w A n c l) (p o : Int) (hp : plc fr l 0 = p) (ht : plc to l 0 = o) :
    Calls Tryz.prog 39 #[dkv A n c room fuse true, .string fr, .string to] w fun e w' => RetDE w ⟨l, room, fuse, true⟩ 6 e w' := by
  have HD := Lib.hid hd
  have HN := Lib.hid hd.max
  have HP := Lib.hid hp
  have HT := Lib.hid ht
  clear hd hp ht
  go_enter Tryz.func39, Tryz.ntmps39
  go_wp2_with fail
  refine (own_any A n c room fuse true l _ (HD.out.q (((Q.refl _).alloc _).alloc _))).mono ?_
  rintro e w1 ⟨A1, c1, rfl, ho, q1⟩
  have X := Lib.hid (St.new (room1 := room) (fuse1 := fuse) (off1 := true) ho q1)
  obtain ⟨⟨e0, e1, e2, e3⟩, f0, f1, f2', f3⟩ := St.get0 q1
  clear q1 ho
  go_upto_region 2 with (fail)
  generalize ((((w1.setCell ⟨w.heap.size, 0, none⟩ (.slice A1 n c1)).setCell ⟨w.heap.size, 1, none⟩ (.int .i64 room)).setCell ⟨w.heap.size, 2, none⟩ (.int .i64 fuse)).setCell ⟨w.heap.size, 3, none⟩ (.bool true)) = W at X ⊢
  clear e0 e1 e2 e3 f0 f1 f2' f3
  obtain ⟨⟨e0, e1, e2, e3⟩, f0, f1, f2', f3⟩ := X.out.get
  go_region_held3 (fun w' => w'.cell? ⟨w.heap.size, 0, none⟩ = some (.slice A1 n c1) ∧ w'.cell? ⟨w.heap.size, 1, none⟩ = some (.int .i64 room) ∧ w'.cell? ⟨w.heap.size, 2, none⟩ = some (.int .i64 fuse) ∧ w'.cell? ⟨w.heap.size, 3, none⟩ = some (.bool true))
    (first
      | go_keep
      | (go_split_ands
         (repeat' apply And.intro) <;> exact box_ ‹Q _ _› (by assumption)))
    (first
      | (go_at_call 50
         (with_reducible refine (place fr A1 n c1 room fuse true l _ (X.out.own.files.q (Q.refl W).drew) HN.out).mono ?_)
         rw [HP.out]
         rintro e w2 ⟨rfl, q2⟩)
      | (go_at_call 50
         (with_reducible refine (place to A1 n c1 room fuse true l _ (X.out.own.files.q ((Q.refl W).drew.trans q2)) HN.out).mono ?_)
         rw [HT.out]
         rintro e w3 ⟨rfl, q3⟩))
  have Y := Lib.hid (X.out.step (((Q.refl W).drew.trans q2).trans q3))
  clear X q2 q3 e0 e1 e2 e3 f0 f1 f2' f3
  obtain ⟨⟨e0, e1, e2, e3⟩, f0, f1, f2', f3⟩ := Y.out.get
  obtain ⟨⟨s0, s1, s2, s3⟩, h0, h1, h2, h3⟩ := Y.out.getR
  go_wp2
  refine bodyPost_ret (v := .tuple #[dkv A1 n c1 room fuse true, .int .i64 6]) (by simp [results, Tryz.results39, go_sem, s0, s1, s2, s3]) rfl ?_
  exact Y.out.endDE 6 _ _ _ _

set_option maxHeartbeats 2000000 in
theorem ren_arg (fr to : ByteArray) (A : Option Addr) (n c : Nat) (room fuse : Int) (l : List Fil) (w : World) (hd : Dsk w A n c l) (p o : Int) (hp : plc fr l 0 = p) (ht : plc to l 0 = o) (hk : nmOk to = false) :
    Calls Tryz.prog 39 #[dkv A n c room fuse false, .string fr, .string to] w fun e w' => RetDE w ⟨l, room, fuse, false⟩ 1 e w' := by
  have HD := Lib.hid hd
  have HN := Lib.hid hd.max
  have HP := Lib.hid hp
  have HT := Lib.hid ht
  clear hd hp ht
  have HK := Lib.hid hk
  clear hk
  go_enter Tryz.func39, Tryz.ntmps39
  go_wp2_with fail
  refine (own_any A n c room fuse false l _ (HD.out.q (((Q.refl _).alloc _).alloc _))).mono ?_
  rintro e w1 ⟨A1, c1, rfl, ho, q1⟩
  have X := Lib.hid (St.new (room1 := room) (fuse1 := fuse) (off1 := false) ho q1)
  obtain ⟨⟨e0, e1, e2, e3⟩, f0, f1, f2', f3⟩ := St.get0 q1
  clear q1 ho
  go_upto_region 2 with (fail)
  generalize ((((w1.setCell ⟨w.heap.size, 0, none⟩ (.slice A1 n c1)).setCell ⟨w.heap.size, 1, none⟩ (.int .i64 room)).setCell ⟨w.heap.size, 2, none⟩ (.int .i64 fuse)).setCell ⟨w.heap.size, 3, none⟩ (.bool false)) = W at X ⊢
  clear e0 e1 e2 e3 f0 f1 f2' f3
  obtain ⟨⟨e0, e1, e2, e3⟩, f0, f1, f2', f3⟩ := X.out.get
  go_region_held3 (fun w' => w'.cell? ⟨w.heap.size, 0, none⟩ = some (.slice A1 n c1) ∧ w'.cell? ⟨w.heap.size, 1, none⟩ = some (.int .i64 room) ∧ w'.cell? ⟨w.heap.size, 2, none⟩ = some (.int .i64 fuse) ∧ w'.cell? ⟨w.heap.size, 3, none⟩ = some (.bool false))
    (first
      | go_keep
      | (go_split_ands
         (repeat' apply And.intro) <;> exact box_ ‹Q _ _› (by assumption)))
    (first
      | (go_at_call 50
         (with_reducible refine (place fr A1 n c1 room fuse false l _ (X.out.own.files.q (Q.refl W).drew) HN.out).mono ?_)
         rw [HP.out]
         rintro e w2 ⟨rfl, q2⟩)
      | (go_at_call 50
         (with_reducible refine (place to A1 n c1 room fuse false l _ (X.out.own.files.q ((Q.refl W).drew.trans q2)) HN.out).mono ?_)
         rw [HT.out]
         rintro e w3 ⟨rfl, q3⟩))
  have Y := Lib.hid (X.out.step (((Q.refl W).drew.trans q2).trans q3))
  clear X q2 q3 e0 e1 e2 e3 f0 f1 f2' f3
  obtain ⟨⟨e0, e1, e2, e3⟩, f0, f1, f2', f3⟩ := Y.out.get
  go_wp2_with fail
  refine (named_any to _).mono ?_
  rintro e w4 ⟨rfl, rfl⟩
  rw [HK.out]
  obtain ⟨⟨s0, s1, s2, s3⟩, h0, h1, h2, h3⟩ := Y.out.getR
  go_wp2
  refine bodyPost_ret (v := .tuple #[dkv A1 n c1 room fuse false, .int .i64 1]) (by simp [results, Tryz.results39, go_sem, s0, s1, s2, s3]) rfl ?_
  exact Y.out.endDE 1 _ _ _ _

set_option maxHeartbeats 2000000 in
theorem ren_same (fr to : ByteArray) (A : Option Addr) (n c : Nat) (room fuse : Int) (l : List Fil) (w : World) (hd : Dsk w A n c l) (p o : Int) (hp : plc fr l 0 = p) (ht : plc to l 0 = o) (hk : nmOk to = true) (h0 : 0 ≤ p) (he : fr = to) :
    Calls Tryz.prog 39 #[dkv A n c room fuse false, .string fr, .string to] w fun e w' => RetDE w ⟨l, room, fuse, false⟩ 0 e w' := by
  have HD := Lib.hid hd
  have HN := Lib.hid hd.max
  have HP := Lib.hid hp
  have HT := Lib.hid ht
  clear hd hp ht
  have HK := Lib.hid hk
  have hb := str_eqb he
  clear hk he
  go_enter Tryz.func39, Tryz.ntmps39
  go_wp2_with fail
  refine (own_any A n c room fuse false l _ (HD.out.q (((Q.refl _).alloc _).alloc _))).mono ?_
  rintro e w1 ⟨A1, c1, rfl, ho, q1⟩
  have X := Lib.hid (St.new (room1 := room) (fuse1 := fuse) (off1 := false) ho q1)
  obtain ⟨⟨e0, e1, e2, e3⟩, f0, f1, f2', f3⟩ := St.get0 q1
  clear q1 ho
  go_upto_region 2 with (fail)
  generalize ((((w1.setCell ⟨w.heap.size, 0, none⟩ (.slice A1 n c1)).setCell ⟨w.heap.size, 1, none⟩ (.int .i64 room)).setCell ⟨w.heap.size, 2, none⟩ (.int .i64 fuse)).setCell ⟨w.heap.size, 3, none⟩ (.bool false)) = W at X ⊢
  clear e0 e1 e2 e3 f0 f1 f2' f3
  obtain ⟨⟨e0, e1, e2, e3⟩, f0, f1, f2', f3⟩ := X.out.get
  go_region_held3 (fun w' => w'.cell? ⟨w.heap.size, 0, none⟩ = some (.slice A1 n c1) ∧ w'.cell? ⟨w.heap.size, 1, none⟩ = some (.int .i64 room) ∧ w'.cell? ⟨w.heap.size, 2, none⟩ = some (.int .i64 fuse) ∧ w'.cell? ⟨w.heap.size, 3, none⟩ = some (.bool false))
    (first
      | go_keep
      | (go_split_ands
         (repeat' apply And.intro) <;> exact box_ ‹Q _ _› (by assumption)))
    (first
      | (go_at_call 50
         (with_reducible refine (place fr A1 n c1 room fuse false l _ (X.out.own.files.q (Q.refl W).drew) HN.out).mono ?_)
         rw [HP.out]
         rintro e w2 ⟨rfl, q2⟩)
      | (go_at_call 50
         (with_reducible refine (place to A1 n c1 room fuse false l _ (X.out.own.files.q ((Q.refl W).drew.trans q2)) HN.out).mono ?_)
         rw [HT.out]
         rintro e w3 ⟨rfl, q3⟩))
  have Y := Lib.hid (X.out.step (((Q.refl W).drew.trans q2).trans q3))
  clear X q2 q3 e0 e1 e2 e3 f0 f1 f2' f3
  obtain ⟨⟨e0, e1, e2, e3⟩, f0, f1, f2', f3⟩ := Y.out.get
  go_wp2_with fail
  refine (named_any to _).mono ?_
  rintro e w4 ⟨rfl, rfl⟩
  rw [HK.out]
  obtain ⟨⟨s0, s1, s2, s3⟩, h0, h1, h2, h3⟩ := Y.out.getR
  go_wp2
  refine bodyPost_ret (v := .tuple #[dkv A1 n c1 room fuse false, .int .i64 0]) (by simp [results, Tryz.results39, go_sem, s0, s1, s2, s3]) rfl ?_
  exact Y.out.endDE 0 _ _ _ _

set_option maxHeartbeats 2000000 in
theorem ren_no1 (fr to : ByteArray) (A : Option Addr) (n c : Nat) (room fuse : Int) (l : List Fil) (w : World) (hd : Dsk w A n c l) (p o : Int) (hp : plc fr l 0 = p) (ht : plc to l 0 = o) (hk : nmOk to = true) (h0 : p < 0) (hfu : fuse ≤ 9223372036854775807) (f2 er : Int) (o2 : Bool) (hc : chg p fuse false = (f2, o2, er)) (hne : er ≠ 0) :
    Calls Tryz.prog 39 #[dkv A n c room fuse false, .string fr, .string to] w fun e w' => RetDE w ⟨l, room, f2, o2⟩ er e w' := by
  have HD := Lib.hid hd
  have HN := Lib.hid hd.max
  have HP := Lib.hid hp
  have HT := Lib.hid ht
  clear hd hp ht
  have HK := Lib.hid hk
  clear hk
  have HC := Lib.hid hc
  have b1 : (er == 0) = false := by simpa using hne
  have b2 : (er != 0) = true := by simpa using hne
  clear hc hne
  go_enter Tryz.func39, Tryz.ntmps39
  go_wp2_with fail
  refine (own_any A n c room fuse false l _ (HD.out.q (((Q.refl _).alloc _).alloc _))).mono ?_
  rintro e w1 ⟨A1, c1, rfl, ho, q1⟩
  have X := Lib.hid (St.new (room1 := room) (fuse1 := fuse) (off1 := false) ho q1)
  obtain ⟨⟨e0, e1, e2, e3⟩, f0, f1, f2', f3⟩ := St.get0 q1
  clear q1 ho
  go_upto_region 2 with (fail)
  generalize ((((w1.setCell ⟨w.heap.size, 0, none⟩ (.slice A1 n c1)).setCell ⟨w.heap.size, 1, none⟩ (.int .i64 room)).setCell ⟨w.heap.size, 2, none⟩ (.int .i64 fuse)).setCell ⟨w.heap.size, 3, none⟩ (.bool false)) = W at X ⊢
  clear e0 e1 e2 e3 f0 f1 f2' f3
  obtain ⟨⟨e0, e1, e2, e3⟩, f0, f1, f2', f3⟩ := X.out.get
  go_region_held3 (fun w' => w'.cell? ⟨w.heap.size, 0, none⟩ = some (.slice A1 n c1) ∧ w'.cell? ⟨w.heap.size, 1, none⟩ = some (.int .i64 room) ∧ w'.cell? ⟨w.heap.size, 2, none⟩ = some (.int .i64 fuse) ∧ w'.cell? ⟨w.heap.size, 3, none⟩ = some (.bool false))
    (first
      | go_keep
      | (go_split_ands
         (repeat' apply And.intro) <;> exact box_ ‹Q _ _› (by assumption)))
    (first
      | (go_at_call 50
         (with_reducible refine (place fr A1 n c1 room fuse false l _ (X.out.own.files.q (Q.refl W).drew) HN.out).mono ?_)
         rw [HP.out]
         rintro e w2 ⟨rfl, q2⟩)
      | (go_at_call 50
         (with_reducible refine (place to A1 n c1 room fuse false l _ (X.out.own.files.q ((Q.refl W).drew.trans q2)) HN.out).mono ?_)
         rw [HT.out]
         rintro e w3 ⟨rfl, q3⟩))
  have Y := Lib.hid (X.out.step (((Q.refl W).drew.trans q2).trans q3))
  clear X q2 q3 e0 e1 e2 e3 f0 f1 f2' f3
  obtain ⟨⟨e0, e1, e2, e3⟩, f0, f1, f2', f3⟩ := Y.out.get
  go_wp2_with fail
  refine (named_any to _).mono ?_
  rintro e w4 ⟨rfl, rfl⟩
  rw [HK.out]
  go_wp2_with fail
  have k3 := change_any A1 n c1 room fuse false p w3 hfu
  rw [HC.out] at k3
  refine k3.mono ?_
  clear k3
  rintro e w5 ⟨rfl, q5⟩
  have Z := Lib.hid ((Y.out.step q5).put4 (room2 := room) (fuse2 := f2) (off2 := o2) (Y.out.step q5).own)
  have Z0 := Y.out.step q5
  clear Y q5 e0 e1 e2 e3 f0 f1 f2' f3
  obtain ⟨⟨e0, e1, e2, e3⟩, f0, f1, f2', f3⟩ := Z0.get
  clear Z0
  go_upto_region 10 with (fail)
  generalize ((((w5.setCell ⟨w.heap.size, 0, none⟩ (.slice A1 n c1)).setCell ⟨w.heap.size, 1, none⟩ (.int .i64 room)).setCell ⟨w.heap.size, 2, none⟩ (.int .i64 f2)).setCell ⟨w.heap.size, 3, none⟩ (.bool o2)) = w6 at Z ⊢
  clear e0 e1 e2 e3 f0 f1 f2' f3
  obtain ⟨⟨e0, e1, e2, e3⟩, f0, f1, f2', f3⟩ := Z.out.get
  obtain ⟨⟨s0, s1, s2, s3⟩, h0', h1, h2, h3⟩ := Z.out.getR
  go_wp2
  refine bodyPost_ret (v := .tuple #[dkv A1 n c1 room f2 o2, .int .i64 er]) (by simp [results, Tryz.results39, go_sem, s0, s1, s2, s3]) rfl ?_
  exact Z.out.endDE er _ _ _ _

set_option maxHeartbeats 2000000 in
theorem ren_no2 (fr to : ByteArray) (A : Option Addr) (n c : Nat) (room fuse : Int) (l : List Fil) (w : World) (hd : Dsk w A n c l) (p o : Int) (hp : plc fr l 0 = p) (ht : plc to l 0 = o) (hk : nmOk to = true) (h0 : 0 ≤ p) (he : fr ≠ to) (hfu : fuse ≤ 9223372036854775807) (f2 er : Int) (o2 : Bool) (hc : chg p fuse false = (f2, o2, er)) (hne : er ≠ 0) :
    Calls Tryz.prog 39 #[dkv A n c room fuse false, .string fr, .string to] w fun e w' => RetDE w ⟨l, room, f2, o2⟩ er e w' := by
  have HD := Lib.hid hd
  have HN := Lib.hid hd.max
  have HP := Lib.hid hp
  have HT := Lib.hid ht
  clear hd hp ht
  have HK := Lib.hid hk
  clear hk
  have HC := Lib.hid hc
  have b1 : (er == 0) = false := by simpa using hne
  have b2 : (er != 0) = true := by simpa using hne
  clear hc hne
  have hb := str_ne he
  clear he
  go_enter Tryz.func39, Tryz.ntmps39
  go_wp2_with fail
  refine (own_any A n c room fuse false l _ (HD.out.q (((Q.refl _).alloc _).alloc _))).mono ?_
  rintro e w1 ⟨A1, c1, rfl, ho, q1⟩
  have X := Lib.hid (St.new (room1 := room) (fuse1 := fuse) (off1 := false) ho q1)
  obtain ⟨⟨e0, e1, e2, e3⟩, f0, f1, f2', f3⟩ := St.get0 q1
  clear q1 ho
  go_upto_region 2 with (fail)
  generalize ((((w1.setCell ⟨w.heap.size, 0, none⟩ (.slice A1 n c1)).setCell ⟨w.heap.size, 1, none⟩ (.int .i64 room)).setCell ⟨w.heap.size, 2, none⟩ (.int .i64 fuse)).setCell ⟨w.heap.size, 3, none⟩ (.bool false)) = W at X ⊢
  clear e0 e1 e2 e3 f0 f1 f2' f3
  obtain ⟨⟨e0, e1, e2, e3⟩, f0, f1, f2', f3⟩ := X.out.get
  go_region_held3 (fun w' => w'.cell? ⟨w.heap.size, 0, none⟩ = some (.slice A1 n c1) ∧ w'.cell? ⟨w.heap.size, 1, none⟩ = some (.int .i64 room) ∧ w'.cell? ⟨w.heap.size, 2, none⟩ = some (.int .i64 fuse) ∧ w'.cell? ⟨w.heap.size, 3, none⟩ = some (.bool false))
    (first
      | go_keep
      | (go_split_ands
         (repeat' apply And.intro) <;> exact box_ ‹Q _ _› (by assumption)))
    (first
      | (go_at_call 50
         (with_reducible refine (place fr A1 n c1 room fuse false l _ (X.out.own.files.q (Q.refl W).drew) HN.out).mono ?_)
         rw [HP.out]
         rintro e w2 ⟨rfl, q2⟩)
      | (go_at_call 50
         (with_reducible refine (place to A1 n c1 room fuse false l _ (X.out.own.files.q ((Q.refl W).drew.trans q2)) HN.out).mono ?_)
         rw [HT.out]
         rintro e w3 ⟨rfl, q3⟩))
  have Y := Lib.hid (X.out.step (((Q.refl W).drew.trans q2).trans q3))
  clear X q2 q3 e0 e1 e2 e3 f0 f1 f2' f3
  obtain ⟨⟨e0, e1, e2, e3⟩, f0, f1, f2', f3⟩ := Y.out.get
  go_wp2_with fail
  refine (named_any to _).mono ?_
  rintro e w4 ⟨rfl, rfl⟩
  rw [HK.out]
  go_wp2_with fail
  have k3 := change_any A1 n c1 room fuse false p w3 hfu
  rw [HC.out] at k3
  refine k3.mono ?_
  clear k3
  rintro e w5 ⟨rfl, q5⟩
  have Z := Lib.hid ((Y.out.step q5).put4 (room2 := room) (fuse2 := f2) (off2 := o2) (Y.out.step q5).own)
  have Z0 := Y.out.step q5
  clear Y q5 e0 e1 e2 e3 f0 f1 f2' f3
  obtain ⟨⟨e0, e1, e2, e3⟩, f0, f1, f2', f3⟩ := Z0.get
  clear Z0
  go_upto_region 10 with (fail)
  generalize ((((w5.setCell ⟨w.heap.size, 0, none⟩ (.slice A1 n c1)).setCell ⟨w.heap.size, 1, none⟩ (.int .i64 room)).setCell ⟨w.heap.size, 2, none⟩ (.int .i64 f2)).setCell ⟨w.heap.size, 3, none⟩ (.bool o2)) = w6 at Z ⊢
  clear e0 e1 e2 e3 f0 f1 f2' f3
  obtain ⟨⟨e0, e1, e2, e3⟩, f0, f1, f2', f3⟩ := Z.out.get
  obtain ⟨⟨s0, s1, s2, s3⟩, h0', h1, h2, h3⟩ := Z.out.getR
  go_wp2
  refine bodyPost_ret (v := .tuple #[dkv A1 n c1 room f2 o2, .int .i64 er]) (by simp [results, Tryz.results39, go_sem, s0, s1, s2, s3]) rfl ?_
  exact Z.out.endDE er _ _ _ _

set_option maxHeartbeats 2000000 in
theorem ren_plain (fr to : ByteArray) (A : Option Addr) (n c : Nat) (room fuse : Int) (l : List Fil) (w : World) (hd : Dsk w A n c l) (o : Int) (k : Nat) (hk : k < l.length) (hp : plc fr l 0 = k) (ht : plc to l 0 = o) (hok : nmOk to = true) (he : fr ≠ to) (hfu : fuse ≤ 9223372036854775807) (f2 : Int) (hc : chg k fuse false = (f2, false, 0)) (h0 : o < 0) :
    Calls Tryz.prog 39 #[dkv A n c room fuse false, .string fr, .string to] w fun e w' => RetDE w ⟨l.set k ⟨to, l[k].sf, l[k].wt⟩, room, f2, false⟩ 0 e w' := by
  have hkn : k < n := by have := hd.len; omega
  obtain ⟨m, rfl⟩ : ∃ m, n = m + 1 := ⟨n - 1, by omega⟩
  have HD := Lib.hid hd
  have HN := Lib.hid hd.max
  have HP := Lib.hid hp
  have HT := Lib.hid ht
  clear hd hp ht
  have HK := Lib.hid hok
  clear hok
  have HC := Lib.hid hc
  clear hc
  have hb := str_ne he
  clear he
  go_enter Tryz.func39, Tryz.ntmps39
  go_wp2_with fail
  refine (own_any A (m + 1) c room fuse false l _ (HD.out.q (((Q.refl _).alloc _).alloc _))).mono ?_
  rintro e w1 ⟨A1, c1, rfl, ho, q1⟩
  have X := Lib.hid (St.new (room1 := room) (fuse1 := fuse) (off1 := false) ho q1)
  obtain ⟨⟨e0, e1, e2, e3⟩, f0, f1, f2', f3⟩ := St.get0 q1
  clear q1 ho
  go_upto_region 2 with (fail)
  generalize ((((w1.setCell ⟨w.heap.size, 0, none⟩ (.slice A1 (m + 1) c1)).setCell ⟨w.heap.size, 1, none⟩ (.int .i64 room)).setCell ⟨w.heap.size, 2, none⟩ (.int .i64 fuse)).setCell ⟨w.heap.size, 3, none⟩ (.bool false)) = W at X ⊢
  clear e0 e1 e2 e3 f0 f1 f2' f3
  obtain ⟨⟨e0, e1, e2, e3⟩, f0, f1, f2', f3⟩ := X.out.get
  go_region_held3 (fun w' => w'.cell? ⟨w.heap.size, 0, none⟩ = some (.slice A1 (m + 1) c1) ∧ w'.cell? ⟨w.heap.size, 1, none⟩ = some (.int .i64 room) ∧ w'.cell? ⟨w.heap.size, 2, none⟩ = some (.int .i64 fuse) ∧ w'.cell? ⟨w.heap.size, 3, none⟩ = some (.bool false))
    (first
      | go_keep
      | (go_split_ands
         (repeat' apply And.intro) <;> exact box_ ‹Q _ _› (by assumption)))
    (first
      | (go_at_call 50
         (with_reducible refine (place fr A1 (m + 1) c1 room fuse false l _ (X.out.own.files.q (Q.refl W).drew) HN.out).mono ?_)
         rw [HP.out]
         rintro e w2 ⟨rfl, q2⟩)
      | (go_at_call 50
         (with_reducible refine (place to A1 (m + 1) c1 room fuse false l _ (X.out.own.files.q ((Q.refl W).drew.trans q2)) HN.out).mono ?_)
         rw [HT.out]
         rintro e w3 ⟨rfl, q3⟩))
  have Y := Lib.hid (X.out.step (((Q.refl W).drew.trans q2).trans q3))
  clear X q2 q3 e0 e1 e2 e3 f0 f1 f2' f3
  obtain ⟨⟨e0, e1, e2, e3⟩, f0, f1, f2', f3⟩ := Y.out.get
  go_wp2_with fail
  refine (named_any to _).mono ?_
  rintro e w4 ⟨rfl, rfl⟩
  rw [HK.out]
  go_wp2_with fail
  have k3 := change_any A1 (m + 1) c1 room fuse false k w3 hfu
  rw [HC.out] at k3
  refine k3.mono ?_
  clear k3
  rintro e w5 ⟨rfl, q5⟩
  have Z := Lib.hid ((Y.out.step q5).put4 (room2 := room) (fuse2 := f2) (off2 := false) (Y.out.step q5).own)
  have Z0 := Y.out.step q5
  clear Y q5 e0 e1 e2 e3 f0 f1 f2' f3
  obtain ⟨⟨e0, e1, e2, e3⟩, f0, f1, f2', f3⟩ := Z0.get
  clear Z0
  go_upto_region 10 with (fail)
  generalize ((((w5.setCell ⟨w.heap.size, 0, none⟩ (.slice A1 (m + 1) c1)).setCell ⟨w.heap.size, 1, none⟩ (.int .i64 room)).setCell ⟨w.heap.size, 2, none⟩ (.int .i64 f2)).setCell ⟨w.heap.size, 3, none⟩ (.bool false)) = w6 at Z ⊢
  clear e0 e1 e2 e3 f0 f1 f2' f3
  obtain ⟨⟨e0, e1, e2, e3⟩, f0, f1, f2', f3⟩ := Z.out.get
  have hkl : k < l.length := hk
  obtain ⟨g, rfl, hg⟩ : ∃ g, A1 = some ⟨g, 0, none⟩ ∧ w.heap.size + 2 ≤ g := by
    rcases Z.out.own.parts with ⟨_, e, _⟩ | ⟨g, cur, rfl, hb, _⟩
    · cases e
    · exact ⟨g, rfl, hb⟩
  obtain ⟨c0, c1', c2, gw⟩ := own_file Z.out.own hkl
  obtain ⟨z0, z1, z2, z3⟩ := Z.out.lt
  go_wp2_with fail
  refine (set_mid (w.heap.size + 2) (some ⟨g, 0, none⟩) (m + 1) c1 k ⟨to, l[k].sf, l[k].wt⟩ l _ (Z.out.own.alloc _) hkn).mono ?_
  rintro e w7 ⟨rfl, o7, b7⟩
  have V := Lib.hid ((Z.out.alloc (.cells #[.string to, .string l[k].sf, .string l[k].wt] 42)).wrote o7 b7)
  have V0 := (Z.out.alloc (.cells #[.string to, .string l[k].sf, .string l[k].wt] 42)).box.below b7 (by omega)
  clear Z o7 b7 e0 e1 e2 e3 f0 f1 f2' f3 c0 c1' c2
  obtain ⟨⟨e0, e1, e2, e3⟩, f0, f1, f2', f3⟩ := V0.get4
  clear V0
  go_upto_region 15 with (fail)
  generalize w7.setCell ⟨w.heap.size, 0, none⟩ (.slice (some ⟨g, 0, none⟩) (m + 1) c1) = w8 at V ⊢
  clear e0 e1 e2 e3 f0 f1 f2' f3
  obtain ⟨⟨e0, e1, e2, e3⟩, f0, f1, f2', f3⟩ := V.out.get
  obtain ⟨⟨s0, s1, s2, s3⟩, h0', h1, h2, h3⟩ := V.out.getR
  go_wp2
  refine bodyPost_ret (v := .tuple #[dkv (some ⟨g, 0, none⟩) (m + 1) c1 room f2 false, .int .i64 0]) (by simp [results, Tryz.results39, go_sem, s0, s1, s2, s3]) rfl ?_
  exact V.out.endDE 0 _ _ _ _

set_option maxHeartbeats 2000000 in
theorem ren_over (fr to : ByteArray) (A : Option Addr) (n c : Nat) (room fuse : Int) (l : List Fil) (w : World) (hd : Dsk w A n c l) (o k : Nat) (hk : k < l.length) (ho : o < l.length) (hp : plc fr l 0 = k) (ht : plc to l 0 = o) (hok : nmOk to = true) (he : fr ≠ to) (hfu : fuse ≤ 9223372036854775807) (f2 : Int) (hc : chg k fuse false = (f2, false, 0)) (hs : l[o].sf.size + l[o].wt.size ≤ maxLen) (hok2 : o ≠ k) (room2 : Int) (hR : wrap64 (room + ((l[o].sf.size + l[o].wt.size : Nat) : Int)) = room2) :
    Calls Tryz.prog 39 #[dkv A n c room fuse false, .string fr, .string to] w fun e w' => RetDE w ⟨(l.set k ⟨to, l[k].sf, l[k].wt⟩).eraseIdx o, room2, f2, false⟩ 0 e w' := by
  have hkn : k < n := by have := hd.len; omega
  obtain ⟨m, rfl⟩ : ∃ m, n = m + 1 := ⟨n - 1, by omega⟩
  have hon : o < m + 1 := by have := hd.len; omega
  have HD := Lib.hid hd
  have HN := Lib.hid hd.max
  have HP := Lib.hid hp
  have HT := Lib.hid ht
  clear hd hp ht
  have HK := Lib.hid hok
  clear hok
  have HC := Lib.hid hc
  clear hc
  have hb := str_ne he
  clear he
  have ho2 : o < (l.set k ⟨to, l[k].sf, l[k].wt⟩).length := by simpa using ho
  have hge : (l.set k ⟨to, l[k].sf, l[k].wt⟩)[o] = l[o] := List.getElem_set_ne (by omega) _
  have HG := Lib.hid hge
  have HS := Lib.hid hs
  have HR := Lib.hid hR
  clear hge hs hR
  go_enter Tryz.func39, Tryz.ntmps39
  go_wp2_with fail
  refine (own_any A (m + 1) c room fuse false l _ (HD.out.q (((Q.refl _).alloc _).alloc _))).mono ?_
  rintro e w1 ⟨A1, c1, rfl, ho, q1⟩
  have X := Lib.hid (St.new (room1 := room) (fuse1 := fuse) (off1 := false) ho q1)
  obtain ⟨⟨e0, e1, e2, e3⟩, f0, f1, f2', f3⟩ := St.get0 q1
  clear q1 ho
  go_upto_region 2 with (fail)
  generalize ((((w1.setCell ⟨w.heap.size, 0, none⟩ (.slice A1 (m + 1) c1)).setCell ⟨w.heap.size, 1, none⟩ (.int .i64 room)).setCell ⟨w.heap.size, 2, none⟩ (.int .i64 fuse)).setCell ⟨w.heap.size, 3, none⟩ (.bool false)) = W at X ⊢
  clear e0 e1 e2 e3 f0 f1 f2' f3
  obtain ⟨⟨e0, e1, e2, e3⟩, f0, f1, f2', f3⟩ := X.out.get
  go_region_held3 (fun w' => w'.cell? ⟨w.heap.size, 0, none⟩ = some (.slice A1 (m + 1) c1) ∧ w'.cell? ⟨w.heap.size, 1, none⟩ = some (.int .i64 room) ∧ w'.cell? ⟨w.heap.size, 2, none⟩ = some (.int .i64 fuse) ∧ w'.cell? ⟨w.heap.size, 3, none⟩ = some (.bool false))
    (first
      | go_keep
      | (go_split_ands
         (repeat' apply And.intro) <;> exact box_ ‹Q _ _› (by assumption)))
    (first
      | (go_at_call 50
         (with_reducible refine (place fr A1 (m + 1) c1 room fuse false l _ (X.out.own.files.q (Q.refl W).drew) HN.out).mono ?_)
         rw [HP.out]
         rintro e w2 ⟨rfl, q2⟩)
      | (go_at_call 50
         (with_reducible refine (place to A1 (m + 1) c1 room fuse false l _ (X.out.own.files.q ((Q.refl W).drew.trans q2)) HN.out).mono ?_)
         rw [HT.out]
         rintro e w3 ⟨rfl, q3⟩))
  have Y := Lib.hid (X.out.step (((Q.refl W).drew.trans q2).trans q3))
  clear X q2 q3 e0 e1 e2 e3 f0 f1 f2' f3
  obtain ⟨⟨e0, e1, e2, e3⟩, f0, f1, f2', f3⟩ := Y.out.get
  go_wp2_with fail
  refine (named_any to _).mono ?_
  rintro e w4 ⟨rfl, rfl⟩
  rw [HK.out]
  go_wp2_with fail
  have k3 := change_any A1 (m + 1) c1 room fuse false k w3 hfu
  rw [HC.out] at k3
  refine k3.mono ?_
  clear k3
  rintro e w5 ⟨rfl, q5⟩
  have Z := Lib.hid ((Y.out.step q5).put4 (room2 := room) (fuse2 := f2) (off2 := false) (Y.out.step q5).own)
  have Z0 := Y.out.step q5
  clear Y q5 e0 e1 e2 e3 f0 f1 f2' f3
  obtain ⟨⟨e0, e1, e2, e3⟩, f0, f1, f2', f3⟩ := Z0.get
  clear Z0
  go_upto_region 10 with (fail)
  generalize ((((w5.setCell ⟨w.heap.size, 0, none⟩ (.slice A1 (m + 1) c1)).setCell ⟨w.heap.size, 1, none⟩ (.int .i64 room)).setCell ⟨w.heap.size, 2, none⟩ (.int .i64 f2)).setCell ⟨w.heap.size, 3, none⟩ (.bool false)) = w6 at Z ⊢
  clear e0 e1 e2 e3 f0 f1 f2' f3
  obtain ⟨⟨e0, e1, e2, e3⟩, f0, f1, f2', f3⟩ := Z.out.get
  have hkl : k < l.length := hk
  obtain ⟨g, rfl, hg⟩ : ∃ g, A1 = some ⟨g, 0, none⟩ ∧ w.heap.size + 2 ≤ g := by
    rcases Z.out.own.parts with ⟨_, e, _⟩ | ⟨g, cur, rfl, hb, _⟩
    · cases e
    · exact ⟨g, rfl, hb⟩
  obtain ⟨c0, c1', c2, gw⟩ := own_file Z.out.own hkl
  obtain ⟨z0, z1, z2, z3⟩ := Z.out.lt
  go_wp2_with fail
  refine (set_mid (w.heap.size + 2) (some ⟨g, 0, none⟩) (m + 1) c1 k ⟨to, l[k].sf, l[k].wt⟩ l _ (Z.out.own.alloc _) hkn).mono ?_
  rintro e w7 ⟨rfl, o7, b7⟩
  have V := Lib.hid ((Z.out.alloc (.cells #[.string to, .string l[k].sf, .string l[k].wt] 42)).wrote o7 b7)
  have V0 := (Z.out.alloc (.cells #[.string to, .string l[k].sf, .string l[k].wt] 42)).box.below b7 (by omega)
  clear Z o7 b7 e0 e1 e2 e3 f0 f1 f2' f3 c0 c1' c2
  obtain ⟨⟨e0, e1, e2, e3⟩, f0, f1, f2', f3⟩ := V0.get4
  clear V0
  go_upto_region 15 with (fail)
  generalize w7.setCell ⟨w.heap.size, 0, none⟩ (.slice (some ⟨g, 0, none⟩) (m + 1) c1) = w8 at V ⊢
  clear e0 e1 e2 e3 f0 f1 f2' f3
  obtain ⟨⟨e0, e1, e2, e3⟩, f0, f1, f2', f3⟩ := V.out.get
  go_wp2_with fail
  have k9 := drop_at (w.heap.size + 2) g m c1 o room f2 false (l.set k ⟨to, l[k].sf, l[k].wt⟩) w8 V.out.own hon ho2 (by rw [HG.out]; exact HS.out) HN.out
  rw [HG.out, HR.out] at k9
  refine k9.mono ?_
  clear k9
  rintro e w9 ⟨rfl, o9, g9⟩
  have B9 := V.out.box.only g9 (by omega)
  have R9 := V.out.res.only g9 (by omega)
  have Q9 : Q w w9 := V.out.q.below.trans (only_below g9 (by omega) V.out.q.size)
  have U := Lib.hid (And.intro (o9.set4 (b := w.heap.size) (by omega) (.slice (some ⟨g, 0, none⟩) m c1) (.int .i64 room2) (.int .i64 f2) (.bool false)) (And.intro (B9.put4 (.slice (some ⟨g, 0, none⟩) m c1) (.int .i64 room2) (.int .i64 f2) (.bool false)) (And.intro (R9.far4 (c := w.heap.size) (by omega) (.slice (some ⟨g, 0, none⟩) m c1) (.int .i64 room2) (.int .i64 f2) (.bool false)) (Q9.set4 (b := w.heap.size) (Nat.le_refl _) (.slice (some ⟨g, 0, none⟩) m c1) (.int .i64 room2) (.int .i64 f2) (.bool false)))))
  clear R9 Q9 o9 g9 e0 e1 e2 e3 f0 f1 f2' f3
  obtain ⟨⟨e0, e1, e2, e3⟩, f0, f1, f2', f3⟩ := B9.get4
  clear B9
  go_upto_region 17 with (fail)
  generalize ((((w9.setCell ⟨w.heap.size, 0, none⟩ (.slice (some ⟨g, 0, none⟩) m c1)).setCell ⟨w.heap.size, 1, none⟩ (.int .i64 room2)).setCell ⟨w.heap.size, 2, none⟩ (.int .i64 f2)).setCell ⟨w.heap.size, 3, none⟩ (.bool false)) = w10 at U ⊢
  clear e0 e1 e2 e3 f0 f1 f2' f3
  have S : Hid (St w (some ⟨g, 0, none⟩) m c1 room2 f2 false ((l.set k ⟨to, l[k].sf, l[k].wt⟩).eraseIdx o) w10) := Lib.hid ⟨U.out.1, U.out.2.1, U.out.2.2.1, U.out.2.2.2⟩
  clear U
  obtain ⟨⟨e0, e1, e2, e3⟩, f0, f1, f2', f3⟩ := S.out.get
  obtain ⟨⟨s0, s1, s2, s3⟩, h0', h1, h2, h3⟩ := S.out.getR
  go_wp2
  refine bodyPost_ret (v := .tuple #[dkv (some ⟨g, 0, none⟩) m c1 room2 f2 false, .int .i64 0]) (by simp [results, Tryz.results39, go_sem, s0, s1, s2, s3]) rfl ?_
  exact S.out.endDE 0 _ _ _ _
end Go.Proofs.YtggbdhnjogalgaaGreatDoor

/- Contracts: Delete and Rename, whatever the disk. -/
namespace Go.Proofs.YtggbdhnjogalgaaGreatDoor
set_option maxRecDepth 100000
open Go.RowKit Dkm
set_option linter.unusedVariables false

theorem chg_none (p fuse : Int) (h : p < 0) : chg p fuse false = (fuse, false, 7) := by simp [chg, h]
theorem chg_off (p fuse : Int) : chg p fuse true = (fuse, true, 6) := by simp [chg]
theorem chg_zero (k : Nat) : chg k 0 false = (0, true, 6) := by unfold chg; rw [if_neg (by simp), if_pos (by simp)]
theorem chg_pos (k : Nat) (fuse : Int) (h : 0 < fuse) : chg k fuse false = (fuse - 1, false, 0) := by unfold chg; rw [if_neg (by simp), if_neg (by simp; omega), if_pos h]
theorem chg_neg (k : Nat) (fuse : Int) (h : fuse < 0) : chg k fuse false = (fuse, false, 0) := by unfold chg; rw [if_neg (by simp), if_neg (by simp; omega), if_neg (by omega)]
theorem pow_zero (l : List Fil) (room : Int) (off : Bool) : pow ⟨l, room, 0, off⟩ = (⟨l, room, 0, true⟩, false) := by simp [pow]
theorem pow_pos (l : List Fil) (room fuse : Int) (off : Bool) (h : 0 < fuse) : pow ⟨l, room, fuse, off⟩ = (⟨l, room, fuse - 1, off⟩, true) := by
  unfold pow; simp only; rw [if_neg (by omega), if_pos h]
theorem pow_neg (l : List Fil) (room fuse : Int) (off : Bool) (h : fuse < 0) : pow ⟨l, room, fuse, off⟩ = (⟨l, room, fuse, off⟩, true) := by
  unfold pow; simp only; rw [if_neg (by omega), if_neg (by omega)]
theorem lss_at {l : List Fil} {room fuse : Int} {off : Bool} {k : Nat} (hk : k < l.length) : lss ⟨l, room, fuse, off⟩ k = ⟨l.eraseIdx k, wrap64 (room + ((l[k].sf.size + l[k].wt.size : Nat) : Int)), fuse, off⟩ := by
  simp [lss, hk]
theorem nmd_at {l : List Fil} {room fuse : Int} {off : Bool} {k : Nat} (hk : k < l.length) (to : ByteArray) : nmd ⟨l, room, fuse, off⟩ k to = ⟨l.set k ⟨to, l[k].sf, l[k].wt⟩, room, fuse, off⟩ := by
  simp [nmd, hk]

theorem del_any (nm : ByteArray) (A : Option Addr) (n c : Nat) (d : Dk) (w : World) (hd : Dsk w A n c d.fs) (hs : ∀ f ∈ d.fs, f.sf.size + f.wt.size ≤ maxLen) (hfu : d.fuse ≤ 9223372036854775807) :
    Calls Tryz.prog 28 #[dkv A n c d.room d.fuse d.off, .string nm] w fun e w' => RetDE w (del d nm).1 (del d nm).2 e w' := by
  obtain ⟨l, room, fuse, off⟩ := d
  simp only at hd hs hfu ⊢
  cases off
  · rcases plc_cases nm l with ⟨hp, hall⟩ | ⟨k, hk, hp, hkn, hfirst⟩
    · rw [show del ⟨l, room, fuse, false⟩ nm = (⟨l, room, fuse, false⟩, 7) by simp [del, hit_none hall]]
      exact delete_no nm A n c room fuse false l w hd hfu _ hp fuse 7 false (chg_none _ _ (by omega)) (by omega)
    · rcases Int.lt_trichotomy fuse 0 with h2 | h2 | h2
      · rw [show del ⟨l, room, fuse, false⟩ nm = (lss ⟨l, room, fuse, false⟩ k, 0) by simp [del, hit_at hk hkn hfirst, opn_at hk hkn hfirst, pow_neg _ _ _ _ h2], lss_at hk]
        exact delete_yes nm A n c room fuse l w hd hfu k hk hp fuse (chg_neg k fuse h2) (hs _ (List.getElem_mem hk))
      · subst h2
        rw [show del ⟨l, room, 0, false⟩ nm = (⟨l, room, 0, true⟩, 6) by simp [del, hit_at hk hkn hfirst, pow_zero]]
        exact delete_no nm A n c room 0 false l w hd hfu _ hp 0 6 true (chg_zero k) (by omega)
      · rw [show del ⟨l, room, fuse, false⟩ nm = (lss ⟨l, room, fuse - 1, false⟩ k, 0) by simp [del, hit_at hk hkn hfirst, opn_at hk hkn hfirst, pow_pos _ _ _ _ h2], lss_at hk]
        exact delete_yes nm A n c room fuse l w hd hfu k hk hp (fuse - 1) (chg_pos k fuse h2) (hs _ (List.getElem_mem hk))
  · exact delete_no nm A n c room fuse true l w hd hfu _ rfl fuse 6 true (chg_off _ _) (by omega)

theorem ren_any (fr to : ByteArray) (A : Option Addr) (n c : Nat) (d : Dk) (w : World) (hd : Dsk w A n c d.fs) (hs : ∀ f ∈ d.fs, f.sf.size + f.wt.size ≤ maxLen) (hfu : d.fuse ≤ 9223372036854775807) :
    Calls Tryz.prog 39 #[dkv A n c d.room d.fuse d.off, .string fr, .string to] w fun e w' => RetDE w (ren d fr to).1 (ren d fr to).2 e w' := by
  obtain ⟨l, room, fuse, off⟩ := d
  simp only at hd hs hfu ⊢
  cases off
  · cases hok : nmOk to
    · rw [show ren ⟨l, room, fuse, false⟩ fr to = (⟨l, room, fuse, false⟩, 1) by simp [ren, hok]]
      exact ren_arg fr to A n c room fuse l w hd _ _ rfl rfl hok
    · rcases plc_cases fr l with ⟨hp, hall⟩ | ⟨k, hk, hp, hkn, hfirst⟩
      · rw [show ren ⟨l, room, fuse, false⟩ fr to = (⟨l, room, fuse, false⟩, 7) by simp [ren, hok, hit_none hall]]
        exact ren_no1 fr to A n c room fuse l w hd _ _ hp rfl hok (by omega) hfu fuse 7 false (chg_none _ _ (by omega)) (by omega)
      · by_cases he : fr = to
        · rw [show ren ⟨l, room, fuse, false⟩ fr to = (⟨l, room, fuse, false⟩, 0) by subst he; simp [ren, hok, hit_at hk hkn hfirst]]
          exact ren_same fr to A n c room fuse l w hd _ _ hp rfl hok (by omega) he
        · by_cases hz : fuse = 0
          · subst hz
            rw [show ren ⟨l, room, 0, false⟩ fr to = (⟨l, room, 0, true⟩, 6) by simp [ren, hok, hit_at hk hkn hfirst, he, pow_zero]]
            exact ren_no2 fr to A n c room 0 l w hd _ _ hp rfl hok (by omega) he hfu 0 6 true (chg_zero k) (by omega)
          · obtain ⟨f2, hc, hpw⟩ : ∃ f2, chg k fuse false = (f2, false, 0) ∧ pow ⟨l, room, fuse, false⟩ = (⟨l, room, f2, false⟩, true) := by
              rcases Int.lt_or_gt_of_ne hz with h | h
              · exact ⟨fuse, chg_neg k fuse h, pow_neg _ _ _ _ h⟩
              · exact ⟨fuse - 1, chg_pos k fuse h, pow_pos _ _ _ _ h⟩
            rcases plc_cases to l with ⟨hp2, hall2⟩ | ⟨o, ho, hp2, hon, hfirst2⟩
            · rw [show ren ⟨l, room, fuse, false⟩ fr to = (nmd ⟨l, room, f2, false⟩ k to, 0) by simp [ren, hok, hit_at hk hkn hfirst, opn_at hk hkn hfirst, he, hpw, hit_none hall2], nmd_at hk]
              exact ren_plain fr to A n c room fuse l w hd _ k hk hp hp2 hok he hfu f2 hc (by omega)
            · have hne : o ≠ k := by rintro rfl; exact he (hkn.symm.trans hon)
              have ho2 : o < (l.set k ⟨to, l[k].sf, l[k].wt⟩).length := by simpa using ho
              have hge : (l.set k ⟨to, l[k].sf, l[k].wt⟩)[o] = l[o] := List.getElem_set_ne (by omega) _
              rw [show ren ⟨l, room, fuse, false⟩ fr to = (lss (nmd ⟨l, room, f2, false⟩ k to) o, 0) by simp [ren, hok, hit_at hk hkn hfirst, opn_at hk hkn hfirst, he, hpw, hit_at ho hon hfirst2, opn_at ho hon hfirst2], nmd_at hk, lss_at ho2, hge]
              exact ren_over fr to A n c room fuse l w hd o k hk ho hp hp2 hok he hfu f2 hc (hs _ (List.getElem_mem ho)) hne _ rfl
  · exact ren_off fr to A n c room fuse l w hd _ _ rfl rfl
end Go.Proofs.YtggbdhnjogalgaaGreatDoor

/- Contracts: Crash. -/
namespace Go.Proofs.YtggbdhnjogalgaaGreatDoor
set_option maxRecDepth 100000
open Go.RowKit Dkm
set_option linter.unusedVariables false

end Go.Proofs.YtggbdhnjogalgaaGreatDoor

/- Contract: Append. -/
namespace Go.Proofs.YtggbdhnjogalgaaGreatDoor
set_option maxRecDepth 100000
open Go.RowKit Dkm
set_option linter.unusedVariables false

theorem Own.setNew {w0 w : World} {base : Nat} {A : Option Addr} {n c : Nat} {l0 l : List Fil} (h0 : Own w0 base A n c l0) (h : Own w base A n c l) {p : Addr} (hp : w0.heap.size ≤ p.block) (u : Value) : Own (w.setCell p u) base A n c l := by
  refine ⟨h.1, ?_⟩
  rcases h.2 with ⟨e, hz⟩ | ⟨g, cap, cur, e, hg, hh, r⟩
  · exact .inl ⟨e, hz⟩
  · refine .inr ⟨g, cap, cur, e, hg, (heap_setCell_other w p g u ?_).trans hh, r⟩
    rcases h0.parts with ⟨rfl, _⟩ | ⟨g', cur', rfl, hb, hh', _⟩
    · injection e with e; cases e
    · injection e with e; injection e with e; injection e with e
      subst e
      have : g' < w0.heap.size := by
        rcases Nat.lt_or_ge g' w0.heap.size with hlt | hge
        · exact hlt
        · rw [Array.getElem?_eq_none hge] at hh'; cases hh'
      omega

set_option maxHeartbeats 1000000 in
set_option maxRecDepth 100000 in
theorem append_off (nm s : ByteArray) (A : Option Addr) (n c : Nat) (room fuse : Int) (l : List Fil) (w : World) (hd : Dsk w A n c l) (f : Fil) (k : Nat) (hop : opn nm l = (f, k)) (hk : k ≤ n) (hf : f.sf.size + f.wt.size ≤ 2305843009213693952) (hs : s.size ≤ 2305843009213693952) :
    Calls Tryz.prog 33 #[dkv A n c room fuse true, .string nm, .string s] w fun e w' => RetDE w ⟨l, room, fuse, true⟩ 6 e w' := by
  have HD := Lib.hid hd
  have HN := Lib.hid hd.max
  have hlen := Lib.hid hd.len
  have hnm := hd.max
  unfold maxLen at hnm
  have HOP := Lib.hid hop
  clear hd hop
  obtain ⟨fa, fb, fc⟩ := f
  simp only at hf
  go_enter Tryz.func33, Tryz.ntmps33
  go_wp2_with fail
  have B0 := two_new w (.slice A n c) (.int .i64 room) (.int .i64 fuse) (.bool true) (.slice none 0 0) (.int .i64 0) (.int .i64 0) (.bool false) 24
  refine (own_any A n c room fuse true l _ (HD.out.q (((Q.refl _).alloc _).alloc _))).mono ?_
  rintro e w1 ⟨A1, c1, rfl, ho, q1⟩
  rw [size_two] at ho
  have HO := Lib.hid (ho.set4 (b := w.heap.size) (by omega) (.slice A1 n c1) (.int .i64 room) (.int .i64 fuse) (.bool true))
  have D1 := Lib.hid ((B0.1.q q1).put4 (.slice A1 n c1) (.int .i64 room) (.int .i64 fuse) (.bool true))
  have R1 := Lib.hid ((B0.2.q q1).far4 (c := w.heap.size) (by omega) (.slice A1 n c1) (.int .i64 room) (.int .i64 fuse) (.bool true))
  have Q1 := Lib.hid ((((((Q.refl w).alloc _).alloc _).trans q1)).set4 (b := w.heap.size) (Nat.le_refl _) (.slice A1 n c1) (.int .i64 room) (.int .i64 fuse) (.bool true))
  obtain ⟨⟨e0, e1, e2, e3⟩, f0, f1, f2, f3⟩ := (B0.1.q q1).get4
  clear B0 q1 ho
  go_wp2_with fail
  refine (open_any nm A1 n c1 room fuse true l _ HO.out.files HN.out).mono ?_
  rintro e w2 ⟨rfl, q2⟩
  rw [HOP.out]
  have HO2 := Lib.hid (HO.out.q q2)
  have Q2 := Lib.hid (Q1.out.trans q2)
  have z0 : w.heap.size < w2.heap.size := (D1.out.q q2).lt
  have z1 : w.heap.size + 1 < w2.heap.size := (R1.out.q q2).lt
  have z2 : w.heap.size ≠ w2.heap.size := by omega
  have z3 : w.heap.size + 1 ≠ w2.heap.size := by omega
  have D2 := Lib.hid (D1.out.q q2)
  have R2 := Lib.hid (R1.out.q q2)
  obtain ⟨⟨d0, d1, d2, d3⟩, g0, g1, g2, g3⟩ := (D1.out.q q2).get4
  obtain ⟨⟨s0, s1, s2, s3⟩, h0, h1, h2, h3⟩ := (R1.out.q q2).get4
  clear q2 e0 e1 e2 e3 f0 f1 f2 f3
  go_wp2
  refine bodyPost_ret (v := .tuple #[dkv A1 n c1 room fuse true, .int .i64 6]) (by simp [results, Tryz.results33, go_sem, s0, s1, s2, s3, z1]) rfl ⟨A1, n, c1, rfl, (((HO2.out).set4 (b := w.heap.size + 1) (by omega) _ _ _ _).alloc _).lower (by omega), ((Q2.out).set4 (b := w.heap.size + 1) (by omega) _ _ _ _).alloc _⟩

set_option maxHeartbeats 1000000 in
set_option maxRecDepth 100000 in
theorem append_arg (nm s : ByteArray) (A : Option Addr) (n c : Nat) (room fuse : Int) (l : List Fil) (w : World) (hd : Dsk w A n c l) (f : Fil) (k : Nat) (hop : opn nm l = (f, k)) (hk : k ≤ n) (hf : f.sf.size + f.wt.size ≤ 2305843009213693952) (hs : s.size ≤ 2305843009213693952) (hn : nmOk nm = false) :
    Calls Tryz.prog 33 #[dkv A n c room fuse false, .string nm, .string s] w fun e w' => RetDE w ⟨l, room, fuse, false⟩ 1 e w' := by
  have HNM := Lib.hid hn
  clear hn
  have HD := Lib.hid hd
  have HN := Lib.hid hd.max
  have hlen := Lib.hid hd.len
  have hnm := hd.max
  unfold maxLen at hnm
  have HOP := Lib.hid hop
  clear hd hop
  obtain ⟨fa, fb, fc⟩ := f
  simp only at hf
  go_enter Tryz.func33, Tryz.ntmps33
  go_wp2_with fail
  have B0 := two_new w (.slice A n c) (.int .i64 room) (.int .i64 fuse) (.bool false) (.slice none 0 0) (.int .i64 0) (.int .i64 0) (.bool false) 24
  refine (own_any A n c room fuse false l _ (HD.out.q (((Q.refl _).alloc _).alloc _))).mono ?_
  rintro e w1 ⟨A1, c1, rfl, ho, q1⟩
  rw [size_two] at ho
  have HO := Lib.hid (ho.set4 (b := w.heap.size) (by omega) (.slice A1 n c1) (.int .i64 room) (.int .i64 fuse) (.bool false))
  have D1 := Lib.hid ((B0.1.q q1).put4 (.slice A1 n c1) (.int .i64 room) (.int .i64 fuse) (.bool false))
  have R1 := Lib.hid ((B0.2.q q1).far4 (c := w.heap.size) (by omega) (.slice A1 n c1) (.int .i64 room) (.int .i64 fuse) (.bool false))
  have Q1 := Lib.hid ((((((Q.refl w).alloc _).alloc _).trans q1)).set4 (b := w.heap.size) (Nat.le_refl _) (.slice A1 n c1) (.int .i64 room) (.int .i64 fuse) (.bool false))
  obtain ⟨⟨e0, e1, e2, e3⟩, f0, f1, f2, f3⟩ := (B0.1.q q1).get4
  clear B0 q1 ho
  go_wp2_with fail
  refine (open_any nm A1 n c1 room fuse false l _ HO.out.files HN.out).mono ?_
  rintro e w2 ⟨rfl, q2⟩
  rw [HOP.out]
  have HO2 := Lib.hid (HO.out.q q2)
  have Q2 := Lib.hid (Q1.out.trans q2)
  have z0 : w.heap.size < w2.heap.size := (D1.out.q q2).lt
  have z1 : w.heap.size + 1 < w2.heap.size := (R1.out.q q2).lt
  have z2 : w.heap.size ≠ w2.heap.size := by omega
  have z3 : w.heap.size + 1 ≠ w2.heap.size := by omega
  have D2 := Lib.hid (D1.out.q q2)
  have R2 := Lib.hid (R1.out.q q2)
  obtain ⟨⟨d0, d1, d2, d3⟩, g0, g1, g2, g3⟩ := (D1.out.q q2).get4
  obtain ⟨⟨s0, s1, s2, s3⟩, h0, h1, h2, h3⟩ := (R1.out.q q2).get4
  clear q2 e0 e1 e2 e3 f0 f1 f2 f3
  go_wp2_with fail
  refine (named_any nm _).mono ?_
  rintro e w' ⟨rfl, rfl⟩
  rw [HNM.out]
  go_wp2
  refine bodyPost_ret (v := .tuple #[dkv A1 n c1 room fuse false, .int .i64 1]) (by simp [results, Tryz.results33, go_sem, s0, s1, s2, s3, z1]) rfl ⟨A1, n, c1, rfl, (((HO2.out).set4 (b := w.heap.size + 1) (by omega) _ _ _ _).alloc _).lower (by omega), ((Q2.out).set4 (b := w.heap.size + 1) (by omega) _ _ _ _).alloc _⟩

set_option maxHeartbeats 1000000 in
set_option maxRecDepth 100000 in
theorem append_full1 (nm s : ByteArray) (A : Option Addr) (n c : Nat) (room fuse : Int) (l : List Fil) (w : World) (hd : Dsk w A n c l) (f : Fil) (k : Nat) (hop : opn nm l = (f, k)) (hk : k ≤ n) (hf : f.sf.size + f.wt.size ≤ 2305843009213693952) (hs : s.size ≤ 2305843009213693952) (hn : nmOk nm = true) (hkn : k = n) (h64 : 64 ≤ n) :
    Calls Tryz.prog 33 #[dkv A n c room fuse false, .string nm, .string s] w fun e w' => RetDE w ⟨l, room, fuse, false⟩ 5 e w' := by
  have hkn2 : n = k := hkn.symm
  subst hkn2
  clear hkn
  have HNM := Lib.hid hn
  clear hn
  have HD := Lib.hid hd
  have HN := Lib.hid hd.max
  have hlen := Lib.hid hd.len
  have hnm := hd.max
  unfold maxLen at hnm
  have HOP := Lib.hid hop
  clear hd hop
  obtain ⟨fa, fb, fc⟩ := f
  simp only at hf
  go_enter Tryz.func33, Tryz.ntmps33
  go_wp2_with fail
  have B0 := two_new w (.slice A n c) (.int .i64 room) (.int .i64 fuse) (.bool false) (.slice none 0 0) (.int .i64 0) (.int .i64 0) (.bool false) 24
  refine (own_any A n c room fuse false l _ (HD.out.q (((Q.refl _).alloc _).alloc _))).mono ?_
  rintro e w1 ⟨A1, c1, rfl, ho, q1⟩
  rw [size_two] at ho
  have HO := Lib.hid (ho.set4 (b := w.heap.size) (by omega) (.slice A1 n c1) (.int .i64 room) (.int .i64 fuse) (.bool false))
  have D1 := Lib.hid ((B0.1.q q1).put4 (.slice A1 n c1) (.int .i64 room) (.int .i64 fuse) (.bool false))
  have R1 := Lib.hid ((B0.2.q q1).far4 (c := w.heap.size) (by omega) (.slice A1 n c1) (.int .i64 room) (.int .i64 fuse) (.bool false))
  have Q1 := Lib.hid ((((((Q.refl w).alloc _).alloc _).trans q1)).set4 (b := w.heap.size) (Nat.le_refl _) (.slice A1 n c1) (.int .i64 room) (.int .i64 fuse) (.bool false))
  obtain ⟨⟨e0, e1, e2, e3⟩, f0, f1, f2, f3⟩ := (B0.1.q q1).get4
  clear B0 q1 ho
  go_wp2_with fail
  refine (open_any nm A1 n c1 room fuse false l _ HO.out.files HN.out).mono ?_
  rintro e w2 ⟨rfl, q2⟩
  rw [HOP.out]
  have HO2 := Lib.hid (HO.out.q q2)
  have Q2 := Lib.hid (Q1.out.trans q2)
  have z0 : w.heap.size < w2.heap.size := (D1.out.q q2).lt
  have z1 : w.heap.size + 1 < w2.heap.size := (R1.out.q q2).lt
  have z2 : w.heap.size ≠ w2.heap.size := by omega
  have z3 : w.heap.size + 1 ≠ w2.heap.size := by omega
  have D2 := Lib.hid (D1.out.q q2)
  have R2 := Lib.hid (R1.out.q q2)
  obtain ⟨⟨d0, d1, d2, d3⟩, g0, g1, g2, g3⟩ := (D1.out.q q2).get4
  obtain ⟨⟨s0, s1, s2, s3⟩, h0, h1, h2, h3⟩ := (R1.out.q q2).get4
  clear q2 e0 e1 e2 e3 f0 f1 f2 f3
  go_wp2_with fail
  refine (named_any nm _).mono ?_
  rintro e w' ⟨rfl, rfl⟩
  rw [HNM.out]
  go_wp2
  refine bodyPost_ret (v := .tuple #[dkv A1 n c1 room fuse false, .int .i64 5]) (by simp [results, Tryz.results33, go_sem, s0, s1, s2, s3, z1]) rfl ⟨A1, n, c1, rfl, (((HO2.out).set4 (b := w.heap.size + 1) (by omega) _ _ _ _).alloc _).lower (by omega), ((Q2.out).set4 (b := w.heap.size + 1) (by omega) _ _ _ _).alloc _⟩

end Go.Proofs.YtggbdhnjogalgaaGreatDoor

/- Contract: Append, the other cases. -/
namespace Go.Proofs.YtggbdhnjogalgaaGreatDoor
set_option maxRecDepth 100000
open Go.RowKit Dkm
set_option linter.unusedVariables false

set_option maxHeartbeats 1000000 in
set_option maxRecDepth 100000 in
theorem append_full2_eq (nm s : ByteArray) (A : Option Addr) (n c : Nat) (room fuse : Int) (l : List Fil) (w : World) (hd : Dsk w A n c l) (f : Fil) (k : Nat) (hop : opn nm l = (f, k)) (hk : k ≤ n) (hf : f.sf.size + f.wt.size ≤ 2305843009213693952) (hs : s.size ≤ 2305843009213693952) (hn : nmOk nm = true) (hkn : k = n) (h64 : n < 64) (hr : room < s.size) :
    Calls Tryz.prog 33 #[dkv A n c room fuse false, .string nm, .string s] w fun e w' => RetDE w ⟨l, room, fuse, false⟩ 5 e w' := by
  have hkn2 : n = k := hkn.symm
  subst hkn2
  clear hkn
  have HNM := Lib.hid hn
  clear hn
  have HD := Lib.hid hd
  have HN := Lib.hid hd.max
  have hlen := Lib.hid hd.len
  have hnm := hd.max
  unfold maxLen at hnm
  have HOP := Lib.hid hop
  clear hd hop
  obtain ⟨fa, fb, fc⟩ := f
  simp only at hf
  go_enter Tryz.func33, Tryz.ntmps33
  go_wp2_with fail
  have B0 := two_new w (.slice A n c) (.int .i64 room) (.int .i64 fuse) (.bool false) (.slice none 0 0) (.int .i64 0) (.int .i64 0) (.bool false) 24
  refine (own_any A n c room fuse false l _ (HD.out.q (((Q.refl _).alloc _).alloc _))).mono ?_
  rintro e w1 ⟨A1, c1, rfl, ho, q1⟩
  rw [size_two] at ho
  have HO := Lib.hid (ho.set4 (b := w.heap.size) (by omega) (.slice A1 n c1) (.int .i64 room) (.int .i64 fuse) (.bool false))
  have D1 := Lib.hid ((B0.1.q q1).put4 (.slice A1 n c1) (.int .i64 room) (.int .i64 fuse) (.bool false))
  have R1 := Lib.hid ((B0.2.q q1).far4 (c := w.heap.size) (by omega) (.slice A1 n c1) (.int .i64 room) (.int .i64 fuse) (.bool false))
  have Q1 := Lib.hid ((((((Q.refl w).alloc _).alloc _).trans q1)).set4 (b := w.heap.size) (Nat.le_refl _) (.slice A1 n c1) (.int .i64 room) (.int .i64 fuse) (.bool false))
  obtain ⟨⟨e0, e1, e2, e3⟩, f0, f1, f2, f3⟩ := (B0.1.q q1).get4
  clear B0 q1 ho
  go_wp2_with fail
  refine (open_any nm A1 n c1 room fuse false l _ HO.out.files HN.out).mono ?_
  rintro e w2 ⟨rfl, q2⟩
  rw [HOP.out]
  have HO2 := Lib.hid (HO.out.q q2)
  have Q2 := Lib.hid (Q1.out.trans q2)
  have z0 : w.heap.size < w2.heap.size := (D1.out.q q2).lt
  have z1 : w.heap.size + 1 < w2.heap.size := (R1.out.q q2).lt
  have z2 : w.heap.size ≠ w2.heap.size := by omega
  have z3 : w.heap.size + 1 ≠ w2.heap.size := by omega
  have D2 := Lib.hid (D1.out.q q2)
  have R2 := Lib.hid (R1.out.q q2)
  obtain ⟨⟨d0, d1, d2, d3⟩, g0, g1, g2, g3⟩ := (D1.out.q q2).get4
  obtain ⟨⟨s0, s1, s2, s3⟩, h0, h1, h2, h3⟩ := (R1.out.q q2).get4
  clear q2 e0 e1 e2 e3 f0 f1 f2 f3
  go_wp2_with fail
  refine (named_any nm _).mono ?_
  rintro e w' ⟨rfl, rfl⟩
  rw [HNM.out]
  go_wp2
  refine bodyPost_ret (v := .tuple #[dkv A1 n c1 room fuse false, .int .i64 5]) (by simp [results, Tryz.results33, go_sem, s0, s1, s2, s3, z1]) rfl ⟨A1, n, c1, rfl, (((HO2.out).set4 (b := w.heap.size + 1) (by omega) _ _ _ _).alloc _).lower (by omega), ((Q2.out).set4 (b := w.heap.size + 1) (by omega) _ _ _ _).alloc _⟩

set_option maxHeartbeats 1000000 in
set_option maxRecDepth 100000 in
theorem append_big_eq (nm s : ByteArray) (A : Option Addr) (n c : Nat) (room fuse : Int) (l : List Fil) (w : World) (hd : Dsk w A n c l) (f : Fil) (k : Nat) (hop : opn nm l = (f, k)) (hk : k ≤ n) (hf : f.sf.size + f.wt.size ≤ 2305843009213693952) (hs : s.size ≤ 2305843009213693952) (hn : nmOk nm = true) (hkn : k = n) (h64 : n < 64) (hr : (s.size : Int) ≤ room) (hb : 65536 < f.sf.size + f.wt.size + s.size) :
    Calls Tryz.prog 33 #[dkv A n c room fuse false, .string nm, .string s] w fun e w' => RetDE w ⟨l, room, fuse, false⟩ 4 e w' := by
  have hkn2 : n = k := hkn.symm
  subst hkn2
  clear hkn
  have HNM := Lib.hid hn
  clear hn
  have HD := Lib.hid hd
  have HN := Lib.hid hd.max
  have hlen := Lib.hid hd.len
  have hnm := hd.max
  unfold maxLen at hnm
  have HOP := Lib.hid hop
  clear hd hop
  obtain ⟨fa, fb, fc⟩ := f
  simp only at hf hb
  go_enter Tryz.func33, Tryz.ntmps33
  go_wp2_with fail
  have B0 := two_new w (.slice A n c) (.int .i64 room) (.int .i64 fuse) (.bool false) (.slice none 0 0) (.int .i64 0) (.int .i64 0) (.bool false) 24
  refine (own_any A n c room fuse false l _ (HD.out.q (((Q.refl _).alloc _).alloc _))).mono ?_
  rintro e w1 ⟨A1, c1, rfl, ho, q1⟩
  rw [size_two] at ho
  have HO := Lib.hid (ho.set4 (b := w.heap.size) (by omega) (.slice A1 n c1) (.int .i64 room) (.int .i64 fuse) (.bool false))
  have D1 := Lib.hid ((B0.1.q q1).put4 (.slice A1 n c1) (.int .i64 room) (.int .i64 fuse) (.bool false))
  have R1 := Lib.hid ((B0.2.q q1).far4 (c := w.heap.size) (by omega) (.slice A1 n c1) (.int .i64 room) (.int .i64 fuse) (.bool false))
  have Q1 := Lib.hid ((((((Q.refl w).alloc _).alloc _).trans q1)).set4 (b := w.heap.size) (Nat.le_refl _) (.slice A1 n c1) (.int .i64 room) (.int .i64 fuse) (.bool false))
  obtain ⟨⟨e0, e1, e2, e3⟩, f0, f1, f2, f3⟩ := (B0.1.q q1).get4
  clear B0 q1 ho
  go_wp2_with fail
  refine (open_any nm A1 n c1 room fuse false l _ HO.out.files HN.out).mono ?_
  rintro e w2 ⟨rfl, q2⟩
  rw [HOP.out]
  have HO2 := Lib.hid (HO.out.q q2)
  have Q2 := Lib.hid (Q1.out.trans q2)
  have z0 : w.heap.size < w2.heap.size := (D1.out.q q2).lt
  have z1 : w.heap.size + 1 < w2.heap.size := (R1.out.q q2).lt
  have z2 : w.heap.size ≠ w2.heap.size := by omega
  have z3 : w.heap.size + 1 ≠ w2.heap.size := by omega
  have D2 := Lib.hid (D1.out.q q2)
  have R2 := Lib.hid (R1.out.q q2)
  obtain ⟨⟨d0, d1, d2, d3⟩, g0, g1, g2, g3⟩ := (D1.out.q q2).get4
  obtain ⟨⟨s0, s1, s2, s3⟩, h0, h1, h2, h3⟩ := (R1.out.q q2).get4
  clear q2 e0 e1 e2 e3 f0 f1 f2 f3
  go_wp2_with fail
  refine (named_any nm _).mono ?_
  rintro e w' ⟨rfl, rfl⟩
  rw [HNM.out]
  go_wp2_with fail
  have F2 := Bx.new w2 [.string fa, .string fb, .string fc] 42
  refine (size_any ⟨fa, fb, fc⟩ _ (by unfold maxLen; show fb.size + fc.size ≤ _; omega)).mono ?_
  rintro e w3 ⟨rfl, q3⟩
  simp only
  have HO3 := Lib.hid ((HO2.out.alloc _).q q3)
  have Q3 := Lib.hid ((Q2.out.alloc _).trans q3)
  have D3 := Lib.hid ((D2.out.alloc _).q q3)
  have R3 := Lib.hid ((R2.out.alloc _).q q3)
  have F3 := Lib.hid (F2.q q3)
  have y0 : w2.heap.size < w3.heap.size := F3.out.lt
  clear d0 d1 d2 d3 g0 g1 g2 g3 s0 s1 s2 s3 h0 h1 h2 h3 F2 q3
  obtain ⟨⟨d0, d1, d2, d3⟩, g0, g1, g2, g3⟩ := D3.out.get4
  obtain ⟨⟨s0, s1, s2, s3⟩, h0, h1, h2, h3⟩ := R3.out.get4
  obtain ⟨⟨t0, t1, t2⟩, u0, u1, u2⟩ := F3.out.get3
  go_wp2
  refine bodyPost_ret (v := .tuple #[dkv A1 n c1 room fuse false, .int .i64 4]) (by simp [results, Tryz.results33, go_sem, s0, s1, s2, s3]) rfl ⟨A1, n, c1, rfl, (((HO3.out).set4 (b := w.heap.size + 1) (by omega) _ _ _ _)).lower (by omega), ((Q3.out).set4 (b := w.heap.size + 1) (by omega) _ _ _ _)⟩

set_option maxHeartbeats 1000000 in
set_option maxRecDepth 100000 in
theorem append_full2_lt (nm s : ByteArray) (A : Option Addr) (n c : Nat) (room fuse : Int) (l : List Fil) (w : World) (hd : Dsk w A n c l) (f : Fil) (k : Nat) (hop : opn nm l = (f, k)) (hk : k ≤ n) (hf : f.sf.size + f.wt.size ≤ 2305843009213693952) (hs : s.size ≤ 2305843009213693952) (hn : nmOk nm = true) (hkn : k < n) (hr : room < s.size) :
    Calls Tryz.prog 33 #[dkv A n c room fuse false, .string nm, .string s] w fun e w' => RetDE w ⟨l, room, fuse, false⟩ 5 e w' := by
  have k1 : ((k : Int) == (n : Int)) = false := by simp; omega
  have k2 : (k == n) = false := by simp; omega
  have HNM := Lib.hid hn
  clear hn
  have HD := Lib.hid hd
  have HN := Lib.hid hd.max
  have hlen := Lib.hid hd.len
  have hnm := hd.max
  unfold maxLen at hnm
  have HOP := Lib.hid hop
  clear hd hop
  obtain ⟨fa, fb, fc⟩ := f
  simp only at hf
  go_enter Tryz.func33, Tryz.ntmps33
  go_wp2_with fail
  have B0 := two_new w (.slice A n c) (.int .i64 room) (.int .i64 fuse) (.bool false) (.slice none 0 0) (.int .i64 0) (.int .i64 0) (.bool false) 24
  refine (own_any A n c room fuse false l _ (HD.out.q (((Q.refl _).alloc _).alloc _))).mono ?_
  rintro e w1 ⟨A1, c1, rfl, ho, q1⟩
  rw [size_two] at ho
  have HO := Lib.hid (ho.set4 (b := w.heap.size) (by omega) (.slice A1 n c1) (.int .i64 room) (.int .i64 fuse) (.bool false))
  have D1 := Lib.hid ((B0.1.q q1).put4 (.slice A1 n c1) (.int .i64 room) (.int .i64 fuse) (.bool false))
  have R1 := Lib.hid ((B0.2.q q1).far4 (c := w.heap.size) (by omega) (.slice A1 n c1) (.int .i64 room) (.int .i64 fuse) (.bool false))
  have Q1 := Lib.hid ((((((Q.refl w).alloc _).alloc _).trans q1)).set4 (b := w.heap.size) (Nat.le_refl _) (.slice A1 n c1) (.int .i64 room) (.int .i64 fuse) (.bool false))
  obtain ⟨⟨e0, e1, e2, e3⟩, f0, f1, f2, f3⟩ := (B0.1.q q1).get4
  clear B0 q1 ho
  go_wp2_with fail
  refine (open_any nm A1 n c1 room fuse false l _ HO.out.files HN.out).mono ?_
  rintro e w2 ⟨rfl, q2⟩
  rw [HOP.out]
  have HO2 := Lib.hid (HO.out.q q2)
  have Q2 := Lib.hid (Q1.out.trans q2)
  have z0 : w.heap.size < w2.heap.size := (D1.out.q q2).lt
  have z1 : w.heap.size + 1 < w2.heap.size := (R1.out.q q2).lt
  have z2 : w.heap.size ≠ w2.heap.size := by omega
  have z3 : w.heap.size + 1 ≠ w2.heap.size := by omega
  have D2 := Lib.hid (D1.out.q q2)
  have R2 := Lib.hid (R1.out.q q2)
  obtain ⟨⟨d0, d1, d2, d3⟩, g0, g1, g2, g3⟩ := (D1.out.q q2).get4
  obtain ⟨⟨s0, s1, s2, s3⟩, h0, h1, h2, h3⟩ := (R1.out.q q2).get4
  clear q2 e0 e1 e2 e3 f0 f1 f2 f3
  go_wp2_with fail
  refine (named_any nm _).mono ?_
  rintro e w' ⟨rfl, rfl⟩
  rw [HNM.out]
  go_wp2
  refine bodyPost_ret (v := .tuple #[dkv A1 n c1 room fuse false, .int .i64 5]) (by simp [results, Tryz.results33, go_sem, s0, s1, s2, s3, z1]) rfl ⟨A1, n, c1, rfl, (((HO2.out).set4 (b := w.heap.size + 1) (by omega) _ _ _ _).alloc _).lower (by omega), ((Q2.out).set4 (b := w.heap.size + 1) (by omega) _ _ _ _).alloc _⟩

set_option maxHeartbeats 1000000 in
set_option maxRecDepth 100000 in
theorem append_big_lt (nm s : ByteArray) (A : Option Addr) (n c : Nat) (room fuse : Int) (l : List Fil) (w : World) (hd : Dsk w A n c l) (f : Fil) (k : Nat) (hop : opn nm l = (f, k)) (hk : k ≤ n) (hf : f.sf.size + f.wt.size ≤ 2305843009213693952) (hs : s.size ≤ 2305843009213693952) (hn : nmOk nm = true) (hkn : k < n) (hr : (s.size : Int) ≤ room) (hb : 65536 < f.sf.size + f.wt.size + s.size) :
    Calls Tryz.prog 33 #[dkv A n c room fuse false, .string nm, .string s] w fun e w' => RetDE w ⟨l, room, fuse, false⟩ 4 e w' := by
  have k1 : ((k : Int) == (n : Int)) = false := by simp; omega
  have k2 : (k == n) = false := by simp; omega
  have HNM := Lib.hid hn
  clear hn
  have HD := Lib.hid hd
  have HN := Lib.hid hd.max
  have hlen := Lib.hid hd.len
  have hnm := hd.max
  unfold maxLen at hnm
  have HOP := Lib.hid hop
  clear hd hop
  obtain ⟨fa, fb, fc⟩ := f
  simp only at hf hb
  go_enter Tryz.func33, Tryz.ntmps33
  go_wp2_with fail
  have B0 := two_new w (.slice A n c) (.int .i64 room) (.int .i64 fuse) (.bool false) (.slice none 0 0) (.int .i64 0) (.int .i64 0) (.bool false) 24
  refine (own_any A n c room fuse false l _ (HD.out.q (((Q.refl _).alloc _).alloc _))).mono ?_
  rintro e w1 ⟨A1, c1, rfl, ho, q1⟩
  rw [size_two] at ho
  have HO := Lib.hid (ho.set4 (b := w.heap.size) (by omega) (.slice A1 n c1) (.int .i64 room) (.int .i64 fuse) (.bool false))
  have D1 := Lib.hid ((B0.1.q q1).put4 (.slice A1 n c1) (.int .i64 room) (.int .i64 fuse) (.bool false))
  have R1 := Lib.hid ((B0.2.q q1).far4 (c := w.heap.size) (by omega) (.slice A1 n c1) (.int .i64 room) (.int .i64 fuse) (.bool false))
  have Q1 := Lib.hid ((((((Q.refl w).alloc _).alloc _).trans q1)).set4 (b := w.heap.size) (Nat.le_refl _) (.slice A1 n c1) (.int .i64 room) (.int .i64 fuse) (.bool false))
  obtain ⟨⟨e0, e1, e2, e3⟩, f0, f1, f2, f3⟩ := (B0.1.q q1).get4
  clear B0 q1 ho
  go_wp2_with fail
  refine (open_any nm A1 n c1 room fuse false l _ HO.out.files HN.out).mono ?_
  rintro e w2 ⟨rfl, q2⟩
  rw [HOP.out]
  have HO2 := Lib.hid (HO.out.q q2)
  have Q2 := Lib.hid (Q1.out.trans q2)
  have z0 : w.heap.size < w2.heap.size := (D1.out.q q2).lt
  have z1 : w.heap.size + 1 < w2.heap.size := (R1.out.q q2).lt
  have z2 : w.heap.size ≠ w2.heap.size := by omega
  have z3 : w.heap.size + 1 ≠ w2.heap.size := by omega
  have D2 := Lib.hid (D1.out.q q2)
  have R2 := Lib.hid (R1.out.q q2)
  obtain ⟨⟨d0, d1, d2, d3⟩, g0, g1, g2, g3⟩ := (D1.out.q q2).get4
  obtain ⟨⟨s0, s1, s2, s3⟩, h0, h1, h2, h3⟩ := (R1.out.q q2).get4
  clear q2 e0 e1 e2 e3 f0 f1 f2 f3
  go_wp2_with fail
  refine (named_any nm _).mono ?_
  rintro e w' ⟨rfl, rfl⟩
  rw [HNM.out]
  go_wp2_with fail
  have F2 := Bx.new w2 [.string fa, .string fb, .string fc] 42
  refine (size_any ⟨fa, fb, fc⟩ _ (by unfold maxLen; show fb.size + fc.size ≤ _; omega)).mono ?_
  rintro e w3 ⟨rfl, q3⟩
  simp only
  have HO3 := Lib.hid ((HO2.out.alloc _).q q3)
  have Q3 := Lib.hid ((Q2.out.alloc _).trans q3)
  have D3 := Lib.hid ((D2.out.alloc _).q q3)
  have R3 := Lib.hid ((R2.out.alloc _).q q3)
  have F3 := Lib.hid (F2.q q3)
  have y0 : w2.heap.size < w3.heap.size := F3.out.lt
  clear d0 d1 d2 d3 g0 g1 g2 g3 s0 s1 s2 s3 h0 h1 h2 h3 F2 q3
  obtain ⟨⟨d0, d1, d2, d3⟩, g0, g1, g2, g3⟩ := D3.out.get4
  obtain ⟨⟨s0, s1, s2, s3⟩, h0, h1, h2, h3⟩ := R3.out.get4
  obtain ⟨⟨t0, t1, t2⟩, u0, u1, u2⟩ := F3.out.get3
  go_wp2
  refine bodyPost_ret (v := .tuple #[dkv A1 n c1 room fuse false, .int .i64 4]) (by simp [results, Tryz.results33, go_sem, s0, s1, s2, s3]) rfl ⟨A1, n, c1, rfl, (((HO3.out).set4 (b := w.heap.size + 1) (by omega) _ _ _ _)).lower (by omega), ((Q3.out).set4 (b := w.heap.size + 1) (by omega) _ _ _ _)⟩

end Go.Proofs.YtggbdhnjogalgaaGreatDoor

/- Contract: Append, what is done. -/
namespace Go.Proofs.YtggbdhnjogalgaaGreatDoor
set_option maxRecDepth 100000
open Go.RowKit Dkm
set_option linter.unusedVariables false

set_option maxHeartbeats 1000000 in
set_option maxRecDepth 100000 in
theorem append_done_eq_neg (nm s : ByteArray) (A : Option Addr) (n c : Nat) (room fuse : Int) (l : List Fil) (w : World) (hd : Dsk w A n c l) (f : Fil) (k : Nat) (hop : opn nm l = (f, k)) (hk : k ≤ n) (hf : f.sf.size + f.wt.size ≤ 2305843009213693952) (hs : s.size ≤ 2305843009213693952) (hn : nmOk nm = true) (hkn : k = n) (h64 : n < 64) (hr : (s.size : Int) ≤ room) (hr2 : room ≤ 9223372036854775807) (hb : f.sf.size + f.wt.size + s.size ≤ 65536) (hz : fuse < 0) :
    Calls Tryz.prog 33 #[dkv A n c room fuse false, .string nm, .string s] w fun e w' => RetDE w ⟨l ++ [⟨f.nm, f.sf, f.wt ++ s⟩], room - (s).size, fuse, false⟩ 0 e w' := by
  have hkn2 : n = k := hkn.symm
  subst hkn2
  clear hkn
  have HNM := Lib.hid hn
  clear hn
  have HD := Lib.hid hd
  have HN := Lib.hid hd.max
  have hlen := Lib.hid hd.len
  have hnm := hd.max
  unfold maxLen at hnm
  have HOP := Lib.hid hop
  clear hd hop
  obtain ⟨fa, fb, fc⟩ := f
  simp only at hf hb
  show Calls _ _ _ _ fun e w' => RetDE w ⟨l ++ [⟨fa, fb, fc ++ s⟩], room - (s).size, fuse, false⟩ 0 e w'
  go_enter Tryz.func33, Tryz.ntmps33
  go_wp2_with fail
  have B0 := two_new w (.slice A n c) (.int .i64 room) (.int .i64 fuse) (.bool false) (.slice none 0 0) (.int .i64 0) (.int .i64 0) (.bool false) 24
  refine (own_any A n c room fuse false l _ (HD.out.q (((Q.refl _).alloc _).alloc _))).mono ?_
  rintro e w1 ⟨A1, c1, rfl, ho, q1⟩
  rw [size_two] at ho
  have HO := Lib.hid (ho.set4 (b := w.heap.size) (by omega) (.slice A1 n c1) (.int .i64 room) (.int .i64 fuse) (.bool false))
  have D1 := Lib.hid ((B0.1.q q1).put4 (.slice A1 n c1) (.int .i64 room) (.int .i64 fuse) (.bool false))
  have R1 := Lib.hid ((B0.2.q q1).far4 (c := w.heap.size) (by omega) (.slice A1 n c1) (.int .i64 room) (.int .i64 fuse) (.bool false))
  have Q1 := Lib.hid ((((((Q.refl w).alloc _).alloc _).trans q1)).set4 (b := w.heap.size) (Nat.le_refl _) (.slice A1 n c1) (.int .i64 room) (.int .i64 fuse) (.bool false))
  obtain ⟨⟨e0, e1, e2, e3⟩, f0, f1, f2, f3⟩ := (B0.1.q q1).get4
  clear B0 q1 ho
  go_wp2_with fail
  refine (open_any nm A1 n c1 room fuse false l _ HO.out.files HN.out).mono ?_
  rintro e w2 ⟨rfl, q2⟩
  rw [HOP.out]
  have HO2 := Lib.hid (HO.out.q q2)
  have Q2 := Lib.hid (Q1.out.trans q2)
  have z0 : w.heap.size < w2.heap.size := (D1.out.q q2).lt
  have z1 : w.heap.size + 1 < w2.heap.size := (R1.out.q q2).lt
  have z2 : w.heap.size ≠ w2.heap.size := by omega
  have z3 : w.heap.size + 1 ≠ w2.heap.size := by omega
  have D2 := Lib.hid (D1.out.q q2)
  have R2 := Lib.hid (R1.out.q q2)
  obtain ⟨⟨d0, d1, d2, d3⟩, g0, g1, g2, g3⟩ := (D1.out.q q2).get4
  obtain ⟨⟨s0, s1, s2, s3⟩, h0, h1, h2, h3⟩ := (R1.out.q q2).get4
  clear q2 e0 e1 e2 e3 f0 f1 f2 f3
  go_wp2_with fail
  refine (named_any nm _).mono ?_
  rintro e w' ⟨rfl, rfl⟩
  rw [HNM.out]
  go_wp2_with fail
  have F2 := Bx.new w2 [.string fa, .string fb, .string fc] 42
  refine (size_any ⟨fa, fb, fc⟩ _ (by unfold maxLen; show fb.size + fc.size ≤ _; omega)).mono ?_
  rintro e w3 ⟨rfl, q3⟩
  simp only
  have HO3 := Lib.hid ((HO2.out.alloc _).q q3)
  have Q3 := Lib.hid ((Q2.out.alloc _).trans q3)
  have D3 := Lib.hid ((D2.out.alloc _).q q3)
  have R3 := Lib.hid ((R2.out.alloc _).q q3)
  have F3 := Lib.hid (F2.q q3)
  have y0 : w2.heap.size < w3.heap.size := F3.out.lt
  clear d0 d1 d2 d3 g0 g1 g2 g3 s0 s1 s2 s3 h0 h1 h2 h3 F2 q3
  obtain ⟨⟨d0, d1, d2, d3⟩, g0, g1, g2, g3⟩ := D3.out.get4
  obtain ⟨⟨s0, s1, s2, s3⟩, h0, h1, h2, h3⟩ := R3.out.get4
  obtain ⟨⟨t0, t1, t2⟩, u0, u1, u2⟩ := F3.out.get3
  go_wp2_with fail
  refine (set_end (w.heap.size + 2) A1 n c1 ⟨fa, fb, fc ++ s⟩ l _ (Own.setNew HO2.out HO3.out (p := ⟨w2.heap.size, 2, none⟩) (Nat.le_refl _) _) (by omega) (by show w.heap.size + 2 ≤ (w3.setCell _ _).heap.size; simp; omega)).mono ?_
  rintro e w4 ⟨A4, c4, rfl, ho4, b4⟩
  have HO4 := Lib.hid ho4
  have Q4 := Lib.hid (show Q w w4 from (Q3.out.setCell (p := ⟨w2.heap.size, 2, none⟩) (by show w.heap.size ≤ w2.heap.size; omega) _).below.trans (b4.mono (by omega)))
  have D4 := (D3.out.far (p := ⟨w2.heap.size, 2, none⟩) (by show w2.heap.size ≠ w.heap.size; omega) _).below b4 (by omega)
  have R4 := (R3.out.far (p := ⟨w2.heap.size, 2, none⟩) (by show w2.heap.size ≠ w.heap.size + 1; omega) _).below b4 (by omega)
  clear ho4 b4 d0 d1 d2 d3 g0 g1 g2 g3 s0 s1 s2 s3 h0 h1 h2 h3 t0 t1 t2 u0 u1 u2
  obtain ⟨⟨d0, d1, d2, d3⟩, g0, g1, g2, g3⟩ := D4.get4
  obtain ⟨⟨s0, s1, s2, s3⟩, h0, h1, h2, h3⟩ := R4.get4
  clear D4 R4
  go_wp2
  refine bodyPost_ret (v := .tuple #[dkv A4 (n + 1) c4 (room - (s).size) (fuse) false, .int .i64 0]) (by simp [results, Tryz.results33, go_sem, s0, s1, s2, s3]) rfl ⟨A4, (n + 1), c4, rfl, ?_, ?_⟩
  · exact (((HO4.out.setCell (p := ⟨w.heap.size, 0, none⟩) (by simp) _).setCell (p := ⟨w.heap.size, 1, none⟩) (by simp) _).set4 (b := w.heap.size + 1) (by omega) _ _ _ _).lower (by omega)
  · exact ((Q4.out.setCell (p := ⟨w.heap.size, 0, none⟩) (Nat.le_refl _) _).setCell (p := ⟨w.heap.size, 1, none⟩) (Nat.le_refl _) _).set4 (b := w.heap.size + 1) (by omega) _ _ _ _

set_option maxHeartbeats 1000000 in
set_option maxRecDepth 100000 in
theorem append_done_eq_fits (nm s : ByteArray) (A : Option Addr) (n c : Nat) (room fuse : Int) (l : List Fil) (w : World) (hd : Dsk w A n c l) (f : Fil) (k : Nat) (hop : opn nm l = (f, k)) (hk : k ≤ n) (hf : f.sf.size + f.wt.size ≤ 2305843009213693952) (hs : s.size ≤ 2305843009213693952) (hn : nmOk nm = true) (hkn : k = n) (h64 : n < 64) (hr : (s.size : Int) ≤ room) (hr2 : room ≤ 9223372036854775807) (hb : f.sf.size + f.wt.size + s.size ≤ 65536) (hz : (s.size : Int) ≤ fuse) (hz2 : fuse ≤ 9223372036854775807) :
    Calls Tryz.prog 33 #[dkv A n c room fuse false, .string nm, .string s] w fun e w' => RetDE w ⟨l ++ [⟨f.nm, f.sf, f.wt ++ s⟩], room - (s).size, fuse - s.size, false⟩ 0 e w' := by
  have hkn2 : n = k := hkn.symm
  subst hkn2
  clear hkn
  have HNM := Lib.hid hn
  clear hn
  have HD := Lib.hid hd
  have HN := Lib.hid hd.max
  have hlen := Lib.hid hd.len
  have hnm := hd.max
  unfold maxLen at hnm
  have HOP := Lib.hid hop
  clear hd hop
  obtain ⟨fa, fb, fc⟩ := f
  simp only at hf hb
  show Calls _ _ _ _ fun e w' => RetDE w ⟨l ++ [⟨fa, fb, fc ++ s⟩], room - (s).size, fuse - s.size, false⟩ 0 e w'
  go_enter Tryz.func33, Tryz.ntmps33
  go_wp2_with fail
  have B0 := two_new w (.slice A n c) (.int .i64 room) (.int .i64 fuse) (.bool false) (.slice none 0 0) (.int .i64 0) (.int .i64 0) (.bool false) 24
  refine (own_any A n c room fuse false l _ (HD.out.q (((Q.refl _).alloc _).alloc _))).mono ?_
  rintro e w1 ⟨A1, c1, rfl, ho, q1⟩
  rw [size_two] at ho
  have HO := Lib.hid (ho.set4 (b := w.heap.size) (by omega) (.slice A1 n c1) (.int .i64 room) (.int .i64 fuse) (.bool false))
  have D1 := Lib.hid ((B0.1.q q1).put4 (.slice A1 n c1) (.int .i64 room) (.int .i64 fuse) (.bool false))
  have R1 := Lib.hid ((B0.2.q q1).far4 (c := w.heap.size) (by omega) (.slice A1 n c1) (.int .i64 room) (.int .i64 fuse) (.bool false))
  have Q1 := Lib.hid ((((((Q.refl w).alloc _).alloc _).trans q1)).set4 (b := w.heap.size) (Nat.le_refl _) (.slice A1 n c1) (.int .i64 room) (.int .i64 fuse) (.bool false))
  obtain ⟨⟨e0, e1, e2, e3⟩, f0, f1, f2, f3⟩ := (B0.1.q q1).get4
  clear B0 q1 ho
  go_wp2_with fail
  refine (open_any nm A1 n c1 room fuse false l _ HO.out.files HN.out).mono ?_
  rintro e w2 ⟨rfl, q2⟩
  rw [HOP.out]
  have HO2 := Lib.hid (HO.out.q q2)
  have Q2 := Lib.hid (Q1.out.trans q2)
  have z0 : w.heap.size < w2.heap.size := (D1.out.q q2).lt
  have z1 : w.heap.size + 1 < w2.heap.size := (R1.out.q q2).lt
  have z2 : w.heap.size ≠ w2.heap.size := by omega
  have z3 : w.heap.size + 1 ≠ w2.heap.size := by omega
  have D2 := Lib.hid (D1.out.q q2)
  have R2 := Lib.hid (R1.out.q q2)
  obtain ⟨⟨d0, d1, d2, d3⟩, g0, g1, g2, g3⟩ := (D1.out.q q2).get4
  obtain ⟨⟨s0, s1, s2, s3⟩, h0, h1, h2, h3⟩ := (R1.out.q q2).get4
  clear q2 e0 e1 e2 e3 f0 f1 f2 f3
  go_wp2_with fail
  refine (named_any nm _).mono ?_
  rintro e w' ⟨rfl, rfl⟩
  rw [HNM.out]
  go_wp2_with fail
  have F2 := Bx.new w2 [.string fa, .string fb, .string fc] 42
  refine (size_any ⟨fa, fb, fc⟩ _ (by unfold maxLen; show fb.size + fc.size ≤ _; omega)).mono ?_
  rintro e w3 ⟨rfl, q3⟩
  simp only
  have HO3 := Lib.hid ((HO2.out.alloc _).q q3)
  have Q3 := Lib.hid ((Q2.out.alloc _).trans q3)
  have D3 := Lib.hid ((D2.out.alloc _).q q3)
  have R3 := Lib.hid ((R2.out.alloc _).q q3)
  have F3 := Lib.hid (F2.q q3)
  have y0 : w2.heap.size < w3.heap.size := F3.out.lt
  clear d0 d1 d2 d3 g0 g1 g2 g3 s0 s1 s2 s3 h0 h1 h2 h3 F2 q3
  obtain ⟨⟨d0, d1, d2, d3⟩, g0, g1, g2, g3⟩ := D3.out.get4
  obtain ⟨⟨s0, s1, s2, s3⟩, h0, h1, h2, h3⟩ := R3.out.get4
  obtain ⟨⟨t0, t1, t2⟩, u0, u1, u2⟩ := F3.out.get3
  go_wp2_with fail
  refine (set_end (w.heap.size + 2) A1 n c1 ⟨fa, fb, fc ++ s⟩ l _ (Own.setNew HO2.out HO3.out (p := ⟨w2.heap.size, 2, none⟩) (Nat.le_refl _) _) (by omega) (by show w.heap.size + 2 ≤ (w3.setCell _ _).heap.size; simp; omega)).mono ?_
  rintro e w4 ⟨A4, c4, rfl, ho4, b4⟩
  have HO4 := Lib.hid ho4
  have Q4 := Lib.hid (show Q w w4 from (Q3.out.setCell (p := ⟨w2.heap.size, 2, none⟩) (by show w.heap.size ≤ w2.heap.size; omega) _).below.trans (b4.mono (by omega)))
  have D4 := (D3.out.far (p := ⟨w2.heap.size, 2, none⟩) (by show w2.heap.size ≠ w.heap.size; omega) _).below b4 (by omega)
  have R4 := (R3.out.far (p := ⟨w2.heap.size, 2, none⟩) (by show w2.heap.size ≠ w.heap.size + 1; omega) _).below b4 (by omega)
  clear ho4 b4 d0 d1 d2 d3 g0 g1 g2 g3 s0 s1 s2 s3 h0 h1 h2 h3 t0 t1 t2 u0 u1 u2
  obtain ⟨⟨d0, d1, d2, d3⟩, g0, g1, g2, g3⟩ := D4.get4
  obtain ⟨⟨s0, s1, s2, s3⟩, h0, h1, h2, h3⟩ := R4.get4
  clear D4 R4
  go_wp2
  refine bodyPost_ret (v := .tuple #[dkv A4 (n + 1) c4 (room - (s).size) (fuse - s.size) false, .int .i64 0]) (by simp [results, Tryz.results33, go_sem, s0, s1, s2, s3]) rfl ⟨A4, (n + 1), c4, rfl, ?_, ?_⟩
  · exact ((((HO4.out.setCell (p := ⟨w.heap.size, 0, none⟩) (by simp) _).setCell (p := ⟨w.heap.size, 1, none⟩) (by simp) _).setCell (p := ⟨w.heap.size, 2, none⟩) (by simp) _).set4 (b := w.heap.size + 1) (by omega) _ _ _ _).lower (by omega)
  · exact (((Q4.out.setCell (p := ⟨w.heap.size, 0, none⟩) (Nat.le_refl _) _).setCell (p := ⟨w.heap.size, 1, none⟩) (Nat.le_refl _) _).setCell (p := ⟨w.heap.size, 2, none⟩) (Nat.le_refl _) _).set4 (b := w.heap.size + 1) (by omega) _ _ _ _

set_option maxHeartbeats 1000000 in
set_option maxRecDepth 100000 in
theorem append_done_lt_neg (nm s : ByteArray) (A : Option Addr) (n c : Nat) (room fuse : Int) (l : List Fil) (w : World) (hd : Dsk w A n c l) (f : Fil) (k : Nat) (hop : opn nm l = (f, k)) (hk : k ≤ n) (hf : f.sf.size + f.wt.size ≤ 2305843009213693952) (hs : s.size ≤ 2305843009213693952) (hn : nmOk nm = true) (hkn : k < n) (hr : (s.size : Int) ≤ room) (hr2 : room ≤ 9223372036854775807) (hb : f.sf.size + f.wt.size + s.size ≤ 65536) (hz : fuse < 0) :
    Calls Tryz.prog 33 #[dkv A n c room fuse false, .string nm, .string s] w fun e w' => RetDE w ⟨l.set k ⟨f.nm, f.sf, f.wt ++ s⟩, room - (s).size, fuse, false⟩ 0 e w' := by
  have k1 : ((k : Int) == (n : Int)) = false := by simp; omega
  have k2 : (k == n) = false := by simp; omega
  have HNM := Lib.hid hn
  clear hn
  have HD := Lib.hid hd
  have HN := Lib.hid hd.max
  have hlen := Lib.hid hd.len
  have hnm := hd.max
  unfold maxLen at hnm
  have HOP := Lib.hid hop
  clear hd hop
  obtain ⟨fa, fb, fc⟩ := f
  simp only at hf hb
  show Calls _ _ _ _ fun e w' => RetDE w ⟨l.set k ⟨fa, fb, fc ++ s⟩, room - (s).size, fuse, false⟩ 0 e w'
  go_enter Tryz.func33, Tryz.ntmps33
  go_wp2_with fail
  have B0 := two_new w (.slice A n c) (.int .i64 room) (.int .i64 fuse) (.bool false) (.slice none 0 0) (.int .i64 0) (.int .i64 0) (.bool false) 24
  refine (own_any A n c room fuse false l _ (HD.out.q (((Q.refl _).alloc _).alloc _))).mono ?_
  rintro e w1 ⟨A1, c1, rfl, ho, q1⟩
  rw [size_two] at ho
  have HO := Lib.hid (ho.set4 (b := w.heap.size) (by omega) (.slice A1 n c1) (.int .i64 room) (.int .i64 fuse) (.bool false))
  have D1 := Lib.hid ((B0.1.q q1).put4 (.slice A1 n c1) (.int .i64 room) (.int .i64 fuse) (.bool false))
  have R1 := Lib.hid ((B0.2.q q1).far4 (c := w.heap.size) (by omega) (.slice A1 n c1) (.int .i64 room) (.int .i64 fuse) (.bool false))
  have Q1 := Lib.hid ((((((Q.refl w).alloc _).alloc _).trans q1)).set4 (b := w.heap.size) (Nat.le_refl _) (.slice A1 n c1) (.int .i64 room) (.int .i64 fuse) (.bool false))
  obtain ⟨⟨e0, e1, e2, e3⟩, f0, f1, f2, f3⟩ := (B0.1.q q1).get4
  clear B0 q1 ho
  go_wp2_with fail
  refine (open_any nm A1 n c1 room fuse false l _ HO.out.files HN.out).mono ?_
  rintro e w2 ⟨rfl, q2⟩
  rw [HOP.out]
  have HO2 := Lib.hid (HO.out.q q2)
  have Q2 := Lib.hid (Q1.out.trans q2)
  have z0 : w.heap.size < w2.heap.size := (D1.out.q q2).lt
  have z1 : w.heap.size + 1 < w2.heap.size := (R1.out.q q2).lt
  have z2 : w.heap.size ≠ w2.heap.size := by omega
  have z3 : w.heap.size + 1 ≠ w2.heap.size := by omega
  have D2 := Lib.hid (D1.out.q q2)
  have R2 := Lib.hid (R1.out.q q2)
  obtain ⟨⟨d0, d1, d2, d3⟩, g0, g1, g2, g3⟩ := (D1.out.q q2).get4
  obtain ⟨⟨s0, s1, s2, s3⟩, h0, h1, h2, h3⟩ := (R1.out.q q2).get4
  clear q2 e0 e1 e2 e3 f0 f1 f2 f3
  go_wp2_with fail
  refine (named_any nm _).mono ?_
  rintro e w' ⟨rfl, rfl⟩
  rw [HNM.out]
  go_wp2_with fail
  have F2 := Bx.new w2 [.string fa, .string fb, .string fc] 42
  refine (size_any ⟨fa, fb, fc⟩ _ (by unfold maxLen; show fb.size + fc.size ≤ _; omega)).mono ?_
  rintro e w3 ⟨rfl, q3⟩
  simp only
  have HO3 := Lib.hid ((HO2.out.alloc _).q q3)
  have Q3 := Lib.hid ((Q2.out.alloc _).trans q3)
  have D3 := Lib.hid ((D2.out.alloc _).q q3)
  have R3 := Lib.hid ((R2.out.alloc _).q q3)
  have F3 := Lib.hid (F2.q q3)
  have y0 : w2.heap.size < w3.heap.size := F3.out.lt
  clear d0 d1 d2 d3 g0 g1 g2 g3 s0 s1 s2 s3 h0 h1 h2 h3 F2 q3
  obtain ⟨⟨d0, d1, d2, d3⟩, g0, g1, g2, g3⟩ := D3.out.get4
  obtain ⟨⟨s0, s1, s2, s3⟩, h0, h1, h2, h3⟩ := R3.out.get4
  obtain ⟨⟨t0, t1, t2⟩, u0, u1, u2⟩ := F3.out.get3
  go_wp2_with fail
  refine (set_mid (w.heap.size + 2) A1 n c1 k ⟨fa, fb, fc ++ s⟩ l _ (Own.setNew HO2.out HO3.out (p := ⟨w2.heap.size, 2, none⟩) (Nat.le_refl _) _) hkn).mono ?_
  rintro e w4 ⟨rfl, ho4, b4⟩
  have HO4 := Lib.hid ho4
  have Q4 := Lib.hid (show Q w w4 from (Q3.out.setCell (p := ⟨w2.heap.size, 2, none⟩) (by show w.heap.size ≤ w2.heap.size; omega) _).below.trans (b4.mono (by omega)))
  have D4 := (D3.out.far (p := ⟨w2.heap.size, 2, none⟩) (by show w2.heap.size ≠ w.heap.size; omega) _).below b4 (by omega)
  have R4 := (R3.out.far (p := ⟨w2.heap.size, 2, none⟩) (by show w2.heap.size ≠ w.heap.size + 1; omega) _).below b4 (by omega)
  clear ho4 b4 d0 d1 d2 d3 g0 g1 g2 g3 s0 s1 s2 s3 h0 h1 h2 h3 t0 t1 t2 u0 u1 u2
  obtain ⟨⟨d0, d1, d2, d3⟩, g0, g1, g2, g3⟩ := D4.get4
  obtain ⟨⟨s0, s1, s2, s3⟩, h0, h1, h2, h3⟩ := R4.get4
  clear D4 R4
  go_wp2
  refine bodyPost_ret (v := .tuple #[dkv A1 n c1 (room - (s).size) (fuse) false, .int .i64 0]) (by simp [results, Tryz.results33, go_sem, s0, s1, s2, s3]) rfl ⟨A1, n, c1, rfl, ?_, ?_⟩
  · exact (((HO4.out.setCell (p := ⟨w.heap.size, 0, none⟩) (by simp) _).setCell (p := ⟨w.heap.size, 1, none⟩) (by simp) _).set4 (b := w.heap.size + 1) (by omega) _ _ _ _).lower (by omega)
  · exact ((Q4.out.setCell (p := ⟨w.heap.size, 0, none⟩) (Nat.le_refl _) _).setCell (p := ⟨w.heap.size, 1, none⟩) (Nat.le_refl _) _).set4 (b := w.heap.size + 1) (by omega) _ _ _ _

set_option maxHeartbeats 1000000 in
set_option maxRecDepth 100000 in
theorem append_done_lt_fits (nm s : ByteArray) (A : Option Addr) (n c : Nat) (room fuse : Int) (l : List Fil) (w : World) (hd : Dsk w A n c l) (f : Fil) (k : Nat) (hop : opn nm l = (f, k)) (hk : k ≤ n) (hf : f.sf.size + f.wt.size ≤ 2305843009213693952) (hs : s.size ≤ 2305843009213693952) (hn : nmOk nm = true) (hkn : k < n) (hr : (s.size : Int) ≤ room) (hr2 : room ≤ 9223372036854775807) (hb : f.sf.size + f.wt.size + s.size ≤ 65536) (hz : (s.size : Int) ≤ fuse) (hz2 : fuse ≤ 9223372036854775807) :
    Calls Tryz.prog 33 #[dkv A n c room fuse false, .string nm, .string s] w fun e w' => RetDE w ⟨l.set k ⟨f.nm, f.sf, f.wt ++ s⟩, room - (s).size, fuse - s.size, false⟩ 0 e w' := by
  have k1 : ((k : Int) == (n : Int)) = false := by simp; omega
  have k2 : (k == n) = false := by simp; omega
  have HNM := Lib.hid hn
  clear hn
  have HD := Lib.hid hd
  have HN := Lib.hid hd.max
  have hlen := Lib.hid hd.len
  have hnm := hd.max
  unfold maxLen at hnm
  have HOP := Lib.hid hop
  clear hd hop
  obtain ⟨fa, fb, fc⟩ := f
  simp only at hf hb
  show Calls _ _ _ _ fun e w' => RetDE w ⟨l.set k ⟨fa, fb, fc ++ s⟩, room - (s).size, fuse - s.size, false⟩ 0 e w'
  go_enter Tryz.func33, Tryz.ntmps33
  go_wp2_with fail
  have B0 := two_new w (.slice A n c) (.int .i64 room) (.int .i64 fuse) (.bool false) (.slice none 0 0) (.int .i64 0) (.int .i64 0) (.bool false) 24
  refine (own_any A n c room fuse false l _ (HD.out.q (((Q.refl _).alloc _).alloc _))).mono ?_
  rintro e w1 ⟨A1, c1, rfl, ho, q1⟩
  rw [size_two] at ho
  have HO := Lib.hid (ho.set4 (b := w.heap.size) (by omega) (.slice A1 n c1) (.int .i64 room) (.int .i64 fuse) (.bool false))
  have D1 := Lib.hid ((B0.1.q q1).put4 (.slice A1 n c1) (.int .i64 room) (.int .i64 fuse) (.bool false))
  have R1 := Lib.hid ((B0.2.q q1).far4 (c := w.heap.size) (by omega) (.slice A1 n c1) (.int .i64 room) (.int .i64 fuse) (.bool false))
  have Q1 := Lib.hid ((((((Q.refl w).alloc _).alloc _).trans q1)).set4 (b := w.heap.size) (Nat.le_refl _) (.slice A1 n c1) (.int .i64 room) (.int .i64 fuse) (.bool false))
  obtain ⟨⟨e0, e1, e2, e3⟩, f0, f1, f2, f3⟩ := (B0.1.q q1).get4
  clear B0 q1 ho
  go_wp2_with fail
  refine (open_any nm A1 n c1 room fuse false l _ HO.out.files HN.out).mono ?_
  rintro e w2 ⟨rfl, q2⟩
  rw [HOP.out]
  have HO2 := Lib.hid (HO.out.q q2)
  have Q2 := Lib.hid (Q1.out.trans q2)
  have z0 : w.heap.size < w2.heap.size := (D1.out.q q2).lt
  have z1 : w.heap.size + 1 < w2.heap.size := (R1.out.q q2).lt
  have z2 : w.heap.size ≠ w2.heap.size := by omega
  have z3 : w.heap.size + 1 ≠ w2.heap.size := by omega
  have D2 := Lib.hid (D1.out.q q2)
  have R2 := Lib.hid (R1.out.q q2)
  obtain ⟨⟨d0, d1, d2, d3⟩, g0, g1, g2, g3⟩ := (D1.out.q q2).get4
  obtain ⟨⟨s0, s1, s2, s3⟩, h0, h1, h2, h3⟩ := (R1.out.q q2).get4
  clear q2 e0 e1 e2 e3 f0 f1 f2 f3
  go_wp2_with fail
  refine (named_any nm _).mono ?_
  rintro e w' ⟨rfl, rfl⟩
  rw [HNM.out]
  go_wp2_with fail
  have F2 := Bx.new w2 [.string fa, .string fb, .string fc] 42
  refine (size_any ⟨fa, fb, fc⟩ _ (by unfold maxLen; show fb.size + fc.size ≤ _; omega)).mono ?_
  rintro e w3 ⟨rfl, q3⟩
  simp only
  have HO3 := Lib.hid ((HO2.out.alloc _).q q3)
  have Q3 := Lib.hid ((Q2.out.alloc _).trans q3)
  have D3 := Lib.hid ((D2.out.alloc _).q q3)
  have R3 := Lib.hid ((R2.out.alloc _).q q3)
  have F3 := Lib.hid (F2.q q3)
  have y0 : w2.heap.size < w3.heap.size := F3.out.lt
  clear d0 d1 d2 d3 g0 g1 g2 g3 s0 s1 s2 s3 h0 h1 h2 h3 F2 q3
  obtain ⟨⟨d0, d1, d2, d3⟩, g0, g1, g2, g3⟩ := D3.out.get4
  obtain ⟨⟨s0, s1, s2, s3⟩, h0, h1, h2, h3⟩ := R3.out.get4
  obtain ⟨⟨t0, t1, t2⟩, u0, u1, u2⟩ := F3.out.get3
  go_wp2_with fail
  refine (set_mid (w.heap.size + 2) A1 n c1 k ⟨fa, fb, fc ++ s⟩ l _ (Own.setNew HO2.out HO3.out (p := ⟨w2.heap.size, 2, none⟩) (Nat.le_refl _) _) hkn).mono ?_
  rintro e w4 ⟨rfl, ho4, b4⟩
  have HO4 := Lib.hid ho4
  have Q4 := Lib.hid (show Q w w4 from (Q3.out.setCell (p := ⟨w2.heap.size, 2, none⟩) (by show w.heap.size ≤ w2.heap.size; omega) _).below.trans (b4.mono (by omega)))
  have D4 := (D3.out.far (p := ⟨w2.heap.size, 2, none⟩) (by show w2.heap.size ≠ w.heap.size; omega) _).below b4 (by omega)
  have R4 := (R3.out.far (p := ⟨w2.heap.size, 2, none⟩) (by show w2.heap.size ≠ w.heap.size + 1; omega) _).below b4 (by omega)
  clear ho4 b4 d0 d1 d2 d3 g0 g1 g2 g3 s0 s1 s2 s3 h0 h1 h2 h3 t0 t1 t2 u0 u1 u2
  obtain ⟨⟨d0, d1, d2, d3⟩, g0, g1, g2, g3⟩ := D4.get4
  obtain ⟨⟨s0, s1, s2, s3⟩, h0, h1, h2, h3⟩ := R4.get4
  clear D4 R4
  go_wp2
  refine bodyPost_ret (v := .tuple #[dkv A1 n c1 (room - (s).size) (fuse - s.size) false, .int .i64 0]) (by simp [results, Tryz.results33, go_sem, s0, s1, s2, s3]) rfl ⟨A1, n, c1, rfl, ?_, ?_⟩
  · exact ((((HO4.out.setCell (p := ⟨w.heap.size, 0, none⟩) (by simp) _).setCell (p := ⟨w.heap.size, 1, none⟩) (by simp) _).setCell (p := ⟨w.heap.size, 2, none⟩) (by simp) _).set4 (b := w.heap.size + 1) (by omega) _ _ _ _).lower (by omega)
  · exact (((Q4.out.setCell (p := ⟨w.heap.size, 0, none⟩) (Nat.le_refl _) _).setCell (p := ⟨w.heap.size, 1, none⟩) (Nat.le_refl _) _).setCell (p := ⟨w.heap.size, 2, none⟩) (Nat.le_refl _) _).set4 (b := w.heap.size + 1) (by omega) _ _ _ _

end Go.Proofs.YtggbdhnjogalgaaGreatDoor

/- Contract: Append, cut by the fuse; and all cases together. -/
namespace Go.Proofs.YtggbdhnjogalgaaGreatDoor
set_option maxRecDepth 100000
open Go.RowKit Dkm
set_option linter.unusedVariables false

set_option maxHeartbeats 1000000 in
set_option maxRecDepth 100000 in
theorem append_short_eq (nm s : ByteArray) (A : Option Addr) (n c : Nat) (room fuse : Int) (l : List Fil) (w : World) (hd : Dsk w A n c l) (f : Fil) (k : Nat) (hop : opn nm l = (f, k)) (hk : k ≤ n) (hf : f.sf.size + f.wt.size ≤ 2305843009213693952) (hs : s.size ≤ 2305843009213693952) (hn : nmOk nm = true) (hkn : k = n) (h64 : n < 64) (hr : (s.size : Int) ≤ room) (hr2 : room ≤ 9223372036854775807) (hb : f.sf.size + f.wt.size + s.size ≤ 65536) (q : Nat) (hq : fuse = q) (hz : q < s.size) :
    Calls Tryz.prog 33 #[dkv A n c room fuse false, .string nm, .string s] w fun e w' => RetDE w ⟨l ++ [⟨f.nm, f.sf, f.wt ++ s.extract 0 q⟩], room - (s.extract 0 q).size, (q : Int) - (s.extract 0 q).size, true⟩ 6 e w' := by
  subst hq
  have hkn2 : n = k := hkn.symm
  subst hkn2
  clear hkn
  have HNM := Lib.hid hn
  clear hn
  have hx1 : (s.extract 0 q).size ≤ q := by simp; omega
  have hx2 : (s.extract 0 q).size ≤ s.size := by simp; omega
  have HD := Lib.hid hd
  have HN := Lib.hid hd.max
  have hlen := Lib.hid hd.len
  have hnm := hd.max
  unfold maxLen at hnm
  have HOP := Lib.hid hop
  clear hd hop
  obtain ⟨fa, fb, fc⟩ := f
  simp only at hf hb
  show Calls _ _ _ _ fun e w' => RetDE w ⟨l ++ [⟨fa, fb, fc ++ s.extract 0 q⟩], room - (s.extract 0 q).size, (q : Int) - (s.extract 0 q).size, true⟩ 6 e w'
  go_enter Tryz.func33, Tryz.ntmps33
  go_wp2_with fail
  have B0 := two_new w (.slice A n c) (.int .i64 room) (.int .i64 (q : Int)) (.bool false) (.slice none 0 0) (.int .i64 0) (.int .i64 0) (.bool false) 24
  refine (own_any A n c room (q : Int) false l _ (HD.out.q (((Q.refl _).alloc _).alloc _))).mono ?_
  rintro e w1 ⟨A1, c1, rfl, ho, q1⟩
  rw [size_two] at ho
  have HO := Lib.hid (ho.set4 (b := w.heap.size) (by omega) (.slice A1 n c1) (.int .i64 room) (.int .i64 (q : Int)) (.bool false))
  have D1 := Lib.hid ((B0.1.q q1).put4 (.slice A1 n c1) (.int .i64 room) (.int .i64 (q : Int)) (.bool false))
  have R1 := Lib.hid ((B0.2.q q1).far4 (c := w.heap.size) (by omega) (.slice A1 n c1) (.int .i64 room) (.int .i64 (q : Int)) (.bool false))
  have Q1 := Lib.hid ((((((Q.refl w).alloc _).alloc _).trans q1)).set4 (b := w.heap.size) (Nat.le_refl _) (.slice A1 n c1) (.int .i64 room) (.int .i64 (q : Int)) (.bool false))
  obtain ⟨⟨e0, e1, e2, e3⟩, f0, f1, f2, f3⟩ := (B0.1.q q1).get4
  clear B0 q1 ho
  go_wp2_with fail
  refine (open_any nm A1 n c1 room (q : Int) false l _ HO.out.files HN.out).mono ?_
  rintro e w2 ⟨rfl, q2⟩
  rw [HOP.out]
  have HO2 := Lib.hid (HO.out.q q2)
  have Q2 := Lib.hid (Q1.out.trans q2)
  have z0 : w.heap.size < w2.heap.size := (D1.out.q q2).lt
  have z1 : w.heap.size + 1 < w2.heap.size := (R1.out.q q2).lt
  have z2 : w.heap.size ≠ w2.heap.size := by omega
  have z3 : w.heap.size + 1 ≠ w2.heap.size := by omega
  have D2 := Lib.hid (D1.out.q q2)
  have R2 := Lib.hid (R1.out.q q2)
  obtain ⟨⟨d0, d1, d2, d3⟩, g0, g1, g2, g3⟩ := (D1.out.q q2).get4
  obtain ⟨⟨s0, s1, s2, s3⟩, h0, h1, h2, h3⟩ := (R1.out.q q2).get4
  clear q2 e0 e1 e2 e3 f0 f1 f2 f3
  go_wp2_with fail
  refine (named_any nm _).mono ?_
  rintro e w' ⟨rfl, rfl⟩
  rw [HNM.out]
  go_wp2_with fail
  have F2 := Bx.new w2 [.string fa, .string fb, .string fc] 42
  refine (size_any ⟨fa, fb, fc⟩ _ (by unfold maxLen; show fb.size + fc.size ≤ _; omega)).mono ?_
  rintro e w3 ⟨rfl, q3⟩
  simp only
  have HO3 := Lib.hid ((HO2.out.alloc _).q q3)
  have Q3 := Lib.hid ((Q2.out.alloc _).trans q3)
  have D3 := Lib.hid ((D2.out.alloc _).q q3)
  have R3 := Lib.hid ((R2.out.alloc _).q q3)
  have F3 := Lib.hid (F2.q q3)
  have y0 : w2.heap.size < w3.heap.size := F3.out.lt
  clear d0 d1 d2 d3 g0 g1 g2 g3 s0 s1 s2 s3 h0 h1 h2 h3 F2 q3
  obtain ⟨⟨d0, d1, d2, d3⟩, g0, g1, g2, g3⟩ := D3.out.get4
  obtain ⟨⟨s0, s1, s2, s3⟩, h0, h1, h2, h3⟩ := R3.out.get4
  obtain ⟨⟨t0, t1, t2⟩, u0, u1, u2⟩ := F3.out.get3
  go_wp2_with fail
  refine (set_end (w.heap.size + 2) A1 n c1 ⟨fa, fb, fc ++ s.extract 0 q⟩ l _ (Own.setNew HO2.out (HO3.out.setCell (p := ⟨w.heap.size, 3, none⟩) (by simp) (.bool true)) (p := ⟨w2.heap.size, 2, none⟩) (Nat.le_refl _) _) (by omega) (by show w.heap.size + 2 ≤ ((w3.setCell _ _).setCell _ _).heap.size; simp; omega)).mono ?_
  rintro e w4 ⟨A4, c4, rfl, ho4, b4⟩
  have HO4 := Lib.hid ho4
  have Q4 := Lib.hid (show Q w w4 from ((Q3.out.setCell (p := ⟨w.heap.size, 3, none⟩) (Nat.le_refl _) _).setCell (p := ⟨w2.heap.size, 2, none⟩) (by show w.heap.size ≤ w2.heap.size; omega) _).below.trans (b4.mono (by omega)))
  have D4 := ((D3.out.set (k := 3) (by simp) (.bool true)).far (p := ⟨w2.heap.size, 2, none⟩) (by show w2.heap.size ≠ w.heap.size; omega) _).below b4 (by omega)
  have R4 := ((R3.out.far (p := ⟨w.heap.size, 3, none⟩) (by show w.heap.size ≠ w.heap.size + 1; omega) _).far (p := ⟨w2.heap.size, 2, none⟩) (by show w2.heap.size ≠ w.heap.size + 1; omega) _).below b4 (by omega)
  clear ho4 b4 d0 d1 d2 d3 g0 g1 g2 g3 s0 s1 s2 s3 h0 h1 h2 h3 t0 t1 t2 u0 u1 u2
  obtain ⟨⟨d0, d1, d2, d3⟩, g0, g1, g2, g3⟩ := Bx.get4 (x := .slice A1 n c1) (y := .int .i64 room) (z := .int .i64 (q : Int)) (u := .bool true) D4
  obtain ⟨⟨s0, s1, s2, s3⟩, h0, h1, h2, h3⟩ := R4.get4
  clear D4 R4
  go_wp2
  refine bodyPost_ret (v := .tuple #[dkv A4 (n + 1) c4 (room - (s.extract 0 q).size) ((q : Int) - (s.extract 0 q).size) true, .int .i64 6]) (by simp [results, Tryz.results33, go_sem, s0, s1, s2, s3]) rfl ⟨A4, (n + 1), c4, rfl, ?_, ?_⟩
  · exact ((((HO4.out.setCell (p := ⟨w.heap.size, 0, none⟩) (by simp) _).setCell (p := ⟨w.heap.size, 1, none⟩) (by simp) _).setCell (p := ⟨w.heap.size, 2, none⟩) (by simp) _).set4 (b := w.heap.size + 1) (by omega) _ _ _ _).lower (by omega)
  · exact (((Q4.out.setCell (p := ⟨w.heap.size, 0, none⟩) (Nat.le_refl _) _).setCell (p := ⟨w.heap.size, 1, none⟩) (Nat.le_refl _) _).setCell (p := ⟨w.heap.size, 2, none⟩) (Nat.le_refl _) _).set4 (b := w.heap.size + 1) (by omega) _ _ _ _

set_option maxHeartbeats 1000000 in
set_option maxRecDepth 100000 in
theorem append_short_lt (nm s : ByteArray) (A : Option Addr) (n c : Nat) (room fuse : Int) (l : List Fil) (w : World) (hd : Dsk w A n c l) (f : Fil) (k : Nat) (hop : opn nm l = (f, k)) (hk : k ≤ n) (hf : f.sf.size + f.wt.size ≤ 2305843009213693952) (hs : s.size ≤ 2305843009213693952) (hn : nmOk nm = true) (hkn : k < n) (hr : (s.size : Int) ≤ room) (hr2 : room ≤ 9223372036854775807) (hb : f.sf.size + f.wt.size + s.size ≤ 65536) (q : Nat) (hq : fuse = q) (hz : q < s.size) :
    Calls Tryz.prog 33 #[dkv A n c room fuse false, .string nm, .string s] w fun e w' => RetDE w ⟨l.set k ⟨f.nm, f.sf, f.wt ++ s.extract 0 q⟩, room - (s.extract 0 q).size, (q : Int) - (s.extract 0 q).size, true⟩ 6 e w' := by
  subst hq
  have k1 : ((k : Int) == (n : Int)) = false := by simp; omega
  have k2 : (k == n) = false := by simp; omega
  have HNM := Lib.hid hn
  clear hn
  have hx1 : (s.extract 0 q).size ≤ q := by simp; omega
  have hx2 : (s.extract 0 q).size ≤ s.size := by simp; omega
  have HD := Lib.hid hd
  have HN := Lib.hid hd.max
  have hlen := Lib.hid hd.len
  have hnm := hd.max
  unfold maxLen at hnm
  have HOP := Lib.hid hop
  clear hd hop
  obtain ⟨fa, fb, fc⟩ := f
  simp only at hf hb
  show Calls _ _ _ _ fun e w' => RetDE w ⟨l.set k ⟨fa, fb, fc ++ s.extract 0 q⟩, room - (s.extract 0 q).size, (q : Int) - (s.extract 0 q).size, true⟩ 6 e w'
  go_enter Tryz.func33, Tryz.ntmps33
  go_wp2_with fail
  have B0 := two_new w (.slice A n c) (.int .i64 room) (.int .i64 (q : Int)) (.bool false) (.slice none 0 0) (.int .i64 0) (.int .i64 0) (.bool false) 24
  refine (own_any A n c room (q : Int) false l _ (HD.out.q (((Q.refl _).alloc _).alloc _))).mono ?_
  rintro e w1 ⟨A1, c1, rfl, ho, q1⟩
  rw [size_two] at ho
  have HO := Lib.hid (ho.set4 (b := w.heap.size) (by omega) (.slice A1 n c1) (.int .i64 room) (.int .i64 (q : Int)) (.bool false))
  have D1 := Lib.hid ((B0.1.q q1).put4 (.slice A1 n c1) (.int .i64 room) (.int .i64 (q : Int)) (.bool false))
  have R1 := Lib.hid ((B0.2.q q1).far4 (c := w.heap.size) (by omega) (.slice A1 n c1) (.int .i64 room) (.int .i64 (q : Int)) (.bool false))
  have Q1 := Lib.hid ((((((Q.refl w).alloc _).alloc _).trans q1)).set4 (b := w.heap.size) (Nat.le_refl _) (.slice A1 n c1) (.int .i64 room) (.int .i64 (q : Int)) (.bool false))
  obtain ⟨⟨e0, e1, e2, e3⟩, f0, f1, f2, f3⟩ := (B0.1.q q1).get4
  clear B0 q1 ho
  go_wp2_with fail
  refine (open_any nm A1 n c1 room (q : Int) false l _ HO.out.files HN.out).mono ?_
  rintro e w2 ⟨rfl, q2⟩
  rw [HOP.out]
  have HO2 := Lib.hid (HO.out.q q2)
  have Q2 := Lib.hid (Q1.out.trans q2)
  have z0 : w.heap.size < w2.heap.size := (D1.out.q q2).lt
  have z1 : w.heap.size + 1 < w2.heap.size := (R1.out.q q2).lt
  have z2 : w.heap.size ≠ w2.heap.size := by omega
  have z3 : w.heap.size + 1 ≠ w2.heap.size := by omega
  have D2 := Lib.hid (D1.out.q q2)
  have R2 := Lib.hid (R1.out.q q2)
  obtain ⟨⟨d0, d1, d2, d3⟩, g0, g1, g2, g3⟩ := (D1.out.q q2).get4
  obtain ⟨⟨s0, s1, s2, s3⟩, h0, h1, h2, h3⟩ := (R1.out.q q2).get4
  clear q2 e0 e1 e2 e3 f0 f1 f2 f3
  go_wp2_with fail
  refine (named_any nm _).mono ?_
  rintro e w' ⟨rfl, rfl⟩
  rw [HNM.out]
  go_wp2_with fail
  have F2 := Bx.new w2 [.string fa, .string fb, .string fc] 42
  refine (size_any ⟨fa, fb, fc⟩ _ (by unfold maxLen; show fb.size + fc.size ≤ _; omega)).mono ?_
  rintro e w3 ⟨rfl, q3⟩
  simp only
  have HO3 := Lib.hid ((HO2.out.alloc _).q q3)
  have Q3 := Lib.hid ((Q2.out.alloc _).trans q3)
  have D3 := Lib.hid ((D2.out.alloc _).q q3)
  have R3 := Lib.hid ((R2.out.alloc _).q q3)
  have F3 := Lib.hid (F2.q q3)
  have y0 : w2.heap.size < w3.heap.size := F3.out.lt
  clear d0 d1 d2 d3 g0 g1 g2 g3 s0 s1 s2 s3 h0 h1 h2 h3 F2 q3
  obtain ⟨⟨d0, d1, d2, d3⟩, g0, g1, g2, g3⟩ := D3.out.get4
  obtain ⟨⟨s0, s1, s2, s3⟩, h0, h1, h2, h3⟩ := R3.out.get4
  obtain ⟨⟨t0, t1, t2⟩, u0, u1, u2⟩ := F3.out.get3
  go_wp2_with fail
  refine (set_mid (w.heap.size + 2) A1 n c1 k ⟨fa, fb, fc ++ s.extract 0 q⟩ l _ (Own.setNew HO2.out (HO3.out.setCell (p := ⟨w.heap.size, 3, none⟩) (by simp) (.bool true)) (p := ⟨w2.heap.size, 2, none⟩) (Nat.le_refl _) _) hkn).mono ?_
  rintro e w4 ⟨rfl, ho4, b4⟩
  have HO4 := Lib.hid ho4
  have Q4 := Lib.hid (show Q w w4 from ((Q3.out.setCell (p := ⟨w.heap.size, 3, none⟩) (Nat.le_refl _) _).setCell (p := ⟨w2.heap.size, 2, none⟩) (by show w.heap.size ≤ w2.heap.size; omega) _).below.trans (b4.mono (by omega)))
  have D4 := ((D3.out.set (k := 3) (by simp) (.bool true)).far (p := ⟨w2.heap.size, 2, none⟩) (by show w2.heap.size ≠ w.heap.size; omega) _).below b4 (by omega)
  have R4 := ((R3.out.far (p := ⟨w.heap.size, 3, none⟩) (by show w.heap.size ≠ w.heap.size + 1; omega) _).far (p := ⟨w2.heap.size, 2, none⟩) (by show w2.heap.size ≠ w.heap.size + 1; omega) _).below b4 (by omega)
  clear ho4 b4 d0 d1 d2 d3 g0 g1 g2 g3 s0 s1 s2 s3 h0 h1 h2 h3 t0 t1 t2 u0 u1 u2
  obtain ⟨⟨d0, d1, d2, d3⟩, g0, g1, g2, g3⟩ := Bx.get4 (x := .slice A1 n c1) (y := .int .i64 room) (z := .int .i64 (q : Int)) (u := .bool true) D4
  obtain ⟨⟨s0, s1, s2, s3⟩, h0, h1, h2, h3⟩ := R4.get4
  clear D4 R4
  go_wp2
  refine bodyPost_ret (v := .tuple #[dkv A1 n c1 (room - (s.extract 0 q).size) ((q : Int) - (s.extract 0 q).size) true, .int .i64 6]) (by simp [results, Tryz.results33, go_sem, s0, s1, s2, s3]) rfl ⟨A1, n, c1, rfl, ?_, ?_⟩
  · exact ((((HO4.out.setCell (p := ⟨w.heap.size, 0, none⟩) (by simp) _).setCell (p := ⟨w.heap.size, 1, none⟩) (by simp) _).setCell (p := ⟨w.heap.size, 2, none⟩) (by simp) _).set4 (b := w.heap.size + 1) (by omega) _ _ _ _).lower (by omega)
  · exact (((Q4.out.setCell (p := ⟨w.heap.size, 0, none⟩) (Nat.le_refl _) _).setCell (p := ⟨w.heap.size, 1, none⟩) (Nat.le_refl _) _).setCell (p := ⟨w.heap.size, 2, none⟩) (Nat.le_refl _) _).set4 (b := w.heap.size + 1) (by omega) _ _ _ _

end Go.Proofs.YtggbdhnjogalgaaGreatDoor
