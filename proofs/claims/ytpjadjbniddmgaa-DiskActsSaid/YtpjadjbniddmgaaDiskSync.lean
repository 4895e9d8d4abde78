/- Contracts: open, change, Sync, Arm, New. -/
import Derived.Test.YtpjadjbniddmgaaBoxes
namespace Go.Proofs.Ytpjadjbniddmgaa
open Go.RowKit Dkm
set_option linter.unusedVariables false

/-- a disk, and why not, in memory of the call's own. -/
def RetDE (w : World) (d : Dk) (er : Int) (e : Ending) (w' : World) : Prop :=
  ∃ A' n' c', e = .returned (.tuple #[dkv A' n' c' d.room d.fuse d.off, .int .i64 er]) ∧ Own w' w.heap.size A' n' c' d.fs ∧ Q w w'

set_option maxHeartbeats 1000000 in
theorem open_any (nm : ByteArray) (A : Option Addr) (n c : Nat) (room fuse : Int) (off : Bool) (l : List Fil) (w : World) (hf : Files w A n l) (hn : n ≤ maxLen) :
    Calls Try.prog 34 #[dkv A n c room fuse off, .string nm] w fun e w' => e = .returned (.tuple #[(opn nm l).1.val, .int .i64 (opn nm l).2]) ∧ Q w w' := by
  have HF := Lib.hid hf
  have HN := Lib.hid hn
  have HL := Lib.hid hf.len
  unfold maxLen at hn
  clear hf
  rcases plc_cases nm l with ⟨hp, hall⟩ | ⟨k, hk, hp, hkn, hfirst⟩
  · rw [opn_none hall, HL.out]
    have HP := Lib.hid hp
    clear hp hall
    go_enter Try.func34, Try.ntmps34
    go_wp2_with fail
    refine (place nm A n c room fuse off l _ (HF.out.q (((Q.refl _).alloc _).alloc _)) HN.out).mono ?_
    rintro e w1 ⟨rfl, q1⟩
    rw [HP.out]
    obtain ⟨e0, e1, e2, e3⟩ := box4 q1 (b := w.heap.size) (x := .slice A n c) (y := .int .i64 room) (z := .int .i64 fuse) (u := .bool off) (by simp) (by simp) (by simp) (by simp)
    obtain ⟨r0, r1, r2⟩ := box3 q1 (b := w.heap.size + 1) (x := .string ⟨#[]⟩) (y := .string ⟨#[]⟩) (z := .string ⟨#[]⟩) (by simp) (by simp) (by simp)
    obtain ⟨hc, hz⟩ := bcell q1.below
    clear hc
    go_wp2
    go_region
    all_goals (try go_wp2)
    all_goals exact bodyPost_ret (v := .tuple #[Fil.val ⟨nm, ⟨#[]⟩, ⟨#[]⟩⟩, .int .i64 n]) (by simp [results, Try.results34, go_sem, r0, r1, r2]) rfl ⟨rfl, ((((Q.refl _).alloc _).alloc _).trans q1).drew.set3 (by simp) _ _ _⟩
  · rw [opn_at hk hkn hfirst]
    have hkn' : k < n := by have := HL.out; omega
    have HP := Lib.hid hp
    clear hp hkn hfirst
    go_enter Try.func34, Try.ntmps34
    go_wp2_with fail
    refine (place nm A n c room fuse off l _ (HF.out.q (((Q.refl _).alloc _).alloc _)) HN.out).mono ?_
    rintro e w1 ⟨rfl, q1⟩
    rw [HP.out]
    obtain ⟨ad, rfl, hb, c0, c1, c2⟩ := (HF.out.q ((((Q.refl _).alloc _).alloc _).trans q1)).load hkn' hk
    obtain ⟨e0, e1, e2, e3⟩ := box4 q1 (b := w.heap.size) (x := .slice (some ad) n c) (y := .int .i64 room) (z := .int .i64 fuse) (u := .bool off) (by simp) (by simp) (by simp) (by simp)
    obtain ⟨r0, r1, r2⟩ := box3 q1 (b := w.heap.size + 1) (x := .string ⟨#[]⟩) (y := .string ⟨#[]⟩) (z := .string ⟨#[]⟩) (by simp) (by simp) (by simp)
    obtain ⟨hc, hz⟩ := bcell q1.below
    clear hc
    go_wp2
    exact bodyPost_ret (v := .tuple #[(l[k]).val, .int .i64 k]) (by simp [results, Try.results34, go_sem, r0, r1, r2]) rfl ⟨rfl, ((((Q.refl _).alloc _).alloc _).trans q1).set3 (by simp) _ _ _⟩

theorem change_none (A : Option Addr) (n c : Nat) (room fuse at_ : Int) (w : World) (h1 : at_ < 0) :
    Calls Try.prog 41 #[dkv A n c room fuse false, .int .i64 at_] w fun e w' => e = .returned (.tuple #[dkv A n c room (fuse) false, .int .i64 7]) ∧ Q w w' := by
  go_enter Try.func41, Try.ntmps41
  go_wp2
  exact bodyPost_ret (v := .tuple #[dkv A n c room (fuse) false, .int .i64 7]) (by simp [results, Try.results41, go_sem]) rfl ⟨rfl, ((Q.refl _).alloc _).alloc _⟩

theorem change_zero (A : Option Addr) (n c : Nat) (room fuse at_ : Int) (w : World) (h1 : 0 ≤ at_) (h2 : fuse = 0) :
    Calls Try.prog 41 #[dkv A n c room fuse false, .int .i64 at_] w fun e w' => e = .returned (.tuple #[dkv A n c room (0) true, .int .i64 6]) ∧ Q w w' := by
  subst h2
  go_enter Try.func41, Try.ntmps41
  go_wp2
  exact bodyPost_ret (v := .tuple #[dkv A n c room (0) true, .int .i64 6]) (by simp [results, Try.results41, go_sem]) rfl ⟨rfl, ((Q.refl _).alloc _).alloc _⟩

theorem change_pos (A : Option Addr) (n c : Nat) (room fuse at_ : Int) (w : World) (h1 : 0 ≤ at_) (h2 : 0 < fuse) (h3 : fuse ≤ 9223372036854775807) :
    Calls Try.prog 41 #[dkv A n c room fuse false, .int .i64 at_] w fun e w' => e = .returned (.tuple #[dkv A n c room (fuse - 1) false, .int .i64 0]) ∧ Q w w' := by
  have hz : (fuse == 0) = false := by simp; omega
  go_enter Try.func41, Try.ntmps41
  go_wp2
  exact bodyPost_ret (v := .tuple #[dkv A n c room (fuse - 1) false, .int .i64 0]) (by simp [results, Try.results41, go_sem]) rfl ⟨rfl, ((Q.refl _).alloc _).alloc _⟩

theorem change_neg (A : Option Addr) (n c : Nat) (room fuse at_ : Int) (w : World) (h1 : 0 ≤ at_) (h2 : fuse < 0) :
    Calls Try.prog 41 #[dkv A n c room fuse false, .int .i64 at_] w fun e w' => e = .returned (.tuple #[dkv A n c room (fuse) false, .int .i64 0]) ∧ Q w w' := by
  have hz : (fuse == 0) = false := by simp; omega
  go_enter Try.func41, Try.ntmps41
  go_wp2
  exact bodyPost_ret (v := .tuple #[dkv A n c room (fuse) false, .int .i64 0]) (by simp [results, Try.results41, go_sem]) rfl ⟨rfl, ((Q.refl _).alloc _).alloc _⟩

theorem change_off1 (A : Option Addr) (n c : Nat) (room fuse at_ : Int) (w : World) (h1 : at_ < 0) :
    Calls Try.prog 41 #[dkv A n c room fuse true, .int .i64 at_] w fun e w' => e = .returned (.tuple #[dkv A n c room (fuse) true, .int .i64 6]) ∧ Q w w' := by
  go_enter Try.func41, Try.ntmps41
  go_wp2
  exact bodyPost_ret (v := .tuple #[dkv A n c room (fuse) true, .int .i64 6]) (by simp [results, Try.results41, go_sem]) rfl ⟨rfl, ((Q.refl _).alloc _).alloc _⟩

theorem change_off2 (A : Option Addr) (n c : Nat) (room fuse at_ : Int) (w : World) (h1 : 0 ≤ at_) :
    Calls Try.prog 41 #[dkv A n c room fuse true, .int .i64 at_] w fun e w' => e = .returned (.tuple #[dkv A n c room (fuse) true, .int .i64 6]) ∧ Q w w' := by
  go_enter Try.func41, Try.ntmps41
  go_wp2
  exact bodyPost_ret (v := .tuple #[dkv A n c room (fuse) true, .int .i64 6]) (by simp [results, Try.results41, go_sem]) rfl ⟨rfl, ((Q.refl _).alloc _).alloc _⟩


theorem change_any (A : Option Addr) (n c : Nat) (room fuse : Int) (off : Bool) (at_ : Int) (w : World) (hf : fuse ≤ 9223372036854775807) :
    Calls Try.prog 41 #[dkv A n c room fuse off, .int .i64 at_] w fun e w' => e = .returned (.tuple #[dkv A n c room (chg at_ fuse off).1 (chg at_ fuse off).2.1, .int .i64 (chg at_ fuse off).2.2]) ∧ Q w w' := by
  cases off
  · by_cases h1 : at_ < 0
    · rw [show chg at_ fuse false = (fuse, false, 7) by simp [chg, h1]]
      exact change_none A n c room fuse at_ w h1
    · rcases Int.lt_trichotomy fuse 0 with h2 | h2 | h2
      · rw [show chg at_ fuse false = (fuse, false, 0) by unfold chg; rw [if_neg (by simp; omega), if_neg (by simp; omega), if_neg (by omega)]]
        exact change_neg A n c room fuse at_ w (by omega) h2
      · subst h2
        rw [show chg at_ 0 false = (0, true, 6) by unfold chg; rw [if_neg (by simp; omega), if_pos (by simp)]]
        exact change_zero A n c room 0 at_ w (by omega) rfl
      · rw [show chg at_ fuse false = (fuse - 1, false, 0) by unfold chg; rw [if_neg (by simp; omega), if_neg (by simp; omega), if_pos h2]]
        exact change_pos A n c room fuse at_ w (by omega) h2 hf
  · rw [show chg at_ fuse true = (fuse, true, 6) by simp [chg]]
    by_cases h1 : at_ < 0
    · exact change_off1 A n c room fuse at_ w h1
    · exact change_off2 A n c room fuse at_ w (by omega)

set_option maxHeartbeats 2000000 in
theorem sync_off (nm : ByteArray) (A : Option Addr) (n c : Nat) (room fuse : Int) (l : List Fil) (w : World) (hd : Dsk w A n c l) (p : Int) (hp : plc nm l 0 = p) :
    Calls Try.prog 14 #[dkv A n c room fuse true, .string nm] w fun e w' => RetDE w ⟨l, room, fuse, true⟩ 6 e w' := by
  have HD := Lib.hid hd
  have HN := Lib.hid hd.max
  have HP := Lib.hid hp
  clear hd hp
  go_enter Try.func14, Try.ntmps14
  go_wp2_with fail
  have B0 := two_new w (.slice A n c) (.int .i64 room) (.int .i64 fuse) (.bool true) (.slice none 0 0) (.int .i64 0) (.int .i64 0) (.bool false) 24
  refine (own_any A n c room fuse true l _ (HD.out.q (((Q.refl _).alloc _).alloc _))).mono ?_
  rintro e w1 ⟨A1, c1, rfl, ho, q1⟩
  rw [size_two] at ho
  have HO := Lib.hid (ho.set4 (b := w.heap.size) (by omega) (.slice A1 n c1) (.int .i64 room) (.int .i64 fuse) (.bool true))
  have D1 := Lib.hid ((B0.1.q q1).put4 (.slice A1 n c1) (.int .i64 room) (.int .i64 fuse) (.bool true))
  have R1 := Lib.hid ((B0.2.q q1).far4 (c := w.heap.size) (by omega) (.slice A1 n c1) (.int .i64 room) (.int .i64 fuse) (.bool true))
  have Q1 := Lib.hid ((((((Q.refl w).alloc _).alloc _).trans q1)).set4 (b := w.heap.size) (Nat.le_refl _) (.slice A1 n c1) (.int .i64 room) (.int .i64 fuse) (.bool true))
  obtain ⟨⟨e0, e1, e2, e3⟩, f0, f1, f2, f3⟩ := (B0.1.q q1).get4
  clear B0 q1 ho
  go_wp2_with fail
  refine (place nm A1 n c1 room fuse true l _ HO.out.files HN.out).mono ?_
  rintro e w2 ⟨rfl, q2⟩
  rw [HP.out]
  have HO2 := Lib.hid (HO.out.q q2)
  have Q2 := Lib.hid (Q1.out.trans q2)
  have z0 : w.heap.size < w2.heap.size := (D1.out.q q2).lt
  have z1 : w.heap.size + 1 < w2.heap.size := (R1.out.q q2).lt
  have z2 : w.heap.size ≠ w2.heap.size := by omega
  have z3 : w.heap.size + 1 ≠ w2.heap.size := by omega
  have D2 := Lib.hid (D1.out.q q2)
  have R2 := Lib.hid (R1.out.q q2)
  obtain ⟨⟨d0, d1, d2, d3⟩, g0, g1, g2, g3⟩ := (D1.out.q q2).get4
  obtain ⟨⟨s0, s1, s2, s3⟩, h0, h1, h2, h3⟩ := (R1.out.q q2).get4
  clear q2 e0 e1 e2 e3 f0 f1 f2 f3
  go_wp2
  refine bodyPost_ret (v := .tuple #[dkv A1 n c1 room fuse true, .int .i64 6]) (by simp [results, Try.results14, go_sem, s0, s1, s2, s3]) rfl ⟨A1, n, c1, rfl, (HO2.out.set4 (b := w.heap.size + 1) (by omega) _ _ _ _).lower (by omega), Q2.out.set4 (b := w.heap.size + 1) (by omega) _ _ _ _⟩

set_option maxHeartbeats 2000000 in
theorem sync_none (nm : ByteArray) (A : Option Addr) (n c : Nat) (room fuse : Int) (l : List Fil) (w : World) (hd : Dsk w A n c l) (hp : plc nm l 0 = -1) :
    Calls Try.prog 14 #[dkv A n c room fuse false, .string nm] w fun e w' => RetDE w ⟨l, room, fuse, false⟩ 7 e w' := by
  have HD := Lib.hid hd
  have HN := Lib.hid hd.max
  have HP := Lib.hid hp
  clear hd hp
  go_enter Try.func14, Try.ntmps14
  go_wp2_with fail
  have B0 := two_new w (.slice A n c) (.int .i64 room) (.int .i64 fuse) (.bool false) (.slice none 0 0) (.int .i64 0) (.int .i64 0) (.bool false) 24
  refine (own_any A n c room fuse false l _ (HD.out.q (((Q.refl _).alloc _).alloc _))).mono ?_
  rintro e w1 ⟨A1, c1, rfl, ho, q1⟩
  rw [size_two] at ho
  have HO := Lib.hid (ho.set4 (b := w.heap.size) (by omega) (.slice A1 n c1) (.int .i64 room) (.int .i64 fuse) (.bool false))
  have D1 := Lib.hid ((B0.1.q q1).put4 (.slice A1 n c1) (.int .i64 room) (.int .i64 fuse) (.bool false))
  have R1 := Lib.hid ((B0.2.q q1).far4 (c := w.heap.size) (by omega) (.slice A1 n c1) (.int .i64 room) (.int .i64 fuse) (.bool false))
  have Q1 := Lib.hid ((((((Q.refl w).alloc _).alloc _).trans q1)).set4 (b := w.heap.size) (Nat.le_refl _) (.slice A1 n c1) (.int .i64 room) (.int .i64 fuse) (.bool false))
  obtain ⟨⟨e0, e1, e2, e3⟩, f0, f1, f2, f3⟩ := (B0.1.q q1).get4
  clear B0 q1 ho
  go_wp2_with fail
  refine (place nm A1 n c1 room fuse false l _ HO.out.files HN.out).mono ?_
  rintro e w2 ⟨rfl, q2⟩
  rw [HP.out]
  have HO2 := Lib.hid (HO.out.q q2)
  have Q2 := Lib.hid (Q1.out.trans q2)
  have z0 : w.heap.size < w2.heap.size := (D1.out.q q2).lt
  have z1 : w.heap.size + 1 < w2.heap.size := (R1.out.q q2).lt
  have z2 : w.heap.size ≠ w2.heap.size := by omega
  have z3 : w.heap.size + 1 ≠ w2.heap.size := by omega
  have D2 := Lib.hid (D1.out.q q2)
  have R2 := Lib.hid (R1.out.q q2)
  obtain ⟨⟨d0, d1, d2, d3⟩, g0, g1, g2, g3⟩ := (D1.out.q q2).get4
  obtain ⟨⟨s0, s1, s2, s3⟩, h0, h1, h2, h3⟩ := (R1.out.q q2).get4
  clear q2 e0 e1 e2 e3 f0 f1 f2 f3
  go_wp2
  refine bodyPost_ret (v := .tuple #[dkv A1 n c1 room fuse false, .int .i64 7]) (by simp [results, Try.results14, go_sem, s0, s1, s2, s3]) rfl ⟨A1, n, c1, rfl, (HO2.out.set4 (b := w.heap.size + 1) (by omega) _ _ _ _).lower (by omega), Q2.out.set4 (b := w.heap.size + 1) (by omega) _ _ _ _⟩

set_option maxHeartbeats 2000000 in
theorem sync_at (nm : ByteArray) (A : Option Addr) (n c : Nat) (room fuse : Int) (l : List Fil) (w : World) (hd : Dsk w A n c l) (k : Nat) (hk : k < l.length) (hp : plc nm l 0 = k) (hs : l[k].sf.size + l[k].wt.size ≤ maxLen) :
    Calls Try.prog 14 #[dkv A n c room fuse false, .string nm] w fun e w' => RetDE w ⟨l.set k ⟨l[k].nm, l[k].sf ++ l[k].wt, ⟨#[]⟩⟩, room, fuse, false⟩ 0 e w' := by
  unfold maxLen at hs
  have hkn : k < n := by have := hd.len; omega
  have hnm := hd.max
  unfold maxLen at hnm
  have HD := Lib.hid hd
  have HN := Lib.hid hd.max
  have HP := Lib.hid hp
  clear hd hp
  go_enter Try.func14, Try.ntmps14
  go_wp2_with fail
  have B0 := two_new w (.slice A n c) (.int .i64 room) (.int .i64 fuse) (.bool false) (.slice none 0 0) (.int .i64 0) (.int .i64 0) (.bool false) 24
  refine (own_any A n c room fuse false l _ (HD.out.q (((Q.refl _).alloc _).alloc _))).mono ?_
  rintro e w1 ⟨A1, c1, rfl, ho, q1⟩
  rw [size_two] at ho
  have HO := Lib.hid (ho.set4 (b := w.heap.size) (by omega) (.slice A1 n c1) (.int .i64 room) (.int .i64 fuse) (.bool false))
  have D1 := Lib.hid ((B0.1.q q1).put4 (.slice A1 n c1) (.int .i64 room) (.int .i64 fuse) (.bool false))
  have R1 := Lib.hid ((B0.2.q q1).far4 (c := w.heap.size) (by omega) (.slice A1 n c1) (.int .i64 room) (.int .i64 fuse) (.bool false))
  have Q1 := Lib.hid ((((((Q.refl w).alloc _).alloc _).trans q1)).set4 (b := w.heap.size) (Nat.le_refl _) (.slice A1 n c1) (.int .i64 room) (.int .i64 fuse) (.bool false))
  obtain ⟨⟨e0, e1, e2, e3⟩, f0, f1, f2, f3⟩ := (B0.1.q q1).get4
  clear B0 q1 ho
  go_wp2_with fail
  refine (place nm A1 n c1 room fuse false l _ HO.out.files HN.out).mono ?_
  rintro e w2 ⟨rfl, q2⟩
  rw [HP.out]
  have HO2 := Lib.hid (HO.out.q q2)
  have Q2 := Lib.hid (Q1.out.trans q2)
  have z0 : w.heap.size < w2.heap.size := (D1.out.q q2).lt
  have z1 : w.heap.size + 1 < w2.heap.size := (R1.out.q q2).lt
  have z2 : w.heap.size ≠ w2.heap.size := by omega
  have z3 : w.heap.size + 1 ≠ w2.heap.size := by omega
  have D2 := Lib.hid (D1.out.q q2)
  have R2 := Lib.hid (R1.out.q q2)
  obtain ⟨⟨d0, d1, d2, d3⟩, g0, g1, g2, g3⟩ := (D1.out.q q2).get4
  obtain ⟨⟨s0, s1, s2, s3⟩, h0, h1, h2, h3⟩ := (R1.out.q q2).get4
  clear q2 e0 e1 e2 e3 f0 f1 f2 f3
  obtain ⟨ad, rfl, hb, c0, c1', c2⟩ := HO2.out.files.load hkn hk
  go_wp2_with fail
  refine (set_mid (w.heap.size + 2) (some ad) n c1 k ⟨l[k].nm, l[k].sf ++ l[k].wt, ⟨#[]⟩⟩ l _ (HO2.out.alloc _) hkn).mono ?_
  rintro e w3 ⟨rfl, ho3, b3⟩
  have HO3 := Lib.hid ho3
  have Q3 := Lib.hid (show Q w w3 from (Q2.out.alloc _).below.trans (b3.mono (by omega)))
  have D3 := (D2.out.alloc _).below b3 (by omega)
  have R3 := (R2.out.alloc _).below b3 (by omega)
  clear ho3 b3 d0 d1 d2 d3 g0 g1 g2 g3 s0 s1 s2 s3 h0 h1 h2 h3 c0 c1' c2
  obtain ⟨⟨d0, d1, d2, d3⟩, g0, g1, g2, g3⟩ := D3.get4
  obtain ⟨⟨s0, s1, s2, s3⟩, h0, h1, h2, h3⟩ := R3.get4
  clear D3 R3
  go_wp2
  refine bodyPost_ret (v := .tuple #[dkv (some ad) n c1 room fuse false, .int .i64 0]) (by simp [results, Try.results14, go_sem, s0, s1, s2, s3]) rfl ⟨some ad, n, c1, rfl, ((HO3.out.setCell (p := ⟨w.heap.size, 0, none⟩) (by simp) _).set4 (b := w.heap.size + 1) (by omega) _ _ _ _).lower (by omega), (Q3.out.setCell (p := ⟨w.heap.size, 0, none⟩) (Nat.le_refl _) _).set4 (b := w.heap.size + 1) (by omega) _ _ _ _⟩

/-- what Sync makes of a disk. -/
theorem sync_any (nm : ByteArray) (A : Option Addr) (n c : Nat) (d : Dk) (w : World) (hd : Dsk w A n c d.fs) (hs : ∀ f ∈ d.fs, f.sf.size + f.wt.size ≤ maxLen) :
    Calls Try.prog 14 #[dkv A n c d.room d.fuse d.off, .string nm] w fun e w' => RetDE w (syn d nm).1 (syn d nm).2 e w' := by
  obtain ⟨l, room, fuse, off⟩ := d
  cases off
  · rcases plc_cases nm l with ⟨hp, hall⟩ | ⟨k, hk, hp, hkn, hfirst⟩
    · rw [syn_none hall]
      exact sync_none nm A n c room fuse l w hd hp
    · rw [syn_at hk hkn hfirst]
      exact sync_at nm A n c room fuse l w hd k hk hp (hs _ (List.getElem_mem hk))
  · exact sync_off nm A n c room fuse l w hd _ rfl
end Go.Proofs.Ytpjadjbniddmgaa
