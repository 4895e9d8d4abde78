/- DiskAppend3, DiskAppend4, DiskAppend5, DiskShown, DiskDoes, DiskDoes2, DiskInv, WalDisk, DiskInU, DiskRef, DiskRef2: merged. -/
import Derived.Test.YtodfdklcioafmaaB3
import Derived.Test.YtodfdklcioafmaaB2
import Derived.Test.YtodfdklcioafmaaB1
/- Contract: Append, what is done. -/
namespace Go.Proofs.Ytodfdklcioafmaa
set_option maxRecDepth 100000
open Go.RowKit Dkm
set_option linter.unusedVariables false

set_option maxHeartbeats 1000000 in
set_option maxRecDepth 100000 in
theorem append_done_eq_neg (nm s : ByteArray) (A : Option Addr) (n c : Nat) (room fuse : Int) (l : List Fil) (w : World) (hd : Dsk w A n c l) (f : Fil) (k : Nat) (hop : opn nm l = (f, k)) (hk : k ≤ n) (hf : f.sf.size + f.wt.size ≤ 2305843009213693952) (hs : s.size ≤ 2305843009213693952) (hn : nmOk nm = true) (hkn : k = n) (h64 : n < 64) (hr : (s.size : Int) ≤ room) (hr2 : room ≤ 9223372036854775807) (hb : f.sf.size + f.wt.size + s.size ≤ 65536) (hz : fuse < 0) :
    Calls Try.prog 30 #[dkv A n c room fuse false, .string nm, .string s] w fun e w' => RetDE w ⟨l ++ [⟨f.nm, f.sf, f.wt ++ s⟩], room - (s).size, fuse, false⟩ 0 e w' := by
  have hkn2 : n = k := hkn.symm
  subst hkn2
  clear hkn
  have HNM := Lib.hid hn
  clear hn
  have HD := Lib.hid hd
  have HN := Lib.hid hd.max
  have hlen := Lib.hid hd.len
  have hnm := hd.max
  unfold maxLen at hnm
  have HOP := Lib.hid hop
  clear hd hop
  obtain ⟨fa, fb, fc⟩ := f
  simp only at hf hb
  show Calls _ _ _ _ fun e w' => RetDE w ⟨l ++ [⟨fa, fb, fc ++ s⟩], room - (s).size, fuse, false⟩ 0 e w'
  go_enter Try.func30, Try.ntmps30
  go_wp2_with fail
  have B0 := two_new w (.slice A n c) (.int .i64 room) (.int .i64 fuse) (.bool false) (.slice none 0 0) (.int .i64 0) (.int .i64 0) (.bool false) 24
  refine (own_any A n c room fuse false l _ (HD.out.q (((Q.refl _).alloc _).alloc _))).mono ?_
  rintro e w1 ⟨A1, c1, rfl, ho, q1⟩
  rw [size_two] at ho
  have HO := Lib.hid (ho.set4 (b := w.heap.size) (by omega) (.slice A1 n c1) (.int .i64 room) (.int .i64 fuse) (.bool false))
  have D1 := Lib.hid ((B0.1.q q1).put4 (.slice A1 n c1) (.int .i64 room) (.int .i64 fuse) (.bool false))
  have R1 := Lib.hid ((B0.2.q q1).far4 (c := w.heap.size) (by omega) (.slice A1 n c1) (.int .i64 room) (.int .i64 fuse) (.bool false))
  have Q1 := Lib.hid ((((((Q.refl w).alloc _).alloc _).trans q1)).set4 (b := w.heap.size) (Nat.le_refl _) (.slice A1 n c1) (.int .i64 room) (.int .i64 fuse) (.bool false))
  obtain ⟨⟨e0, e1, e2, e3⟩, f0, f1, f2, f3⟩ := (B0.1.q q1).get4
  clear B0 q1 ho
  go_wp2_with fail
  refine (open_any nm A1 n c1 room fuse false l _ HO.out.files HN.out).mono ?_
  rintro e w2 ⟨rfl, q2⟩
  rw [HOP.out]
  have HO2 := Lib.hid (HO.out.q q2)
  have Q2 := Lib.hid (Q1.out.trans q2)
  have z0 : w.heap.size < w2.heap.size := (D1.out.q q2).lt
  have z1 : w.heap.size + 1 < w2.heap.size := (R1.out.q q2).lt
  have z2 : w.heap.size ≠ w2.heap.size := by omega
  have z3 : w.heap.size + 1 ≠ w2.heap.size := by omega
  have D2 := Lib.hid (D1.out.q q2)
  have R2 := Lib.hid (R1.out.q q2)
  obtain ⟨⟨d0, d1, d2, d3⟩, g0, g1, g2, g3⟩ := (D1.out.q q2).get4
  obtain ⟨⟨s0, s1, s2, s3⟩, h0, h1, h2, h3⟩ := (R1.out.q q2).get4
  clear q2 e0 e1 e2 e3 f0 f1 f2 f3
  go_wp2_with fail
  refine (named_any nm _).mono ?_
  rintro e w' ⟨rfl, rfl⟩
  rw [HNM.out]
  go_wp2_with fail
  have F2 := Bx.new w2 [.string fa, .string fb, .string fc] 52
  refine (size_any ⟨fa, fb, fc⟩ _ (by unfold maxLen; show fb.size + fc.size ≤ _; omega)).mono ?_
  rintro e w3 ⟨rfl, q3⟩
  simp only
  have HO3 := Lib.hid ((HO2.out.alloc _).q q3)
  have Q3 := Lib.hid ((Q2.out.alloc _).trans q3)
  have D3 := Lib.hid ((D2.out.alloc _).q q3)
  have R3 := Lib.hid ((R2.out.alloc _).q q3)
  have F3 := Lib.hid (F2.q q3)
  have y0 : w2.heap.size < w3.heap.size := F3.out.lt
  clear d0 d1 d2 d3 g0 g1 g2 g3 s0 s1 s2 s3 h0 h1 h2 h3 F2 q3
  obtain ⟨⟨d0, d1, d2, d3⟩, g0, g1, g2, g3⟩ := D3.out.get4
  obtain ⟨⟨s0, s1, s2, s3⟩, h0, h1, h2, h3⟩ := R3.out.get4
  obtain ⟨⟨t0, t1, t2⟩, u0, u1, u2⟩ := F3.out.get3
  go_wp2_with fail
  refine (set_end (w.heap.size + 2) A1 n c1 ⟨fa, fb, fc ++ s⟩ l _ (Own.setNew HO2.out HO3.out (p := ⟨w2.heap.size, 2, none⟩) (Nat.le_refl _) _) (by omega) (by show w.heap.size + 2 ≤ (w3.setCell _ _).heap.size; simp; omega)).mono ?_
  rintro e w4 ⟨A4, c4, rfl, ho4, b4⟩
  have HO4 := Lib.hid ho4
  have Q4 := Lib.hid (show Q w w4 from (Q3.out.setCell (p := ⟨w2.heap.size, 2, none⟩) (by show w.heap.size ≤ w2.heap.size; omega) _).below.trans (b4.mono (by omega)))
  have D4 := (D3.out.far (p := ⟨w2.heap.size, 2, none⟩) (by show w2.heap.size ≠ w.heap.size; omega) _).below b4 (by omega)
  have R4 := (R3.out.far (p := ⟨w2.heap.size, 2, none⟩) (by show w2.heap.size ≠ w.heap.size + 1; omega) _).below b4 (by omega)
  clear ho4 b4 d0 d1 d2 d3 g0 g1 g2 g3 s0 s1 s2 s3 h0 h1 h2 h3 t0 t1 t2 u0 u1 u2
  obtain ⟨⟨d0, d1, d2, d3⟩, g0, g1, g2, g3⟩ := D4.get4
  obtain ⟨⟨s0, s1, s2, s3⟩, h0, h1, h2, h3⟩ := R4.get4
  clear D4 R4
  go_wp2
  refine bodyPost_ret (v := .tuple #[dkv A4 (n + 1) c4 (room - (s).size) (fuse) false, .int .i64 0]) (by simp [results, Try.results30, go_sem, s0, s1, s2, s3]) rfl ⟨A4, (n + 1), c4, rfl, ?_, ?_⟩
  · exact (((HO4.out.setCell (p := ⟨w.heap.size, 0, none⟩) (by simp) _).setCell (p := ⟨w.heap.size, 1, none⟩) (by simp) _).set4 (b := w.heap.size + 1) (by omega) _ _ _ _).lower (by omega)
  · exact ((Q4.out.setCell (p := ⟨w.heap.size, 0, none⟩) (Nat.le_refl _) _).setCell (p := ⟨w.heap.size, 1, none⟩) (Nat.le_refl _) _).set4 (b := w.heap.size + 1) (by omega) _ _ _ _

set_option maxHeartbeats 1000000 in
set_option maxRecDepth 100000 in
theorem append_done_eq_fits (nm s : ByteArray) (A : Option Addr) (n c : Nat) (room fuse : Int) (l : List Fil) (w : World) (hd : Dsk w A n c l) (f : Fil) (k : Nat) (hop : opn nm l = (f, k)) (hk : k ≤ n) (hf : f.sf.size + f.wt.size ≤ 2305843009213693952) (hs : s.size ≤ 2305843009213693952) (hn : nmOk nm = true) (hkn : k = n) (h64 : n < 64) (hr : (s.size : Int) ≤ room) (hr2 : room ≤ 9223372036854775807) (hb : f.sf.size + f.wt.size + s.size ≤ 65536) (hz : (s.size : Int) ≤ fuse) (hz2 : fuse ≤ 9223372036854775807) :
    Calls Try.prog 30 #[dkv A n c room fuse false, .string nm, .string s] w fun e w' => RetDE w ⟨l ++ [⟨f.nm, f.sf, f.wt ++ s⟩], room - (s).size, fuse - s.size, false⟩ 0 e w' := by
  have hkn2 : n = k := hkn.symm
  subst hkn2
  clear hkn
  have HNM := Lib.hid hn
  clear hn
  have HD := Lib.hid hd
  have HN := Lib.hid hd.max
  have hlen := Lib.hid hd.len
  have hnm := hd.max
  unfold maxLen at hnm
  have HOP := Lib.hid hop
  clear hd hop
  obtain ⟨fa, fb, fc⟩ := f
  simp only at hf hb
  show Calls _ _ _ _ fun e w' => RetDE w ⟨l ++ [⟨fa, fb, fc ++ s⟩], room - (s).size, fuse - s.size, false⟩ 0 e w'
  go_enter Try.func30, Try.ntmps30
  go_wp2_with fail
  have B0 := two_new w (.slice A n c) (.int .i64 room) (.int .i64 fuse) (.bool false) (.slice none 0 0) (.int .i64 0) (.int .i64 0) (.bool false) 24
  refine (own_any A n c room fuse false l _ (HD.out.q (((Q.refl _).alloc _).alloc _))).mono ?_
  rintro e w1 ⟨A1, c1, rfl, ho, q1⟩
  rw [size_two] at ho
  have HO := Lib.hid (ho.set4 (b := w.heap.size) (by omega) (.slice A1 n c1) (.int .i64 room) (.int .i64 fuse) (.bool false))
  have D1 := Lib.hid ((B0.1.q q1).put4 (.slice A1 n c1) (.int .i64 room) (.int .i64 fuse) (.bool false))
  have R1 := Lib.hid ((B0.2.q q1).far4 (c := w.heap.size) (by omega) (.slice A1 n c1) (.int .i64 room) (.int .i64 fuse) (.bool false))
  have Q1 := Lib.hid ((((((Q.refl w).alloc _).alloc _).trans q1)).set4 (b := w.heap.size) (Nat.le_refl _) (.slice A1 n c1) (.int .i64 room) (.int .i64 fuse) (.bool false))
  obtain ⟨⟨e0, e1, e2, e3⟩, f0, f1, f2, f3⟩ := (B0.1.q q1).get4
  clear B0 q1 ho
  go_wp2_with fail
  refine (open_any nm A1 n c1 room fuse false l _ HO.out.files HN.out).mono ?_
  rintro e w2 ⟨rfl, q2⟩
  rw [HOP.out]
  have HO2 := Lib.hid (HO.out.q q2)
  have Q2 := Lib.hid (Q1.out.trans q2)
  have z0 : w.heap.size < w2.heap.size := (D1.out.q q2).lt
  have z1 : w.heap.size + 1 < w2.heap.size := (R1.out.q q2).lt
  have z2 : w.heap.size ≠ w2.heap.size := by omega
  have z3 : w.heap.size + 1 ≠ w2.heap.size := by omega
  have D2 := Lib.hid (D1.out.q q2)
  have R2 := Lib.hid (R1.out.q q2)
  obtain ⟨⟨d0, d1, d2, d3⟩, g0, g1, g2, g3⟩ := (D1.out.q q2).get4
  obtain ⟨⟨s0, s1, s2, s3⟩, h0, h1, h2, h3⟩ := (R1.out.q q2).get4
  clear q2 e0 e1 e2 e3 f0 f1 f2 f3
  go_wp2_with fail
  refine (named_any nm _).mono ?_
  rintro e w' ⟨rfl, rfl⟩
  rw [HNM.out]
  go_wp2_with fail
  have F2 := Bx.new w2 [.string fa, .string fb, .string fc] 52
  refine (size_any ⟨fa, fb, fc⟩ _ (by unfold maxLen; show fb.size + fc.size ≤ _; omega)).mono ?_
  rintro e w3 ⟨rfl, q3⟩
  simp only
  have HO3 := Lib.hid ((HO2.out.alloc _).q q3)
  have Q3 := Lib.hid ((Q2.out.alloc _).trans q3)
  have D3 := Lib.hid ((D2.out.alloc _).q q3)
  have R3 := Lib.hid ((R2.out.alloc _).q q3)
  have F3 := Lib.hid (F2.q q3)
  have y0 : w2.heap.size < w3.heap.size := F3.out.lt
  clear d0 d1 d2 d3 g0 g1 g2 g3 s0 s1 s2 s3 h0 h1 h2 h3 F2 q3
  obtain ⟨⟨d0, d1, d2, d3⟩, g0, g1, g2, g3⟩ := D3.out.get4
  obtain ⟨⟨s0, s1, s2, s3⟩, h0, h1, h2, h3⟩ := R3.out.get4
  obtain ⟨⟨t0, t1, t2⟩, u0, u1, u2⟩ := F3.out.get3
  go_wp2_with fail
  refine (set_end (w.heap.size + 2) A1 n c1 ⟨fa, fb, fc ++ s⟩ l _ (Own.setNew HO2.out HO3.out (p := ⟨w2.heap.size, 2, none⟩) (Nat.le_refl _) _) (by omega) (by show w.heap.size + 2 ≤ (w3.setCell _ _).heap.size; simp; omega)).mono ?_
  rintro e w4 ⟨A4, c4, rfl, ho4, b4⟩
  have HO4 := Lib.hid ho4
  have Q4 := Lib.hid (show Q w w4 from (Q3.out.setCell (p := ⟨w2.heap.size, 2, none⟩) (by show w.heap.size ≤ w2.heap.size; omega) _).below.trans (b4.mono (by omega)))
  have D4 := (D3.out.far (p := ⟨w2.heap.size, 2, none⟩) (by show w2.heap.size ≠ w.heap.size; omega) _).below b4 (by omega)
  have R4 := (R3.out.far (p := ⟨w2.heap.size, 2, none⟩) (by show w2.heap.size ≠ w.heap.size + 1; omega) _).below b4 (by omega)
  clear ho4 b4 d0 d1 d2 d3 g0 g1 g2 g3 s0 s1 s2 s3 h0 h1 h2 h3 t0 t1 t2 u0 u1 u2
  obtain ⟨⟨d0, d1, d2, d3⟩, g0, g1, g2, g3⟩ := D4.get4
  obtain ⟨⟨s0, s1, s2, s3⟩, h0, h1, h2, h3⟩ := R4.get4
  clear D4 R4
  go_wp2
  refine bodyPost_ret (v := .tuple #[dkv A4 (n + 1) c4 (room - (s).size) (fuse - s.size) false, .int .i64 0]) (by simp [results, Try.results30, go_sem, s0, s1, s2, s3]) rfl ⟨A4, (n + 1), c4, rfl, ?_, ?_⟩
  · exact ((((HO4.out.setCell (p := ⟨w.heap.size, 0, none⟩) (by simp) _).setCell (p := ⟨w.heap.size, 1, none⟩) (by simp) _).setCell (p := ⟨w.heap.size, 2, none⟩) (by simp) _).set4 (b := w.heap.size + 1) (by omega) _ _ _ _).lower (by omega)
  · exact (((Q4.out.setCell (p := ⟨w.heap.size, 0, none⟩) (Nat.le_refl _) _).setCell (p := ⟨w.heap.size, 1, none⟩) (Nat.le_refl _) _).setCell (p := ⟨w.heap.size, 2, none⟩) (Nat.le_refl _) _).set4 (b := w.heap.size + 1) (by omega) _ _ _ _

set_option maxHeartbeats 1000000 in
set_option maxRecDepth 100000 in
theorem append_done_lt_neg (nm s : ByteArray) (A : Option Addr) (n c : Nat) (room fuse : Int) (l : List Fil) (w : World) (hd : Dsk w A n c l) (f : Fil) (k : Nat) (hop : opn nm l = (f, k)) (hk : k ≤ n) (hf : f.sf.size + f.wt.size ≤ 2305843009213693952) (hs : s.size ≤ 2305843009213693952) (hn : nmOk nm = true) (hkn : k < n) (hr : (s.size : Int) ≤ room) (hr2 : room ≤ 9223372036854775807) (hb : f.sf.size + f.wt.size + s.size ≤ 65536) (hz : fuse < 0) :
    Calls Try.prog 30 #[dkv A n c room fuse false, .string nm, .string s] w fun e w' => RetDE w ⟨l.set k ⟨f.nm, f.sf, f.wt ++ s⟩, room - (s).size, fuse, false⟩ 0 e w' := by
  have k1 : ((k : Int) == (n : Int)) = false := by simp; omega
  have k2 : (k == n) = false := by simp; omega
  have HNM := Lib.hid hn
  clear hn
  have HD := Lib.hid hd
  have HN := Lib.hid hd.max
  have hlen := Lib.hid hd.len
  have hnm := hd.max
  unfold maxLen at hnm
  have HOP := Lib.hid hop
  clear hd hop
  obtain ⟨fa, fb, fc⟩ := f
  simp only at hf hb
  show Calls _ _ _ _ fun e w' => RetDE w ⟨l.set k ⟨fa, fb, fc ++ s⟩, room - (s).size, fuse, false⟩ 0 e w'
  go_enter Try.func30, Try.ntmps30
  go_wp2_with fail
  have B0 := two_new w (.slice A n c) (.int .i64 room) (.int .i64 fuse) (.bool false) (.slice none 0 0) (.int .i64 0) (.int .i64 0) (.bool false) 24
  refine (own_any A n c room fuse false l _ (HD.out.q (((Q.refl _).alloc _).alloc _))).mono ?_
  rintro e w1 ⟨A1, c1, rfl, ho, q1⟩
  rw [size_two] at ho
  have HO := Lib.hid (ho.set4 (b := w.heap.size) (by omega) (.slice A1 n c1) (.int .i64 room) (.int .i64 fuse) (.bool false))
  have D1 := Lib.hid ((B0.1.q q1).put4 (.slice A1 n c1) (.int .i64 room) (.int .i64 fuse) (.bool false))
  have R1 := Lib.hid ((B0.2.q q1).far4 (c := w.heap.size) (by omega) (.slice A1 n c1) (.int .i64 room) (.int .i64 fuse) (.bool false))
  have Q1 := Lib.hid ((((((Q.refl w).alloc _).alloc _).trans q1)).set4 (b := w.heap.size) (Nat.le_refl _) (.slice A1 n c1) (.int .i64 room) (.int .i64 fuse) (.bool false))
  obtain ⟨⟨e0, e1, e2, e3⟩, f0, f1, f2, f3⟩ := (B0.1.q q1).get4
  clear B0 q1 ho
  go_wp2_with fail
  refine (open_any nm A1 n c1 room fuse false l _ HO.out.files HN.out).mono ?_
  rintro e w2 ⟨rfl, q2⟩
  rw [HOP.out]
  have HO2 := Lib.hid (HO.out.q q2)
  have Q2 := Lib.hid (Q1.out.trans q2)
  have z0 : w.heap.size < w2.heap.size := (D1.out.q q2).lt
  have z1 : w.heap.size + 1 < w2.heap.size := (R1.out.q q2).lt
  have z2 : w.heap.size ≠ w2.heap.size := by omega
  have z3 : w.heap.size + 1 ≠ w2.heap.size := by omega
  have D2 := Lib.hid (D1.out.q q2)
  have R2 := Lib.hid (R1.out.q q2)
  obtain ⟨⟨d0, d1, d2, d3⟩, g0, g1, g2, g3⟩ := (D1.out.q q2).get4
  obtain ⟨⟨s0, s1, s2, s3⟩, h0, h1, h2, h3⟩ := (R1.out.q q2).get4
  clear q2 e0 e1 e2 e3 f0 f1 f2 f3
  go_wp2_with fail
  refine (named_any nm _).mono ?_
  rintro e w' ⟨rfl, rfl⟩
  rw [HNM.out]
  go_wp2_with fail
  have F2 := Bx.new w2 [.string fa, .string fb, .string fc] 52
  refine (size_any ⟨fa, fb, fc⟩ _ (by unfold maxLen; show fb.size + fc.size ≤ _; omega)).mono ?_
  rintro e w3 ⟨rfl, q3⟩
  simp only
  have HO3 := Lib.hid ((HO2.out.alloc _).q q3)
  have Q3 := Lib.hid ((Q2.out.alloc _).trans q3)
  have D3 := Lib.hid ((D2.out.alloc _).q q3)
  have R3 := Lib.hid ((R2.out.alloc _).q q3)
  have F3 := Lib.hid (F2.q q3)
  have y0 : w2.heap.size < w3.heap.size := F3.out.lt
  clear d0 d1 d2 d3 g0 g1 g2 g3 s0 s1 s2 s3 h0 h1 h2 h3 F2 q3
  obtain ⟨⟨d0, d1, d2, d3⟩, g0, g1, g2, g3⟩ := D3.out.get4
  obtain ⟨⟨s0, s1, s2, s3⟩, h0, h1, h2, h3⟩ := R3.out.get4
  obtain ⟨⟨t0, t1, t2⟩, u0, u1, u2⟩ := F3.out.get3
  go_wp2_with fail
  refine (set_mid (w.heap.size + 2) A1 n c1 k ⟨fa, fb, fc ++ s⟩ l _ (Own.setNew HO2.out HO3.out (p := ⟨w2.heap.size, 2, none⟩) (Nat.le_refl _) _) hkn).mono ?_
  rintro e w4 ⟨rfl, ho4, b4⟩
  have HO4 := Lib.hid ho4
  have Q4 := Lib.hid (show Q w w4 from (Q3.out.setCell (p := ⟨w2.heap.size, 2, none⟩) (by show w.heap.size ≤ w2.heap.size; omega) _).below.trans (b4.mono (by omega)))
  have D4 := (D3.out.far (p := ⟨w2.heap.size, 2, none⟩) (by show w2.heap.size ≠ w.heap.size; omega) _).below b4 (by omega)
  have R4 := (R3.out.far (p := ⟨w2.heap.size, 2, none⟩) (by show w2.heap.size ≠ w.heap.size + 1; omega) _).below b4 (by omega)
  clear ho4 b4 d0 d1 d2 d3 g0 g1 g2 g3 s0 s1 s2 s3 h0 h1 h2 h3 t0 t1 t2 u0 u1 u2
  obtain ⟨⟨d0, d1, d2, d3⟩, g0, g1, g2, g3⟩ := D4.get4
  obtain ⟨⟨s0, s1, s2, s3⟩, h0, h1, h2, h3⟩ := R4.get4
  clear D4 R4
  go_wp2
  refine bodyPost_ret (v := .tuple #[dkv A1 n c1 (room - (s).size) (fuse) false, .int .i64 0]) (by simp [results, Try.results30, go_sem, s0, s1, s2, s3]) rfl ⟨A1, n, c1, rfl, ?_, ?_⟩
  · exact (((HO4.out.setCell (p := ⟨w.heap.size, 0, none⟩) (by simp) _).setCell (p := ⟨w.heap.size, 1, none⟩) (by simp) _).set4 (b := w.heap.size + 1) (by omega) _ _ _ _).lower (by omega)
  · exact ((Q4.out.setCell (p := ⟨w.heap.size, 0, none⟩) (Nat.le_refl _) _).setCell (p := ⟨w.heap.size, 1, none⟩) (Nat.le_refl _) _).set4 (b := w.heap.size + 1) (by omega) _ _ _ _

set_option maxHeartbeats 1000000 in
set_option maxRecDepth 100000 in
theorem append_done_lt_fits (nm s : ByteArray) (A : Option Addr) (n c : Nat) (room fuse : Int) (l : List Fil) (w : World) (hd : Dsk w A n c l) (f : Fil) (k : Nat) (hop : opn nm l = (f, k)) (hk : k ≤ n) (hf : f.sf.size + f.wt.size ≤ 2305843009213693952) (hs : s.size ≤ 2305843009213693952) (hn : nmOk nm = true) (hkn : k < n) (hr : (s.size : Int) ≤ room) (hr2 : room ≤ 9223372036854775807) (hb : f.sf.size + f.wt.size + s.size ≤ 65536) (hz : (s.size : Int) ≤ fuse) (hz2 : fuse ≤ 9223372036854775807) :
    Calls Try.prog 30 #[dkv A n c room fuse false, .string nm, .string s] w fun e w' => RetDE w ⟨l.set k ⟨f.nm, f.sf, f.wt ++ s⟩, room - (s).size, fuse - s.size, false⟩ 0 e w' := by
  have k1 : ((k : Int) == (n : Int)) = false := by simp; omega
  have k2 : (k == n) = false := by simp; omega
  have HNM := Lib.hid hn
  clear hn
  have HD := Lib.hid hd
  have HN := Lib.hid hd.max
  have hlen := Lib.hid hd.len
  have hnm := hd.max
  unfold maxLen at hnm
  have HOP := Lib.hid hop
  clear hd hop
  obtain ⟨fa, fb, fc⟩ := f
  simp only at hf hb
  show Calls _ _ _ _ fun e w' => RetDE w ⟨l.set k ⟨fa, fb, fc ++ s⟩, room - (s).size, fuse - s.size, false⟩ 0 e w'
  go_enter Try.func30, Try.ntmps30
  go_wp2_with fail
  have B0 := two_new w (.slice A n c) (.int .i64 room) (.int .i64 fuse) (.bool false) (.slice none 0 0) (.int .i64 0) (.int .i64 0) (.bool false) 24
  refine (own_any A n c room fuse false l _ (HD.out.q (((Q.refl _).alloc _).alloc _))).mono ?_
  rintro e w1 ⟨A1, c1, rfl, ho, q1⟩
  rw [size_two] at ho
  have HO := Lib.hid (ho.set4 (b := w.heap.size) (by omega) (.slice A1 n c1) (.int .i64 room) (.int .i64 fuse) (.bool false))
  have D1 := Lib.hid ((B0.1.q q1).put4 (.slice A1 n c1) (.int .i64 room) (.int .i64 fuse) (.bool false))
  have R1 := Lib.hid ((B0.2.q q1).far4 (c := w.heap.size) (by omega) (.slice A1 n c1) (.int .i64 room) (.int .i64 fuse) (.bool false))
  have Q1 := Lib.hid ((((((Q.refl w).alloc _).alloc _).trans q1)).set4 (b := w.heap.size) (Nat.le_refl _) (.slice A1 n c1) (.int .i64 room) (.int .i64 fuse) (.bool false))
  obtain ⟨⟨e0, e1, e2, e3⟩, f0, f1, f2, f3⟩ := (B0.1.q q1).get4
  clear B0 q1 ho
  go_wp2_with fail
  refine (open_any nm A1 n c1 room fuse false l _ HO.out.files HN.out).mono ?_
  rintro e w2 ⟨rfl, q2⟩
  rw [HOP.out]
  have HO2 := Lib.hid (HO.out.q q2)
  have Q2 := Lib.hid (Q1.out.trans q2)
  have z0 : w.heap.size < w2.heap.size := (D1.out.q q2).lt
  have z1 : w.heap.size + 1 < w2.heap.size := (R1.out.q q2).lt
  have z2 : w.heap.size ≠ w2.heap.size := by omega
  have z3 : w.heap.size + 1 ≠ w2.heap.size := by omega
  have D2 := Lib.hid (D1.out.q q2)
  have R2 := Lib.hid (R1.out.q q2)
  obtain ⟨⟨d0, d1, d2, d3⟩, g0, g1, g2, g3⟩ := (D1.out.q q2).get4
  obtain ⟨⟨s0, s1, s2, s3⟩, h0, h1, h2, h3⟩ := (R1.out.q q2).get4
  clear q2 e0 e1 e2 e3 f0 f1 f2 f3
  go_wp2_with fail
  refine (named_any nm _).mono ?_
  rintro e w' ⟨rfl, rfl⟩
  rw [HNM.out]
  go_wp2_with fail
  have F2 := Bx.new w2 [.string fa, .string fb, .string fc] 52
  refine (size_any ⟨fa, fb, fc⟩ _ (by unfold maxLen; show fb.size + fc.size ≤ _; omega)).mono ?_
  rintro e w3 ⟨rfl, q3⟩
  simp only
  have HO3 := Lib.hid ((HO2.out.alloc _).q q3)
  have Q3 := Lib.hid ((Q2.out.alloc _).trans q3)
  have D3 := Lib.hid ((D2.out.alloc _).q q3)
  have R3 := Lib.hid ((R2.out.alloc _).q q3)
  have F3 := Lib.hid (F2.q q3)
  have y0 : w2.heap.size < w3.heap.size := F3.out.lt
  clear d0 d1 d2 d3 g0 g1 g2 g3 s0 s1 s2 s3 h0 h1 h2 h3 F2 q3
  obtain ⟨⟨d0, d1, d2, d3⟩, g0, g1, g2, g3⟩ := D3.out.get4
  obtain ⟨⟨s0, s1, s2, s3⟩, h0, h1, h2, h3⟩ := R3.out.get4
  obtain ⟨⟨t0, t1, t2⟩, u0, u1, u2⟩ := F3.out.get3
  go_wp2_with fail
  refine (set_mid (w.heap.size + 2) A1 n c1 k ⟨fa, fb, fc ++ s⟩ l _ (Own.setNew HO2.out HO3.out (p := ⟨w2.heap.size, 2, none⟩) (Nat.le_refl _) _) hkn).mono ?_
  rintro e w4 ⟨rfl, ho4, b4⟩
  have HO4 := Lib.hid ho4
  have Q4 := Lib.hid (show Q w w4 from (Q3.out.setCell (p := ⟨w2.heap.size, 2, none⟩) (by show w.heap.size ≤ w2.heap.size; omega) _).below.trans (b4.mono (by omega)))
  have D4 := (D3.out.far (p := ⟨w2.heap.size, 2, none⟩) (by show w2.heap.size ≠ w.heap.size; omega) _).below b4 (by omega)
  have R4 := (R3.out.far (p := ⟨w2.heap.size, 2, none⟩) (by show w2.heap.size ≠ w.heap.size + 1; omega) _).below b4 (by omega)
  clear ho4 b4 d0 d1 d2 d3 g0 g1 g2 g3 s0 s1 s2 s3 h0 h1 h2 h3 t0 t1 t2 u0 u1 u2
  obtain ⟨⟨d0, d1, d2, d3⟩, g0, g1, g2, g3⟩ := D4.get4
  obtain ⟨⟨s0, s1, s2, s3⟩, h0, h1, h2, h3⟩ := R4.get4
  clear D4 R4
  go_wp2
  refine bodyPost_ret (v := .tuple #[dkv A1 n c1 (room - (s).size) (fuse - s.size) false, .int .i64 0]) (by simp [results, Try.results30, go_sem, s0, s1, s2, s3]) rfl ⟨A1, n, c1, rfl, ?_, ?_⟩
  · exact ((((HO4.out.setCell (p := ⟨w.heap.size, 0, none⟩) (by simp) _).setCell (p := ⟨w.heap.size, 1, none⟩) (by simp) _).setCell (p := ⟨w.heap.size, 2, none⟩) (by simp) _).set4 (b := w.heap.size + 1) (by omega) _ _ _ _).lower (by omega)
  · exact (((Q4.out.setCell (p := ⟨w.heap.size, 0, none⟩) (Nat.le_refl _) _).setCell (p := ⟨w.heap.size, 1, none⟩) (Nat.le_refl _) _).setCell (p := ⟨w.heap.size, 2, none⟩) (Nat.le_refl _) _).set4 (b := w.heap.size + 1) (by omega) _ _ _ _

end Go.Proofs.Ytodfdklcioafmaa

/- Contract: Append, cut by the fuse; and all cases together. -/
namespace Go.Proofs.Ytodfdklcioafmaa
set_option maxRecDepth 100000
open Go.RowKit Dkm
set_option linter.unusedVariables false

set_option maxHeartbeats 1000000 in
set_option maxRecDepth 100000 in
theorem append_short_eq (nm s : ByteArray) (A : Option Addr) (n c : Nat) (room fuse : Int) (l : List Fil) (w : World) (hd : Dsk w A n c l) (f : Fil) (k : Nat) (hop : opn nm l = (f, k)) (hk : k ≤ n) (hf : f.sf.size + f.wt.size ≤ 2305843009213693952) (hs : s.size ≤ 2305843009213693952) (hn : nmOk nm = true) (hkn : k = n) (h64 : n < 64) (hr : (s.size : Int) ≤ room) (hr2 : room ≤ 9223372036854775807) (hb : f.sf.size + f.wt.size + s.size ≤ 65536) (q : Nat) (hq : fuse = q) (hz : q < s.size) :
    Calls Try.prog 30 #[dkv A n c room fuse false, .string nm, .string s] w fun e w' => RetDE w ⟨l ++ [⟨f.nm, f.sf, f.wt ++ s.extract 0 q⟩], room - (s.extract 0 q).size, (q : Int) - (s.extract 0 q).size, true⟩ 6 e w' := by
  subst hq
  have hkn2 : n = k := hkn.symm
  subst hkn2
  clear hkn
  have HNM := Lib.hid hn
  clear hn
  have hx1 : (s.extract 0 q).size ≤ q := by simp; omega
  have hx2 : (s.extract 0 q).size ≤ s.size := by simp; omega
  have HD := Lib.hid hd
  have HN := Lib.hid hd.max
  have hlen := Lib.hid hd.len
  have hnm := hd.max
  unfold maxLen at hnm
  have HOP := Lib.hid hop
  clear hd hop
  obtain ⟨fa, fb, fc⟩ := f
  simp only at hf hb
  show Calls _ _ _ _ fun e w' => RetDE w ⟨l ++ [⟨fa, fb, fc ++ s.extract 0 q⟩], room - (s.extract 0 q).size, (q : Int) - (s.extract 0 q).size, true⟩ 6 e w'
  go_enter Try.func30, Try.ntmps30
  go_wp2_with fail
  have B0 := two_new w (.slice A n c) (.int .i64 room) (.int .i64 (q : Int)) (.bool false) (.slice none 0 0) (.int .i64 0) (.int .i64 0) (.bool false) 24
  refine (own_any A n c room (q : Int) false l _ (HD.out.q (((Q.refl _).alloc _).alloc _))).mono ?_
  rintro e w1 ⟨A1, c1, rfl, ho, q1⟩
  rw [size_two] at ho
  have HO := Lib.hid (ho.set4 (b := w.heap.size) (by omega) (.slice A1 n c1) (.int .i64 room) (.int .i64 (q : Int)) (.bool false))
  have D1 := Lib.hid ((B0.1.q q1).put4 (.slice A1 n c1) (.int .i64 room) (.int .i64 (q : Int)) (.bool false))
  have R1 := Lib.hid ((B0.2.q q1).far4 (c := w.heap.size) (by omega) (.slice A1 n c1) (.int .i64 room) (.int .i64 (q : Int)) (.bool false))
  have Q1 := Lib.hid ((((((Q.refl w).alloc _).alloc _).trans q1)).set4 (b := w.heap.size) (Nat.le_refl _) (.slice A1 n c1) (.int .i64 room) (.int .i64 (q : Int)) (.bool false))
  obtain ⟨⟨e0, e1, e2, e3⟩, f0, f1, f2, f3⟩ := (B0.1.q q1).get4
  clear B0 q1 ho
  go_wp2_with fail
  refine (open_any nm A1 n c1 room (q : Int) false l _ HO.out.files HN.out).mono ?_
  rintro e w2 ⟨rfl, q2⟩
  rw [HOP.out]
  have HO2 := Lib.hid (HO.out.q q2)
  have Q2 := Lib.hid (Q1.out.trans q2)
  have z0 : w.heap.size < w2.heap.size := (D1.out.q q2).lt
  have z1 : w.heap.size + 1 < w2.heap.size := (R1.out.q q2).lt
  have z2 : w.heap.size ≠ w2.heap.size := by omega
  have z3 : w.heap.size + 1 ≠ w2.heap.size := by omega
  have D2 := Lib.hid (D1.out.q q2)
  have R2 := Lib.hid (R1.out.q q2)
  obtain ⟨⟨d0, d1, d2, d3⟩, g0, g1, g2, g3⟩ := (D1.out.q q2).get4
  obtain ⟨⟨s0, s1, s2, s3⟩, h0, h1, h2, h3⟩ := (R1.out.q q2).get4
  clear q2 e0 e1 e2 e3 f0 f1 f2 f3
  go_wp2_with fail
  refine (named_any nm _).mono ?_
  rintro e w' ⟨rfl, rfl⟩
  rw [HNM.out]
  go_wp2_with fail
  have F2 := Bx.new w2 [.string fa, .string fb, .string fc] 52
  refine (size_any ⟨fa, fb, fc⟩ _ (by unfold maxLen; show fb.size + fc.size ≤ _; omega)).mono ?_
  rintro e w3 ⟨rfl, q3⟩
  simp only
  have HO3 := Lib.hid ((HO2.out.alloc _).q q3)
  have Q3 := Lib.hid ((Q2.out.alloc _).trans q3)
  have D3 := Lib.hid ((D2.out.alloc _).q q3)
  have R3 := Lib.hid ((R2.out.alloc _).q q3)
  have F3 := Lib.hid (F2.q q3)
  have y0 : w2.heap.size < w3.heap.size := F3.out.lt
  clear d0 d1 d2 d3 g0 g1 g2 g3 s0 s1 s2 s3 h0 h1 h2 h3 F2 q3
  obtain ⟨⟨d0, d1, d2, d3⟩, g0, g1, g2, g3⟩ := D3.out.get4
  obtain ⟨⟨s0, s1, s2, s3⟩, h0, h1, h2, h3⟩ := R3.out.get4
  obtain ⟨⟨t0, t1, t2⟩, u0, u1, u2⟩ := F3.out.get3
  go_wp2_with fail
  refine (set_end (w.heap.size + 2) A1 n c1 ⟨fa, fb, fc ++ s.extract 0 q⟩ l _ (Own.setNew HO2.out (HO3.out.setCell (p := ⟨w.heap.size, 3, none⟩) (by simp) (.bool true)) (p := ⟨w2.heap.size, 2, none⟩) (Nat.le_refl _) _) (by omega) (by show w.heap.size + 2 ≤ ((w3.setCell _ _).setCell _ _).heap.size; simp; omega)).mono ?_
  rintro e w4 ⟨A4, c4, rfl, ho4, b4⟩
  have HO4 := Lib.hid ho4
  have Q4 := Lib.hid (show Q w w4 from ((Q3.out.setCell (p := ⟨w.heap.size, 3, none⟩) (Nat.le_refl _) _).setCell (p := ⟨w2.heap.size, 2, none⟩) (by show w.heap.size ≤ w2.heap.size; omega) _).below.trans (b4.mono (by omega)))
  have D4 := ((D3.out.set (k := 3) (by simp) (.bool true)).far (p := ⟨w2.heap.size, 2, none⟩) (by show w2.heap.size ≠ w.heap.size; omega) _).below b4 (by omega)
  have R4 := ((R3.out.far (p := ⟨w.heap.size, 3, none⟩) (by show w.heap.size ≠ w.heap.size + 1; omega) _).far (p := ⟨w2.heap.size, 2, none⟩) (by show w2.heap.size ≠ w.heap.size + 1; omega) _).below b4 (by omega)
  clear ho4 b4 d0 d1 d2 d3 g0 g1 g2 g3 s0 s1 s2 s3 h0 h1 h2 h3 t0 t1 t2 u0 u1 u2
  obtain ⟨⟨d0, d1, d2, d3⟩, g0, g1, g2, g3⟩ := Bx.get4 (x := .slice A1 n c1) (y := .int .i64 room) (z := .int .i64 (q : Int)) (u := .bool true) D4
  obtain ⟨⟨s0, s1, s2, s3⟩, h0, h1, h2, h3⟩ := R4.get4
  clear D4 R4
  go_wp2
  refine bodyPost_ret (v := .tuple #[dkv A4 (n + 1) c4 (room - (s.extract 0 q).size) ((q : Int) - (s.extract 0 q).size) true, .int .i64 6]) (by simp [results, Try.results30, go_sem, s0, s1, s2, s3]) rfl ⟨A4, (n + 1), c4, rfl, ?_, ?_⟩
  · exact ((((HO4.out.setCell (p := ⟨w.heap.size, 0, none⟩) (by simp) _).setCell (p := ⟨w.heap.size, 1, none⟩) (by simp) _).setCell (p := ⟨w.heap.size, 2, none⟩) (by simp) _).set4 (b := w.heap.size + 1) (by omega) _ _ _ _).lower (by omega)
  · exact (((Q4.out.setCell (p := ⟨w.heap.size, 0, none⟩) (Nat.le_refl _) _).setCell (p := ⟨w.heap.size, 1, none⟩) (Nat.le_refl _) _).setCell (p := ⟨w.heap.size, 2, none⟩) (Nat.le_refl _) _).set4 (b := w.heap.size + 1) (by omega) _ _ _ _

set_option maxHeartbeats 1000000 in
set_option maxRecDepth 100000 in
theorem append_short_lt (nm s : ByteArray) (A : Option Addr) (n c : Nat) (room fuse : Int) (l : List Fil) (w : World) (hd : Dsk w A n c l) (f : Fil) (k : Nat) (hop : opn nm l = (f, k)) (hk : k ≤ n) (hf : f.sf.size + f.wt.size ≤ 2305843009213693952) (hs : s.size ≤ 2305843009213693952) (hn : nmOk nm = true) (hkn : k < n) (hr : (s.size : Int) ≤ room) (hr2 : room ≤ 9223372036854775807) (hb : f.sf.size + f.wt.size + s.size ≤ 65536) (q : Nat) (hq : fuse = q) (hz : q < s.size) :
    Calls Try.prog 30 #[dkv A n c room fuse false, .string nm, .string s] w fun e w' => RetDE w ⟨l.set k ⟨f.nm, f.sf, f.wt ++ s.extract 0 q⟩, room - (s.extract 0 q).size, (q : Int) - (s.extract 0 q).size, true⟩ 6 e w' := by
  subst hq
  have k1 : ((k : Int) == (n : Int)) = false := by simp; omega
  have k2 : (k == n) = false := by simp; omega
  have HNM := Lib.hid hn
  clear hn
  have hx1 : (s.extract 0 q).size ≤ q := by simp; omega
  have hx2 : (s.extract 0 q).size ≤ s.size := by simp; omega
  have HD := Lib.hid hd
  have HN := Lib.hid hd.max
  have hlen := Lib.hid hd.len
  have hnm := hd.max
  unfold maxLen at hnm
  have HOP := Lib.hid hop
  clear hd hop
  obtain ⟨fa, fb, fc⟩ := f
  simp only at hf hb
  show Calls _ _ _ _ fun e w' => RetDE w ⟨l.set k ⟨fa, fb, fc ++ s.extract 0 q⟩, room - (s.extract 0 q).size, (q : Int) - (s.extract 0 q).size, true⟩ 6 e w'
  go_enter Try.func30, Try.ntmps30
  go_wp2_with fail
  have B0 := two_new w (.slice A n c) (.int .i64 room) (.int .i64 (q : Int)) (.bool false) (.slice none 0 0) (.int .i64 0) (.int .i64 0) (.bool false) 24
  refine (own_any A n c room (q : Int) false l _ (HD.out.q (((Q.refl _).alloc _).alloc _))).mono ?_
  rintro e w1 ⟨A1, c1, rfl, ho, q1⟩
  rw [size_two] at ho
  have HO := Lib.hid (ho.set4 (b := w.heap.size) (by omega) (.slice A1 n c1) (.int .i64 room) (.int .i64 (q : Int)) (.bool false))
  have D1 := Lib.hid ((B0.1.q q1).put4 (.slice A1 n c1) (.int .i64 room) (.int .i64 (q : Int)) (.bool false))
  have R1 := Lib.hid ((B0.2.q q1).far4 (c := w.heap.size) (by omega) (.slice A1 n c1) (.int .i64 room) (.int .i64 (q : Int)) (.bool false))
  have Q1 := Lib.hid ((((((Q.refl w).alloc _).alloc _).trans q1)).set4 (b := w.heap.size) (Nat.le_refl _) (.slice A1 n c1) (.int .i64 room) (.int .i64 (q : Int)) (.bool false))
  obtain ⟨⟨e0, e1, e2, e3⟩, f0, f1, f2, f3⟩ := (B0.1.q q1).get4
  clear B0 q1 ho
  go_wp2_with fail
  refine (open_any nm A1 n c1 room (q : Int) false l _ HO.out.files HN.out).mono ?_
  rintro e w2 ⟨rfl, q2⟩
  rw [HOP.out]
  have HO2 := Lib.hid (HO.out.q q2)
  have Q2 := Lib.hid (Q1.out.trans q2)
  have z0 : w.heap.size < w2.heap.size := (D1.out.q q2).lt
  have z1 : w.heap.size + 1 < w2.heap.size := (R1.out.q q2).lt
  have z2 : w.heap.size ≠ w2.heap.size := by omega
  have z3 : w.heap.size + 1 ≠ w2.heap.size := by omega
  have D2 := Lib.hid (D1.out.q q2)
  have R2 := Lib.hid (R1.out.q q2)
  obtain ⟨⟨d0, d1, d2, d3⟩, g0, g1, g2, g3⟩ := (D1.out.q q2).get4
  obtain ⟨⟨s0, s1, s2, s3⟩, h0, h1, h2, h3⟩ := (R1.out.q q2).get4
  clear q2 e0 e1 e2 e3 f0 f1 f2 f3
  go_wp2_with fail
  refine (named_any nm _).mono ?_
  rintro e w' ⟨rfl, rfl⟩
  rw [HNM.out]
  go_wp2_with fail
  have F2 := Bx.new w2 [.string fa, .string fb, .string fc] 52
  refine (size_any ⟨fa, fb, fc⟩ _ (by unfold maxLen; show fb.size + fc.size ≤ _; omega)).mono ?_
  rintro e w3 ⟨rfl, q3⟩
  simp only
  have HO3 := Lib.hid ((HO2.out.alloc _).q q3)
  have Q3 := Lib.hid ((Q2.out.alloc _).trans q3)
  have D3 := Lib.hid ((D2.out.alloc _).q q3)
  have R3 := Lib.hid ((R2.out.alloc _).q q3)
  have F3 := Lib.hid (F2.q q3)
  have y0 : w2.heap.size < w3.heap.size := F3.out.lt
  clear d0 d1 d2 d3 g0 g1 g2 g3 s0 s1 s2 s3 h0 h1 h2 h3 F2 q3
  obtain ⟨⟨d0, d1, d2, d3⟩, g0, g1, g2, g3⟩ := D3.out.get4
  obtain ⟨⟨s0, s1, s2, s3⟩, h0, h1, h2, h3⟩ := R3.out.get4
  obtain ⟨⟨t0, t1, t2⟩, u0, u1, u2⟩ := F3.out.get3
  go_wp2_with fail
  refine (set_mid (w.heap.size + 2) A1 n c1 k ⟨fa, fb, fc ++ s.extract 0 q⟩ l _ (Own.setNew HO2.out (HO3.out.setCell (p := ⟨w.heap.size, 3, none⟩) (by simp) (.bool true)) (p := ⟨w2.heap.size, 2, none⟩) (Nat.le_refl _) _) hkn).mono ?_
  rintro e w4 ⟨rfl, ho4, b4⟩
  have HO4 := Lib.hid ho4
  have Q4 := Lib.hid (show Q w w4 from ((Q3.out.setCell (p := ⟨w.heap.size, 3, none⟩) (Nat.le_refl _) _).setCell (p := ⟨w2.heap.size, 2, none⟩) (by show w.heap.size ≤ w2.heap.size; omega) _).below.trans (b4.mono (by omega)))
  have D4 := ((D3.out.set (k := 3) (by simp) (.bool true)).far (p := ⟨w2.heap.size, 2, none⟩) (by show w2.heap.size ≠ w.heap.size; omega) _).below b4 (by omega)
  have R4 := ((R3.out.far (p := ⟨w.heap.size, 3, none⟩) (by show w.heap.size ≠ w.heap.size + 1; omega) _).far (p := ⟨w2.heap.size, 2, none⟩) (by show w2.heap.size ≠ w.heap.size + 1; omega) _).below b4 (by omega)
  clear ho4 b4 d0 d1 d2 d3 g0 g1 g2 g3 s0 s1 s2 s3 h0 h1 h2 h3 t0 t1 t2 u0 u1 u2
  obtain ⟨⟨d0, d1, d2, d3⟩, g0, g1, g2, g3⟩ := Bx.get4 (x := .slice A1 n c1) (y := .int .i64 room) (z := .int .i64 (q : Int)) (u := .bool true) D4
  obtain ⟨⟨s0, s1, s2, s3⟩, h0, h1, h2, h3⟩ := R4.get4
  clear D4 R4
  go_wp2
  refine bodyPost_ret (v := .tuple #[dkv A1 n c1 (room - (s.extract 0 q).size) ((q : Int) - (s.extract 0 q).size) true, .int .i64 6]) (by simp [results, Try.results30, go_sem, s0, s1, s2, s3]) rfl ⟨A1, n, c1, rfl, ?_, ?_⟩
  · exact ((((HO4.out.setCell (p := ⟨w.heap.size, 0, none⟩) (by simp) _).setCell (p := ⟨w.heap.size, 1, none⟩) (by simp) _).setCell (p := ⟨w.heap.size, 2, none⟩) (by simp) _).set4 (b := w.heap.size + 1) (by omega) _ _ _ _).lower (by omega)
  · exact (((Q4.out.setCell (p := ⟨w.heap.size, 0, none⟩) (Nat.le_refl _) _).setCell (p := ⟨w.heap.size, 1, none⟩) (Nat.le_refl _) _).setCell (p := ⟨w.heap.size, 2, none⟩) (Nat.le_refl _) _).set4 (b := w.heap.size + 1) (by omega) _ _ _ _

end Go.Proofs.Ytodfdklcioafmaa

/- Contract: Append, all cases together. -/
namespace Go.Proofs.Ytodfdklcioafmaa
set_option maxRecDepth 100000
open Go.RowKit Dkm
set_option linter.unusedVariables false

theorem append_any (nm s : ByteArray) (A : Option Addr) (n c : Nat) (d : Dk) (w : World) (hd : Dsk w A n c d.fs) (hf : ∀ f ∈ d.fs, f.sf.size + f.wt.size ≤ 2305843009213693952) (hs : s.size ≤ 2305843009213693952)
    (hr2 : d.room ≤ 9223372036854775807) (hfu : d.fuse ≤ 9223372036854775807) :
    Calls Try.prog 30 #[dkv A n c d.room d.fuse d.off, .string nm, .string s] w fun e w' => RetDE w (appd d nm s).1 (appd d nm s).2 e w' := by
  obtain ⟨l, room, fuse, off⟩ := d
  simp only at hd hf hr2 hfu ⊢
  have hlen := hd.len
  rcases hop : opn nm l with ⟨f, k⟩
  have hk : k ≤ n := by have := opn_le nm l; rw [hop] at this; simp only at this; omega
  have hff : f.sf.size + f.wt.size ≤ 2305843009213693952 := by
    rcases plc_cases nm l with ⟨_, h⟩ | ⟨j, hj, _, hn, hfi⟩
    · rw [opn_none h] at hop
      injection hop with h1 h2
      rw [← h1]; show (⟨#[]⟩ : ByteArray).size + (⟨#[]⟩ : ByteArray).size ≤ _; decide
    · rw [opn_at hj hn hfi] at hop
      injection hop with h1 h2
      rw [← h1]; exact hf _ (List.getElem_mem hj)
  cases off with
  | true =>
    rw [show appd ⟨l, room, fuse, true⟩ nm s = (⟨l, room, fuse, true⟩, 6) from rfl]
    exact append_off nm s A n c room fuse l w hd f k hop hk hff hs
  | false =>
    by_cases hn : nmOk nm = true
    · by_cases hful : (k = l.length ∧ 64 ≤ l.length) ∨ room < s.size
      · rw [show appd ⟨l, room, fuse, false⟩ nm s = (⟨l, room, fuse, false⟩, 5) by unfold appd; simp only [hn, hop]; rw [if_neg (by simp), if_neg (by simp), if_pos hful]]
        by_cases h1 : k = n
        · by_cases h2 : 64 ≤ n
          · exact append_full1 nm s A n c room fuse l w hd f k hop hk hff hs hn h1 h2
          · exact append_full2_eq nm s A n c room fuse l w hd f k hop hk hff hs hn h1 (by omega) (by omega)
        · exact append_full2_lt nm s A n c room fuse l w hd f k hop hk hff hs hn (by omega) (by omega)
      · by_cases hb : 65536 < f.sf.size + f.wt.size + s.size
        · rw [show appd ⟨l, room, fuse, false⟩ nm s = (⟨l, room, fuse, false⟩, 4) by unfold appd; simp only [hn, hop]; rw [if_neg (by simp), if_neg (by simp), if_neg hful, if_pos hb]]
          by_cases h1 : k = n
          · exact append_big_eq nm s A n c room fuse l w hd f k hop hk hff hs hn h1 (by omega) (by omega) hb
          · exact append_big_lt nm s A n c room fuse l w hd f k hop hk hff hs hn (by omega) (by omega) hb
        · have e : appd ⟨l, room, fuse, false⟩ nm s = (⟨put l k ⟨f.nm, f.sf, f.wt ++ cut fuse s⟩, room - (cut fuse s).size, if 0 ≤ fuse then fuse - (cut fuse s).size else fuse, short fuse s⟩, if short fuse s then 6 else 0) := by
            unfold appd; simp only [hn, hop]; rw [if_neg (by simp), if_neg (by simp), if_neg hful, if_neg hb]
          rw [e]; clear e
          by_cases hsh : 0 ≤ fuse ∧ fuse < s.size
          · have e1 : short fuse s = true := by unfold short; simpa using hsh
            obtain ⟨q, rfl⟩ : ∃ q : Nat, fuse = q := ⟨fuse.toNat, by omega⟩
            have e2 : cut (q : Int) s = s.extract 0 q := by unfold cut; rw [e1]; simp
            rw [e1, e2, if_pos (by omega), if_pos rfl]
            by_cases h1 : k = n
            · rw [show put l k ⟨f.nm, f.sf, f.wt ++ s.extract 0 q⟩ = l ++ [⟨f.nm, f.sf, f.wt ++ s.extract 0 q⟩] by unfold put; rw [if_pos (by omega)]]
              exact append_short_eq nm s A n c room q l w hd f k hop hk hff hs hn h1 (by omega) (by omega) hr2 (by omega) q rfl (by omega)
            · rw [show put l k ⟨f.nm, f.sf, f.wt ++ s.extract 0 q⟩ = l.set k ⟨f.nm, f.sf, f.wt ++ s.extract 0 q⟩ by unfold put; rw [if_neg (by omega)]]
              exact append_short_lt nm s A n c room q l w hd f k hop hk hff hs hn (by omega) (by omega) hr2 (by omega) q rfl (by omega)
          · have e1 : short fuse s = false := by unfold short; simpa using hsh
            have e2 : cut fuse s = s := by unfold cut; rw [e1]; rfl
            have e3 : (if false = true then (6 : Int) else 0) = 0 := rfl
            rw [e1, e2, e3]
            by_cases h0 : 0 ≤ fuse
            · rw [if_pos h0]
              by_cases h1 : k = n
              · rw [show put l k ⟨f.nm, f.sf, f.wt ++ s⟩ = l ++ [⟨f.nm, f.sf, f.wt ++ s⟩] by unfold put; rw [if_pos (by omega)]]
                exact append_done_eq_fits nm s A n c room fuse l w hd f k hop hk hff hs hn h1 (by omega) (by omega) hr2 (by omega) (by omega) hfu
              · rw [show put l k ⟨f.nm, f.sf, f.wt ++ s⟩ = l.set k ⟨f.nm, f.sf, f.wt ++ s⟩ by unfold put; rw [if_neg (by omega)]]
                exact append_done_lt_fits nm s A n c room fuse l w hd f k hop hk hff hs hn (by omega) (by omega) hr2 (by omega) (by omega) hfu
            · rw [if_neg h0]
              by_cases h1 : k = n
              · rw [show put l k ⟨f.nm, f.sf, f.wt ++ s⟩ = l ++ [⟨f.nm, f.sf, f.wt ++ s⟩] by unfold put; rw [if_pos (by omega)]]
                exact append_done_eq_neg nm s A n c room fuse l w hd f k hop hk hff hs hn h1 (by omega) (by omega) hr2 (by omega) (by omega)
              · rw [show put l k ⟨f.nm, f.sf, f.wt ++ s⟩ = l.set k ⟨f.nm, f.sf, f.wt ++ s⟩ by unfold put; rw [if_neg (by omega)]]
                exact append_done_lt_neg nm s A n c room fuse l w hd f k hop hk hff hs hn (by omega) (by omega) hr2 (by omega) (by omega)
    · have hn' : nmOk nm = false := by simpa using hn
      rw [show appd ⟨l, room, fuse, false⟩ nm s = (⟨l, room, fuse, false⟩, 1) by unfold appd; rw [if_neg (by simp), if_pos hn']]
      exact append_arg nm s A n c room fuse l w hd f k hop hk hff hs hn'
end Go.Proofs.Ytodfdklcioafmaa

/- The document's example of chapter 3. -/
namespace Go.Proofs.Ytodfdklcioafmaa
set_option maxRecDepth 100000
open Go.RowKit Dkm
set_option linter.unusedVariables false

theorem dsk_nil (w : World) : Dsk w none 0 0 [] := ⟨Holds.none_ _ _ _ _, fun _ => ⟨rfl, rfl⟩, Nat.le_refl _, Nat.zero_le _, by omega⟩
theorem ex1 : appd ⟨[], 100, -1, false⟩ ⟨#[102]⟩ ⟨#[97, 98]⟩ = (⟨[⟨⟨#[102]⟩, ⟨#[]⟩, ⟨#[97, 98]⟩⟩], 98, -1, false⟩, 0) := by rfl
theorem ex2 : syn ⟨[⟨⟨#[102]⟩, ⟨#[]⟩, ⟨#[97, 98]⟩⟩], 98, -1, false⟩ ⟨#[102]⟩ = (⟨[⟨⟨#[102]⟩, ⟨#[97, 98]⟩, ⟨#[]⟩⟩], 98, -1, false⟩, 0) := by rfl
theorem ex3 : appd ⟨[⟨⟨#[102]⟩, ⟨#[97, 98]⟩, ⟨#[]⟩⟩], 98, -1, false⟩ ⟨#[102]⟩ ⟨#[99, 100]⟩ = (⟨[⟨⟨#[102]⟩, ⟨#[97, 98]⟩, ⟨#[99, 100]⟩⟩], 96, -1, false⟩, 0) := by rfl
theorem ex4 : crs ⟨[⟨⟨#[102]⟩, ⟨#[97, 98]⟩, ⟨#[99, 100]⟩⟩], 96, -1, false⟩ [1] = ⟨[⟨⟨#[102]⟩, ⟨#[97, 98, 99]⟩, ⟨#[]⟩⟩], 97, -1, false⟩ := by
  simp [crs, crl, croom, crf, kp, wrap64]
  exact ⟨by decide, by decide⟩
theorem ex5 : redd ⟨#[102]⟩ [⟨⟨#[102]⟩, ⟨#[97, 98, 99]⟩, ⟨#[]⟩⟩] = (⟨#[97, 98, 99]⟩, 0) := by rfl

theorem Own.few {w : World} {base : Nat} {A : Option Addr} {n c : Nat} {l : List Fil} (h : Own w base A n c l) (hl : l.length ≤ 1000) : Dsk w A n c l := h.dsk (by have := h.len; omega)

/-- a disk in a variable's box, in a world W. -/
structure DV (W : World) (B : Nat) (A : Option Addr) (n c : Nat) (d : Dk) : Prop where
  box : Bx W B [.slice A n c, .int .i64 d.room, .int .i64 d.fuse, .bool d.off]
  dsk : Dsk W A n c d.fs
theorem DV.q {W W' : World} {B : Nat} {A : Option Addr} {n c : Nat} {d : Dk} (h : DV W B A n c d) (hq : Q W W') : DV W' B A n c d := ⟨h.box.q hq, h.dsk.q hq⟩
/-- a new variable. -/
theorem DV.new {W : World} {A : Option Addr} {n c : Nat} {d : Dk} (h : Dsk W A n c d.fs) : DV (W.alloc (.cells #[.slice A n c, .int .i64 d.room, .int .i64 d.fuse, .bool d.off] 24)) W.heap.size A n c d :=
  ⟨Bx.new W [.slice A n c, .int .i64 d.room, .int .i64 d.fuse, .bool d.off] 24, h.q ((Q.refl _).alloc _)⟩
/-- what a call returned is stored into the variable. -/
theorem DV.put {W W' : World} {B : Nat} {A A' : Option Addr} {n c n' c' : Nat} {d d' : Dk} (h : DV W B A n c d) (hq : Q W W') (ho : Own W' W.heap.size A' n' c' d'.fs) (hn : n' * 48 ≤ 140737488355328) :
    DV ((((W'.setCell ⟨B, 0, none⟩ (.slice A' n' c')).setCell ⟨B, 1, none⟩ (.int .i64 d'.room)).setCell ⟨B, 2, none⟩ (.int .i64 d'.fuse)).setCell ⟨B, 3, none⟩ (.bool d'.off)) B A' n' c' d' :=
  ⟨(h.box.q hq).put4 _ _ _ _, (ho.set4 h.box.lt _ _ _ _).dsk hn⟩
theorem DV.get {W : World} {B : Nat} {A : Option Addr} {n c : Nat} {d : Dk} (h : DV W B A n c d) : (W.cell? ⟨B, 0, none⟩ = some (.slice A n c) ∧ W.cell? ⟨B, 1, none⟩ = some (.int .i64 d.room) ∧ W.cell? ⟨B, 2, none⟩ = some (.int .i64 d.fuse) ∧ W.cell? ⟨B, 3, none⟩ = some (.bool d.off)) ∧
    W.frozen? ⟨B, 0, none⟩ = false ∧ W.frozen? ⟨B, 1, none⟩ = false ∧ W.frozen? ⟨B, 2, none⟩ = false ∧ W.frozen? ⟨B, 3, none⟩ = false := h.box.get4

theorem ints_lit1 (w : World) (x : Int) : Ints (w.alloc (.cells #[.int .i64 x] 3)) (some ⟨w.heap.size, 0, none⟩) 1 [x] := by
  refine ⟨rfl, fun j u hj => ?_⟩
  have hj0 : j = 0 := by
    have := (List.getElem?_eq_some_iff.1 hj).1; simp at this; exact this
  subst hj0
  simp only [List.map_cons, List.map_nil, List.getElem?_cons_zero, Option.some.injEq] at hj
  subst hj
  exact ⟨⟨w.heap.size, 0, none⟩, rfl, by simp, by simp [Addr.add]⟩

end Go.Proofs.Ytodfdklcioafmaa

/- Contracts: the law's 'does': one act. -/
namespace Go.Proofs.Ytodfdklcioafmaa
set_option maxRecDepth 100000
open Go.RowKit Dkm
set_option linter.unusedVariables false

namespace Dkm
/-- what one act makes of a disk. -/
def doesM (d : Dk) (kind num : Int) (nm s : ByteArray) : Dk × Int :=
  if kind = 1 then appd d nm s else if kind = 2 then syn d nm else if kind = 3 then ren d nm s else if kind = 4 then del d nm
  else if kind = 5 then (crs d (List.replicate d.fs.length num), 0) else if kind = 6 then ({ d with fuse := max num (-1) }, 0) else (d, 0)
theorem lss_len (d : Dk) (k : Nat) : (lss d k).fs.length ≤ d.fs.length := by unfold lss; simp [List.length_eraseIdx]; split <;> omega
theorem pow_fs (d : Dk) : (pow d).1.fs = d.fs := by unfold pow; split; rfl; split <;> rfl
theorem del_len (d : Dk) (nm : ByteArray) : (del d nm).1.fs.length ≤ d.fs.length := by
  unfold del
  split; exact Nat.le_refl _
  split; exact Nat.le_refl _
  split
  · rw [pow_fs]; exact Nat.le_refl _
  · exact Nat.le_trans (lss_len _ _) (by rw [pow_fs]; exact Nat.le_refl _)
theorem nmd_len (d : Dk) (k : Nat) (to : ByteArray) : (nmd d k to).fs.length = d.fs.length := by unfold nmd; simp
theorem ren_len (d : Dk) (fr to : ByteArray) : (ren d fr to).1.fs.length ≤ d.fs.length := by
  unfold ren
  split; exact Nat.le_refl _
  split; exact Nat.le_refl _
  split; exact Nat.le_refl _
  split; exact Nat.le_refl _
  split
  · rw [pow_fs]; exact Nat.le_refl _
  split
  · exact Nat.le_trans (lss_len _ _) (by rw [nmd_len, pow_fs]; exact Nat.le_refl _)
  · rw [nmd_len, pow_fs]; exact Nat.le_refl _
theorem appd_few (d : Dk) (nm s : ByteArray) : (appd d nm s).1.fs.length ≤ max d.fs.length 64 := by
  have h := appd_len d nm s
  by_cases h1 : d.fs.length < 64
  · omega
  · unfold appd
    split; exact Nat.le_max_left _ _
    split; exact Nat.le_max_left _ _
    split; exact Nat.le_max_left _ _
    split; exact Nat.le_max_left _ _
    rename_i _ _ h3 _
    show (put _ _ _).length ≤ _
    unfold put
    split
    · exact absurd (Or.inl ⟨by assumption, by omega⟩) h3
    · simp only [List.length_set]; exact Nat.le_max_left _ _
theorem does_few (d : Dk) (kind num : Int) (nm s : ByteArray) : (doesM d kind num nm s).1.fs.length ≤ max d.fs.length 64 := by
  unfold doesM
  split; exact appd_few d nm s
  split; rw [syn_len]; exact Nat.le_max_left _ _
  split; exact Nat.le_trans (ren_len _ _ _) (Nat.le_max_left _ _)
  split; exact Nat.le_trans (del_len _ _) (Nat.le_max_left _ _)
  split; rw [crs_len]; exact Nat.le_max_left _ _
  split <;> exact Nat.le_max_left _ _
end Dkm

/-- a disk, and why not. -/
def RetDV (w : World) (A : Option Addr) (d : Dk) (er : Int) (e : Ending) (w' : World) : Prop :=
  ∃ A' n' c', e = .returned (.tuple #[dkv A' n' c' d.room d.fuse d.off, .int .i64 er]) ∧ Dsk w' A' n' c' d.fs ∧ Q w w' ∧ (A' = A ∨ ∀ ad, A' = some ad → w.heap.size ≤ ad.block)
theorem Own.far_ {w : World} {base : Nat} {A : Option Addr} {n c : Nat} {l : List Fil} (h : Own w base A n c l) : ∀ ad, A = some ad → base ≤ ad.block := by
  intro ad e
  rcases h.parts with ⟨rfl, _⟩ | ⟨g, cur, rfl, hb, _⟩
  · cases e
  · injection e with e; subst e; exact hb
theorem Holds.away {w : World} {B k : Nat} {A : Option Addr} {n : Nat} {xs : List Value} (h : Holds w B k A n xs) {b : Nat} (ha : ∀ ad, A = some ad → ad.block ≠ b) (o : Nat) (u : Value) : Holds (w.setCell ⟨b, o, none⟩ u) B k A n xs :=
  ⟨h.1, fun j v hj => by
    obtain ⟨ad, e, hb, hc⟩ := h.2 j v hj
    exact ⟨ad, e, hb, (World.cell?_setCell_other _ _ _ _ (by intro x; have := congrArg Addr.block x; rw [addr_block] at this; exact ha ad e this.symm)).trans hc⟩⟩
theorem Dsk.away {w : World} {A : Option Addr} {n c : Nat} {l : List Fil} (h : Dsk w A n c l) {b : Nat} (ha : ∀ ad, A = some ad → ad.block ≠ b) (o : Nat) (u : Value) : Dsk (w.setCell ⟨b, o, none⟩ u) A n c l :=
  ⟨by have := Holds.away h.files ha o u; rw [show w.heap.size = (w.setCell ⟨b, o, none⟩ u).heap.size by simp [World.setCell]] at this; exact this, h.nil, h.le, h.cap, h.few⟩

/-- integers in a row of the call's own. -/
def OwnI (w : World) (base : Nat) (A : Option Addr) (n c : Nat) (ks : List Int) : Prop := w.ownsRow base 3 1 (.slice A n c) n (ks.map (Value.int .i64))
theorem int_info : (Try.prog.info? 3).map (fun i => (i.zero, i.size, i.bytes)) = some (some (.int .i64 0), 1, 8) := by kernel_rfl
theorem OwnI.ints {w : World} {base : Nat} {A : Option Addr} {n c : Nat} {ks : List Int} (h : OwnI w base A n c ks) : Ints w A n ks := by
  refine ⟨h.1, fun j u hu => ?_⟩
  rcases h.2 with ⟨e, h0⟩ | ⟨g, cap, cur, e, hb, hh, hc, hm, hs, ht⟩
  · have := (List.getElem?_eq_some_iff.1 hu).1
    rw [h.1] at this; omega
  · injection e with e1 e2 e3
    subst e1 e3
    have hj : j < n * 1 := by
      have := (List.getElem?_eq_some_iff.1 hu).1; rw [h.1] at this; exact this
    refine ⟨_, rfl, ?_, ?_⟩
    · rcases Nat.lt_or_ge g w.heap.size with hlt | hge
      · exact hlt
      · rw [Array.getElem?_eq_none hge] at hh; cases hh
    · rw [Addr.add_mid, Nat.zero_add, World.ownsRow.cellAt h j hj]; exact hu
theorem run_appI (w : World) (base : Nat) (A : Option Addr) (n c : Nat) (l : List Int) (h : OwnI w base A n c l) (ad : Addr) (m c2 : Nat) (l2 : List Int) (h2 : Ints w (some ad) m l2)
    (hb : (n + m) * 8 ≤ 140737488355328) (hbase : base ≤ w.heap.size) (ty : TypeId) :
    ∃ A' c' w', (Builtin.append_ #[48, 48] ty #[.slice A n c, .slice (some ad) m c2]).run Try.prog w = .ok (.slice A' (n + m) c') w' ∧ OwnI w' base A' (n + m) c' (l ++ l2) ∧ Below base w w' := by
  obtain ⟨i, hi, hz, hs, hy⟩ := info_parts int_info
  have hmax : n + m ≤ maxLen := by unfold maxLen; omega
  obtain ⟨v', w', hr, ho, hg, hn, hat⟩ := run_append_own_at (P := Try.prog) w base 48 ty 3 i _ 1 8 Try.underlying48 hi hz hs hy rfl (by omega) (.slice A n c) n (l.map (Value.int .i64)) h ad m c2 (l2.map (Value.int .i64)) h2.1
      (fun j u hu => by obtain ⟨a', e, _, hc⟩ := h2.2 j u hu; injection e with e; subst e; exact hc) (by intro u hu; obtain ⟨_, _, rfl⟩ := List.mem_map.1 hu; rfl) hmax hb hbase
  rw [← List.map_append] at ho
  have hbl : Below base w w' := (Below.refl _ _).grown hg hbase (fun k hk => by
    rcases h.2 with ⟨e, _⟩ | ⟨g, cap, cur, e, hb, _⟩
    · rw [e] at hk; cases hk
    · rw [e] at hk; simp only [Value.ownBlock, Option.some.injEq] at hk; omega)
  rcases ho.2 with ⟨e, h0⟩ | ⟨g, cap, cur, e, _⟩
  · have h00 : Value.slice none 0 0 = .slice none (n + m) 0 := by rw [h0]
    rw [h00] at e
    subst e
    exact ⟨none, 0, w', hr, ho, hbl⟩
  · subst e
    exact ⟨_, cap, w', hr, ho, hbl⟩
theorem wpl_appI {w : World} {ops : Array Oper} {rest : List Oper} {o : Oper} {a : Act} {R : Exit → Act → World → Prop} (hgd : o.guard = none) (s x : Operand)
    (ho : o.op = .call { callee := .builtin .append, args := #[s, x], argTypes := #[48, 48] })
    (base : Nat) (A : Option Addr) (n c : Nat) (l : List Int) (hs : a.eval s = .slice A n c) (h : OwnI w base A n c l) (ad : Addr) (m c2 : Nat) (l2 : List Int) (hx : a.eval x = .slice (some ad) m c2) (h2 : Ints w (some ad) m l2)
    (hb : (n + m) * 8 ≤ 140737488355328) (hbase : base ≤ w.heap.size)
    (hk : ∀ A' c' w', OwnI w' base A' (n + m) c' (l ++ l2) → Below base w w' → wpList Try.prog ops R rest (a.put o.dst (.slice A' (n + m) c')) w') : wpList Try.prog ops R (o :: rest) a w := by
  refine wpList_plain hgd fun K hK => ?_
  obtain ⟨A', c', w', hr, h3, h4⟩ := run_appI w base A n c l h ad m c2 l2 h2 hb hbase o.type
  unfold Oper.wp execOp
  simp only [ho, resolve, invoke, builtin, Sem.run_bind, Sem.run_pure, Result.andThen_ok, List.map_toArray, List.map_cons, List.map_nil, hs, hx, hr]
  exact hK _ _ (hk A' c' w' h3 h4)

abbrev actv (kind num : Int) (nm s : ByteArray) : Value := .agg #[.int .i64 kind, .int .i64 num, .string nm, .string s]

/-- the three boxes of 'does'. -/
structure Dz (w : World) (A : Option Addr) (n c : Nat) (d : Dk) (kind num : Int) (nm s : ByteArray) (wr : World) : Prop where
  dk : Bx wr w.heap.size [.slice A n c, .int .i64 d.room, .int .i64 d.fuse, .bool d.off]
  act : Bx wr (w.heap.size + 1) [.int .i64 kind, .int .i64 num, .string nm, .string s]
  res : Bx wr (w.heap.size + 2) [.slice none 0 0, .int .i64 0, .int .i64 0, .bool false]
  dsk : Dsk wr A n c d.fs
  q : Q w wr
theorem Dz.step {w wr w2 : World} {A : Option Addr} {n c : Nat} {d : Dk} {kind num : Int} {nm s : ByteArray} (h : Dz w A n c d kind num nm s wr) (q : Q wr w2) : Dz w A n c d kind num nm s w2 :=
  ⟨h.dk.q q, h.act.q q, h.res.q q, h.dsk.q q, h.q.trans q⟩
theorem Dz.fin {w wr w2 : World} {A : Option Addr} {n c : Nat} {d : Dk} {kind num : Int} {nm s : ByteArray} (h : Dz w A n c d kind num nm s wr) (q : Q wr w2) {A2 : Option Addr} {n2 c2 : Nat} {d2 : Dk} (er : Int) (ho : Own w2 wr.heap.size A2 n2 c2 d2.fs) (hn : n2 * 48 ≤ 140737488355328) (x y z u : Value) :
    RetDV w A d2 er (.returned (.tuple #[dkv A2 n2 c2 d2.room d2.fuse d2.off, .int .i64 er])) ((((w2.setCell ⟨w.heap.size + 2, 0, none⟩ x).setCell ⟨w.heap.size + 2, 1, none⟩ y).setCell ⟨w.heap.size + 2, 2, none⟩ z).setCell ⟨w.heap.size + 2, 3, none⟩ u) :=
  ⟨A2, n2, c2, rfl, (ho.set4 h.res.lt _ _ _ _).dsk hn, (h.q.trans q).set4 (by omega) _ _ _ _, .inr fun ad e => by have h1 := ho.far_ ad e; have h2 := h.q.size; omega⟩
end Go.Proofs.Ytodfdklcioafmaa

/- Contracts: the law's 'does', case by case. -/
namespace Go.Proofs.Ytodfdklcioafmaa
set_option maxRecDepth 100000
open Go.RowKit Dkm
set_option linter.unusedVariables false

end Go.Proofs.Ytodfdklcioafmaa

/- What stays, whatever acts come: sizes, numbers, room; and 'does' whole. -/
namespace Go.Proofs.Ytodfdklcioafmaa
set_option maxRecDepth 100000
open Go.RowKit Dkm
set_option linter.unusedVariables false

namespace Dkm
theorem erase_sum {B : Nat} {l : List Fil} (h : ∀ f ∈ l, f.sf.size + f.wt.size ≤ B) (k : Nat) : ∀ f ∈ l.eraseIdx k, f.sf.size + f.wt.size ≤ B := fun f hf => h f (List.mem_of_mem_eraseIdx hf)
theorem lss_sum {B : Nat} (d : Dk) (k : Nat) (h : ∀ f ∈ d.fs, f.sf.size + f.wt.size ≤ B) : ∀ f ∈ (lss d k).fs, f.sf.size + f.wt.size ≤ B := erase_sum h k
theorem nmd_sum {B : Nat} (d : Dk) (k : Nat) (to : ByteArray) (h : ∀ f ∈ d.fs, f.sf.size + f.wt.size ≤ B) : ∀ f ∈ (nmd d k to).fs, f.sf.size + f.wt.size ≤ B := by
  unfold nmd
  by_cases hk : k < d.fs.length
  · refine set_sum h ?_
    simp only [List.getD_eq_getElem?_getD, List.getElem?_eq_getElem hk, Option.getD_some]
    exact h _ (List.getElem_mem hk)
  · show ∀ f ∈ d.fs.set k _, _
    rw [List.set_eq_of_length_le (by omega)]; exact h
theorem pow_sum {B : Nat} (d : Dk) (h : ∀ f ∈ d.fs, f.sf.size + f.wt.size ≤ B) : ∀ f ∈ (pow d).1.fs, f.sf.size + f.wt.size ≤ B := by rw [pow_fs]; exact h
theorem del_sum {B : Nat} (d : Dk) (nm : ByteArray) (h : ∀ f ∈ d.fs, f.sf.size + f.wt.size ≤ B) : ∀ f ∈ (del d nm).1.fs, f.sf.size + f.wt.size ≤ B := by
  unfold del
  split; exact h
  split; exact h
  split; exact pow_sum d h
  exact lss_sum _ _ (pow_sum d h)
theorem ren_sum {B : Nat} (d : Dk) (fr to : ByteArray) (h : ∀ f ∈ d.fs, f.sf.size + f.wt.size ≤ B) : ∀ f ∈ (ren d fr to).1.fs, f.sf.size + f.wt.size ≤ B := by
  unfold ren
  split; exact h
  split; exact h
  split; exact h
  split; exact h
  split; exact pow_sum d h
  split
  · exact lss_sum _ _ (nmd_sum _ _ _ (pow_sum d h))
  · exact nmd_sum _ _ _ (pow_sum d h)
theorem does_sum {B : Nat} (hB : 65536 ≤ B) (d : Dk) (kind num : Int) (nm s : ByteArray) (h : ∀ f ∈ d.fs, f.sf.size + f.wt.size ≤ B) : ∀ f ∈ (doesM d kind num nm s).1.fs, f.sf.size + f.wt.size ≤ B := by
  unfold doesM
  split; exact appd_sum d nm s hB h
  split; exact syn_sum d nm h
  split; exact ren_sum d nm s h
  split; exact del_sum d nm h
  split; exact crs_sum d _ h
  split <;> exact h

/-- an int. -/
def In64 (x : Int) : Prop := -9223372036854775808 ≤ x ∧ x ≤ 9223372036854775807
theorem appd_rng (d : Dk) (nm s : ByteArray) (h1 : In64 d.room) (h2 : In64 d.fuse) : In64 (appd d nm s).1.room ∧ In64 (appd d nm s).1.fuse := by
  unfold appd
  split; exact ⟨h1, h2⟩
  split; exact ⟨h1, h2⟩
  split; exact ⟨h1, h2⟩
  split; exact ⟨h1, h2⟩
  rename_i _ _ h3 _
  have hc := cut_size d.fuse s
  unfold In64 at *
  have h4 : ¬ d.room < s.size := fun h => h3 (.inr h)
  have h5 : 0 ≤ d.fuse → (cut d.fuse s).size ≤ d.fuse.toNat ∨ ¬ short d.fuse s := by
    intro h0
    by_cases hsh : short d.fuse s
    · left; unfold cut; rw [if_pos hsh, ByteArray.size_extract]; omega
    · exact .inr hsh
  have h6 : 0 ≤ d.fuse → ((cut d.fuse s).size : Int) ≤ d.fuse := by
    intro h0
    rcases h5 h0 with h | h
    · omega
    · unfold cut; rw [if_neg h]
      unfold short at h
      simp only [decide_eq_true_eq] at h
      omega
  simp only
  refine ⟨by omega, ?_⟩
  split
  · have := h6 (by assumption); omega
  · exact h2
theorem pow_rng (d : Dk) (h1 : In64 d.room) (h2 : In64 d.fuse) : In64 (pow d).1.room ∧ In64 (pow d).1.fuse := by
  unfold pow
  split; exact ⟨h1, h2⟩
  split
  · exact ⟨h1, by unfold In64 at *; simp only; omega⟩
  · exact ⟨h1, h2⟩
theorem lss_rng (d : Dk) (k : Nat) (h2 : In64 d.fuse) : In64 (lss d k).room ∧ In64 (lss d k).fuse := ⟨wrap_rng _, h2⟩
theorem del_rng (d : Dk) (nm : ByteArray) (h1 : In64 d.room) (h2 : In64 d.fuse) : In64 (del d nm).1.room ∧ In64 (del d nm).1.fuse := by
  have hp := pow_rng d h1 h2
  unfold del
  split; exact ⟨h1, h2⟩
  split; exact ⟨h1, h2⟩
  split; exact hp
  exact lss_rng _ _ hp.2
theorem ren_rng (d : Dk) (fr to : ByteArray) (h1 : In64 d.room) (h2 : In64 d.fuse) : In64 (ren d fr to).1.room ∧ In64 (ren d fr to).1.fuse := by
  have hp := pow_rng d h1 h2
  unfold ren
  split; exact ⟨h1, h2⟩
  split; exact ⟨h1, h2⟩
  split; exact ⟨h1, h2⟩
  split; exact ⟨h1, h2⟩
  split; exact hp
  split
  · exact lss_rng _ _ hp.2
  · exact hp
theorem syn_rng (d : Dk) (nm : ByteArray) (h1 : In64 d.room) (h2 : In64 d.fuse) : In64 (syn d nm).1.room ∧ In64 (syn d nm).1.fuse := by
  unfold syn
  split; exact ⟨h1, h2⟩
  split <;> exact ⟨h1, h2⟩
theorem croom_in (ks : List Int) (l : List Fil) (room : Int) (h : In64 room) : ∀ k, In64 (croom ks l room k)
  | 0 => h
  | k + 1 => wrap_rng _
theorem does_rng (d : Dk) (kind num : Int) (nm s : ByteArray) (h1 : In64 d.room) (h2 : In64 d.fuse) (h3 : In64 num) : In64 (doesM d kind num nm s).1.room ∧ In64 (doesM d kind num nm s).1.fuse := by
  unfold doesM
  split; exact appd_rng d nm s h1 h2
  split; exact syn_rng d nm h1 h2
  split; exact ren_rng d nm s h1 h2
  split; exact del_rng d nm h1 h2
  split; exact ⟨croom_in _ _ _ h1 _, by unfold In64; simp [crs]⟩
  split
  · exact ⟨h1, by unfold In64 at *; simp only; omega⟩
  · exact ⟨h1, h2⟩

/-- what stays of a disk that began empty. -/
structure Inv (d : Dk) : Prop where
  sum : ∀ f ∈ d.fs, f.sf.size + f.wt.size ≤ 65536
  few : d.fs.length ≤ 64
  room : In64 d.room
  fuse : In64 d.fuse
theorem Inv.does {d : Dk} (h : Inv d) (kind num : Int) (nm s : ByteArray) (h3 : In64 num) : Inv (doesM d kind num nm s).1 :=
  ⟨does_sum (Nat.le_refl _) d kind num nm s h.sum, by have := does_few d kind num nm s; have := h.few; omega, (does_rng d kind num nm s h.room h.fuse h3).1, (does_rng d kind num nm s h.room h.fuse h3).2⟩
theorem Inv.syn {d : Dk} (h : Inv d) (nm : ByteArray) : Inv (syn d nm).1 := ⟨syn_sum d nm h.sum, by rw [syn_len]; exact h.few, (syn_rng d nm h.room h.fuse).1, (syn_rng d nm h.room h.fuse).2⟩
theorem Inv.new {room : Int} (h : In64 room) : Inv ⟨[], room, -1, false⟩ := ⟨by simp, by simp, h, by unfold In64; simp⟩
end Dkm
end Go.Proofs.Ytodfdklcioafmaa

/- What the calls of chapter 4 make of a disk, in plain mathematics. -/
namespace Go.Proofs.Ytodfdklcioafmaa
set_option maxRecDepth 100000
open Dkm
set_option linter.unusedVariables false
namespace Wm

def sealB (r : ByteArray) : ByteArray := ⟨(sld r.data.toList).toArray⟩
theorem sealB_list (r : ByteArray) : (sealB r).data.toList = sld r.data.toList := rfl
theorem sealB_size (r : ByteArray) : (sealB r).size = (sld r.data.toList).length := by show (sld r.data.toList).toArray.size = _; simp
/-- Put behind its checks, the segment not full. -/
def putA (d : Dk) (seg : Int) (rec : ByteArray) : Dk × Int × Int := ((appd d (namB seg) (sealB rec)).1, seg, (appd d (namB seg) (sealB rec)).2)
/-- Put behind its checks. -/
def putB (d : Dk) (seg : Int) (rec : ByteArray) : Dk × Int × Int :=
  if (redd (namB seg) d.fs).1.size < 256 then putA d seg rec
  else if (syn d (namB seg)).2 ≠ 0 then ((syn d (namB seg)).1, seg, (syn d (namB seg)).2)
  else if seg = 1000000 then ((syn d (namB seg)).1, seg, 5)
  else putA (syn d (namB seg)).1 (seg + 1) rec
def putM (d : Dk) (seg : Int) (rec : ByteArray) : Dk × Int × Int :=
  if ¬ segOk seg then (d, seg, 1) else if 2048 < rec.size then (d, seg, 4) else putB d seg rec
def syncM (d : Dk) (seg : Int) : Dk × Int := if (hit (namB seg) d.fs).2 then syn d (namB seg) else (d, 0)

/-- the steps of a cut, up to the rename. -/
def cut1 (d : Dk) : Dk × Int := if (hit freshB d.fs).2 then del d freshB else (d, 0)
def cut2 (d : Dk) (s : ByteArray) : Dk × Int := if (cut1 d).2 = 0 then appd (cut1 d).1 freshB s else cut1 d
def cut3 (d : Dk) (s : ByteArray) : Dk × Int := if (cut2 d s).2 = 0 then syn (cut2 d s).1 freshB else cut2 d s
def cut4 (d : Dk) (seg : Int) (s : ByteArray) : Dk × Int := if (cut3 d s).2 = 0 then ren (cut3 d s).1 freshB (namB seg) else cut3 d s
/-- each segment from seg on is deleted, up to the first one that isn't there. -/
def dels : Nat → Dk → Int → Dk × Int
  | 0, d, _ => (d, 0)
  | n + 1, d, seg => if segOk seg ∧ (hit (namB seg) d.fs).2 then (if (del d (namB seg)).2 = 0 then dels n (del d (namB seg)).1 (seg + 1) else del d (namB seg)) else (d, 0)
def fuelOf (seg : Int) : Nat := (1000001 - seg).toNat
def cutM (d : Dk) (seg : Int) (s : ByteArray) : Dk × Int :=
  if (cut4 d seg s).2 = 0 then dels (fuelOf (seg + 1)) (cut4 d seg s).1 (seg + 1) else cut4 d seg s

/-- what Recover tells: the disk, the records, the segment, the errno. -/
def recF : Nat → Dk → Int → Int → List (List UInt8) → Int → Dk × List (List UInt8) × Int × Int
  | 0, d, _, _, rs, last => (d, rs, last, 0)
  | n + 1, d, from_, seg, rs, last =>
    if ¬ segOk seg then (d, rs, last, 0)
    else if (redd (namB seg) d.fs).2 ≠ 0 then (d, rs, last, 0)
    else if (scn (redd (namB seg) d.fs).1.data.toList).2 = [] then recF n d from_ (seg + 1) (rs ++ (scn (redd (namB seg) d.fs).1.data.toList).1) seg
    else if (cutM d seg ⟨(flat (scn (redd (namB seg) d.fs).1.data.toList).1).toArray⟩).2 ≠ 0 then ((cutM d seg ⟨(flat (scn (redd (namB seg) d.fs).1.data.toList).1).toArray⟩).1, [], from_, (cutM d seg ⟨(flat (scn (redd (namB seg) d.fs).1.data.toList).1).toArray⟩).2)
    else ((cutM d seg ⟨(flat (scn (redd (namB seg) d.fs).1.data.toList).1).toArray⟩).1, rs ++ (scn (redd (namB seg) d.fs).1.data.toList).1, seg, 0)
def recM (d : Dk) (from_ : Int) : Dk × List (List UInt8) × Int × Int :=
  if ¬ segOk from_ then (d, [], from_, 1) else recF (fuelOf from_) d from_ from_ [] from_

/-- Drop's deletions, segment by segment. -/
def drops : List Int → Dk → Dk × Int
  | [], d => (d, 0)
  | k :: ks, d => if (del d (namB k)).2 = 0 then drops ks (del d (namB k)).1 else del d (namB k)

/-! ### Sizes and ranges are kept -/
structure Bnd (B : Nat) (d : Dk) : Prop where
  sum : ∀ f ∈ d.fs, f.sf.size + f.wt.size ≤ B
  few : d.fs.length * 48 ≤ 140737488355328
  room : In64 d.room
  fuse : In64 d.fuse
theorem Bnd.appd {B : Nat} {d : Dk} (h : Bnd B d) (hB : 65536 ≤ B) (nm s : ByteArray) : Bnd B (appd d nm s).1 := ⟨appd_sum d nm s hB h.sum, by have h1 := appd_few d nm s; have h2 := h.few; omega, (appd_rng d nm s h.room h.fuse).1, (appd_rng d nm s h.room h.fuse).2⟩
theorem Bnd.syn {B : Nat} {d : Dk} (h : Bnd B d) (nm : ByteArray) : Bnd B (syn d nm).1 := ⟨syn_sum d nm h.sum, by rw [syn_len]; exact h.few, (syn_rng d nm h.room h.fuse).1, (syn_rng d nm h.room h.fuse).2⟩
theorem Bnd.del {B : Nat} {d : Dk} (h : Bnd B d) (nm : ByteArray) : Bnd B (del d nm).1 := ⟨del_sum d nm h.sum, by have h1 := del_len d nm; have h2 := h.few; omega, (del_rng d nm h.room h.fuse).1, (del_rng d nm h.room h.fuse).2⟩
theorem Bnd.ren {B : Nat} {d : Dk} (h : Bnd B d) (a b : ByteArray) : Bnd B (ren d a b).1 := ⟨ren_sum d a b h.sum, by have h1 := ren_len d a b; have h2 := h.few; omega, (ren_rng d a b h.room h.fuse).1, (ren_rng d a b h.room h.fuse).2⟩
theorem Bnd.cut1 {B : Nat} {d : Dk} (h : Bnd B d) : Bnd B (cut1 d).1 := by unfold Wm.cut1; split; exact h.del _; exact h
theorem Bnd.cut2 {B : Nat} {d : Dk} (h : Bnd B d) (hB : 65536 ≤ B) (s : ByteArray) : Bnd B (cut2 d s).1 := by unfold Wm.cut2; split; exact h.cut1.appd hB _ _; exact h.cut1
theorem Bnd.cut3 {B : Nat} {d : Dk} (h : Bnd B d) (hB : 65536 ≤ B) (s : ByteArray) : Bnd B (cut3 d s).1 := by unfold Wm.cut3; split; exact (h.cut2 hB s).syn _; exact h.cut2 hB s
theorem Bnd.cut4 {B : Nat} {d : Dk} (h : Bnd B d) (hB : 65536 ≤ B) (seg : Int) (s : ByteArray) : Bnd B (cut4 d seg s).1 := by unfold Wm.cut4; split; exact (h.cut3 hB s).ren _ _; exact h.cut3 hB s
theorem Bnd.dels {B : Nat} : ∀ (n : Nat) {d : Dk} (seg : Int), Bnd B d → Bnd B (dels n d seg).1
  | 0, _, _, h => h
  | n + 1, d, seg, h => by
    unfold Wm.dels
    split
    · split
      · exact Bnd.dels n _ (h.del _)
      · exact h.del _
    · exact h
theorem Bnd.cutM {B : Nat} {d : Dk} (h : Bnd B d) (hB : 65536 ≤ B) (seg : Int) (s : ByteArray) : Bnd B (cutM d seg s).1 := by unfold Wm.cutM; split; exact Bnd.dels _ _ (h.cut4 hB seg s); exact h.cut4 hB seg s
theorem Bnd.putA {B : Nat} {d : Dk} (h : Bnd B d) (hB : 65536 ≤ B) (seg : Int) (r : ByteArray) : Bnd B (putA d seg r).1 := h.appd hB _ _
theorem Bnd.putM {B : Nat} {d : Dk} (h : Bnd B d) (hB : 65536 ≤ B) (seg : Int) (r : ByteArray) : Bnd B (putM d seg r).1 := by
  unfold Wm.putM
  split; exact h
  split; exact h
  unfold Wm.putB
  split; exact h.putA hB _ _
  split; exact h.syn _
  split; exact h.syn _
  exact (h.syn _).putA hB _ _
theorem Bnd.syncM {B : Nat} {d : Dk} (h : Bnd B d) (seg : Int) : Bnd B (syncM d seg).1 := by unfold Wm.syncM; split; exact h.syn _; exact h
end Wm
end Go.Proofs.Ytodfdklcioafmaa

/- What comes in as a disk, where its bulk is bounded. -/
namespace Go.Proofs.Ytodfdklcioafmaa
set_option maxRecDepth 100000
open Go.ChangeShapes Go.WideShapes Go.RowKit Dkm
set_option linter.unusedVariables false

theorem files_small {w : World} {A : Option Addr} {n c : Nat} {l : List Fil} (hd : Dsk w A n c l) (hu : RdU w 22 [.slice A n c]) : ∀ f ∈ l, f.sf.size ≤ 1048576 ∧ f.wt.size ≤ 1048576 := by
  intro f hf
  obtain ⟨i, hi, rfl⟩ := List.getElem_of_mem hf
  have hin : i < n := by have := hd.len; omega
  have hic : i < c := Nat.lt_of_lt_of_le hin hd.le
  obtain ⟨ad, rfl, _, c0, c1, c2⟩ := hd.files.load hin hi
  obtain ⟨_, hall⟩ := hu.slice Try.underlying22
  rw [show Try.prog.cellsOf 52 = 3 by kernel_rfl] at hall
  obtain ⟨cs, hc, hr⟩ := hall i hic
  obtain ⟨hl, _, hat⟩ := World.cells?_some hc
  have e1 := hat 1 (by omega)
  have e2 := hat 2 (by omega)
  have c1' : w.cell? ((ad.add (i * 3)).add 1) = some (.string l[i].sf) := c1
  have c2' : w.cell? ((ad.add (i * 3)).add 2) = some (.string l[i].wt) := c2
  rw [c1'] at e1
  rw [c2'] at e2
  have r1 := hr.field Try.underlying52 1 (ty := 9) 1 1 rfl (by kernel_rfl)
  have r2 := hr.field Try.underlying52 2 (ty := 9) 2 1 rfl (by kernel_rfl)
  match cs, hl, e1, e2, r1, r2 with
  | [a, b, d], _, e1, e2, r1, r2 =>
    simp at e1 e2
    subst e1 e2
    exact ⟨r1.string Try.underlying9, r2.string Try.underlying9⟩

/-- a disk as it comes in is within bounds. -/
theorem DkIn.bnd {w : World} {A : Option Addr} {n c : Nat} {d : Dk} (h : DkIn w A n c d) : Wm.Bnd 2305843009213693952 d :=
  ⟨fun f hf => by have h1 := h.fil f hf; unfold FilIn at h1; omega, by have h1 := h.dsk.len; have h2 := h.dsk.few; rw [h1]; exact h2, h.room, h.fuse⟩
theorem DkIn.small {w : World} {A : Option Addr} {n c : Nat} {d : Dk} (h : DkIn w A n c d) (hu : RdU w 24 [.slice A n c, .int .i64 d.room, .int .i64 d.fuse, .bool d.off]) : ∀ f ∈ d.fs, f.sf.size ≤ 1048576 ∧ f.wt.size ≤ 1048576 := by
  have r := hu.field Try.underlying24 0 (ty := 22) 0 1 rfl (by kernel_rfl)
  exact files_small h.dsk r
end Go.Proofs.Ytodfdklcioafmaa

/- Contracts: the document's New, Arm, Same, power, with, less. -/
namespace Go.Proofs.Ytodfdklcioafmaa
set_option maxRecDepth 100000
open Go.RowKit Dkm
set_option linter.unusedVariables false

theorem ref_arm (A : Option Addr) (n c : Nat) (room fuse : Int) (off : Bool) (fuse2 : Int) (w : World) :
    Calls Try.prog 26 #[dkv A n c room fuse off, .int .i64 fuse2] w fun e w' => e = .returned (dkv A n c room (max fuse2 (-1)) off) ∧ Q w w' := by
  by_cases h : fuse2 < 0
  · rw [show max fuse2 (-1) = -1 by omega]
    go_enter Try.func26, Try.ntmps26
    go_wp2
    exact bodyPost_ret (v := dkv A n c room (-1) off) (by simp [results, Try.results26, go_sem]) rfl ⟨rfl, ((Q.refl _).alloc _).alloc _⟩
  · rw [show max fuse2 (-1) = fuse2 by omega]
    go_enter Try.func26, Try.ntmps26
    go_wp2
    exact bodyPost_ret (v := dkv A n c room fuse2 off) (by simp [results, Try.results26, go_sem]) rfl ⟨rfl, ((Q.refl _).alloc _).alloc _⟩

theorem ref_power (A : Option Addr) (n c : Nat) (d : Dk) (w : World) (hfu : d.fuse ≤ 9223372036854775807) :
    Calls Try.prog 65 #[dkv A n c d.room d.fuse d.off] w fun e w' => e = .returned (.tuple #[dkv A n c (pow d).1.room (pow d).1.fuse (pow d).1.off, .bool (pow d).2]) ∧ Q w w' := by
  obtain ⟨l, room, fuse, off⟩ := d
  simp only at hfu ⊢
  rcases Int.lt_trichotomy fuse 0 with h | h | h
  · rw [pow_neg l room fuse off h]
    have b : (fuse == 0) = false := by simp; omega
    go_enter Try.func65, Try.ntmps65
    go_wp2
    exact bodyPost_ret (v := .tuple #[dkv A n c room fuse off, .bool true]) (by simp [results, Try.results65, go_sem]) rfl ⟨rfl, ((Q.refl _).alloc _).alloc _⟩
  · subst h
    rw [pow_zero l room off]
    go_enter Try.func65, Try.ntmps65
    go_wp2
    exact bodyPost_ret (v := .tuple #[dkv A n c room 0 true, .bool false]) (by simp [results, Try.results65, go_sem]) rfl ⟨rfl, ((Q.refl _).alloc _).alloc _⟩
  · rw [pow_pos l room fuse off h]
    have b : (fuse == 0) = false := by simp; omega
    go_enter Try.func65, Try.ntmps65
    go_wp2
    exact bodyPost_ret (v := .tuple #[dkv A n c room (fuse - 1) off, .bool true]) (by simp [results, Try.results65, go_sem]) rfl ⟨rfl, ((Q.refl _).alloc _).alloc _⟩

set_option maxHeartbeats 2000000 in
theorem ref_same_len (A B : Option Addr) (n c m c2 : Nat) (l l2 : List Fil) (room fuse : Int) (off : Bool) (w : World) (h1 : Files w A n l) (h2 : Files w B n l2) (hn : n ≤ maxLen) :
    Calls Try.prog 15 #[dkv A n c room fuse off, dkv B n c2 room fuse off] w fun e w' => e = .returned (.bool (decide (l = l2))) ∧ Q w w' := by
  unfold maxLen at hn
  have H1 := Lib.hid h1
  have H2 := Lib.hid h2
  have L1 := Lib.hid h1.len
  have L2 := Lib.hid h2.len
  clear h1 h2
  have X := Lib.hid (And.intro (Bx.new w [.slice A n c, .int .i64 room, .int .i64 fuse, .bool off] 24) (Bx.new (w.alloc (.cells #[.slice A n c, .int .i64 room, .int .i64 fuse, .bool off] 24)) [.slice B n c2, .int .i64 room, .int .i64 fuse, .bool off] 24))
  rw [World.size_alloc] at X
  go_enter Try.func15, Try.ntmps15
  go_wp2
  have Y := Lib.hid (And.intro (X.out.1.alloc (.cells #[.slice B n c2, .int .i64 room, .int .i64 fuse, .bool off] 24)) (And.intro X.out.2 (((Q.refl w).alloc (.cells #[.slice A n c, .int .i64 room, .int .i64 fuse, .bool off] 24)).alloc (.cells #[.slice B n c2, .int .i64 room, .int .i64 fuse, .bool off] 24))))
  clear X
  generalize ((w.alloc (.cells #[.slice A n c, .int .i64 room, .int .i64 fuse, .bool off] 24)).alloc (.cells #[.slice B n c2, .int .i64 room, .int .i64 fuse, .bool off] 24)) = W at Y ⊢
  go_loopw [5] (fun i wr => ∃ k : Nat, k ≤ n ∧ i = .int .i64 k ∧ Q W wr ∧ l.take k = l2.take k) (fun i _ => n - (intOf i).toNat)
  case atStart => exact ⟨0, Nat.zero_le _, rfl, Q.refl _, by simp⟩
  case round =>
    obtain ⟨k, hk, rfl, hq, ht⟩ := hrel
    have HT := Lib.hid ht
    have HQ := Lib.hid hq
    clear ht hq
    obtain ⟨⟨e0, e1, e2, e3⟩, _⟩ := (Y.out.1.q HQ.out).get4
    obtain ⟨⟨g0, g1, g2, g3⟩, _⟩ := (Y.out.2.1.q HQ.out).get4
    by_cases hlt : k < n
    · have k1 : k < l.length := by have := L1.out; omega
      have k2 : k < l2.length := by have := L2.out; omega
      obtain ⟨ad, rfl, hb, c0, c1, c3⟩ := (H1.out.q (Y.out.2.2.trans HQ.out)).load hlt k1
      obtain ⟨ae, rfl, he, d0, d1, d2⟩ := (H2.out.q (Y.out.2.2.trans HQ.out)).load hlt k2
      have q4 : (k : Int) < (n : Int) := by omega
      have q5 : 0 ≤ (k : Int) := by omega
      have hne := fun W => neq_file W l[k] l2[k]
      by_cases heq : l[k] = l2[k]
      · have hd : decide (l[k] = l2[k]) = true := by simpa using heq
        have HE := Lib.hid heq
        clear heq
        go_wp2
        go_quiet (fail)
        go_wp2
        exact ⟨⟨k + 1, by omega, by go_num, HQ.out.drewN _, by rw [List.take_succ_eq_append_getElem k1, List.take_succ_eq_append_getElem k2, HT.out, HE.out]⟩, by simp [intOf]; omega⟩
      · have hd : decide (l[k] = l2[k]) = false := by simpa using heq
        have HE := Lib.hid heq
        clear heq
        go_wp2
        go_quiet (fail)
        go_wp2
        go_ret
        exact ⟨ret_bool (by symm; simp only [decide_eq_false_iff_not]; rintro rfl; exact HE.out rfl), Y.out.2.2.trans (HQ.out.drewN _)⟩
    · go_wp2
      go_ret
      exact ⟨ret_bool (by symm; simp only [decide_eq_true_eq]; have h1 := HT.out; rwa [List.take_of_length_le (by have := L1.out; omega), List.take_of_length_le (by have := L2.out; omega)] at h1), Y.out.2.2.trans HQ.out⟩
end Go.Proofs.Ytodfdklcioafmaa

/- Contracts: the document's Same whole, with, less. -/
namespace Go.Proofs.Ytodfdklcioafmaa
set_option maxRecDepth 100000
open Go.RowKit Dkm
set_option linter.unusedVariables false

set_option maxHeartbeats 2000000 in
theorem ref_same_any (A B : Option Addr) (n c m c2 : Nat) (x y : Dk) (w : World) (h1 : Files w A n x.fs) (h2 : Files w B m y.fs) (hn : n ≤ maxLen) (hm : m ≤ maxLen) :
    Calls Try.prog 15 #[dkv A n c x.room x.fuse x.off, dkv B m c2 y.room y.fuse y.off] w fun e w' => e = .returned (.bool (sameD x y)) ∧ Q w w' := by
  obtain ⟨l, r1, u1, o1⟩ := x
  obtain ⟨l2, r2, u2, o2⟩ := y
  simp only at h1 h2 ⊢
  by_cases hr : r1 = r2
  · by_cases hu : u1 = u2
    · by_cases ho : o1 = o2
      · by_cases hl : n = m
        · subst hr hu ho hl
          rw [show sameD ⟨l, r1, u1, o1⟩ ⟨l2, r1, u1, o1⟩ = decide (l = l2) by simp [sameD]]
          exact ref_same_len A B n c n c2 l l2 r1 u1 o1 w h1 h2 hn
        · have e : sameD ⟨l, r1, u1, o1⟩ ⟨l2, r2, u2, o2⟩ = false := by
            simp only [sameD, decide_eq_false_iff_not]
            rintro ⟨rfl, _⟩
            exact hl (h1.len.symm.trans h2.len)
          subst hr hu ho
          rw [e]
          have b1 : ((n : Int) != (m : Int)) = true := by simp; omega
          have b2 : (n != m) = true := by simp; omega
          have b3 : (n == m) = false := by simp; omega
          have b4 : ((n : Int) == (m : Int)) = false := by simp; omega
          have b5 : ¬ (n : Int) = m := by omega
          clear h1 h2 hl e
          go_enter Try.func15, Try.ntmps15
          go_wp2
          go_ret
          exact ⟨rfl, ((Q.refl _).alloc _).alloc _⟩
      · have e : sameD ⟨l, r1, u1, o1⟩ ⟨l2, r2, u2, o2⟩ = false := by simp [sameD, ho]
        subst hr hu
        rw [e]
        have b1 : (o1 != o2) = true := by simpa using ho
        have b2 : (o1 == o2) = false := by simpa using ho
        clear h1 h2 e
        go_enter Try.func15, Try.ntmps15
        go_wp2
        go_ret
        exact ⟨rfl, ((Q.refl _).alloc _).alloc _⟩
    · have e : sameD ⟨l, r1, u1, o1⟩ ⟨l2, r2, u2, o2⟩ = false := by simp [sameD, hu]
      subst hr
      rw [e]
      have b1 : (u1 != u2) = true := by simpa using hu
      have b2 : (u1 == u2) = false := by simpa using hu
      clear h1 h2 e
      go_enter Try.func15, Try.ntmps15
      go_wp2
      go_ret
      exact ⟨rfl, ((Q.refl _).alloc _).alloc _⟩
  · have e : sameD ⟨l, r1, u1, o1⟩ ⟨l2, r2, u2, o2⟩ = false := by simp [sameD, hr]
    rw [e]
    have b1 : (r1 != r2) = true := by simpa using hr
    have b2 : (r1 == r2) = false := by simpa using hr
    clear h1 h2 e
    go_enter Try.func15, Try.ntmps15
    go_wp2
    go_ret
    exact ⟨rfl, ((Q.refl _).alloc _).alloc _⟩

theorem Bx.far3 {w : World} {b c k : Nat} {vs : List Value} (h : Bx w b vs) (hc : c ≠ b) (x y z : Value) : Bx (((w.setCell ⟨c, k * 3, none⟩ x).setCell ⟨c, k * 3 + 1, none⟩ y).setCell ⟨c, k * 3 + 2, none⟩ z) b vs :=
  ((h.far (p := ⟨c, k * 3, none⟩) hc x).far (p := ⟨c, k * 3 + 1, none⟩) hc y).far (p := ⟨c, k * 3 + 2, none⟩) hc z
theorem Q.set3g {a w : World} {k : Nat} (h : Q a w) {b : Nat} (hb : a.heap.size ≤ b) (x y z : Value) : Q a (((w.setCell ⟨b, k * 3, none⟩ x).setCell ⟨b, k * 3 + 1, none⟩ y).setCell ⟨b, k * 3 + 2, none⟩ z) :=
  ((h.setCell (p := ⟨b, k * 3, none⟩) hb x).setCell (p := ⟨b, k * 3 + 1, none⟩) hb y).setCell (p := ⟨b, k * 3 + 2, none⟩) hb z

set_option maxHeartbeats 2000000 in
theorem ref_with (A : Option Addr) (n c : Nat) (room fuse : Int) (off : Bool) (k : Nat) (f : Fil) (l : List Fil) (w : World) (hd : Dsk w A n c l) (hk : k < n) :
    Calls Try.prog 67 #[dkv A n c room fuse off, .int .i64 k, f.val] w fun e w' => RetOwnD w n room fuse off (l.set k f) e w' := by
  have HD := Lib.hid hd
  have hnm := hd.max
  unfold maxLen at hnm
  clear hd
  obtain ⟨a, b, d⟩ := f
  have q4 : (k : Int) < (n : Int) := by omega
  have q5 : 0 ≤ (k : Int) := by omega
  go_enter Try.func67, Try.ntmps67
  go_upto_region 1 with (fail)
  have X := Lib.hid (And.intro (Bx.new w [.slice A n c, .int .i64 room, .int .i64 fuse, .bool off] 24) (And.intro (Bx.new (w.alloc (.cells #[.slice A n c, .int .i64 room, .int .i64 fuse, .bool off] 24)) [.string a, .string b, .string d] 52) (Bx.new ((w.alloc (.cells #[.slice A n c, .int .i64 room, .int .i64 fuse, .bool off] 24)).alloc (.cells #[.string a, .string b, .string d] 52)) [.slice none 0 0, .int .i64 0, .int .i64 0, .bool false] 24)))
  simp only [World.size_alloc] at X
  have Y := Lib.hid (And.intro ((X.out.1.alloc (.cells #[.string a, .string b, .string d] 52)).alloc (.cells #[.slice none 0 0, .int .i64 0, .int .i64 0, .bool false] 24)) (And.intro (X.out.2.1.alloc (.cells #[.slice none 0 0, .int .i64 0, .int .i64 0, .bool false] 24)) (And.intro X.out.2.2 ((((Q.refl w).alloc (.cells #[.slice A n c, .int .i64 room, .int .i64 fuse, .bool off] 24)).alloc (.cells #[.string a, .string b, .string d] 52)).alloc (.cells #[.slice none 0 0, .int .i64 0, .int .i64 0, .bool false] 24)))))
  clear X
  generalize (((w.alloc (.cells #[.slice A n c, .int .i64 room, .int .i64 fuse, .bool off] 24)).alloc (.cells #[.string a, .string b, .string d] 52)).alloc (.cells #[.slice none 0 0, .int .i64 0, .int .i64 0, .bool false] 24)) = W at Y ⊢
  obtain ⟨⟨e0, e1, e2, e3⟩, _⟩ := Y.out.1.get4
  have z0 : w.heap.size < W.heap.size := Y.out.1.lt
  have z1 : w.heap.size ≠ W.heap.size := by omega
  go_upto_region 2 with (at_builtin
                         refine wpl_app rfl (.tmp 8) (.tmp 10) rfl W.heap.size (some ⟨W.heap.size, 0, none⟩) 0 0 [] rfl (own_lit0 W _ (Nat.le_refl _)) A n c l rfl (HD.out.files.q (Y.out.2.2.2.alloc _)) HD.out.nil (by have := HD.out.few; omega) (by simp) ?_
                         intro A1 c1 w1 ho1 hb1)
  rw [Nat.zero_add, List.nil_append] at ho1
  obtain ⟨g, rfl, hg⟩ : ∃ g, A1 = some ⟨g, 0, none⟩ ∧ W.heap.size ≤ g := by
    rcases ho1.parts with ⟨_, e, _⟩ | ⟨g, cur, rfl, hb, _⟩
    · omega
    · exact ⟨g, rfl, hb⟩
  have z2 : w.heap.size + 1 < W.heap.size := Y.out.2.1.lt
  have z3 : w.heap.size + 1 + 1 < W.heap.size := Y.out.2.2.1.lt
  have D1 := (Y.out.1.alloc (.cells #[] 52)).below hb1 z0
  have F1 := (Y.out.2.1.alloc (.cells #[] 52)).below hb1 z2
  have R1 := (Y.out.2.2.1.alloc (.cells #[] 52)).below hb1 z3
  have Q1 : Q w w1 := (Y.out.2.2.2.alloc (.cells #[] 52)).below.trans (hb1.mono (by have := Y.out.2.2.2.size; omega))
  have hkl : k < l.length := by have := ho1.len; omega
  obtain ⟨c0, c1', c2, gw⟩ := own_file ho1 hkl
  have w0 : w1.frozen? ⟨g, k * 3, none⟩ = false := World.ownsRow.frozenAt ho1 _
  have w1' : w1.frozen? ⟨g, k * 3 + 1, none⟩ = false := World.ownsRow.frozenAt ho1 _
  have w2' : w1.frozen? ⟨g, k * 3 + 2, none⟩ = false := World.ownsRow.frozenAt ho1 _
  have n0 : g ≠ w.heap.size := by omega
  have n1 : g ≠ w.heap.size + 1 + 1 := by omega
  have Z := Lib.hid (And.intro (show Own (((w1.setCell ⟨g, k * 3, none⟩ (.string a)).setCell ⟨g, k * 3 + 1, none⟩ (.string b)).setCell ⟨g, k * 3 + 2, none⟩ (.string d)) W.heap.size (some ⟨g, 0, none⟩) n c1 (l.set k ⟨a, b, d⟩) from (ho1.set3 hk ⟨a, b, d⟩).1) (And.intro (D1.far3 (k := k) n0 (.string a) (.string b) (.string d)) (And.intro (R1.far3 (k := k) n1 (.string a) (.string b) (.string d)) (Q1.set3g (k := k) (b := g) (by have := Y.out.2.2.2.size; omega) (.string a) (.string b) (.string d)))))
  clear e0 e1 e2 e3 ho1 hb1 D1 R1 Q1
  obtain ⟨⟨x0, x1, x2⟩, _⟩ := F1.get3
  clear F1
  go_upto_region 3 with (fail)
  generalize (((w1.setCell ⟨g, k * 3, none⟩ (.string a)).setCell ⟨g, k * 3 + 1, none⟩ (.string b)).setCell ⟨g, k * 3 + 2, none⟩ (.string d)) = w2 at Z ⊢
  clear x0 x1 x2 c0 c1' c2 w0 w1' w2' gw
  obtain ⟨O2, D2, R2, Q2⟩ := Z.out
  obtain ⟨⟨e0, e1, e2, e3⟩, f0, f1, f2, f3⟩ := D2.get4
  obtain ⟨⟨s0, s1, s2, s3⟩, h0, h1, h2, h3⟩ := R2.get4
  clear O2 D2 R2 Q2
  go_wp2
  refine bodyPost_ret (v := dkv (some ⟨g, 0, none⟩) n c1 room fuse off) (by simp [results, Try.results67, go_sem, s0, s1, s2, s3]) rfl ⟨some ⟨g, 0, none⟩, c1, rfl, ?_, ?_⟩
  · exact ((Z.out.1.setCell (p := ⟨w.heap.size, 0, none⟩) z0 _).set4 (b := w.heap.size + 1 + 1) z3 _ _ _ _).lower (by omega)
  · exact (Z.out.2.2.2.setCell (p := ⟨w.heap.size, 0, none⟩) (Nat.le_refl _) _).set4 (b := w.heap.size + 1 + 1) (by omega) _ _ _ _

theorem wrap_two (r : Int) (a b : Nat) : wrap64 (wrap64 (r + a) + b) = wrap64 (r + ((a + b : Nat) : Int)) := by unfold wrap64; omega
theorem files_take {w : World} {A : Option Addr} {n : Nat} {l : List Fil} (h : Files w A n l) {k : Nat} (hk : k ≤ n) : Files w A k (l.take k) := by
  have hl := h.len
  refine ⟨by rw [rows_length, List.length_take]; omega, fun j u hu => ?_⟩
  rw [rows_take, List.getElem?_take] at hu
  split at hu
  · exact h.2 j u hu
  · cases hu
theorem files_drop {w : World} {ad : Addr} {n : Nat} {l : List Fil} (h : Files w (some ad) n l) {k : Nat} (hk : k ≤ n) : Files w (some (ad.add (k * 3))) (n - k) (l.drop k) := by
  have hl := h.len
  refine ⟨by rw [rows_length, List.length_drop]; omega, fun j u hu => ?_⟩
  rw [rows_drop, List.getElem?_drop] at hu
  obtain ⟨ad', e, hb, hc⟩ := h.2 _ u hu
  injection e with e
  subst e
  exact ⟨_, rfl, by rw [addr_block]; exact hb, by rw [addr_add]; exact hc⟩

set_option maxHeartbeats 2000000 in
theorem ref_less0 (ad : Addr) (n c : Nat) (room fuse : Int) (off : Bool) (k : Nat) (l : List Fil) (w : World) (hd : Dsk w (some ad) n c l) (hk : k < n) (hkl : k < l.length) (hs : l[k].sf.size + l[k].wt.size ≤ maxLen) (room2 : Int) (hR : wrap64 (wrap64 (room + (l[k].sf.size : Int)) + (l[k].wt.size : Int)) = room2) :
    Calls Try.prog 66 #[dkv (some ad) n c room fuse off, .int .i64 k] w fun e w' => RetOwnD w (n - 1) room2 fuse off (l.eraseIdx k) e w' := by
  have HR := Lib.hid hR
  clear hR
  have HD := Lib.hid hd
  have hnm := hd.max
  have hcap := hd.cap
  have hle := hd.le
  unfold maxLen at hnm hs hcap
  clear hd
  have q4 : (k : Int) < (n : Int) := by omega
  have q5 : 0 ≤ (k : Int) := by omega
  have q6 : (k : Int) + 1 ≤ (n : Int) := by omega
  have q7 : 0 ≤ (k : Int) + 1 := by omega
  have q8 : (k : Int) ≤ (c : Int) := by omega
  have q9 : k ≤ c := by omega
  have q10 : k + 1 ≤ n := by omega
  go_enter Try.func66, Try.ntmps66
  go_upto_region 1 with (fail)
  have B0 := two_new w (.slice (some ad) n c) (.int .i64 room) (.int .i64 fuse) (.bool off) (.slice none 0 0) (.int .i64 0) (.int .i64 0) (.bool false) 24
  have Y := Lib.hid (And.intro B0.1 (And.intro B0.2 (((Q.refl w).alloc (.cells #[.slice (some ad) n c, .int .i64 room, .int .i64 fuse, .bool off] 24)).alloc (.cells #[.slice none 0 0, .int .i64 0, .int .i64 0, .bool false] 24))))
  clear B0
  generalize ((w.alloc (.cells #[.slice (some ad) n c, .int .i64 room, .int .i64 fuse, .bool off] 24)).alloc (.cells #[.slice none 0 0, .int .i64 0, .int .i64 0, .bool false] 24)) = W at Y ⊢
  obtain ⟨⟨e0, e1, e2, e3⟩, f0, f1, f2, f3⟩ := Y.out.1.get4
  obtain ⟨ad', e, hb, c0, c1, c2⟩ := (HD.out.files.q Y.out.2.2).load hk hkl
  injection e with e
  subst e
  go_wp2
  go_region
  rw [HR.out]
  have Z := Lib.hid (And.intro ((Y.out.1.set (k := 1) (by simp) (.int .i64 room2)).drew) (And.intro ((Y.out.2.1.far (p := ⟨w.heap.size, 1, none⟩) (by simp) (.int .i64 room2)).drew) ((Y.out.2.2.setCell (p := ⟨w.heap.size, 1, none⟩) (Nat.le_refl _) (.int .i64 room2)).drew)))
  clear e0 e1 e2 e3 f0 f1 f2 f3 c0 c1 c2 hb Y
  generalize (W.setCell ⟨w.heap.size, 1, none⟩ (.int .i64 room2)).drew = W2 at Z ⊢
  obtain ⟨⟨e0, e1, e2, e3⟩, _⟩ := Z.out.1.get4
  have z0 : w.heap.size < W2.heap.size := Z.out.1.lt
  have z1 : w.heap.size + 1 < W2.heap.size := Z.out.2.1.lt
  have z2 : w.heap.size ≠ W2.heap.size := by omega
  have hfew := HD.out.few
  have hlen := HD.out.len
  go_upto_region 3 with (at_builtin
                         refine wpl_app rfl (.tmp 25) (.tmp 29) rfl W2.heap.size (some ⟨W2.heap.size, 0, none⟩) 0 0 [] rfl (own_lit0 W2 _ (Nat.le_refl _)) (some ad) k c (l.take k) rfl (files_take (HD.out.files.q (Z.out.2.2.alloc _)) (by omega)) (fun e => by cases e) (by omega) (by simp) ?_
                         intro A1 c1 w1 ho1 hb1)
  rw [Nat.zero_add, List.nil_append] at ho1
  have D1 := (Z.out.1.alloc (.cells #[] 52)).below hb1 z0
  have R1 := (Z.out.2.1.alloc (.cells #[] 52)).below hb1 z1
  have Q1 : Q w w1 := (Z.out.2.2.alloc (.cells #[] 52)).below.trans (hb1.mono Z.out.2.2.size)
  have s1 : W2.heap.size ≤ w1.heap.size := by have := hb1.size; simp at this; omega
  have V := Lib.hid (And.intro ho1 (And.intro D1 (And.intro R1 Q1)))
  clear e0 e1 e2 e3 hb1 ho1 R1 Q1
  obtain ⟨⟨e0, e1, e2, e3⟩, f0, f1, f2, f3⟩ := D1.get4
  clear D1
  by_cases hck : c = k + 1
  · have e : n = k + 1 := by omega
    subst e
    subst hck
    go_upto_region 4 with (at_builtin
                           refine wpl_app rfl (.tmp 31) (.tmp 36) rfl W2.heap.size A1 k c1 (l.take k) rfl V.out.1 (some ad) 0 0 [] rfl (Holds.none_ _ _ _ _) (fun e => by cases e) (by omega) s1 ?_
                           intro A3 c3 w3 ho3 hb3
                           obtain ⟨⟨x0, x1, x2, x3⟩, y0, y1, y2, y3⟩ := (V.out.2.1.below hb3 z0).get4)
    rw [Nat.add_zero, List.append_nil, show l.take k = l.eraseIdx k by rw [List.eraseIdx_eq_take_drop_succ, List.drop_eq_nil_of_le (by omega), List.append_nil]] at ho3
    have n1 : w.heap.size + 1 < W2.heap.size := z1
    have U := Lib.hid (And.intro (ho3.setCell (p := ⟨w.heap.size, 0, none⟩) z0 (.slice A3 k c3)) (And.intro ((V.out.2.1.below hb3 z0).set (k := 0) (by simp) (.slice A3 k c3)) (And.intro ((V.out.2.2.1.below hb3 z1).far (p := ⟨w.heap.size, 0, none⟩) (by simp) (.slice A3 k c3)) ((show Q w w3 from V.out.2.2.2.below.trans (hb3.mono Z.out.2.2.size)).setCell (p := ⟨w.heap.size, 0, none⟩) (Nat.le_refl _) (.slice A3 k c3)))))
    clear ho3 hb3 x0 x1 x2 x3 y0 y1 y2 y3 e0 e1 e2 e3 f0 f1 f2 f3
    generalize w3.setCell ⟨w.heap.size, 0, none⟩ (.slice A3 k c3) = w4 at U ⊢
    obtain ⟨O4, D4, R4, Q4⟩ := U.out
    obtain ⟨⟨e0, e1, e2, e3⟩, _⟩ := Bx.get4 (x := .slice A3 k c3) (y := .int .i64 room2) (z := .int .i64 fuse) (u := .bool off) D4
    obtain ⟨⟨t0, t1, t2, t3⟩, h0, h1, h2, h3⟩ := R4.get4
    clear O4 D4 R4 Q4
    go_wp2
    refine bodyPost_ret (v := dkv A3 k c3 room2 fuse off) (by simp [results, Try.results66, go_sem, t0, t1, t2, t3]) rfl ⟨A3, c3, rfl, ?_, ?_⟩
    · exact (U.out.1.set4 (b := w.heap.size + 1) z1 _ _ _ _).lower (by omega)
    · exact U.out.2.2.2.set4 (b := w.heap.size + 1) (by omega) _ _ _ _
  · go_upto_region 4 with (at_builtin
                           refine wpl_app rfl (.tmp 31) (.tmp 36) rfl W2.heap.size A1 k c1 (l.take k) rfl V.out.1 (some (ad.add ((k + 1) * 3))) (n - (k + 1)) (c - (k + 1)) (l.drop (k + 1)) rfl (files_drop (HD.out.files.q V.out.2.2.2) (by omega)) (fun e => by cases e) (by omega) s1 ?_
                           intro A3 c3 w3 ho3 hb3
                           obtain ⟨⟨x0, x1, x2, x3⟩, y0, y1, y2, y3⟩ := (V.out.2.1.below hb3 z0).get4)
    have ek : k + (n - (k + 1)) = n - 1 := by omega
    rw [ek, ← List.eraseIdx_eq_take_drop_succ] at ho3
    rw [ek]
    have n1 : w.heap.size + 1 < W2.heap.size := z1
    have U := Lib.hid (And.intro (ho3.setCell (p := ⟨w.heap.size, 0, none⟩) z0 (.slice A3 (n - 1) c3)) (And.intro ((V.out.2.1.below hb3 z0).set (k := 0) (by simp) (.slice A3 (n - 1) c3)) (And.intro ((V.out.2.2.1.below hb3 z1).far (p := ⟨w.heap.size, 0, none⟩) (by simp) (.slice A3 (n - 1) c3)) ((show Q w w3 from V.out.2.2.2.below.trans (hb3.mono Z.out.2.2.size)).setCell (p := ⟨w.heap.size, 0, none⟩) (Nat.le_refl _) (.slice A3 (n - 1) c3)))))
    clear ho3 hb3 x0 x1 x2 x3 y0 y1 y2 y3 e0 e1 e2 e3 f0 f1 f2 f3
    generalize w3.setCell ⟨w.heap.size, 0, none⟩ (.slice A3 (n - 1) c3) = w4 at U ⊢
    obtain ⟨O4, D4, R4, Q4⟩ := U.out
    obtain ⟨⟨e0, e1, e2, e3⟩, _⟩ := Bx.get4 (x := .slice A3 (n - 1) c3) (y := .int .i64 room2) (z := .int .i64 fuse) (u := .bool off) D4
    obtain ⟨⟨t0, t1, t2, t3⟩, h0, h1, h2, h3⟩ := R4.get4
    clear O4 D4 R4 Q4
    go_wp2
    refine bodyPost_ret (v := dkv A3 (n - 1) c3 room2 fuse off) (by simp [results, Try.results66, go_sem, t0, t1, t2, t3]) rfl ⟨A3, c3, rfl, ?_, ?_⟩
    · exact (U.out.1.set4 (b := w.heap.size + 1) z1 _ _ _ _).lower (by omega)
    · exact U.out.2.2.2.set4 (b := w.heap.size + 1) (by omega) _ _ _ _

theorem ref_less (ad : Addr) (n c : Nat) (room fuse : Int) (off : Bool) (k : Nat) (l : List Fil) (w : World) (hd : Dsk w (some ad) n c l) (hk : k < n) (hkl : k < l.length) (hs : l[k].sf.size + l[k].wt.size ≤ maxLen) :
    Calls Try.prog 66 #[dkv (some ad) n c room fuse off, .int .i64 k] w fun e w' => RetOwnD w (n - 1) (wrap64 (room + ((l[k].sf.size + l[k].wt.size : Nat) : Int))) fuse off (l.eraseIdx k) e w' :=
  ref_less0 ad n c room fuse off k l w hd hk hkl hs _ (wrap_two _ _ _)
end Go.Proofs.Ytodfdklcioafmaa
