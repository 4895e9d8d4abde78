/- Contract: Append, what is done. -/
import Derived.Test.YtpjadjbniddmgaaDiskAppend2
namespace Go.Proofs.Ytpjadjbniddmgaa
open Go.RowKit Dkm
set_option linter.unusedVariables false

set_option maxHeartbeats 1000000 in
set_option maxRecDepth 100000 in
theorem append_done_eq_neg (nm s : ByteArray) (A : Option Addr) (n c : Nat) (room fuse : Int) (l : List Fil) (w : World) (hd : Dsk w A n c l) (f : Fil) (k : Nat) (hop : opn nm l = (f, k)) (hk : k ≤ n) (hf : f.sf.size + f.wt.size ≤ 2305843009213693952) (hs : s.size ≤ 2305843009213693952) (hn : nmOk nm = true) (hkn : k = n) (h64 : n < 64) (hr : (s.size : Int) ≤ room) (hr2 : room ≤ 9223372036854775807) (hb : f.sf.size + f.wt.size + s.size ≤ 65536) (hz : fuse < 0) :
    Calls Try.prog 12 #[dkv A n c room fuse false, .string nm, .string s] w fun e w' => RetDE w ⟨l ++ [⟨f.nm, f.sf, f.wt ++ s⟩], room - (s).size, fuse, false⟩ 0 e w' := by
  have hkn2 : n = k := hkn.symm
  subst hkn2
  clear hkn
  have HNM := Lib.hid hn
  clear hn
  have HD := Lib.hid hd
  have HN := Lib.hid hd.max
  have hlen := Lib.hid hd.len
  have hnm := hd.max
  unfold maxLen at hnm
  have HOP := Lib.hid hop
  clear hd hop
  obtain ⟨fa, fb, fc⟩ := f
  simp only at hf hb
  show Calls _ _ _ _ fun e w' => RetDE w ⟨l ++ [⟨fa, fb, fc ++ s⟩], room - (s).size, fuse, false⟩ 0 e w'
  go_enter Try.func12, Try.ntmps12
  go_wp2_with fail
  have B0 := two_new w (.slice A n c) (.int .i64 room) (.int .i64 fuse) (.bool false) (.slice none 0 0) (.int .i64 0) (.int .i64 0) (.bool false) 24
  refine (own_any A n c room fuse false l _ (HD.out.q (((Q.refl _).alloc _).alloc _))).mono ?_
  rintro e w1 ⟨A1, c1, rfl, ho, q1⟩
  rw [size_two] at ho
  have HO := Lib.hid (ho.set4 (b := w.heap.size) (by omega) (.slice A1 n c1) (.int .i64 room) (.int .i64 fuse) (.bool false))
  have D1 := Lib.hid ((B0.1.q q1).put4 (.slice A1 n c1) (.int .i64 room) (.int .i64 fuse) (.bool false))
  have R1 := Lib.hid ((B0.2.q q1).far4 (c := w.heap.size) (by omega) (.slice A1 n c1) (.int .i64 room) (.int .i64 fuse) (.bool false))
  have Q1 := Lib.hid ((((((Q.refl w).alloc _).alloc _).trans q1)).set4 (b := w.heap.size) (Nat.le_refl _) (.slice A1 n c1) (.int .i64 room) (.int .i64 fuse) (.bool false))
  obtain ⟨⟨e0, e1, e2, e3⟩, f0, f1, f2, f3⟩ := (B0.1.q q1).get4
  clear B0 q1 ho
  go_wp2_with fail
  refine (open_any nm A1 n c1 room fuse false l _ HO.out.files HN.out).mono ?_
  rintro e w2 ⟨rfl, q2⟩
  rw [HOP.out]
  have HO2 := Lib.hid (HO.out.q q2)
  have Q2 := Lib.hid (Q1.out.trans q2)
  have z0 : w.heap.size < w2.heap.size := (D1.out.q q2).lt
  have z1 : w.heap.size + 1 < w2.heap.size := (R1.out.q q2).lt
  have z2 : w.heap.size ≠ w2.heap.size := by omega
  have z3 : w.heap.size + 1 ≠ w2.heap.size := by omega
  have D2 := Lib.hid (D1.out.q q2)
  have R2 := Lib.hid (R1.out.q q2)
  obtain ⟨⟨d0, d1, d2, d3⟩, g0, g1, g2, g3⟩ := (D1.out.q q2).get4
  obtain ⟨⟨s0, s1, s2, s3⟩, h0, h1, h2, h3⟩ := (R1.out.q q2).get4
  clear q2 e0 e1 e2 e3 f0 f1 f2 f3
  go_wp2_with fail
  refine (named_any nm _).mono ?_
  rintro e w' ⟨rfl, rfl⟩
  rw [HNM.out]
  go_wp2_with fail
  have F2 := Bx.new w2 [.string fa, .string fb, .string fc] 29
  refine (size_any ⟨fa, fb, fc⟩ _ (by unfold maxLen; show fb.size + fc.size ≤ _; omega)).mono ?_
  rintro e w3 ⟨rfl, q3⟩
  simp only
  have HO3 := Lib.hid ((HO2.out.alloc _).q q3)
  have Q3 := Lib.hid ((Q2.out.alloc _).trans q3)
  have D3 := Lib.hid ((D2.out.alloc _).q q3)
  have R3 := Lib.hid ((R2.out.alloc _).q q3)
  have F3 := Lib.hid (F2.q q3)
  have y0 : w2.heap.size < w3.heap.size := F3.out.lt
  clear d0 d1 d2 d3 g0 g1 g2 g3 s0 s1 s2 s3 h0 h1 h2 h3 F2 q3
  obtain ⟨⟨d0, d1, d2, d3⟩, g0, g1, g2, g3⟩ := D3.out.get4
  obtain ⟨⟨s0, s1, s2, s3⟩, h0, h1, h2, h3⟩ := R3.out.get4
  obtain ⟨⟨t0, t1, t2⟩, u0, u1, u2⟩ := F3.out.get3
  go_wp2_with fail
  refine (set_end (w.heap.size + 2) A1 n c1 ⟨fa, fb, fc ++ s⟩ l _ (Own.setNew HO2.out HO3.out (p := ⟨w2.heap.size, 2, none⟩) (Nat.le_refl _) _) (by omega) (by show w.heap.size + 2 ≤ (w3.setCell _ _).heap.size; simp; omega)).mono ?_
  rintro e w4 ⟨A4, c4, rfl, ho4, b4⟩
  have HO4 := Lib.hid ho4
  have Q4 := Lib.hid (show Q w w4 from (Q3.out.setCell (p := ⟨w2.heap.size, 2, none⟩) (by show w.heap.size ≤ w2.heap.size; omega) _).below.trans (b4.mono (by omega)))
  have D4 := (D3.out.far (p := ⟨w2.heap.size, 2, none⟩) (by show w2.heap.size ≠ w.heap.size; omega) _).below b4 (by omega)
  have R4 := (R3.out.far (p := ⟨w2.heap.size, 2, none⟩) (by show w2.heap.size ≠ w.heap.size + 1; omega) _).below b4 (by omega)
  clear ho4 b4 d0 d1 d2 d3 g0 g1 g2 g3 s0 s1 s2 s3 h0 h1 h2 h3 t0 t1 t2 u0 u1 u2
  obtain ⟨⟨d0, d1, d2, d3⟩, g0, g1, g2, g3⟩ := D4.get4
  obtain ⟨⟨s0, s1, s2, s3⟩, h0, h1, h2, h3⟩ := R4.get4
  clear D4 R4
  go_wp2
  refine bodyPost_ret (v := .tuple #[dkv A4 (n + 1) c4 (room - (s).size) (fuse) false, .int .i64 0]) (by simp [results, Try.results12, go_sem, s0, s1, s2, s3]) rfl ⟨A4, (n + 1), c4, rfl, ?_, ?_⟩
  · exact (((HO4.out.setCell (p := ⟨w.heap.size, 0, none⟩) (by simp) _).setCell (p := ⟨w.heap.size, 1, none⟩) (by simp) _).set4 (b := w.heap.size + 1) (by omega) _ _ _ _).lower (by omega)
  · exact ((Q4.out.setCell (p := ⟨w.heap.size, 0, none⟩) (Nat.le_refl _) _).setCell (p := ⟨w.heap.size, 1, none⟩) (Nat.le_refl _) _).set4 (b := w.heap.size + 1) (by omega) _ _ _ _

set_option maxHeartbeats 1000000 in
set_option maxRecDepth 100000 in
theorem append_done_eq_fits (nm s : ByteArray) (A : Option Addr) (n c : Nat) (room fuse : Int) (l : List Fil) (w : World) (hd : Dsk w A n c l) (f : Fil) (k : Nat) (hop : opn nm l = (f, k)) (hk : k ≤ n) (hf : f.sf.size + f.wt.size ≤ 2305843009213693952) (hs : s.size ≤ 2305843009213693952) (hn : nmOk nm = true) (hkn : k = n) (h64 : n < 64) (hr : (s.size : Int) ≤ room) (hr2 : room ≤ 9223372036854775807) (hb : f.sf.size + f.wt.size + s.size ≤ 65536) (hz : (s.size : Int) ≤ fuse) (hz2 : fuse ≤ 9223372036854775807) :
    Calls Try.prog 12 #[dkv A n c room fuse false, .string nm, .string s] w fun e w' => RetDE w ⟨l ++ [⟨f.nm, f.sf, f.wt ++ s⟩], room - (s).size, fuse - s.size, false⟩ 0 e w' := by
  have hkn2 : n = k := hkn.symm
  subst hkn2
  clear hkn
  have HNM := Lib.hid hn
  clear hn
  have HD := Lib.hid hd
  have HN := Lib.hid hd.max
  have hlen := Lib.hid hd.len
  have hnm := hd.max
  unfold maxLen at hnm
  have HOP := Lib.hid hop
  clear hd hop
  obtain ⟨fa, fb, fc⟩ := f
  simp only at hf hb
  show Calls _ _ _ _ fun e w' => RetDE w ⟨l ++ [⟨fa, fb, fc ++ s⟩], room - (s).size, fuse - s.size, false⟩ 0 e w'
  go_enter Try.func12, Try.ntmps12
  go_wp2_with fail
  have B0 := two_new w (.slice A n c) (.int .i64 room) (.int .i64 fuse) (.bool false) (.slice none 0 0) (.int .i64 0) (.int .i64 0) (.bool false) 24
  refine (own_any A n c room fuse false l _ (HD.out.q (((Q.refl _).alloc _).alloc _))).mono ?_
  rintro e w1 ⟨A1, c1, rfl, ho, q1⟩
  rw [size_two] at ho
  have HO := Lib.hid (ho.set4 (b := w.heap.size) (by omega) (.slice A1 n c1) (.int .i64 room) (.int .i64 fuse) (.bool false))
  have D1 := Lib.hid ((B0.1.q q1).put4 (.slice A1 n c1) (.int .i64 room) (.int .i64 fuse) (.bool false))
  have R1 := Lib.hid ((B0.2.q q1).far4 (c := w.heap.size) (by omega) (.slice A1 n c1) (.int .i64 room) (.int .i64 fuse) (.bool false))
  have Q1 := Lib.hid ((((((Q.refl w).alloc _).alloc _).trans q1)).set4 (b := w.heap.size) (Nat.le_refl _) (.slice A1 n c1) (.int .i64 room) (.int .i64 fuse) (.bool false))
  obtain ⟨⟨e0, e1, e2, e3⟩, f0, f1, f2, f3⟩ := (B0.1.q q1).get4
  clear B0 q1 ho
  go_wp2_with fail
  refine (open_any nm A1 n c1 room fuse false l _ HO.out.files HN.out).mono ?_
  rintro e w2 ⟨rfl, q2⟩
  rw [HOP.out]
  have HO2 := Lib.hid (HO.out.q q2)
  have Q2 := Lib.hid (Q1.out.trans q2)
  have z0 : w.heap.size < w2.heap.size := (D1.out.q q2).lt
  have z1 : w.heap.size + 1 < w2.heap.size := (R1.out.q q2).lt
  have z2 : w.heap.size ≠ w2.heap.size := by omega
  have z3 : w.heap.size + 1 ≠ w2.heap.size := by omega
  have D2 := Lib.hid (D1.out.q q2)
  have R2 := Lib.hid (R1.out.q q2)
  obtain ⟨⟨d0, d1, d2, d3⟩, g0, g1, g2, g3⟩ := (D1.out.q q2).get4
  obtain ⟨⟨s0, s1, s2, s3⟩, h0, h1, h2, h3⟩ := (R1.out.q q2).get4
  clear q2 e0 e1 e2 e3 f0 f1 f2 f3
  go_wp2_with fail
  refine (named_any nm _).mono ?_
  rintro e w' ⟨rfl, rfl⟩
  rw [HNM.out]
  go_wp2_with fail
  have F2 := Bx.new w2 [.string fa, .string fb, .string fc] 29
  refine (size_any ⟨fa, fb, fc⟩ _ (by unfold maxLen; show fb.size + fc.size ≤ _; omega)).mono ?_
  rintro e w3 ⟨rfl, q3⟩
  simp only
  have HO3 := Lib.hid ((HO2.out.alloc _).q q3)
  have Q3 := Lib.hid ((Q2.out.alloc _).trans q3)
  have D3 := Lib.hid ((D2.out.alloc _).q q3)
  have R3 := Lib.hid ((R2.out.alloc _).q q3)
  have F3 := Lib.hid (F2.q q3)
  have y0 : w2.heap.size < w3.heap.size := F3.out.lt
  clear d0 d1 d2 d3 g0 g1 g2 g3 s0 s1 s2 s3 h0 h1 h2 h3 F2 q3
  obtain ⟨⟨d0, d1, d2, d3⟩, g0, g1, g2, g3⟩ := D3.out.get4
  obtain ⟨⟨s0, s1, s2, s3⟩, h0, h1, h2, h3⟩ := R3.out.get4
  obtain ⟨⟨t0, t1, t2⟩, u0, u1, u2⟩ := F3.out.get3
  go_wp2_with fail
  refine (set_end (w.heap.size + 2) A1 n c1 ⟨fa, fb, fc ++ s⟩ l _ (Own.setNew HO2.out HO3.out (p := ⟨w2.heap.size, 2, none⟩) (Nat.le_refl _) _) (by omega) (by show w.heap.size + 2 ≤ (w3.setCell _ _).heap.size; simp; omega)).mono ?_
  rintro e w4 ⟨A4, c4, rfl, ho4, b4⟩
  have HO4 := Lib.hid ho4
  have Q4 := Lib.hid (show Q w w4 from (Q3.out.setCell (p := ⟨w2.heap.size, 2, none⟩) (by show w.heap.size ≤ w2.heap.size; omega) _).below.trans (b4.mono (by omega)))
  have D4 := (D3.out.far (p := ⟨w2.heap.size, 2, none⟩) (by show w2.heap.size ≠ w.heap.size; omega) _).below b4 (by omega)
  have R4 := (R3.out.far (p := ⟨w2.heap.size, 2, none⟩) (by show w2.heap.size ≠ w.heap.size + 1; omega) _).below b4 (by omega)
  clear ho4 b4 d0 d1 d2 d3 g0 g1 g2 g3 s0 s1 s2 s3 h0 h1 h2 h3 t0 t1 t2 u0 u1 u2
  obtain ⟨⟨d0, d1, d2, d3⟩, g0, g1, g2, g3⟩ := D4.get4
  obtain ⟨⟨s0, s1, s2, s3⟩, h0, h1, h2, h3⟩ := R4.get4
  clear D4 R4
  go_wp2
  refine bodyPost_ret (v := .tuple #[dkv A4 (n + 1) c4 (room - (s).size) (fuse - s.size) false, .int .i64 0]) (by simp [results, Try.results12, go_sem, s0, s1, s2, s3]) rfl ⟨A4, (n + 1), c4, rfl, ?_, ?_⟩
  · exact ((((HO4.out.setCell (p := ⟨w.heap.size, 0, none⟩) (by simp) _).setCell (p := ⟨w.heap.size, 1, none⟩) (by simp) _).setCell (p := ⟨w.heap.size, 2, none⟩) (by simp) _).set4 (b := w.heap.size + 1) (by omega) _ _ _ _).lower (by omega)
  · exact (((Q4.out.setCell (p := ⟨w.heap.size, 0, none⟩) (Nat.le_refl _) _).setCell (p := ⟨w.heap.size, 1, none⟩) (Nat.le_refl _) _).setCell (p := ⟨w.heap.size, 2, none⟩) (Nat.le_refl _) _).set4 (b := w.heap.size + 1) (by omega) _ _ _ _

set_option maxHeartbeats 1000000 in
set_option maxRecDepth 100000 in
theorem append_done_lt_neg (nm s : ByteArray) (A : Option Addr) (n c : Nat) (room fuse : Int) (l : List Fil) (w : World) (hd : Dsk w A n c l) (f : Fil) (k : Nat) (hop : opn nm l = (f, k)) (hk : k ≤ n) (hf : f.sf.size + f.wt.size ≤ 2305843009213693952) (hs : s.size ≤ 2305843009213693952) (hn : nmOk nm = true) (hkn : k < n) (hr : (s.size : Int) ≤ room) (hr2 : room ≤ 9223372036854775807) (hb : f.sf.size + f.wt.size + s.size ≤ 65536) (hz : fuse < 0) :
    Calls Try.prog 12 #[dkv A n c room fuse false, .string nm, .string s] w fun e w' => RetDE w ⟨l.set k ⟨f.nm, f.sf, f.wt ++ s⟩, room - (s).size, fuse, false⟩ 0 e w' := by
  have k1 : ((k : Int) == (n : Int)) = false := by simp; omega
  have k2 : (k == n) = false := by simp; omega
  have HNM := Lib.hid hn
  clear hn
  have HD := Lib.hid hd
  have HN := Lib.hid hd.max
  have hlen := Lib.hid hd.len
  have hnm := hd.max
  unfold maxLen at hnm
  have HOP := Lib.hid hop
  clear hd hop
  obtain ⟨fa, fb, fc⟩ := f
  simp only at hf hb
  show Calls _ _ _ _ fun e w' => RetDE w ⟨l.set k ⟨fa, fb, fc ++ s⟩, room - (s).size, fuse, false⟩ 0 e w'
  go_enter Try.func12, Try.ntmps12
  go_wp2_with fail
  have B0 := two_new w (.slice A n c) (.int .i64 room) (.int .i64 fuse) (.bool false) (.slice none 0 0) (.int .i64 0) (.int .i64 0) (.bool false) 24
  refine (own_any A n c room fuse false l _ (HD.out.q (((Q.refl _).alloc _).alloc _))).mono ?_
  rintro e w1 ⟨A1, c1, rfl, ho, q1⟩
  rw [size_two] at ho
  have HO := Lib.hid (ho.set4 (b := w.heap.size) (by omega) (.slice A1 n c1) (.int .i64 room) (.int .i64 fuse) (.bool false))
  have D1 := Lib.hid ((B0.1.q q1).put4 (.slice A1 n c1) (.int .i64 room) (.int .i64 fuse) (.bool false))
  have R1 := Lib.hid ((B0.2.q q1).far4 (c := w.heap.size) (by omega) (.slice A1 n c1) (.int .i64 room) (.int .i64 fuse) (.bool false))
  have Q1 := Lib.hid ((((((Q.refl w).alloc _).alloc _).trans q1)).set4 (b := w.heap.size) (Nat.le_refl _) (.slice A1 n c1) (.int .i64 room) (.int .i64 fuse) (.bool false))
  obtain ⟨⟨e0, e1, e2, e3⟩, f0, f1, f2, f3⟩ := (B0.1.q q1).get4
  clear B0 q1 ho
  go_wp2_with fail
  refine (open_any nm A1 n c1 room fuse false l _ HO.out.files HN.out).mono ?_
  rintro e w2 ⟨rfl, q2⟩
  rw [HOP.out]
  have HO2 := Lib.hid (HO.out.q q2)
  have Q2 := Lib.hid (Q1.out.trans q2)
  have z0 : w.heap.size < w2.heap.size := (D1.out.q q2).lt
  have z1 : w.heap.size + 1 < w2.heap.size := (R1.out.q q2).lt
  have z2 : w.heap.size ≠ w2.heap.size := by omega
  have z3 : w.heap.size + 1 ≠ w2.heap.size := by omega
  have D2 := Lib.hid (D1.out.q q2)
  have R2 := Lib.hid (R1.out.q q2)
  obtain ⟨⟨d0, d1, d2, d3⟩, g0, g1, g2, g3⟩ := (D1.out.q q2).get4
  obtain ⟨⟨s0, s1, s2, s3⟩, h0, h1, h2, h3⟩ := (R1.out.q q2).get4
  clear q2 e0 e1 e2 e3 f0 f1 f2 f3
  go_wp2_with fail
  refine (named_any nm _).mono ?_
  rintro e w' ⟨rfl, rfl⟩
  rw [HNM.out]
  go_wp2_with fail
  have F2 := Bx.new w2 [.string fa, .string fb, .string fc] 29
  refine (size_any ⟨fa, fb, fc⟩ _ (by unfold maxLen; show fb.size + fc.size ≤ _; omega)).mono ?_
  rintro e w3 ⟨rfl, q3⟩
  simp only
  have HO3 := Lib.hid ((HO2.out.alloc _).q q3)
  have Q3 := Lib.hid ((Q2.out.alloc _).trans q3)
  have D3 := Lib.hid ((D2.out.alloc _).q q3)
  have R3 := Lib.hid ((R2.out.alloc _).q q3)
  have F3 := Lib.hid (F2.q q3)
  have y0 : w2.heap.size < w3.heap.size := F3.out.lt
  clear d0 d1 d2 d3 g0 g1 g2 g3 s0 s1 s2 s3 h0 h1 h2 h3 F2 q3
  obtain ⟨⟨d0, d1, d2, d3⟩, g0, g1, g2, g3⟩ := D3.out.get4
  obtain ⟨⟨s0, s1, s2, s3⟩, h0, h1, h2, h3⟩ := R3.out.get4
  obtain ⟨⟨t0, t1, t2⟩, u0, u1, u2⟩ := F3.out.get3
  go_wp2_with fail
  refine (set_mid (w.heap.size + 2) A1 n c1 k ⟨fa, fb, fc ++ s⟩ l _ (Own.setNew HO2.out HO3.out (p := ⟨w2.heap.size, 2, none⟩) (Nat.le_refl _) _) hkn).mono ?_
  rintro e w4 ⟨rfl, ho4, b4⟩
  have HO4 := Lib.hid ho4
  have Q4 := Lib.hid (show Q w w4 from (Q3.out.setCell (p := ⟨w2.heap.size, 2, none⟩) (by show w.heap.size ≤ w2.heap.size; omega) _).below.trans (b4.mono (by omega)))
  have D4 := (D3.out.far (p := ⟨w2.heap.size, 2, none⟩) (by show w2.heap.size ≠ w.heap.size; omega) _).below b4 (by omega)
  have R4 := (R3.out.far (p := ⟨w2.heap.size, 2, none⟩) (by show w2.heap.size ≠ w.heap.size + 1; omega) _).below b4 (by omega)
  clear ho4 b4 d0 d1 d2 d3 g0 g1 g2 g3 s0 s1 s2 s3 h0 h1 h2 h3 t0 t1 t2 u0 u1 u2
  obtain ⟨⟨d0, d1, d2, d3⟩, g0, g1, g2, g3⟩ := D4.get4
  obtain ⟨⟨s0, s1, s2, s3⟩, h0, h1, h2, h3⟩ := R4.get4
  clear D4 R4
  go_wp2
  refine bodyPost_ret (v := .tuple #[dkv A1 n c1 (room - (s).size) (fuse) false, .int .i64 0]) (by simp [results, Try.results12, go_sem, s0, s1, s2, s3]) rfl ⟨A1, n, c1, rfl, ?_, ?_⟩
  · exact (((HO4.out.setCell (p := ⟨w.heap.size, 0, none⟩) (by simp) _).setCell (p := ⟨w.heap.size, 1, none⟩) (by simp) _).set4 (b := w.heap.size + 1) (by omega) _ _ _ _).lower (by omega)
  · exact ((Q4.out.setCell (p := ⟨w.heap.size, 0, none⟩) (Nat.le_refl _) _).setCell (p := ⟨w.heap.size, 1, none⟩) (Nat.le_refl _) _).set4 (b := w.heap.size + 1) (by omega) _ _ _ _

set_option maxHeartbeats 1000000 in
set_option maxRecDepth 100000 in
theorem append_done_lt_fits (nm s : ByteArray) (A : Option Addr) (n c : Nat) (room fuse : Int) (l : List Fil) (w : World) (hd : Dsk w A n c l) (f : Fil) (k : Nat) (hop : opn nm l = (f, k)) (hk : k ≤ n) (hf : f.sf.size + f.wt.size ≤ 2305843009213693952) (hs : s.size ≤ 2305843009213693952) (hn : nmOk nm = true) (hkn : k < n) (hr : (s.size : Int) ≤ room) (hr2 : room ≤ 9223372036854775807) (hb : f.sf.size + f.wt.size + s.size ≤ 65536) (hz : (s.size : Int) ≤ fuse) (hz2 : fuse ≤ 9223372036854775807) :
    Calls Try.prog 12 #[dkv A n c room fuse false, .string nm, .string s] w fun e w' => RetDE w ⟨l.set k ⟨f.nm, f.sf, f.wt ++ s⟩, room - (s).size, fuse - s.size, false⟩ 0 e w' := by
  have k1 : ((k : Int) == (n : Int)) = false := by simp; omega
  have k2 : (k == n) = false := by simp; omega
  have HNM := Lib.hid hn
  clear hn
  have HD := Lib.hid hd
  have HN := Lib.hid hd.max
  have hlen := Lib.hid hd.len
  have hnm := hd.max
  unfold maxLen at hnm
  have HOP := Lib.hid hop
  clear hd hop
  obtain ⟨fa, fb, fc⟩ := f
  simp only at hf hb
  show Calls _ _ _ _ fun e w' => RetDE w ⟨l.set k ⟨fa, fb, fc ++ s⟩, room - (s).size, fuse - s.size, false⟩ 0 e w'
  go_enter Try.func12, Try.ntmps12
  go_wp2_with fail
  have B0 := two_new w (.slice A n c) (.int .i64 room) (.int .i64 fuse) (.bool false) (.slice none 0 0) (.int .i64 0) (.int .i64 0) (.bool false) 24
  refine (own_any A n c room fuse false l _ (HD.out.q (((Q.refl _).alloc _).alloc _))).mono ?_
  rintro e w1 ⟨A1, c1, rfl, ho, q1⟩
  rw [size_two] at ho
  have HO := Lib.hid (ho.set4 (b := w.heap.size) (by omega) (.slice A1 n c1) (.int .i64 room) (.int .i64 fuse) (.bool false))
  have D1 := Lib.hid ((B0.1.q q1).put4 (.slice A1 n c1) (.int .i64 room) (.int .i64 fuse) (.bool false))
  have R1 := Lib.hid ((B0.2.q q1).far4 (c := w.heap.size) (by omega) (.slice A1 n c1) (.int .i64 room) (.int .i64 fuse) (.bool false))
  have Q1 := Lib.hid ((((((Q.refl w).alloc _).alloc _).trans q1)).set4 (b := w.heap.size) (Nat.le_refl _) (.slice A1 n c1) (.int .i64 room) (.int .i64 fuse) (.bool false))
  obtain ⟨⟨e0, e1, e2, e3⟩, f0, f1, f2, f3⟩ := (B0.1.q q1).get4
  clear B0 q1 ho
  go_wp2_with fail
  refine (open_any nm A1 n c1 room fuse false l _ HO.out.files HN.out).mono ?_
  rintro e w2 ⟨rfl, q2⟩
  rw [HOP.out]
  have HO2 := Lib.hid (HO.out.q q2)
  have Q2 := Lib.hid (Q1.out.trans q2)
  have z0 : w.heap.size < w2.heap.size := (D1.out.q q2).lt
  have z1 : w.heap.size + 1 < w2.heap.size := (R1.out.q q2).lt
  have z2 : w.heap.size ≠ w2.heap.size := by omega
  have z3 : w.heap.size + 1 ≠ w2.heap.size := by omega
  have D2 := Lib.hid (D1.out.q q2)
  have R2 := Lib.hid (R1.out.q q2)
  obtain ⟨⟨d0, d1, d2, d3⟩, g0, g1, g2, g3⟩ := (D1.out.q q2).get4
  obtain ⟨⟨s0, s1, s2, s3⟩, h0, h1, h2, h3⟩ := (R1.out.q q2).get4
  clear q2 e0 e1 e2 e3 f0 f1 f2 f3
  go_wp2_with fail
  refine (named_any nm _).mono ?_
  rintro e w' ⟨rfl, rfl⟩
  rw [HNM.out]
  go_wp2_with fail
  have F2 := Bx.new w2 [.string fa, .string fb, .string fc] 29
  refine (size_any ⟨fa, fb, fc⟩ _ (by unfold maxLen; show fb.size + fc.size ≤ _; omega)).mono ?_
  rintro e w3 ⟨rfl, q3⟩
  simp only
  have HO3 := Lib.hid ((HO2.out.alloc _).q q3)
  have Q3 := Lib.hid ((Q2.out.alloc _).trans q3)
  have D3 := Lib.hid ((D2.out.alloc _).q q3)
  have R3 := Lib.hid ((R2.out.alloc _).q q3)
  have F3 := Lib.hid (F2.q q3)
  have y0 : w2.heap.size < w3.heap.size := F3.out.lt
  clear d0 d1 d2 d3 g0 g1 g2 g3 s0 s1 s2 s3 h0 h1 h2 h3 F2 q3
  obtain ⟨⟨d0, d1, d2, d3⟩, g0, g1, g2, g3⟩ := D3.out.get4
  obtain ⟨⟨s0, s1, s2, s3⟩, h0, h1, h2, h3⟩ := R3.out.get4
  obtain ⟨⟨t0, t1, t2⟩, u0, u1, u2⟩ := F3.out.get3
  go_wp2_with fail
  refine (set_mid (w.heap.size + 2) A1 n c1 k ⟨fa, fb, fc ++ s⟩ l _ (Own.setNew HO2.out HO3.out (p := ⟨w2.heap.size, 2, none⟩) (Nat.le_refl _) _) hkn).mono ?_
  rintro e w4 ⟨rfl, ho4, b4⟩
  have HO4 := Lib.hid ho4
  have Q4 := Lib.hid (show Q w w4 from (Q3.out.setCell (p := ⟨w2.heap.size, 2, none⟩) (by show w.heap.size ≤ w2.heap.size; omega) _).below.trans (b4.mono (by omega)))
  have D4 := (D3.out.far (p := ⟨w2.heap.size, 2, none⟩) (by show w2.heap.size ≠ w.heap.size; omega) _).below b4 (by omega)
  have R4 := (R3.out.far (p := ⟨w2.heap.size, 2, none⟩) (by show w2.heap.size ≠ w.heap.size + 1; omega) _).below b4 (by omega)
  clear ho4 b4 d0 d1 d2 d3 g0 g1 g2 g3 s0 s1 s2 s3 h0 h1 h2 h3 t0 t1 t2 u0 u1 u2
  obtain ⟨⟨d0, d1, d2, d3⟩, g0, g1, g2, g3⟩ := D4.get4
  obtain ⟨⟨s0, s1, s2, s3⟩, h0, h1, h2, h3⟩ := R4.get4
  clear D4 R4
  go_wp2
  refine bodyPost_ret (v := .tuple #[dkv A1 n c1 (room - (s).size) (fuse - s.size) false, .int .i64 0]) (by simp [results, Try.results12, go_sem, s0, s1, s2, s3]) rfl ⟨A1, n, c1, rfl, ?_, ?_⟩
  · exact ((((HO4.out.setCell (p := ⟨w.heap.size, 0, none⟩) (by simp) _).setCell (p := ⟨w.heap.size, 1, none⟩) (by simp) _).setCell (p := ⟨w.heap.size, 2, none⟩) (by simp) _).set4 (b := w.heap.size + 1) (by omega) _ _ _ _).lower (by omega)
  · exact (((Q4.out.setCell (p := ⟨w.heap.size, 0, none⟩) (Nat.le_refl _) _).setCell (p := ⟨w.heap.size, 1, none⟩) (Nat.le_refl _) _).setCell (p := ⟨w.heap.size, 2, none⟩) (Nat.le_refl _) _).set4 (b := w.heap.size + 1) (by omega) _ _ _ _

end Go.Proofs.Ytpjadjbniddmgaa
