/- DiskAppend3, DiskAppend4, DiskAppend5, DiskShown, DiskDoes, DiskDoes2, DiskInv, WalDisk, DiskApart, DiskWhole, DiskUniq, WalLastM, WalLastR, WalLastI, Frame, Flat, Kind, KindIn, WalActIn, Tab: merged. -/
import Derived.Test.YtncippafbohgbaaDoorW2
import Derived.Test.YtncippafbohgbaaDoorW1
import Derived.SizedLaws
import Derived.Carry
import Derived.Deep.Slices
import Derived.ChangeMaps5
import Derived.Maps.AppendAt
import Derived.Laws.AppendOwnNone
import Derived.Lib.LaidTab
import Derived.Lib.AppendIntMem
/- Contract: Append, what is done. -/
namespace Go.Proofs.YtncippafbohgbaaDoor
set_option maxRecDepth 100000
open Go.RowKit Dkm
set_option linter.unusedVariables false

set_option maxHeartbeats 1000000 in
set_option maxRecDepth 100000 in
theorem append_done_eq_neg (nm s : ByteArray) (A : Option Addr) (n c : Nat) (room fuse : Int) (l : List Fil) (w : World) (hd : Dsk w A n c l) (f : Fil) (k : Nat) (hop : opn nm l = (f, k)) (hk : k ≤ n) (hf : f.sf.size + f.wt.size ≤ 2305843009213693952) (hs : s.size ≤ 2305843009213693952) (hn : nmOk nm = true) (hkn : k = n) (h64 : n < 64) (hr : (s.size : Int) ≤ room) (hr2 : room ≤ 9223372036854775807) (hb : f.sf.size + f.wt.size + s.size ≤ 65536) (hz : fuse < 0) :
    Calls Tryd.prog 22 #[dkv A n c room fuse false, .string nm, .string s] w fun e w' => RetDE w ⟨l ++ [⟨f.nm, f.sf, f.wt ++ s⟩], room - (s).size, fuse, false⟩ 0 e w' := by
  have hkn2 : n = k := hkn.symm
  subst hkn2
  clear hkn
  have HNM := Lib.hid hn
  clear hn
  have HD := Lib.hid hd
  have HN := Lib.hid hd.max
  have hlen := Lib.hid hd.len
  have hnm := hd.max
  unfold maxLen at hnm
  have HOP := Lib.hid hop
  clear hd hop
  obtain ⟨fa, fb, fc⟩ := f
  simp only at hf hb
  show Calls _ _ _ _ fun e w' => RetDE w ⟨l ++ [⟨fa, fb, fc ++ s⟩], room - (s).size, fuse, false⟩ 0 e w'
  go_enter Tryd.func22, Tryd.ntmps22
  go_wp2_with fail
  have B0 := two_new w (.slice A n c) (.int .i64 room) (.int .i64 fuse) (.bool false) (.slice none 0 0) (.int .i64 0) (.int .i64 0) (.bool false) 26
  refine (own_any A n c room fuse false l _ (HD.out.q (((Q.refl _).alloc _).alloc _))).mono ?_
  rintro e w1 ⟨A1, c1, rfl, ho, q1⟩
  rw [size_two] at ho
  have HO := Lib.hid (ho.set4 (b := w.heap.size) (by omega) (.slice A1 n c1) (.int .i64 room) (.int .i64 fuse) (.bool false))
  have D1 := Lib.hid ((B0.1.q q1).put4 (.slice A1 n c1) (.int .i64 room) (.int .i64 fuse) (.bool false))
  have R1 := Lib.hid ((B0.2.q q1).far4 (c := w.heap.size) (by omega) (.slice A1 n c1) (.int .i64 room) (.int .i64 fuse) (.bool false))
  have Q1 := Lib.hid ((((((Q.refl w).alloc _).alloc _).trans q1)).set4 (b := w.heap.size) (Nat.le_refl _) (.slice A1 n c1) (.int .i64 room) (.int .i64 fuse) (.bool false))
  obtain ⟨⟨e0, e1, e2, e3⟩, f0, f1, f2, f3⟩ := (B0.1.q q1).get4
  clear B0 q1 ho
  go_wp2_with fail
  refine (open_any nm A1 n c1 room fuse false l _ HO.out.files HN.out).mono ?_
  rintro e w2 ⟨rfl, q2⟩
  rw [HOP.out]
  have HO2 := Lib.hid (HO.out.q q2)
  have Q2 := Lib.hid (Q1.out.trans q2)
  have z0 : w.heap.size < w2.heap.size := (D1.out.q q2).lt
  have z1 : w.heap.size + 1 < w2.heap.size := (R1.out.q q2).lt
  have z2 : w.heap.size ≠ w2.heap.size := by omega
  have z3 : w.heap.size + 1 ≠ w2.heap.size := by omega
  have D2 := Lib.hid (D1.out.q q2)
  have R2 := Lib.hid (R1.out.q q2)
  obtain ⟨⟨d0, d1, d2, d3⟩, g0, g1, g2, g3⟩ := (D1.out.q q2).get4
  obtain ⟨⟨s0, s1, s2, s3⟩, h0, h1, h2, h3⟩ := (R1.out.q q2).get4
  clear q2 e0 e1 e2 e3 f0 f1 f2 f3
  go_wp2_with fail
  refine (named_any nm _).mono ?_
  rintro e w' ⟨rfl, rfl⟩
  rw [HNM.out]
  go_wp2_with fail
  have F2 := Bx.new w2 [.string fa, .string fb, .string fc] 57
  refine (size_any ⟨fa, fb, fc⟩ _ (by unfold maxLen; show fb.size + fc.size ≤ _; omega)).mono ?_
  rintro e w3 ⟨rfl, q3⟩
  simp only
  have HO3 := Lib.hid ((HO2.out.alloc _).q q3)
  have Q3 := Lib.hid ((Q2.out.alloc _).trans q3)
  have D3 := Lib.hid ((D2.out.alloc _).q q3)
  have R3 := Lib.hid ((R2.out.alloc _).q q3)
  have F3 := Lib.hid (F2.q q3)
  have y0 : w2.heap.size < w3.heap.size := F3.out.lt
  clear d0 d1 d2 d3 g0 g1 g2 g3 s0 s1 s2 s3 h0 h1 h2 h3 F2 q3
  obtain ⟨⟨d0, d1, d2, d3⟩, g0, g1, g2, g3⟩ := D3.out.get4
  obtain ⟨⟨s0, s1, s2, s3⟩, h0, h1, h2, h3⟩ := R3.out.get4
  obtain ⟨⟨t0, t1, t2⟩, u0, u1, u2⟩ := F3.out.get3
  go_wp2_with fail
  refine (set_end (w.heap.size + 2) A1 n c1 ⟨fa, fb, fc ++ s⟩ l _ (Own.setNew HO2.out HO3.out (p := ⟨w2.heap.size, 2, none⟩) (Nat.le_refl _) _) (by omega) (by show w.heap.size + 2 ≤ (w3.setCell _ _).heap.size; simp; omega)).mono ?_
  rintro e w4 ⟨A4, c4, rfl, ho4, b4⟩
  have HO4 := Lib.hid ho4
  have Q4 := Lib.hid (show Q w w4 from (Q3.out.setCell (p := ⟨w2.heap.size, 2, none⟩) (by show w.heap.size ≤ w2.heap.size; omega) _).below.trans (b4.mono (by omega)))
  have D4 := (D3.out.far (p := ⟨w2.heap.size, 2, none⟩) (by show w2.heap.size ≠ w.heap.size; omega) _).below b4 (by omega)
  have R4 := (R3.out.far (p := ⟨w2.heap.size, 2, none⟩) (by show w2.heap.size ≠ w.heap.size + 1; omega) _).below b4 (by omega)
  clear ho4 b4 d0 d1 d2 d3 g0 g1 g2 g3 s0 s1 s2 s3 h0 h1 h2 h3 t0 t1 t2 u0 u1 u2
  obtain ⟨⟨d0, d1, d2, d3⟩, g0, g1, g2, g3⟩ := D4.get4
  obtain ⟨⟨s0, s1, s2, s3⟩, h0, h1, h2, h3⟩ := R4.get4
  clear D4 R4
  go_wp2
  refine bodyPost_ret (v := .tuple #[dkv A4 (n + 1) c4 (room - (s).size) (fuse) false, .int .i64 0]) (by simp [results, Tryd.results22, go_sem, s0, s1, s2, s3]) rfl ⟨A4, (n + 1), c4, rfl, ?_, ?_⟩
  · exact (((HO4.out.setCell (p := ⟨w.heap.size, 0, none⟩) (by simp) _).setCell (p := ⟨w.heap.size, 1, none⟩) (by simp) _).set4 (b := w.heap.size + 1) (by omega) _ _ _ _).lower (by omega)
  · exact ((Q4.out.setCell (p := ⟨w.heap.size, 0, none⟩) (Nat.le_refl _) _).setCell (p := ⟨w.heap.size, 1, none⟩) (Nat.le_refl _) _).set4 (b := w.heap.size + 1) (by omega) _ _ _ _

set_option maxHeartbeats 1000000 in
set_option maxRecDepth 100000 in
theorem append_done_eq_fits (nm s : ByteArray) (A : Option Addr) (n c : Nat) (room fuse : Int) (l : List Fil) (w : World) (hd : Dsk w A n c l) (f : Fil) (k : Nat) (hop : opn nm l = (f, k)) (hk : k ≤ n) (hf : f.sf.size + f.wt.size ≤ 2305843009213693952) (hs : s.size ≤ 2305843009213693952) (hn : nmOk nm = true) (hkn : k = n) (h64 : n < 64) (hr : (s.size : Int) ≤ room) (hr2 : room ≤ 9223372036854775807) (hb : f.sf.size + f.wt.size + s.size ≤ 65536) (hz : (s.size : Int) ≤ fuse) (hz2 : fuse ≤ 9223372036854775807) :
    Calls Tryd.prog 22 #[dkv A n c room fuse false, .string nm, .string s] w fun e w' => RetDE w ⟨l ++ [⟨f.nm, f.sf, f.wt ++ s⟩], room - (s).size, fuse - s.size, false⟩ 0 e w' := by
  have hkn2 : n = k := hkn.symm
  subst hkn2
  clear hkn
  have HNM := Lib.hid hn
  clear hn
  have HD := Lib.hid hd
  have HN := Lib.hid hd.max
  have hlen := Lib.hid hd.len
  have hnm := hd.max
  unfold maxLen at hnm
  have HOP := Lib.hid hop
  clear hd hop
  obtain ⟨fa, fb, fc⟩ := f
  simp only at hf hb
  show Calls _ _ _ _ fun e w' => RetDE w ⟨l ++ [⟨fa, fb, fc ++ s⟩], room - (s).size, fuse - s.size, false⟩ 0 e w'
  go_enter Tryd.func22, Tryd.ntmps22
  go_wp2_with fail
  have B0 := two_new w (.slice A n c) (.int .i64 room) (.int .i64 fuse) (.bool false) (.slice none 0 0) (.int .i64 0) (.int .i64 0) (.bool false) 26
  refine (own_any A n c room fuse false l _ (HD.out.q (((Q.refl _).alloc _).alloc _))).mono ?_
  rintro e w1 ⟨A1, c1, rfl, ho, q1⟩
  rw [size_two] at ho
  have HO := Lib.hid (ho.set4 (b := w.heap.size) (by omega) (.slice A1 n c1) (.int .i64 room) (.int .i64 fuse) (.bool false))
  have D1 := Lib.hid ((B0.1.q q1).put4 (.slice A1 n c1) (.int .i64 room) (.int .i64 fuse) (.bool false))
  have R1 := Lib.hid ((B0.2.q q1).far4 (c := w.heap.size) (by omega) (.slice A1 n c1) (.int .i64 room) (.int .i64 fuse) (.bool false))
  have Q1 := Lib.hid ((((((Q.refl w).alloc _).alloc _).trans q1)).set4 (b := w.heap.size) (Nat.le_refl _) (.slice A1 n c1) (.int .i64 room) (.int .i64 fuse) (.bool false))
  obtain ⟨⟨e0, e1, e2, e3⟩, f0, f1, f2, f3⟩ := (B0.1.q q1).get4
  clear B0 q1 ho
  go_wp2_with fail
  refine (open_any nm A1 n c1 room fuse false l _ HO.out.files HN.out).mono ?_
  rintro e w2 ⟨rfl, q2⟩
  rw [HOP.out]
  have HO2 := Lib.hid (HO.out.q q2)
  have Q2 := Lib.hid (Q1.out.trans q2)
  have z0 : w.heap.size < w2.heap.size := (D1.out.q q2).lt
  have z1 : w.heap.size + 1 < w2.heap.size := (R1.out.q q2).lt
  have z2 : w.heap.size ≠ w2.heap.size := by omega
  have z3 : w.heap.size + 1 ≠ w2.heap.size := by omega
  have D2 := Lib.hid (D1.out.q q2)
  have R2 := Lib.hid (R1.out.q q2)
  obtain ⟨⟨d0, d1, d2, d3⟩, g0, g1, g2, g3⟩ := (D1.out.q q2).get4
  obtain ⟨⟨s0, s1, s2, s3⟩, h0, h1, h2, h3⟩ := (R1.out.q q2).get4
  clear q2 e0 e1 e2 e3 f0 f1 f2 f3
  go_wp2_with fail
  refine (named_any nm _).mono ?_
  rintro e w' ⟨rfl, rfl⟩
  rw [HNM.out]
  go_wp2_with fail
  have F2 := Bx.new w2 [.string fa, .string fb, .string fc] 57
  refine (size_any ⟨fa, fb, fc⟩ _ (by unfold maxLen; show fb.size + fc.size ≤ _; omega)).mono ?_
  rintro e w3 ⟨rfl, q3⟩
  simp only
  have HO3 := Lib.hid ((HO2.out.alloc _).q q3)
  have Q3 := Lib.hid ((Q2.out.alloc _).trans q3)
  have D3 := Lib.hid ((D2.out.alloc _).q q3)
  have R3 := Lib.hid ((R2.out.alloc _).q q3)
  have F3 := Lib.hid (F2.q q3)
  have y0 : w2.heap.size < w3.heap.size := F3.out.lt
  clear d0 d1 d2 d3 g0 g1 g2 g3 s0 s1 s2 s3 h0 h1 h2 h3 F2 q3
  obtain ⟨⟨d0, d1, d2, d3⟩, g0, g1, g2, g3⟩ := D3.out.get4
  obtain ⟨⟨s0, s1, s2, s3⟩, h0, h1, h2, h3⟩ := R3.out.get4
  obtain ⟨⟨t0, t1, t2⟩, u0, u1, u2⟩ := F3.out.get3
  go_wp2_with fail
  refine (set_end (w.heap.size + 2) A1 n c1 ⟨fa, fb, fc ++ s⟩ l _ (Own.setNew HO2.out HO3.out (p := ⟨w2.heap.size, 2, none⟩) (Nat.le_refl _) _) (by omega) (by show w.heap.size + 2 ≤ (w3.setCell _ _).heap.size; simp; omega)).mono ?_
  rintro e w4 ⟨A4, c4, rfl, ho4, b4⟩
  have HO4 := Lib.hid ho4
  have Q4 := Lib.hid (show Q w w4 from (Q3.out.setCell (p := ⟨w2.heap.size, 2, none⟩) (by show w.heap.size ≤ w2.heap.size; omega) _).below.trans (b4.mono (by omega)))
  have D4 := (D3.out.far (p := ⟨w2.heap.size, 2, none⟩) (by show w2.heap.size ≠ w.heap.size; omega) _).below b4 (by omega)
  have R4 := (R3.out.far (p := ⟨w2.heap.size, 2, none⟩) (by show w2.heap.size ≠ w.heap.size + 1; omega) _).below b4 (by omega)
  clear ho4 b4 d0 d1 d2 d3 g0 g1 g2 g3 s0 s1 s2 s3 h0 h1 h2 h3 t0 t1 t2 u0 u1 u2
  obtain ⟨⟨d0, d1, d2, d3⟩, g0, g1, g2, g3⟩ := D4.get4
  obtain ⟨⟨s0, s1, s2, s3⟩, h0, h1, h2, h3⟩ := R4.get4
  clear D4 R4
  go_wp2
  refine bodyPost_ret (v := .tuple #[dkv A4 (n + 1) c4 (room - (s).size) (fuse - s.size) false, .int .i64 0]) (by simp [results, Tryd.results22, go_sem, s0, s1, s2, s3]) rfl ⟨A4, (n + 1), c4, rfl, ?_, ?_⟩
  · exact ((((HO4.out.setCell (p := ⟨w.heap.size, 0, none⟩) (by simp) _).setCell (p := ⟨w.heap.size, 1, none⟩) (by simp) _).setCell (p := ⟨w.heap.size, 2, none⟩) (by simp) _).set4 (b := w.heap.size + 1) (by omega) _ _ _ _).lower (by omega)
  · exact (((Q4.out.setCell (p := ⟨w.heap.size, 0, none⟩) (Nat.le_refl _) _).setCell (p := ⟨w.heap.size, 1, none⟩) (Nat.le_refl _) _).setCell (p := ⟨w.heap.size, 2, none⟩) (Nat.le_refl _) _).set4 (b := w.heap.size + 1) (by omega) _ _ _ _

set_option maxHeartbeats 1000000 in
set_option maxRecDepth 100000 in
theorem append_done_lt_neg (nm s : ByteArray) (A : Option Addr) (n c : Nat) (room fuse : Int) (l : List Fil) (w : World) (hd : Dsk w A n c l) (f : Fil) (k : Nat) (hop : opn nm l = (f, k)) (hk : k ≤ n) (hf : f.sf.size + f.wt.size ≤ 2305843009213693952) (hs : s.size ≤ 2305843009213693952) (hn : nmOk nm = true) (hkn : k < n) (hr : (s.size : Int) ≤ room) (hr2 : room ≤ 9223372036854775807) (hb : f.sf.size + f.wt.size + s.size ≤ 65536) (hz : fuse < 0) :
    Calls Tryd.prog 22 #[dkv A n c room fuse false, .string nm, .string s] w fun e w' => RetDE w ⟨l.set k ⟨f.nm, f.sf, f.wt ++ s⟩, room - (s).size, fuse, false⟩ 0 e w' := by
  have k1 : ((k : Int) == (n : Int)) = false := by simp; omega
  have k2 : (k == n) = false := by simp; omega
  have HNM := Lib.hid hn
  clear hn
  have HD := Lib.hid hd
  have HN := Lib.hid hd.max
  have hlen := Lib.hid hd.len
  have hnm := hd.max
  unfold maxLen at hnm
  have HOP := Lib.hid hop
  clear hd hop
  obtain ⟨fa, fb, fc⟩ := f
  simp only at hf hb
  show Calls _ _ _ _ fun e w' => RetDE w ⟨l.set k ⟨fa, fb, fc ++ s⟩, room - (s).size, fuse, false⟩ 0 e w'
  go_enter Tryd.func22, Tryd.ntmps22
  go_wp2_with fail
  have B0 := two_new w (.slice A n c) (.int .i64 room) (.int .i64 fuse) (.bool false) (.slice none 0 0) (.int .i64 0) (.int .i64 0) (.bool false) 26
  refine (own_any A n c room fuse false l _ (HD.out.q (((Q.refl _).alloc _).alloc _))).mono ?_
  rintro e w1 ⟨A1, c1, rfl, ho, q1⟩
  rw [size_two] at ho
  have HO := Lib.hid (ho.set4 (b := w.heap.size) (by omega) (.slice A1 n c1) (.int .i64 room) (.int .i64 fuse) (.bool false))
  have D1 := Lib.hid ((B0.1.q q1).put4 (.slice A1 n c1) (.int .i64 room) (.int .i64 fuse) (.bool false))
  have R1 := Lib.hid ((B0.2.q q1).far4 (c := w.heap.size) (by omega) (.slice A1 n c1) (.int .i64 room) (.int .i64 fuse) (.bool false))
  have Q1 := Lib.hid ((((((Q.refl w).alloc _).alloc _).trans q1)).set4 (b := w.heap.size) (Nat.le_refl _) (.slice A1 n c1) (.int .i64 room) (.int .i64 fuse) (.bool false))
  obtain ⟨⟨e0, e1, e2, e3⟩, f0, f1, f2, f3⟩ := (B0.1.q q1).get4
  clear B0 q1 ho
  go_wp2_with fail
  refine (open_any nm A1 n c1 room fuse false l _ HO.out.files HN.out).mono ?_
  rintro e w2 ⟨rfl, q2⟩
  rw [HOP.out]
  have HO2 := Lib.hid (HO.out.q q2)
  have Q2 := Lib.hid (Q1.out.trans q2)
  have z0 : w.heap.size < w2.heap.size := (D1.out.q q2).lt
  have z1 : w.heap.size + 1 < w2.heap.size := (R1.out.q q2).lt
  have z2 : w.heap.size ≠ w2.heap.size := by omega
  have z3 : w.heap.size + 1 ≠ w2.heap.size := by omega
  have D2 := Lib.hid (D1.out.q q2)
  have R2 := Lib.hid (R1.out.q q2)
  obtain ⟨⟨d0, d1, d2, d3⟩, g0, g1, g2, g3⟩ := (D1.out.q q2).get4
  obtain ⟨⟨s0, s1, s2, s3⟩, h0, h1, h2, h3⟩ := (R1.out.q q2).get4
  clear q2 e0 e1 e2 e3 f0 f1 f2 f3
  go_wp2_with fail
  refine (named_any nm _).mono ?_
  rintro e w' ⟨rfl, rfl⟩
  rw [HNM.out]
  go_wp2_with fail
  have F2 := Bx.new w2 [.string fa, .string fb, .string fc] 57
  refine (size_any ⟨fa, fb, fc⟩ _ (by unfold maxLen; show fb.size + fc.size ≤ _; omega)).mono ?_
  rintro e w3 ⟨rfl, q3⟩
  simp only
  have HO3 := Lib.hid ((HO2.out.alloc _).q q3)
  have Q3 := Lib.hid ((Q2.out.alloc _).trans q3)
  have D3 := Lib.hid ((D2.out.alloc _).q q3)
  have R3 := Lib.hid ((R2.out.alloc _).q q3)
  have F3 := Lib.hid (F2.q q3)
  have y0 : w2.heap.size < w3.heap.size := F3.out.lt
  clear d0 d1 d2 d3 g0 g1 g2 g3 s0 s1 s2 s3 h0 h1 h2 h3 F2 q3
  obtain ⟨⟨d0, d1, d2, d3⟩, g0, g1, g2, g3⟩ := D3.out.get4
  obtain ⟨⟨s0, s1, s2, s3⟩, h0, h1, h2, h3⟩ := R3.out.get4
  obtain ⟨⟨t0, t1, t2⟩, u0, u1, u2⟩ := F3.out.get3
  go_wp2_with fail
  refine (set_mid (w.heap.size + 2) A1 n c1 k ⟨fa, fb, fc ++ s⟩ l _ (Own.setNew HO2.out HO3.out (p := ⟨w2.heap.size, 2, none⟩) (Nat.le_refl _) _) hkn).mono ?_
  rintro e w4 ⟨rfl, ho4, b4⟩
  have HO4 := Lib.hid ho4
  have Q4 := Lib.hid (show Q w w4 from (Q3.out.setCell (p := ⟨w2.heap.size, 2, none⟩) (by show w.heap.size ≤ w2.heap.size; omega) _).below.trans (b4.mono (by omega)))
  have D4 := (D3.out.far (p := ⟨w2.heap.size, 2, none⟩) (by show w2.heap.size ≠ w.heap.size; omega) _).below b4 (by omega)
  have R4 := (R3.out.far (p := ⟨w2.heap.size, 2, none⟩) (by show w2.heap.size ≠ w.heap.size + 1; omega) _).below b4 (by omega)
  clear ho4 b4 d0 d1 d2 d3 g0 g1 g2 g3 s0 s1 s2 s3 h0 h1 h2 h3 t0 t1 t2 u0 u1 u2
  obtain ⟨⟨d0, d1, d2, d3⟩, g0, g1, g2, g3⟩ := D4.get4
  obtain ⟨⟨s0, s1, s2, s3⟩, h0, h1, h2, h3⟩ := R4.get4
  clear D4 R4
  go_wp2
  refine bodyPost_ret (v := .tuple #[dkv A1 n c1 (room - (s).size) (fuse) false, .int .i64 0]) (by simp [results, Tryd.results22, go_sem, s0, s1, s2, s3]) rfl ⟨A1, n, c1, rfl, ?_, ?_⟩
  · exact (((HO4.out.setCell (p := ⟨w.heap.size, 0, none⟩) (by simp) _).setCell (p := ⟨w.heap.size, 1, none⟩) (by simp) _).set4 (b := w.heap.size + 1) (by omega) _ _ _ _).lower (by omega)
  · exact ((Q4.out.setCell (p := ⟨w.heap.size, 0, none⟩) (Nat.le_refl _) _).setCell (p := ⟨w.heap.size, 1, none⟩) (Nat.le_refl _) _).set4 (b := w.heap.size + 1) (by omega) _ _ _ _

set_option maxHeartbeats 1000000 in
set_option maxRecDepth 100000 in
theorem append_done_lt_fits (nm s : ByteArray) (A : Option Addr) (n c : Nat) (room fuse : Int) (l : List Fil) (w : World) (hd : Dsk w A n c l) (f : Fil) (k : Nat) (hop : opn nm l = (f, k)) (hk : k ≤ n) (hf : f.sf.size + f.wt.size ≤ 2305843009213693952) (hs : s.size ≤ 2305843009213693952) (hn : nmOk nm = true) (hkn : k < n) (hr : (s.size : Int) ≤ room) (hr2 : room ≤ 9223372036854775807) (hb : f.sf.size + f.wt.size + s.size ≤ 65536) (hz : (s.size : Int) ≤ fuse) (hz2 : fuse ≤ 9223372036854775807) :
    Calls Tryd.prog 22 #[dkv A n c room fuse false, .string nm, .string s] w fun e w' => RetDE w ⟨l.set k ⟨f.nm, f.sf, f.wt ++ s⟩, room - (s).size, fuse - s.size, false⟩ 0 e w' := by
  have k1 : ((k : Int) == (n : Int)) = false := by simp; omega
  have k2 : (k == n) = false := by simp; omega
  have HNM := Lib.hid hn
  clear hn
  have HD := Lib.hid hd
  have HN := Lib.hid hd.max
  have hlen := Lib.hid hd.len
  have hnm := hd.max
  unfold maxLen at hnm
  have HOP := Lib.hid hop
  clear hd hop
  obtain ⟨fa, fb, fc⟩ := f
  simp only at hf hb
  show Calls _ _ _ _ fun e w' => RetDE w ⟨l.set k ⟨fa, fb, fc ++ s⟩, room - (s).size, fuse - s.size, false⟩ 0 e w'
  go_enter Tryd.func22, Tryd.ntmps22
  go_wp2_with fail
  have B0 := two_new w (.slice A n c) (.int .i64 room) (.int .i64 fuse) (.bool false) (.slice none 0 0) (.int .i64 0) (.int .i64 0) (.bool false) 26
  refine (own_any A n c room fuse false l _ (HD.out.q (((Q.refl _).alloc _).alloc _))).mono ?_
  rintro e w1 ⟨A1, c1, rfl, ho, q1⟩
  rw [size_two] at ho
  have HO := Lib.hid (ho.set4 (b := w.heap.size) (by omega) (.slice A1 n c1) (.int .i64 room) (.int .i64 fuse) (.bool false))
  have D1 := Lib.hid ((B0.1.q q1).put4 (.slice A1 n c1) (.int .i64 room) (.int .i64 fuse) (.bool false))
  have R1 := Lib.hid ((B0.2.q q1).far4 (c := w.heap.size) (by omega) (.slice A1 n c1) (.int .i64 room) (.int .i64 fuse) (.bool false))
  have Q1 := Lib.hid ((((((Q.refl w).alloc _).alloc _).trans q1)).set4 (b := w.heap.size) (Nat.le_refl _) (.slice A1 n c1) (.int .i64 room) (.int .i64 fuse) (.bool false))
  obtain ⟨⟨e0, e1, e2, e3⟩, f0, f1, f2, f3⟩ := (B0.1.q q1).get4
  clear B0 q1 ho
  go_wp2_with fail
  refine (open_any nm A1 n c1 room fuse false l _ HO.out.files HN.out).mono ?_
  rintro e w2 ⟨rfl, q2⟩
  rw [HOP.out]
  have HO2 := Lib.hid (HO.out.q q2)
  have Q2 := Lib.hid (Q1.out.trans q2)
  have z0 : w.heap.size < w2.heap.size := (D1.out.q q2).lt
  have z1 : w.heap.size + 1 < w2.heap.size := (R1.out.q q2).lt
  have z2 : w.heap.size ≠ w2.heap.size := by omega
  have z3 : w.heap.size + 1 ≠ w2.heap.size := by omega
  have D2 := Lib.hid (D1.out.q q2)
  have R2 := Lib.hid (R1.out.q q2)
  obtain ⟨⟨d0, d1, d2, d3⟩, g0, g1, g2, g3⟩ := (D1.out.q q2).get4
  obtain ⟨⟨s0, s1, s2, s3⟩, h0, h1, h2, h3⟩ := (R1.out.q q2).get4
  clear q2 e0 e1 e2 e3 f0 f1 f2 f3
  go_wp2_with fail
  refine (named_any nm _).mono ?_
  rintro e w' ⟨rfl, rfl⟩
  rw [HNM.out]
  go_wp2_with fail
  have F2 := Bx.new w2 [.string fa, .string fb, .string fc] 57
  refine (size_any ⟨fa, fb, fc⟩ _ (by unfold maxLen; show fb.size + fc.size ≤ _; omega)).mono ?_
  rintro e w3 ⟨rfl, q3⟩
  simp only
  have HO3 := Lib.hid ((HO2.out.alloc _).q q3)
  have Q3 := Lib.hid ((Q2.out.alloc _).trans q3)
  have D3 := Lib.hid ((D2.out.alloc _).q q3)
  have R3 := Lib.hid ((R2.out.alloc _).q q3)
  have F3 := Lib.hid (F2.q q3)
  have y0 : w2.heap.size < w3.heap.size := F3.out.lt
  clear d0 d1 d2 d3 g0 g1 g2 g3 s0 s1 s2 s3 h0 h1 h2 h3 F2 q3
  obtain ⟨⟨d0, d1, d2, d3⟩, g0, g1, g2, g3⟩ := D3.out.get4
  obtain ⟨⟨s0, s1, s2, s3⟩, h0, h1, h2, h3⟩ := R3.out.get4
  obtain ⟨⟨t0, t1, t2⟩, u0, u1, u2⟩ := F3.out.get3
  go_wp2_with fail
  refine (set_mid (w.heap.size + 2) A1 n c1 k ⟨fa, fb, fc ++ s⟩ l _ (Own.setNew HO2.out HO3.out (p := ⟨w2.heap.size, 2, none⟩) (Nat.le_refl _) _) hkn).mono ?_
  rintro e w4 ⟨rfl, ho4, b4⟩
  have HO4 := Lib.hid ho4
  have Q4 := Lib.hid (show Q w w4 from (Q3.out.setCell (p := ⟨w2.heap.size, 2, none⟩) (by show w.heap.size ≤ w2.heap.size; omega) _).below.trans (b4.mono (by omega)))
  have D4 := (D3.out.far (p := ⟨w2.heap.size, 2, none⟩) (by show w2.heap.size ≠ w.heap.size; omega) _).below b4 (by omega)
  have R4 := (R3.out.far (p := ⟨w2.heap.size, 2, none⟩) (by show w2.heap.size ≠ w.heap.size + 1; omega) _).below b4 (by omega)
  clear ho4 b4 d0 d1 d2 d3 g0 g1 g2 g3 s0 s1 s2 s3 h0 h1 h2 h3 t0 t1 t2 u0 u1 u2
  obtain ⟨⟨d0, d1, d2, d3⟩, g0, g1, g2, g3⟩ := D4.get4
  obtain ⟨⟨s0, s1, s2, s3⟩, h0, h1, h2, h3⟩ := R4.get4
  clear D4 R4
  go_wp2
  refine bodyPost_ret (v := .tuple #[dkv A1 n c1 (room - (s).size) (fuse - s.size) false, .int .i64 0]) (by simp [results, Tryd.results22, go_sem, s0, s1, s2, s3]) rfl ⟨A1, n, c1, rfl, ?_, ?_⟩
  · exact ((((HO4.out.setCell (p := ⟨w.heap.size, 0, none⟩) (by simp) _).setCell (p := ⟨w.heap.size, 1, none⟩) (by simp) _).setCell (p := ⟨w.heap.size, 2, none⟩) (by simp) _).set4 (b := w.heap.size + 1) (by omega) _ _ _ _).lower (by omega)
  · exact (((Q4.out.setCell (p := ⟨w.heap.size, 0, none⟩) (Nat.le_refl _) _).setCell (p := ⟨w.heap.size, 1, none⟩) (Nat.le_refl _) _).setCell (p := ⟨w.heap.size, 2, none⟩) (Nat.le_refl _) _).set4 (b := w.heap.size + 1) (by omega) _ _ _ _

end Go.Proofs.YtncippafbohgbaaDoor

/- Contract: Append, cut by the fuse; and all cases together. -/
namespace Go.Proofs.YtncippafbohgbaaDoor
set_option maxRecDepth 100000
open Go.RowKit Dkm
set_option linter.unusedVariables false

set_option maxHeartbeats 1000000 in
set_option maxRecDepth 100000 in
theorem append_short_eq (nm s : ByteArray) (A : Option Addr) (n c : Nat) (room fuse : Int) (l : List Fil) (w : World) (hd : Dsk w A n c l) (f : Fil) (k : Nat) (hop : opn nm l = (f, k)) (hk : k ≤ n) (hf : f.sf.size + f.wt.size ≤ 2305843009213693952) (hs : s.size ≤ 2305843009213693952) (hn : nmOk nm = true) (hkn : k = n) (h64 : n < 64) (hr : (s.size : Int) ≤ room) (hr2 : room ≤ 9223372036854775807) (hb : f.sf.size + f.wt.size + s.size ≤ 65536) (q : Nat) (hq : fuse = q) (hz : q < s.size) :
    Calls Tryd.prog 22 #[dkv A n c room fuse false, .string nm, .string s] w fun e w' => RetDE w ⟨l ++ [⟨f.nm, f.sf, f.wt ++ s.extract 0 q⟩], room - (s.extract 0 q).size, (q : Int) - (s.extract 0 q).size, true⟩ 6 e w' := by
  subst hq
  have hkn2 : n = k := hkn.symm
  subst hkn2
  clear hkn
  have HNM := Lib.hid hn
  clear hn
  have hx1 : (s.extract 0 q).size ≤ q := by simp; omega
  have hx2 : (s.extract 0 q).size ≤ s.size := by simp; omega
  have HD := Lib.hid hd
  have HN := Lib.hid hd.max
  have hlen := Lib.hid hd.len
  have hnm := hd.max
  unfold maxLen at hnm
  have HOP := Lib.hid hop
  clear hd hop
  obtain ⟨fa, fb, fc⟩ := f
  simp only at hf hb
  show Calls _ _ _ _ fun e w' => RetDE w ⟨l ++ [⟨fa, fb, fc ++ s.extract 0 q⟩], room - (s.extract 0 q).size, (q : Int) - (s.extract 0 q).size, true⟩ 6 e w'
  go_enter Tryd.func22, Tryd.ntmps22
  go_wp2_with fail
  have B0 := two_new w (.slice A n c) (.int .i64 room) (.int .i64 (q : Int)) (.bool false) (.slice none 0 0) (.int .i64 0) (.int .i64 0) (.bool false) 26
  refine (own_any A n c room (q : Int) false l _ (HD.out.q (((Q.refl _).alloc _).alloc _))).mono ?_
  rintro e w1 ⟨A1, c1, rfl, ho, q1⟩
  rw [size_two] at ho
  have HO := Lib.hid (ho.set4 (b := w.heap.size) (by omega) (.slice A1 n c1) (.int .i64 room) (.int .i64 (q : Int)) (.bool false))
  have D1 := Lib.hid ((B0.1.q q1).put4 (.slice A1 n c1) (.int .i64 room) (.int .i64 (q : Int)) (.bool false))
  have R1 := Lib.hid ((B0.2.q q1).far4 (c := w.heap.size) (by omega) (.slice A1 n c1) (.int .i64 room) (.int .i64 (q : Int)) (.bool false))
  have Q1 := Lib.hid ((((((Q.refl w).alloc _).alloc _).trans q1)).set4 (b := w.heap.size) (Nat.le_refl _) (.slice A1 n c1) (.int .i64 room) (.int .i64 (q : Int)) (.bool false))
  obtain ⟨⟨e0, e1, e2, e3⟩, f0, f1, f2, f3⟩ := (B0.1.q q1).get4
  clear B0 q1 ho
  go_wp2_with fail
  refine (open_any nm A1 n c1 room (q : Int) false l _ HO.out.files HN.out).mono ?_
  rintro e w2 ⟨rfl, q2⟩
  rw [HOP.out]
  have HO2 := Lib.hid (HO.out.q q2)
  have Q2 := Lib.hid (Q1.out.trans q2)
  have z0 : w.heap.size < w2.heap.size := (D1.out.q q2).lt
  have z1 : w.heap.size + 1 < w2.heap.size := (R1.out.q q2).lt
  have z2 : w.heap.size ≠ w2.heap.size := by omega
  have z3 : w.heap.size + 1 ≠ w2.heap.size := by omega
  have D2 := Lib.hid (D1.out.q q2)
  have R2 := Lib.hid (R1.out.q q2)
  obtain ⟨⟨d0, d1, d2, d3⟩, g0, g1, g2, g3⟩ := (D1.out.q q2).get4
  obtain ⟨⟨s0, s1, s2, s3⟩, h0, h1, h2, h3⟩ := (R1.out.q q2).get4
  clear q2 e0 e1 e2 e3 f0 f1 f2 f3
  go_wp2_with fail
  refine (named_any nm _).mono ?_
  rintro e w' ⟨rfl, rfl⟩
  rw [HNM.out]
  go_wp2_with fail
  have F2 := Bx.new w2 [.string fa, .string fb, .string fc] 57
  refine (size_any ⟨fa, fb, fc⟩ _ (by unfold maxLen; show fb.size + fc.size ≤ _; omega)).mono ?_
  rintro e w3 ⟨rfl, q3⟩
  simp only
  have HO3 := Lib.hid ((HO2.out.alloc _).q q3)
  have Q3 := Lib.hid ((Q2.out.alloc _).trans q3)
  have D3 := Lib.hid ((D2.out.alloc _).q q3)
  have R3 := Lib.hid ((R2.out.alloc _).q q3)
  have F3 := Lib.hid (F2.q q3)
  have y0 : w2.heap.size < w3.heap.size := F3.out.lt
  clear d0 d1 d2 d3 g0 g1 g2 g3 s0 s1 s2 s3 h0 h1 h2 h3 F2 q3
  obtain ⟨⟨d0, d1, d2, d3⟩, g0, g1, g2, g3⟩ := D3.out.get4
  obtain ⟨⟨s0, s1, s2, s3⟩, h0, h1, h2, h3⟩ := R3.out.get4
  obtain ⟨⟨t0, t1, t2⟩, u0, u1, u2⟩ := F3.out.get3
  go_wp2_with fail
  refine (set_end (w.heap.size + 2) A1 n c1 ⟨fa, fb, fc ++ s.extract 0 q⟩ l _ (Own.setNew HO2.out (HO3.out.setCell (p := ⟨w.heap.size, 3, none⟩) (by simp) (.bool true)) (p := ⟨w2.heap.size, 2, none⟩) (Nat.le_refl _) _) (by omega) (by show w.heap.size + 2 ≤ ((w3.setCell _ _).setCell _ _).heap.size; simp; omega)).mono ?_
  rintro e w4 ⟨A4, c4, rfl, ho4, b4⟩
  have HO4 := Lib.hid ho4
  have Q4 := Lib.hid (show Q w w4 from ((Q3.out.setCell (p := ⟨w.heap.size, 3, none⟩) (Nat.le_refl _) _).setCell (p := ⟨w2.heap.size, 2, none⟩) (by show w.heap.size ≤ w2.heap.size; omega) _).below.trans (b4.mono (by omega)))
  have D4 := ((D3.out.set (k := 3) (by simp) (.bool true)).far (p := ⟨w2.heap.size, 2, none⟩) (by show w2.heap.size ≠ w.heap.size; omega) _).below b4 (by omega)
  have R4 := ((R3.out.far (p := ⟨w.heap.size, 3, none⟩) (by show w.heap.size ≠ w.heap.size + 1; omega) _).far (p := ⟨w2.heap.size, 2, none⟩) (by show w2.heap.size ≠ w.heap.size + 1; omega) _).below b4 (by omega)
  clear ho4 b4 d0 d1 d2 d3 g0 g1 g2 g3 s0 s1 s2 s3 h0 h1 h2 h3 t0 t1 t2 u0 u1 u2
  obtain ⟨⟨d0, d1, d2, d3⟩, g0, g1, g2, g3⟩ := Bx.get4 (x := .slice A1 n c1) (y := .int .i64 room) (z := .int .i64 (q : Int)) (u := .bool true) D4
  obtain ⟨⟨s0, s1, s2, s3⟩, h0, h1, h2, h3⟩ := R4.get4
  clear D4 R4
  go_wp2
  refine bodyPost_ret (v := .tuple #[dkv A4 (n + 1) c4 (room - (s.extract 0 q).size) ((q : Int) - (s.extract 0 q).size) true, .int .i64 6]) (by simp [results, Tryd.results22, go_sem, s0, s1, s2, s3]) rfl ⟨A4, (n + 1), c4, rfl, ?_, ?_⟩
  · exact ((((HO4.out.setCell (p := ⟨w.heap.size, 0, none⟩) (by simp) _).setCell (p := ⟨w.heap.size, 1, none⟩) (by simp) _).setCell (p := ⟨w.heap.size, 2, none⟩) (by simp) _).set4 (b := w.heap.size + 1) (by omega) _ _ _ _).lower (by omega)
  · exact (((Q4.out.setCell (p := ⟨w.heap.size, 0, none⟩) (Nat.le_refl _) _).setCell (p := ⟨w.heap.size, 1, none⟩) (Nat.le_refl _) _).setCell (p := ⟨w.heap.size, 2, none⟩) (Nat.le_refl _) _).set4 (b := w.heap.size + 1) (by omega) _ _ _ _

set_option maxHeartbeats 1000000 in
set_option maxRecDepth 100000 in
theorem append_short_lt (nm s : ByteArray) (A : Option Addr) (n c : Nat) (room fuse : Int) (l : List Fil) (w : World) (hd : Dsk w A n c l) (f : Fil) (k : Nat) (hop : opn nm l = (f, k)) (hk : k ≤ n) (hf : f.sf.size + f.wt.size ≤ 2305843009213693952) (hs : s.size ≤ 2305843009213693952) (hn : nmOk nm = true) (hkn : k < n) (hr : (s.size : Int) ≤ room) (hr2 : room ≤ 9223372036854775807) (hb : f.sf.size + f.wt.size + s.size ≤ 65536) (q : Nat) (hq : fuse = q) (hz : q < s.size) :
    Calls Tryd.prog 22 #[dkv A n c room fuse false, .string nm, .string s] w fun e w' => RetDE w ⟨l.set k ⟨f.nm, f.sf, f.wt ++ s.extract 0 q⟩, room - (s.extract 0 q).size, (q : Int) - (s.extract 0 q).size, true⟩ 6 e w' := by
  subst hq
  have k1 : ((k : Int) == (n : Int)) = false := by simp; omega
  have k2 : (k == n) = false := by simp; omega
  have HNM := Lib.hid hn
  clear hn
  have hx1 : (s.extract 0 q).size ≤ q := by simp; omega
  have hx2 : (s.extract 0 q).size ≤ s.size := by simp; omega
  have HD := Lib.hid hd
  have HN := Lib.hid hd.max
  have hlen := Lib.hid hd.len
  have hnm := hd.max
  unfold maxLen at hnm
  have HOP := Lib.hid hop
  clear hd hop
  obtain ⟨fa, fb, fc⟩ := f
  simp only at hf hb
  show Calls _ _ _ _ fun e w' => RetDE w ⟨l.set k ⟨fa, fb, fc ++ s.extract 0 q⟩, room - (s.extract 0 q).size, (q : Int) - (s.extract 0 q).size, true⟩ 6 e w'
  go_enter Tryd.func22, Tryd.ntmps22
  go_wp2_with fail
  have B0 := two_new w (.slice A n c) (.int .i64 room) (.int .i64 (q : Int)) (.bool false) (.slice none 0 0) (.int .i64 0) (.int .i64 0) (.bool false) 26
  refine (own_any A n c room (q : Int) false l _ (HD.out.q (((Q.refl _).alloc _).alloc _))).mono ?_
  rintro e w1 ⟨A1, c1, rfl, ho, q1⟩
  rw [size_two] at ho
  have HO := Lib.hid (ho.set4 (b := w.heap.size) (by omega) (.slice A1 n c1) (.int .i64 room) (.int .i64 (q : Int)) (.bool false))
  have D1 := Lib.hid ((B0.1.q q1).put4 (.slice A1 n c1) (.int .i64 room) (.int .i64 (q : Int)) (.bool false))
  have R1 := Lib.hid ((B0.2.q q1).far4 (c := w.heap.size) (by omega) (.slice A1 n c1) (.int .i64 room) (.int .i64 (q : Int)) (.bool false))
  have Q1 := Lib.hid ((((((Q.refl w).alloc _).alloc _).trans q1)).set4 (b := w.heap.size) (Nat.le_refl _) (.slice A1 n c1) (.int .i64 room) (.int .i64 (q : Int)) (.bool false))
  obtain ⟨⟨e0, e1, e2, e3⟩, f0, f1, f2, f3⟩ := (B0.1.q q1).get4
  clear B0 q1 ho
  go_wp2_with fail
  refine (open_any nm A1 n c1 room (q : Int) false l _ HO.out.files HN.out).mono ?_
  rintro e w2 ⟨rfl, q2⟩
  rw [HOP.out]
  have HO2 := Lib.hid (HO.out.q q2)
  have Q2 := Lib.hid (Q1.out.trans q2)
  have z0 : w.heap.size < w2.heap.size := (D1.out.q q2).lt
  have z1 : w.heap.size + 1 < w2.heap.size := (R1.out.q q2).lt
  have z2 : w.heap.size ≠ w2.heap.size := by omega
  have z3 : w.heap.size + 1 ≠ w2.heap.size := by omega
  have D2 := Lib.hid (D1.out.q q2)
  have R2 := Lib.hid (R1.out.q q2)
  obtain ⟨⟨d0, d1, d2, d3⟩, g0, g1, g2, g3⟩ := (D1.out.q q2).get4
  obtain ⟨⟨s0, s1, s2, s3⟩, h0, h1, h2, h3⟩ := (R1.out.q q2).get4
  clear q2 e0 e1 e2 e3 f0 f1 f2 f3
  go_wp2_with fail
  refine (named_any nm _).mono ?_
  rintro e w' ⟨rfl, rfl⟩
  rw [HNM.out]
  go_wp2_with fail
  have F2 := Bx.new w2 [.string fa, .string fb, .string fc] 57
  refine (size_any ⟨fa, fb, fc⟩ _ (by unfold maxLen; show fb.size + fc.size ≤ _; omega)).mono ?_
  rintro e w3 ⟨rfl, q3⟩
  simp only
  have HO3 := Lib.hid ((HO2.out.alloc _).q q3)
  have Q3 := Lib.hid ((Q2.out.alloc _).trans q3)
  have D3 := Lib.hid ((D2.out.alloc _).q q3)
  have R3 := Lib.hid ((R2.out.alloc _).q q3)
  have F3 := Lib.hid (F2.q q3)
  have y0 : w2.heap.size < w3.heap.size := F3.out.lt
  clear d0 d1 d2 d3 g0 g1 g2 g3 s0 s1 s2 s3 h0 h1 h2 h3 F2 q3
  obtain ⟨⟨d0, d1, d2, d3⟩, g0, g1, g2, g3⟩ := D3.out.get4
  obtain ⟨⟨s0, s1, s2, s3⟩, h0, h1, h2, h3⟩ := R3.out.get4
  obtain ⟨⟨t0, t1, t2⟩, u0, u1, u2⟩ := F3.out.get3
  go_wp2_with fail
  refine (set_mid (w.heap.size + 2) A1 n c1 k ⟨fa, fb, fc ++ s.extract 0 q⟩ l _ (Own.setNew HO2.out (HO3.out.setCell (p := ⟨w.heap.size, 3, none⟩) (by simp) (.bool true)) (p := ⟨w2.heap.size, 2, none⟩) (Nat.le_refl _) _) hkn).mono ?_
  rintro e w4 ⟨rfl, ho4, b4⟩
  have HO4 := Lib.hid ho4
  have Q4 := Lib.hid (show Q w w4 from ((Q3.out.setCell (p := ⟨w.heap.size, 3, none⟩) (Nat.le_refl _) _).setCell (p := ⟨w2.heap.size, 2, none⟩) (by show w.heap.size ≤ w2.heap.size; omega) _).below.trans (b4.mono (by omega)))
  have D4 := ((D3.out.set (k := 3) (by simp) (.bool true)).far (p := ⟨w2.heap.size, 2, none⟩) (by show w2.heap.size ≠ w.heap.size; omega) _).below b4 (by omega)
  have R4 := ((R3.out.far (p := ⟨w.heap.size, 3, none⟩) (by show w.heap.size ≠ w.heap.size + 1; omega) _).far (p := ⟨w2.heap.size, 2, none⟩) (by show w2.heap.size ≠ w.heap.size + 1; omega) _).below b4 (by omega)
  clear ho4 b4 d0 d1 d2 d3 g0 g1 g2 g3 s0 s1 s2 s3 h0 h1 h2 h3 t0 t1 t2 u0 u1 u2
  obtain ⟨⟨d0, d1, d2, d3⟩, g0, g1, g2, g3⟩ := Bx.get4 (x := .slice A1 n c1) (y := .int .i64 room) (z := .int .i64 (q : Int)) (u := .bool true) D4
  obtain ⟨⟨s0, s1, s2, s3⟩, h0, h1, h2, h3⟩ := R4.get4
  clear D4 R4
  go_wp2
  refine bodyPost_ret (v := .tuple #[dkv A1 n c1 (room - (s.extract 0 q).size) ((q : Int) - (s.extract 0 q).size) true, .int .i64 6]) (by simp [results, Tryd.results22, go_sem, s0, s1, s2, s3]) rfl ⟨A1, n, c1, rfl, ?_, ?_⟩
  · exact ((((HO4.out.setCell (p := ⟨w.heap.size, 0, none⟩) (by simp) _).setCell (p := ⟨w.heap.size, 1, none⟩) (by simp) _).setCell (p := ⟨w.heap.size, 2, none⟩) (by simp) _).set4 (b := w.heap.size + 1) (by omega) _ _ _ _).lower (by omega)
  · exact (((Q4.out.setCell (p := ⟨w.heap.size, 0, none⟩) (Nat.le_refl _) _).setCell (p := ⟨w.heap.size, 1, none⟩) (Nat.le_refl _) _).setCell (p := ⟨w.heap.size, 2, none⟩) (Nat.le_refl _) _).set4 (b := w.heap.size + 1) (by omega) _ _ _ _

end Go.Proofs.YtncippafbohgbaaDoor

/- Contract: Append, all cases together. -/
namespace Go.Proofs.YtncippafbohgbaaDoor
set_option maxRecDepth 100000
open Go.RowKit Dkm
set_option linter.unusedVariables false

theorem append_any (nm s : ByteArray) (A : Option Addr) (n c : Nat) (d : Dk) (w : World) (hd : Dsk w A n c d.fs) (hf : ∀ f ∈ d.fs, f.sf.size + f.wt.size ≤ 2305843009213693952) (hs : s.size ≤ 2305843009213693952)
    (hr2 : d.room ≤ 9223372036854775807) (hfu : d.fuse ≤ 9223372036854775807) :
    Calls Tryd.prog 22 #[dkv A n c d.room d.fuse d.off, .string nm, .string s] w fun e w' => RetDE w (appd d nm s).1 (appd d nm s).2 e w' := by
  obtain ⟨l, room, fuse, off⟩ := d
  simp only at hd hf hr2 hfu ⊢
  have hlen := hd.len
  rcases hop : opn nm l with ⟨f, k⟩
  have hk : k ≤ n := by have := opn_le nm l; rw [hop] at this; simp only at this; omega
  have hff : f.sf.size + f.wt.size ≤ 2305843009213693952 := by
    rcases plc_cases nm l with ⟨_, h⟩ | ⟨j, hj, _, hn, hfi⟩
    · rw [opn_none h] at hop
      injection hop with h1 h2
      rw [← h1]; show (⟨#[]⟩ : ByteArray).size + (⟨#[]⟩ : ByteArray).size ≤ _; decide
    · rw [opn_at hj hn hfi] at hop
      injection hop with h1 h2
      rw [← h1]; exact hf _ (List.getElem_mem hj)
  cases off with
  | true =>
    rw [show appd ⟨l, room, fuse, true⟩ nm s = (⟨l, room, fuse, true⟩, 6) from rfl]
    exact append_off nm s A n c room fuse l w hd f k hop hk hff hs
  | false =>
    by_cases hn : nmOk nm = true
    · by_cases hful : (k = l.length ∧ 64 ≤ l.length) ∨ room < s.size
      · rw [show appd ⟨l, room, fuse, false⟩ nm s = (⟨l, room, fuse, false⟩, 5) by unfold appd; simp only [hn, hop]; rw [if_neg (by simp), if_neg (by simp), if_pos hful]]
        by_cases h1 : k = n
        · by_cases h2 : 64 ≤ n
          · exact append_full1 nm s A n c room fuse l w hd f k hop hk hff hs hn h1 h2
          · exact append_full2_eq nm s A n c room fuse l w hd f k hop hk hff hs hn h1 (by omega) (by omega)
        · exact append_full2_lt nm s A n c room fuse l w hd f k hop hk hff hs hn (by omega) (by omega)
      · by_cases hb : 65536 < f.sf.size + f.wt.size + s.size
        · rw [show appd ⟨l, room, fuse, false⟩ nm s = (⟨l, room, fuse, false⟩, 4) by unfold appd; simp only [hn, hop]; rw [if_neg (by simp), if_neg (by simp), if_neg hful, if_pos hb]]
          by_cases h1 : k = n
          · exact append_big_eq nm s A n c room fuse l w hd f k hop hk hff hs hn h1 (by omega) (by omega) hb
          · exact append_big_lt nm s A n c room fuse l w hd f k hop hk hff hs hn (by omega) (by omega) hb
        · have e : appd ⟨l, room, fuse, false⟩ nm s = (⟨put l k ⟨f.nm, f.sf, f.wt ++ cut fuse s⟩, room - (cut fuse s).size, if 0 ≤ fuse then fuse - (cut fuse s).size else fuse, short fuse s⟩, if short fuse s then 6 else 0) := by
            unfold appd; simp only [hn, hop]; rw [if_neg (by simp), if_neg (by simp), if_neg hful, if_neg hb]
          rw [e]; clear e
          by_cases hsh : 0 ≤ fuse ∧ fuse < s.size
          · have e1 : short fuse s = true := by unfold short; simpa using hsh
            obtain ⟨q, rfl⟩ : ∃ q : Nat, fuse = q := ⟨fuse.toNat, by omega⟩
            have e2 : cut (q : Int) s = s.extract 0 q := by unfold cut; rw [e1]; simp
            rw [e1, e2, if_pos (by omega), if_pos rfl]
            by_cases h1 : k = n
            · rw [show put l k ⟨f.nm, f.sf, f.wt ++ s.extract 0 q⟩ = l ++ [⟨f.nm, f.sf, f.wt ++ s.extract 0 q⟩] by unfold put; rw [if_pos (by omega)]]
              exact append_short_eq nm s A n c room q l w hd f k hop hk hff hs hn h1 (by omega) (by omega) hr2 (by omega) q rfl (by omega)
            · rw [show put l k ⟨f.nm, f.sf, f.wt ++ s.extract 0 q⟩ = l.set k ⟨f.nm, f.sf, f.wt ++ s.extract 0 q⟩ by unfold put; rw [if_neg (by omega)]]
              exact append_short_lt nm s A n c room q l w hd f k hop hk hff hs hn (by omega) (by omega) hr2 (by omega) q rfl (by omega)
          · have e1 : short fuse s = false := by unfold short; simpa using hsh
            have e2 : cut fuse s = s := by unfold cut; rw [e1]; rfl
            have e3 : (if false = true then (6 : Int) else 0) = 0 := rfl
            rw [e1, e2, e3]
            by_cases h0 : 0 ≤ fuse
            · rw [if_pos h0]
              by_cases h1 : k = n
              · rw [show put l k ⟨f.nm, f.sf, f.wt ++ s⟩ = l ++ [⟨f.nm, f.sf, f.wt ++ s⟩] by unfold put; rw [if_pos (by omega)]]
                exact append_done_eq_fits nm s A n c room fuse l w hd f k hop hk hff hs hn h1 (by omega) (by omega) hr2 (by omega) (by omega) hfu
              · rw [show put l k ⟨f.nm, f.sf, f.wt ++ s⟩ = l.set k ⟨f.nm, f.sf, f.wt ++ s⟩ by unfold put; rw [if_neg (by omega)]]
                exact append_done_lt_fits nm s A n c room fuse l w hd f k hop hk hff hs hn (by omega) (by omega) hr2 (by omega) (by omega) hfu
            · rw [if_neg h0]
              by_cases h1 : k = n
              · rw [show put l k ⟨f.nm, f.sf, f.wt ++ s⟩ = l ++ [⟨f.nm, f.sf, f.wt ++ s⟩] by unfold put; rw [if_pos (by omega)]]
                exact append_done_eq_neg nm s A n c room fuse l w hd f k hop hk hff hs hn h1 (by omega) (by omega) hr2 (by omega) (by omega)
              · rw [show put l k ⟨f.nm, f.sf, f.wt ++ s⟩ = l.set k ⟨f.nm, f.sf, f.wt ++ s⟩ by unfold put; rw [if_neg (by omega)]]
                exact append_done_lt_neg nm s A n c room fuse l w hd f k hop hk hff hs hn (by omega) (by omega) hr2 (by omega) (by omega)
    · have hn' : nmOk nm = false := by simpa using hn
      rw [show appd ⟨l, room, fuse, false⟩ nm s = (⟨l, room, fuse, false⟩, 1) by unfold appd; rw [if_neg (by simp), if_pos hn']]
      exact append_arg nm s A n c room fuse l w hd f k hop hk hff hs hn'
end Go.Proofs.YtncippafbohgbaaDoor

/- The document's example of chapter 3. -/
namespace Go.Proofs.YtncippafbohgbaaDoor
set_option maxRecDepth 100000
open Go.RowKit Dkm
set_option linter.unusedVariables false

theorem dsk_nil (w : World) : Dsk w none 0 0 [] := ⟨Holds.none_ _ _ _ _, fun _ => ⟨rfl, rfl⟩, Nat.le_refl _, Nat.zero_le _, by omega⟩
theorem Own.few {w : World} {base : Nat} {A : Option Addr} {n c : Nat} {l : List Fil} (h : Own w base A n c l) (hl : l.length ≤ 1000) : Dsk w A n c l := h.dsk (by have := h.len; omega)

/-- a disk in a variable's box, in a world W. -/
structure DV (W : World) (B : Nat) (A : Option Addr) (n c : Nat) (d : Dk) : Prop where
  box : Bx W B [.slice A n c, .int .i64 d.room, .int .i64 d.fuse, .bool d.off]
  dsk : Dsk W A n c d.fs
theorem DV.q {W W' : World} {B : Nat} {A : Option Addr} {n c : Nat} {d : Dk} (h : DV W B A n c d) (hq : Q W W') : DV W' B A n c d := ⟨h.box.q hq, h.dsk.q hq⟩
/-- a new variable. -/
theorem DV.new {W : World} {A : Option Addr} {n c : Nat} {d : Dk} (h : Dsk W A n c d.fs) : DV (W.alloc (.cells #[.slice A n c, .int .i64 d.room, .int .i64 d.fuse, .bool d.off] 26)) W.heap.size A n c d :=
  ⟨Bx.new W [.slice A n c, .int .i64 d.room, .int .i64 d.fuse, .bool d.off] 26, h.q ((Q.refl _).alloc _)⟩
/-- what a call returned is stored into the variable. -/
theorem DV.put {W W' : World} {B : Nat} {A A' : Option Addr} {n c n' c' : Nat} {d d' : Dk} (h : DV W B A n c d) (hq : Q W W') (ho : Own W' W.heap.size A' n' c' d'.fs) (hn : n' * 48 ≤ 140737488355328) :
    DV ((((W'.setCell ⟨B, 0, none⟩ (.slice A' n' c')).setCell ⟨B, 1, none⟩ (.int .i64 d'.room)).setCell ⟨B, 2, none⟩ (.int .i64 d'.fuse)).setCell ⟨B, 3, none⟩ (.bool d'.off)) B A' n' c' d' :=
  ⟨(h.box.q hq).put4 _ _ _ _, (ho.set4 h.box.lt _ _ _ _).dsk hn⟩
theorem DV.get {W : World} {B : Nat} {A : Option Addr} {n c : Nat} {d : Dk} (h : DV W B A n c d) : (W.cell? ⟨B, 0, none⟩ = some (.slice A n c) ∧ W.cell? ⟨B, 1, none⟩ = some (.int .i64 d.room) ∧ W.cell? ⟨B, 2, none⟩ = some (.int .i64 d.fuse) ∧ W.cell? ⟨B, 3, none⟩ = some (.bool d.off)) ∧
    W.frozen? ⟨B, 0, none⟩ = false ∧ W.frozen? ⟨B, 1, none⟩ = false ∧ W.frozen? ⟨B, 2, none⟩ = false ∧ W.frozen? ⟨B, 3, none⟩ = false := h.box.get4

theorem ints_lit1 (w : World) (x : Int) : Ints (w.alloc (.cells #[.int .i64 x] 3)) (some ⟨w.heap.size, 0, none⟩) 1 [x] := by
  refine ⟨rfl, fun j u hj => ?_⟩
  have hj0 : j = 0 := by
    have := (List.getElem?_eq_some_iff.1 hj).1; simp at this; exact this
  subst hj0
  simp only [List.map_cons, List.map_nil, List.getElem?_cons_zero, Option.some.injEq] at hj
  subst hj
  exact ⟨⟨w.heap.size, 0, none⟩, rfl, by simp, by simp [Addr.add]⟩

end Go.Proofs.YtncippafbohgbaaDoor

/- Contracts: the law's 'does': one act. -/
namespace Go.Proofs.YtncippafbohgbaaDoor
set_option maxRecDepth 100000
open Go.RowKit Dkm
set_option linter.unusedVariables false

namespace Dkm
theorem lss_len (d : Dk) (k : Nat) : (lss d k).fs.length ≤ d.fs.length := by unfold lss; simp [List.length_eraseIdx]; split <;> omega
theorem pow_fs (d : Dk) : (pow d).1.fs = d.fs := by unfold pow; split; rfl; split <;> rfl
theorem del_len (d : Dk) (nm : ByteArray) : (del d nm).1.fs.length ≤ d.fs.length := by
  unfold del
  split; exact Nat.le_refl _
  split; exact Nat.le_refl _
  split
  · rw [pow_fs]; exact Nat.le_refl _
  · exact Nat.le_trans (lss_len _ _) (by rw [pow_fs]; exact Nat.le_refl _)
theorem nmd_len (d : Dk) (k : Nat) (to : ByteArray) : (nmd d k to).fs.length = d.fs.length := by unfold nmd; simp
theorem ren_len (d : Dk) (fr to : ByteArray) : (ren d fr to).1.fs.length ≤ d.fs.length := by
  unfold ren
  split; exact Nat.le_refl _
  split; exact Nat.le_refl _
  split; exact Nat.le_refl _
  split; exact Nat.le_refl _
  split
  · rw [pow_fs]; exact Nat.le_refl _
  split
  · exact Nat.le_trans (lss_len _ _) (by rw [nmd_len, pow_fs]; exact Nat.le_refl _)
  · rw [nmd_len, pow_fs]; exact Nat.le_refl _
theorem appd_few (d : Dk) (nm s : ByteArray) : (appd d nm s).1.fs.length ≤ max d.fs.length 64 := by
  have h := appd_len d nm s
  by_cases h1 : d.fs.length < 64
  · omega
  · unfold appd
    split; exact Nat.le_max_left _ _
    split; exact Nat.le_max_left _ _
    split; exact Nat.le_max_left _ _
    split; exact Nat.le_max_left _ _
    rename_i _ _ h3 _
    show (put _ _ _).length ≤ _
    unfold put
    split
    · exact absurd (Or.inl ⟨by assumption, by omega⟩) h3
    · simp only [List.length_set]; exact Nat.le_max_left _ _
end Dkm

theorem Own.far_ {w : World} {base : Nat} {A : Option Addr} {n c : Nat} {l : List Fil} (h : Own w base A n c l) : ∀ ad, A = some ad → base ≤ ad.block := by
  intro ad e
  rcases h.parts with ⟨rfl, _⟩ | ⟨g, cur, rfl, hb, _⟩
  · cases e
  · injection e with e; subst e; exact hb
theorem Holds.away {w : World} {B k : Nat} {A : Option Addr} {n : Nat} {xs : List Value} (h : Holds w B k A n xs) {b : Nat} (ha : ∀ ad, A = some ad → ad.block ≠ b) (o : Nat) (u : Value) : Holds (w.setCell ⟨b, o, none⟩ u) B k A n xs :=
  ⟨h.1, fun j v hj => by
    obtain ⟨ad, e, hb, hc⟩ := h.2 j v hj
    exact ⟨ad, e, hb, (World.cell?_setCell_other _ _ _ _ (by intro x; have := congrArg Addr.block x; rw [addr_block] at this; exact ha ad e this.symm)).trans hc⟩⟩
theorem Dsk.away {w : World} {A : Option Addr} {n c : Nat} {l : List Fil} (h : Dsk w A n c l) {b : Nat} (ha : ∀ ad, A = some ad → ad.block ≠ b) (o : Nat) (u : Value) : Dsk (w.setCell ⟨b, o, none⟩ u) A n c l :=
  ⟨by have := Holds.away h.files ha o u; rw [show w.heap.size = (w.setCell ⟨b, o, none⟩ u).heap.size by simp [World.setCell]] at this; exact this, h.nil, h.le, h.cap, h.few⟩

end Go.Proofs.YtncippafbohgbaaDoor

/- Contracts: the law's 'does', case by case. -/
namespace Go.Proofs.YtncippafbohgbaaDoor
set_option maxRecDepth 100000
open Go.RowKit Dkm
set_option linter.unusedVariables false

end Go.Proofs.YtncippafbohgbaaDoor

/- What stays, whatever acts come: sizes, numbers, room; and 'does' whole. -/
namespace Go.Proofs.YtncippafbohgbaaDoor
set_option maxRecDepth 100000
open Go.RowKit Dkm
set_option linter.unusedVariables false

namespace Dkm
theorem erase_sum {B : Nat} {l : List Fil} (h : ∀ f ∈ l, f.sf.size + f.wt.size ≤ B) (k : Nat) : ∀ f ∈ l.eraseIdx k, f.sf.size + f.wt.size ≤ B := fun f hf => h f (List.mem_of_mem_eraseIdx hf)
theorem lss_sum {B : Nat} (d : Dk) (k : Nat) (h : ∀ f ∈ d.fs, f.sf.size + f.wt.size ≤ B) : ∀ f ∈ (lss d k).fs, f.sf.size + f.wt.size ≤ B := erase_sum h k
theorem nmd_sum {B : Nat} (d : Dk) (k : Nat) (to : ByteArray) (h : ∀ f ∈ d.fs, f.sf.size + f.wt.size ≤ B) : ∀ f ∈ (nmd d k to).fs, f.sf.size + f.wt.size ≤ B := by
  unfold nmd
  by_cases hk : k < d.fs.length
  · refine set_sum h ?_
    simp only [List.getD_eq_getElem?_getD, List.getElem?_eq_getElem hk, Option.getD_some]
    exact h _ (List.getElem_mem hk)
  · show ∀ f ∈ d.fs.set k _, _
    rw [List.set_eq_of_length_le (by omega)]; exact h
theorem pow_sum {B : Nat} (d : Dk) (h : ∀ f ∈ d.fs, f.sf.size + f.wt.size ≤ B) : ∀ f ∈ (pow d).1.fs, f.sf.size + f.wt.size ≤ B := by rw [pow_fs]; exact h
theorem del_sum {B : Nat} (d : Dk) (nm : ByteArray) (h : ∀ f ∈ d.fs, f.sf.size + f.wt.size ≤ B) : ∀ f ∈ (del d nm).1.fs, f.sf.size + f.wt.size ≤ B := by
  unfold del
  split; exact h
  split; exact h
  split; exact pow_sum d h
  exact lss_sum _ _ (pow_sum d h)
theorem ren_sum {B : Nat} (d : Dk) (fr to : ByteArray) (h : ∀ f ∈ d.fs, f.sf.size + f.wt.size ≤ B) : ∀ f ∈ (ren d fr to).1.fs, f.sf.size + f.wt.size ≤ B := by
  unfold ren
  split; exact h
  split; exact h
  split; exact h
  split; exact h
  split; exact pow_sum d h
  split
  · exact lss_sum _ _ (nmd_sum _ _ _ (pow_sum d h))
  · exact nmd_sum _ _ _ (pow_sum d h)
/-- an int. -/
def In64 (x : Int) : Prop := -9223372036854775808 ≤ x ∧ x ≤ 9223372036854775807
theorem appd_rng (d : Dk) (nm s : ByteArray) (h1 : In64 d.room) (h2 : In64 d.fuse) : In64 (appd d nm s).1.room ∧ In64 (appd d nm s).1.fuse := by
  unfold appd
  split; exact ⟨h1, h2⟩
  split; exact ⟨h1, h2⟩
  split; exact ⟨h1, h2⟩
  split; exact ⟨h1, h2⟩
  rename_i _ _ h3 _
  have hc := cut_size d.fuse s
  unfold In64 at *
  have h4 : ¬ d.room < s.size := fun h => h3 (.inr h)
  have h5 : 0 ≤ d.fuse → (cut d.fuse s).size ≤ d.fuse.toNat ∨ ¬ short d.fuse s := by
    intro h0
    by_cases hsh : short d.fuse s
    · left; unfold cut; rw [if_pos hsh, ByteArray.size_extract]; omega
    · exact .inr hsh
  have h6 : 0 ≤ d.fuse → ((cut d.fuse s).size : Int) ≤ d.fuse := by
    intro h0
    rcases h5 h0 with h | h
    · omega
    · unfold cut; rw [if_neg h]
      unfold short at h
      simp only [decide_eq_true_eq] at h
      omega
  simp only
  refine ⟨by omega, ?_⟩
  split
  · have := h6 (by assumption); omega
  · exact h2
theorem pow_rng (d : Dk) (h1 : In64 d.room) (h2 : In64 d.fuse) : In64 (pow d).1.room ∧ In64 (pow d).1.fuse := by
  unfold pow
  split; exact ⟨h1, h2⟩
  split
  · exact ⟨h1, by unfold In64 at *; simp only; omega⟩
  · exact ⟨h1, h2⟩
theorem lss_rng (d : Dk) (k : Nat) (h2 : In64 d.fuse) : In64 (lss d k).room ∧ In64 (lss d k).fuse := ⟨wrap_rng _, h2⟩
theorem del_rng (d : Dk) (nm : ByteArray) (h1 : In64 d.room) (h2 : In64 d.fuse) : In64 (del d nm).1.room ∧ In64 (del d nm).1.fuse := by
  have hp := pow_rng d h1 h2
  unfold del
  split; exact ⟨h1, h2⟩
  split; exact ⟨h1, h2⟩
  split; exact hp
  exact lss_rng _ _ hp.2
theorem ren_rng (d : Dk) (fr to : ByteArray) (h1 : In64 d.room) (h2 : In64 d.fuse) : In64 (ren d fr to).1.room ∧ In64 (ren d fr to).1.fuse := by
  have hp := pow_rng d h1 h2
  unfold ren
  split; exact ⟨h1, h2⟩
  split; exact ⟨h1, h2⟩
  split; exact ⟨h1, h2⟩
  split; exact ⟨h1, h2⟩
  split; exact hp
  split
  · exact lss_rng _ _ hp.2
  · exact hp
theorem syn_rng (d : Dk) (nm : ByteArray) (h1 : In64 d.room) (h2 : In64 d.fuse) : In64 (syn d nm).1.room ∧ In64 (syn d nm).1.fuse := by
  unfold syn
  split; exact ⟨h1, h2⟩
  split <;> exact ⟨h1, h2⟩
theorem croom_in (ks : List Int) (l : List Fil) (room : Int) (h : In64 room) : ∀ k, In64 (croom ks l room k)
  | 0 => h
  | k + 1 => wrap_rng _
end Dkm
end Go.Proofs.YtncippafbohgbaaDoor

/- What the calls of chapter 4 make of a disk, in plain mathematics. -/
namespace Go.Proofs.YtncippafbohgbaaDoor
set_option maxRecDepth 100000
open Dkm
set_option linter.unusedVariables false
namespace Wm

def sealB (r : ByteArray) : ByteArray := ⟨(sld r.data.toList).toArray⟩
theorem sealB_list (r : ByteArray) : (sealB r).data.toList = sld r.data.toList := rfl
theorem sealB_size (r : ByteArray) : (sealB r).size = (sld r.data.toList).length := by show (sld r.data.toList).toArray.size = _; simp
/-- Put behind its checks, the segment not full. -/
def putA (d : Dk) (seg : Int) (rec : ByteArray) : Dk × Int × Int := ((appd d (namB seg) (sealB rec)).1, seg, (appd d (namB seg) (sealB rec)).2)
/-- Put behind its checks. -/
def putB (d : Dk) (seg : Int) (rec : ByteArray) : Dk × Int × Int :=
  if (redd (namB seg) d.fs).1.size < 256 then putA d seg rec
  else if (syn d (namB seg)).2 ≠ 0 then ((syn d (namB seg)).1, seg, (syn d (namB seg)).2)
  else if seg = 1000000 then ((syn d (namB seg)).1, seg, 5)
  else putA (syn d (namB seg)).1 (seg + 1) rec
def putM (d : Dk) (seg : Int) (rec : ByteArray) : Dk × Int × Int :=
  if ¬ segOk seg then (d, seg, 1) else if 2048 < rec.size then (d, seg, 4) else putB d seg rec
def syncM (d : Dk) (seg : Int) : Dk × Int := if (hit (namB seg) d.fs).2 then syn d (namB seg) else (d, 0)

/-- the steps of a cut, up to the rename. -/
def cut1 (d : Dk) : Dk × Int := if (hit freshB d.fs).2 then del d freshB else (d, 0)
def cut2 (d : Dk) (s : ByteArray) : Dk × Int := if (cut1 d).2 = 0 then appd (cut1 d).1 freshB s else cut1 d
def cut3 (d : Dk) (s : ByteArray) : Dk × Int := if (cut2 d s).2 = 0 then syn (cut2 d s).1 freshB else cut2 d s
def cut4 (d : Dk) (seg : Int) (s : ByteArray) : Dk × Int := if (cut3 d s).2 = 0 then ren (cut3 d s).1 freshB (namB seg) else cut3 d s
/-- each segment from seg on is deleted, up to the first one that isn't there. -/
def dels : Nat → Dk → Int → Dk × Int
  | 0, d, _ => (d, 0)
  | n + 1, d, seg => if segOk seg ∧ (hit (namB seg) d.fs).2 then (if (del d (namB seg)).2 = 0 then dels n (del d (namB seg)).1 (seg + 1) else del d (namB seg)) else (d, 0)
def fuelOf (seg : Int) : Nat := (1000001 - seg).toNat
def cutM (d : Dk) (seg : Int) (s : ByteArray) : Dk × Int :=
  if (cut4 d seg s).2 = 0 then dels (fuelOf (seg + 1)) (cut4 d seg s).1 (seg + 1) else cut4 d seg s

/-- what Recover tells: the disk, the records, the segment, the errno. -/
def recF : Nat → Dk → Int → Int → List (List UInt8) → Int → Dk × List (List UInt8) × Int × Int
  | 0, d, _, _, rs, last => (d, rs, last, 0)
  | n + 1, d, from_, seg, rs, last =>
    if ¬ segOk seg then (d, rs, last, 0)
    else if (redd (namB seg) d.fs).2 ≠ 0 then (d, rs, last, 0)
    else if (scn (redd (namB seg) d.fs).1.data.toList).2 = [] then recF n d from_ (seg + 1) (rs ++ (scn (redd (namB seg) d.fs).1.data.toList).1) seg
    else if (cutM d seg ⟨(flat (scn (redd (namB seg) d.fs).1.data.toList).1).toArray⟩).2 ≠ 0 then ((cutM d seg ⟨(flat (scn (redd (namB seg) d.fs).1.data.toList).1).toArray⟩).1, [], from_, (cutM d seg ⟨(flat (scn (redd (namB seg) d.fs).1.data.toList).1).toArray⟩).2)
    else ((cutM d seg ⟨(flat (scn (redd (namB seg) d.fs).1.data.toList).1).toArray⟩).1, rs ++ (scn (redd (namB seg) d.fs).1.data.toList).1, seg, 0)
def recM (d : Dk) (from_ : Int) : Dk × List (List UInt8) × Int × Int :=
  if ¬ segOk from_ then (d, [], from_, 1) else recF (fuelOf from_) d from_ from_ [] from_

/-! ### Sizes and ranges are kept -/
structure Bnd (B : Nat) (d : Dk) : Prop where
  sum : ∀ f ∈ d.fs, f.sf.size + f.wt.size ≤ B
  few : d.fs.length * 48 ≤ 140737488355328
  room : In64 d.room
  fuse : In64 d.fuse
theorem Bnd.appd {B : Nat} {d : Dk} (h : Bnd B d) (hB : 65536 ≤ B) (nm s : ByteArray) : Bnd B (appd d nm s).1 := ⟨appd_sum d nm s hB h.sum, by have h1 := appd_few d nm s; have h2 := h.few; omega, (appd_rng d nm s h.room h.fuse).1, (appd_rng d nm s h.room h.fuse).2⟩
theorem Bnd.syn {B : Nat} {d : Dk} (h : Bnd B d) (nm : ByteArray) : Bnd B (syn d nm).1 := ⟨syn_sum d nm h.sum, by rw [syn_len]; exact h.few, (syn_rng d nm h.room h.fuse).1, (syn_rng d nm h.room h.fuse).2⟩
theorem Bnd.del {B : Nat} {d : Dk} (h : Bnd B d) (nm : ByteArray) : Bnd B (del d nm).1 := ⟨del_sum d nm h.sum, by have h1 := del_len d nm; have h2 := h.few; omega, (del_rng d nm h.room h.fuse).1, (del_rng d nm h.room h.fuse).2⟩
theorem Bnd.ren {B : Nat} {d : Dk} (h : Bnd B d) (a b : ByteArray) : Bnd B (ren d a b).1 := ⟨ren_sum d a b h.sum, by have h1 := ren_len d a b; have h2 := h.few; omega, (ren_rng d a b h.room h.fuse).1, (ren_rng d a b h.room h.fuse).2⟩
theorem Bnd.cut1 {B : Nat} {d : Dk} (h : Bnd B d) : Bnd B (cut1 d).1 := by unfold Wm.cut1; split; exact h.del _; exact h
theorem Bnd.cut2 {B : Nat} {d : Dk} (h : Bnd B d) (hB : 65536 ≤ B) (s : ByteArray) : Bnd B (cut2 d s).1 := by unfold Wm.cut2; split; exact h.cut1.appd hB _ _; exact h.cut1
theorem Bnd.cut3 {B : Nat} {d : Dk} (h : Bnd B d) (hB : 65536 ≤ B) (s : ByteArray) : Bnd B (cut3 d s).1 := by unfold Wm.cut3; split; exact (h.cut2 hB s).syn _; exact h.cut2 hB s
theorem Bnd.cut4 {B : Nat} {d : Dk} (h : Bnd B d) (hB : 65536 ≤ B) (seg : Int) (s : ByteArray) : Bnd B (cut4 d seg s).1 := by unfold Wm.cut4; split; exact (h.cut3 hB s).ren _ _; exact h.cut3 hB s
theorem Bnd.dels {B : Nat} : ∀ (n : Nat) {d : Dk} (seg : Int), Bnd B d → Bnd B (dels n d seg).1
  | 0, _, _, h => h
  | n + 1, d, seg, h => by
    unfold Wm.dels
    split
    · split
      · exact Bnd.dels n _ (h.del _)
      · exact h.del _
    · exact h
theorem Bnd.cutM {B : Nat} {d : Dk} (h : Bnd B d) (hB : 65536 ≤ B) (seg : Int) (s : ByteArray) : Bnd B (cutM d seg s).1 := by unfold Wm.cutM; split; exact Bnd.dels _ _ (h.cut4 hB seg s); exact h.cut4 hB seg s
theorem Bnd.putA {B : Nat} {d : Dk} (h : Bnd B d) (hB : 65536 ≤ B) (seg : Int) (r : ByteArray) : Bnd B (putA d seg r).1 := h.appd hB _ _
theorem Bnd.putM {B : Nat} {d : Dk} (h : Bnd B d) (hB : 65536 ≤ B) (seg : Int) (r : ByteArray) : Bnd B (putM d seg r).1 := by
  unfold Wm.putM
  split; exact h
  split; exact h
  unfold Wm.putB
  split; exact h.putA hB _ _
  split; exact h.syn _
  split; exact h.syn _
  exact (h.syn _).putA hB _ _
theorem Bnd.syncM {B : Nat} {d : Dk} (h : Bnd B d) (seg : Int) : Bnd B (syncM d seg).1 := by unfold Wm.syncM; split; exact h.syn _; exact h
end Wm
end Go.Proofs.YtncippafbohgbaaDoor

/- What is done with one file changes no other one: the mathematics. -/
namespace Go.Proofs.YtncippafbohgbaaDoor
set_option maxRecDepth 100000
open Go.RowKit Dkm
set_option linter.unusedVariables false
namespace Dkm
theorem find_mid (o : ByteArray) (a b : List Fil) (f g : Fil) (hf : f.nm ≠ o) (hg : g.nm ≠ o) : (a ++ f :: b).find? (fun x => decide (x.nm = o)) = (a ++ g :: b).find? (fun x => decide (x.nm = o)) := by
  simp [List.find?_append, hf, hg]
theorem find_del (o : ByteArray) (a b : List Fil) (f : Fil) (hf : f.nm ≠ o) : (a ++ f :: b).find? (fun x => decide (x.nm = o)) = (a ++ b).find? (fun x => decide (x.nm = o)) := by
  simp [List.find?_append, hf]
theorem hit_set {o : ByteArray} {l : List Fil} {k : Nat} {g : Fil} (hk : k < l.length) (h1 : l[k].nm ≠ o) (h2 : g.nm ≠ o) : hit o (l.set k g) = hit o l := by
  have e1 : l.set k g = l.take k ++ g :: l.drop (k + 1) := List.set_eq_take_append_cons_drop.trans (by rw [if_pos hk])
  have e2 : l = l.take k ++ l[k] :: l.drop (k + 1) := by rw [← List.drop_eq_getElem_cons hk, List.take_append_drop]
  have : (l.set k g).find? (fun x => decide (x.nm = o)) = l.find? (fun x => decide (x.nm = o)) := by
    rw [e1]; conv => rhs; rw [e2]
    exact find_mid o _ _ _ _ h2 h1
  unfold hit; rw [this]
theorem hit_erase {o : ByteArray} {l : List Fil} {k : Nat} (hk : k < l.length) (h1 : l[k].nm ≠ o) : hit o (l.eraseIdx k) = hit o l := by
  have e2 : l = l.take k ++ l[k] :: l.drop (k + 1) := by rw [← List.drop_eq_getElem_cons hk, List.take_append_drop]
  have : (l.eraseIdx k).find? (fun x => decide (x.nm = o)) = l.find? (fun x => decide (x.nm = o)) := by
    rw [List.eraseIdx_eq_take_drop_succ]; conv => rhs; rw [e2]
    exact (find_del o _ _ _ h1).symm
  unfold hit; rw [this]
theorem hit_snoc {o : ByteArray} {l : List Fil} {g : Fil} (h : g.nm ≠ o) : hit o (l ++ [g]) = hit o l := by
  have : (l ++ [g]).find? (fun x => decide (x.nm = o)) = l.find? (fun x => decide (x.nm = o)) := by simp [List.find?_append, h]
  unfold hit; rw [this]
theorem appd_apart {o nm s : ByteArray} (d : Dk) (h : o ≠ nm) : hit o (appd d nm s).1.fs = hit o d.fs := by
  unfold appd
  split; rfl
  split; rfl
  split; rfl
  split; rfl
  show hit o (put _ _ _) = _
  rcases plc_cases nm d.fs with ⟨_, hall⟩ | ⟨k, hk, _, hkn, hfirst⟩
  · rw [opn_none hall]; unfold put; rw [if_pos rfl]; exact hit_snoc (fun e => h e.symm)
  · rw [opn_at hk hkn hfirst]; unfold put; simp only
    rw [if_neg (by omega)]
    exact hit_set hk (fun e => h (e.symm.trans hkn)) (fun e => h (e.symm.trans hkn))
theorem syn_apart {o nm : ByteArray} (d : Dk) (h : o ≠ nm) : hit o (syn d nm).1.fs = hit o d.fs := by
  obtain ⟨l, room, fuse, off⟩ := d
  cases off
  · rcases plc_cases nm l with ⟨hp, hall⟩ | ⟨k, hk, hp, hkn, hfirst⟩
    · rw [syn_none hall]
    · rw [syn_at hk hkn hfirst]
      exact hit_set hk (fun e => h (e.symm.trans hkn)) (fun e => h (e.symm.trans hkn))
  · rfl
theorem lss_apart {o : ByteArray} (d : Dk) {k : Nat} (hk : k < d.fs.length) (h : d.fs[k].nm ≠ o) : hit o (lss d k).fs = hit o d.fs := hit_erase hk h
theorem del_apart {o nm : ByteArray} (d : Dk) (h : o ≠ nm) : hit o (del d nm).1.fs = hit o d.fs := by
  unfold del
  split; rfl
  split; rfl
  split; rw [pow_fs]
  rename_i _ h2 _
  rcases plc_cases nm d.fs with ⟨_, hall⟩ | ⟨k, hk, _, hkn, hfirst⟩
  · rw [hit_none hall] at h2; exact absurd rfl h2
  · rw [opn_at hk hkn hfirst]
    have e := pow_fs d
    exact (lss_apart (pow d).1 (k := k) (by rw [e]; exact hk) (by simp only [e]; exact fun e => h (e.symm.trans hkn))).trans (by rw [e])
theorem nmd_apart {o to : ByteArray} (d : Dk) {k : Nat} (hk : k < d.fs.length) (h : d.fs[k].nm ≠ o) (h2 : to ≠ o) : hit o (nmd d k to).fs = hit o d.fs := hit_set hk h h2
theorem nmd_name (d : Dk) (k q : Nat) (to : ByteArray) (hq : q < (nmd d k to).fs.length) (hq2 : q < d.fs.length) (h : d.fs[q].nm = to) : (nmd d k to).fs[q].nm = to := by
  unfold nmd at hq ⊢
  simp only [List.getElem_set]
  split
  · rfl
  · exact h
theorem ren_apart {o fr to : ByteArray} (d : Dk) (h1 : o ≠ fr) (h2 : o ≠ to) : hit o (ren d fr to).1.fs = hit o d.fs := by
  unfold ren
  split; rfl
  split; rfl
  split; rfl
  split; rfl
  split; rw [pow_fs]
  rename_i _ _ h3 _ _
  have e := pow_fs d
  rcases plc_cases fr d.fs with ⟨_, hall⟩ | ⟨k, hk, _, hkn, hfirst⟩
  · rw [hit_none hall] at h3; exact absurd rfl h3
  have hk' : k < (pow d).1.fs.length := by rw [e]; exact hk
  have hn : hit o (nmd (pow d).1 k to).fs = hit o d.fs := by
    rw [nmd_apart (pow d).1 hk' (by simp only [e]; exact fun x => h1 (x.symm.trans hkn)) (fun x => h2 x.symm), e]
  rw [opn_at hk hkn hfirst]
  split
  · rename_i h5
    rcases plc_cases to d.fs with ⟨_, hall⟩ | ⟨q, hq, _, hqn, hqf⟩
    · rw [hit_none hall] at h5; cases h5
    rw [opn_at hq hqn hqf]
    have hq' : q < (nmd (pow d).1 k to).fs.length := by rw [nmd_len, e]; exact hq
    rw [lss_apart _ hq' ?_, hn]
    have : (nmd (pow d).1 k to).fs[q].nm = to := nmd_name (pow d).1 k q to hq' (by rw [e]; exact hq) (by simp only [e]; exact hqn)
    rw [this]; exact fun x => h2 x.symm
  · exact hn
end Dkm
end Go.Proofs.YtncippafbohgbaaDoor

/- A rename gives the one file's bytes the other one's name: the mathematics. -/
namespace Go.Proofs.YtncippafbohgbaaDoor
set_option maxRecDepth 100000
open Go.RowKit Dkm
set_option linter.unusedVariables false
namespace Dkm
def Uniq (l : List Fil) : Prop := ∀ i j, ∀ hi : i < l.length, ∀ hj : j < l.length, l[i].nm = l[j].nm → i = j
end Dkm
end Go.Proofs.YtncippafbohgbaaDoor

/- Disks whose files have names unlike each other: what each call leaves under each name. -/
namespace Go.Proofs.YtncippafbohgbaaDoor
set_option maxRecDepth 100000
open Dkm
set_option linter.unusedVariables false
set_option linter.unusedSimpArgs false
namespace Du

theorem uniq_pw (l : List Fil) : Uniq l ↔ l.Pairwise fun a b => a.nm ≠ b.nm := by
  rw [List.pairwise_iff_getElem]
  constructor
  · intro h i j hi hj hij e
    have := h i j hi hj e; omega
  · intro h i j hi hj e
    rcases Nat.lt_trichotomy i j with hlt | he | hlt
    · exact absurd e (h i j hi hj hlt)
    · exact he
    · exact absurd e.symm (h j i hj hi hlt)
theorem uniq_erase {l : List Fil} (h : Uniq l) (k : Nat) : Uniq (l.eraseIdx k) := (uniq_pw _).2 (((uniq_pw _).1 h).sublist (List.eraseIdx_sublist l k))
theorem erase_gone {l : List Fil} (hu : Uniq l) {k : Nat} (hk : k < l.length) {nm : ByteArray} (hn : l[k].nm = nm) : ∀ f ∈ l.eraseIdx k, f.nm ≠ nm := by
  intro f hf e
  obtain ⟨i, hi, hne, rfl⟩ := List.mem_eraseIdx_iff_getElem.1 hf
  exact hne (hu i k hi hk (e.trans hn.symm))
theorem uniq_snoc {l : List Fil} (hu : Uniq l) {f : Fil} (hf : ∀ g ∈ l, g.nm ≠ f.nm) : Uniq (l ++ [f]) := by
  rw [uniq_pw, List.pairwise_append]
  exact ⟨(uniq_pw _).1 hu, by simp, fun a ha b hb => by simp at hb; subst hb; exact hf a ha⟩
theorem uniq_names {l m : List Fil} (h : Uniq l) (e : m.map Fil.nm = l.map Fil.nm) : Uniq m := by
  have hl : m.length = l.length := by have := congrArg List.length e; simpa using this
  intro i j hi hj hn
  have g : ∀ k (hk : k < m.length), m[k].nm = (l[k]'(by omega)).nm := fun k hk => by
    have := congrArg (fun x : List ByteArray => x[k]?) e
    simp only [List.getElem?_map, List.getElem?_eq_getElem hk, List.getElem?_eq_getElem (show k < l.length by omega), Option.map_some, Option.some.injEq] at this
    exact this
  exact h i j (by omega) (by omega) (by rw [← g i hi, ← g j hj]; exact hn)
theorem uniq_set {l : List Fil} (h : Uniq l) {k : Nat} {f : Fil} (hk : k < l.length) (hf : f.nm = l[k].nm) : Uniq (l.set k f) := by
  refine uniq_names h ?_
  rw [List.map_set, hf]
  have e : (l.map Fil.nm)[k]'(by simpa using hk) = l[k].nm := by simp
  rw [← e, List.set_getElem_self]
theorem hit_some {nm : ByteArray} {l : List Fil} (h : (hit nm l).2 = true) : ∃ k, ∃ hk : k < l.length, l[k].nm = nm ∧ (∀ j, ∀ h : j < l.length, j < k → l[j].nm ≠ nm) ∧ hit nm l = (l[k], true) ∧ opn nm l = (l[k], k) := by
  rcases plc_cases nm l with ⟨_, hall⟩ | ⟨k, hk, _, hkn, hf⟩
  · rw [hit_none hall] at h; cases h
  · exact ⟨k, hk, hkn, hf, hit_at hk hkn hf, opn_at hk hkn hf⟩
theorem hit_no {nm : ByteArray} {l : List Fil} (h : (hit nm l).2 = false) : ∀ f ∈ l, f.nm ≠ nm := by
  rcases plc_cases nm l with ⟨_, hall⟩ | ⟨k, hk, _, hkn, hf⟩
  · exact hall
  · rw [hit_at hk hkn hf] at h; cases h
theorem hit_setk {nm : ByteArray} {l : List Fil} {k : Nat} {f : Fil} (hk : k < l.length) (hn : f.nm = nm) (hf : ∀ j, ∀ h : j < l.length, j < k → l[j].nm ≠ nm) : hit nm (l.set k f) = (f, true) := by
  have hk' : k < (l.set k f).length := by simpa using hk
  have := hit_at (nm := nm) (l := l.set k f) hk' (by rw [List.getElem_set_self]; exact hn) (fun j h hj => by rw [List.getElem_set_ne (by omega)]; exact hf j (by simpa using h) hj)
  rw [this, List.getElem_set_self]
theorem hit_end {nm : ByteArray} {l : List Fil} {f : Fil} (hn : f.nm = nm) (hf : ∀ g ∈ l, g.nm ≠ nm) : hit nm (l ++ [f]) = (f, true) := by
  have hk : l.length < (l ++ [f]).length := by simp
  have := hit_at (nm := nm) (l := l ++ [f]) hk (by simpa using hn) (fun j h hj => by rw [List.getElem_append_left hj]; exact hf _ (List.getElem_mem hj))
  rw [this]; simp

/-- what Append leaves: nothing new, or the file with bytes more. -/
theorem appd_cases (d : Dk) (nm s : ByteArray) (hu : Uniq d.fs) : ((appd d nm s).1 = d ∧ ((appd d nm s).2 = 6 ∧ d.off = true ∨ (appd d nm s).2 = 1 ∧ nmOk nm = false ∨ (appd d nm s).2 = 5 ∨ (appd d nm s).2 = 4 ∧ 65536 < (hit nm d.fs).1.sf.size + (hit nm d.fs).1.wt.size + s.size)) ∨
    ((appd d nm s).2 = (if short d.fuse s then 6 else 0) ∧ Uniq (appd d nm s).1.fs ∧ hit nm (appd d nm s).1.fs = (⟨nm, (hit nm d.fs).1.sf, (hit nm d.fs).1.wt ++ cut d.fuse s⟩, true)) := by
  have hopn : (opn nm d.fs).1.sf = (hit nm d.fs).1.sf ∧ (opn nm d.fs).1.wt = (hit nm d.fs).1.wt ∧ (opn nm d.fs).1.nm = nm := by
    rcases plc_cases nm d.fs with ⟨_, hall⟩ | ⟨k, hk, _, hkn, hf⟩
    · rw [opn_none hall, hit_none hall]; exact ⟨rfl, rfl, rfl⟩
    · rw [opn_at hk hkn hf, hit_at hk hkn hf]; exact ⟨rfl, rfl, hkn⟩
  unfold appd
  split
  · rename_i h; exact .inl ⟨rfl, .inl ⟨rfl, h⟩⟩
  · split
    · rename_i h; exact .inl ⟨rfl, .inr (.inl ⟨rfl, h⟩)⟩
    · split
      · exact .inl ⟨rfl, .inr (.inr (.inl rfl))⟩
      · split
        · rename_i h; rw [hopn.1, hopn.2.1] at h; exact .inl ⟨rfl, .inr (.inr (.inr ⟨rfl, h⟩))⟩
        · refine .inr ⟨rfl, ?_⟩
          rw [hopn.1, hopn.2.1, hopn.2.2]
          simp only
          rcases plc_cases nm d.fs with ⟨_, hall⟩ | ⟨k, hk, _, hkn, hf⟩
          · rw [opn_none hall]
            unfold put
            rw [if_pos rfl]
            exact ⟨uniq_snoc hu hall, hit_end rfl hall⟩
          · rw [opn_at hk hkn hf]
            unfold put
            rw [if_neg (by simp only; omega)]
            exact ⟨uniq_set hu hk hkn.symm, hit_setk hk rfl hf⟩
/-- what Sync leaves. -/
theorem syn_cases (d : Dk) (nm : ByteArray) (hu : Uniq d.fs) : ((syn d nm).1 = d ∧ ((syn d nm).2 = 6 ∧ d.off = true ∨ (syn d nm).2 = 7 ∧ (hit nm d.fs).2 = false)) ∨
    ((syn d nm).2 = 0 ∧ d.off = false ∧ (hit nm d.fs).2 = true ∧ Uniq (syn d nm).1.fs ∧ hit nm (syn d nm).1.fs = (⟨nm, (hit nm d.fs).1.sf ++ (hit nm d.fs).1.wt, ⟨#[]⟩⟩, true)) := by
  unfold syn
  split
  · rename_i h; exact .inl ⟨rfl, .inl ⟨rfl, h⟩⟩
  · rename_i h0
    split
    · rename_i h
      refine .inr ⟨rfl, by simpa using h0, h, ?_⟩
      obtain ⟨k, hk, hn, hf, e1, e2⟩ := hit_some h
      rw [e1, e2]
      exact ⟨uniq_set hu hk rfl, by rw [hn]; exact hit_setk hk rfl hf⟩
    · rename_i h; exact .inl ⟨rfl, .inr ⟨rfl, by simpa using h⟩⟩
/-- what Delete leaves, where the power is on for good. -/
theorem del_on (d : Dk) (nm : ByteArray) (hu : Uniq d.fs) (h1 : d.off = false) (h2 : d.fuse < 0) (h3 : (hit nm d.fs).2 = true) : (del d nm).2 = 0 ∧ Uniq (del d nm).1.fs ∧ (hit nm (del d nm).1.fs).2 = false ∧ (del d nm).1.off = false ∧ (del d nm).1.fuse < 0 := by
  have hp : pow d = (d, true) := by unfold pow; rw [if_neg (by omega), if_neg (by omega)]
  obtain ⟨k, hk, hn, hf, e1, e2⟩ := hit_some h3
  unfold del
  rw [hp, h1, h3, e2]
  simp only [Bool.false_eq_true, if_false, reduceCtorEq]
  refine ⟨trivial, uniq_erase hu k, ?_, h1, h2⟩
  show (hit nm (d.fs.eraseIdx k)).2 = false
  rw [hit_none (erase_gone hu hk hn)]
/-- what a crash leaves under a name. -/
theorem hit_crs (d : Dk) (ks : List Int) (nm : ByteArray) : ((hit nm d.fs).2 = false ∧ (hit nm (crs d ks).fs).2 = false) ∨ ((hit nm d.fs).2 = true ∧ ∃ k, hit nm (crs d ks).fs = (⟨nm, (hit nm d.fs).1.sf ++ (hit nm d.fs).1.wt.extract 0 k, ⟨#[]⟩⟩, true)) := by
  have e : (crs d ks).fs = d.fs.mapIdx (crf ks) := by
    show crl ks d.fs d.fs.length = _
    unfold crl; rw [List.take_length, List.drop_length, List.append_nil]
  rw [e]
  rcases plc_cases nm d.fs with ⟨_, hall⟩ | ⟨k, hk, _, hkn, hf⟩
  · refine .inl ⟨by rw [hit_none hall], ?_⟩
    rw [hit_none]
    intro f hfm
    obtain ⟨i, hi, rfl⟩ := List.getElem_of_mem hfm
    rw [List.getElem_mapIdx]
    exact hall (d.fs[i]'(by simpa using hi)) (List.getElem_mem _)
  · have hk' : k < (d.fs.mapIdx (crf ks)).length := by simpa using hk
    refine .inr ⟨by rw [hit_at hk hkn hf], kp ks k d.fs[k], ?_⟩
    rw [hit_at hk hkn hf, hit_at hk' (by rw [List.getElem_mapIdx]; exact hkn) (fun j hj hjk => by rw [List.getElem_mapIdx]; exact hf j (by simpa using hj) hjk), List.getElem_mapIdx]
    unfold crf
    rw [hkn]
theorem crs_uniq (d : Dk) (ks : List Int) (hu : Uniq d.fs) : Uniq (crs d ks).fs := by
  have e : (crs d ks).fs = d.fs.mapIdx (crf ks) := by
    show crl ks d.fs d.fs.length = _
    unfold crl; rw [List.take_length, List.drop_length, List.append_nil]
  rw [e]
  intro i j hi hj he
  rw [List.getElem_mapIdx, List.getElem_mapIdx] at he
  exact hu i j (by simpa using hi) (by simpa using hj) he
/-- what Rename leaves, where the power is on for good. -/
theorem ren_on (d : Dk) (fr tu : ByteArray) (hu : Uniq d.fs) (h1 : d.off = false) (h2 : d.fuse < 0) (h3 : (hit fr d.fs).2 = true) (hn : nmOk tu = true) (hne : fr ≠ tu) : (ren d fr tu).2 = 0 ∧ Uniq (ren d fr tu).1.fs ∧ hit tu (ren d fr tu).1.fs = (⟨tu, (hit fr d.fs).1.sf, (hit fr d.fs).1.wt⟩, true) ∧ (ren d fr tu).1.off = false ∧ (ren d fr tu).1.fuse < 0 := by
  have hp : pow d = (d, true) := by unfold pow; rw [if_neg (by omega), if_neg (by omega)]
  obtain ⟨k, hk, hkn, hf, e1, e2⟩ := hit_some h3
  have hfk : d.fs.getD k ⟨⟨#[]⟩, ⟨#[]⟩, ⟨#[]⟩⟩ = d.fs[k] := by simp [hk]
  unfold ren
  rw [hp, h1, h3, hn, if_neg hne, e2]
  simp only [Bool.false_eq_true, if_false, reduceCtorEq]
  rw [e1]
  cases ht : (hit tu d.fs).2 with
  | false =>
    simp only [Bool.false_eq_true, if_false]
    have hall := hit_no ht
    refine ⟨trivial, ?_, ?_, h1, h2⟩
    · show Uniq (d.fs.set k _)
      rw [hfk, uniq_pw, List.pairwise_iff_getElem]
      intro i j hi hj hij
      simp only [List.length_set] at hi hj
      rw [List.getElem_set, List.getElem_set]
      split
      · rename_i hki
        rw [if_neg (by omega)]
        exact fun e => hall d.fs[j] (List.getElem_mem hj) e.symm
      · split
        · exact hall _ (List.getElem_mem hi)
        · exact fun e => by have := hu i j hi hj e; omega
    · show hit tu (d.fs.set k _) = _
      rw [hfk]
      exact hit_setk hk rfl (fun j h _ => hall _ (List.getElem_mem h))
  | true =>
    simp only [if_true]
    obtain ⟨q, hq, hqn, hqf, f1, f2⟩ := hit_some ht
    rw [f2]
    have hqk : q ≠ k := by rintro rfl; exact hne (hkn.symm.trans hqn)
    have hnm : (nmd d k tu).fs = d.fs.set k ⟨tu, d.fs[k].sf, d.fs[k].wt⟩ := by unfold nmd; rw [hfk]
    refine ⟨trivial, ?_, ?_, h1, h2⟩
    · show Uniq ((nmd d k tu).fs.eraseIdx q)
      rw [hnm, uniq_pw, List.pairwise_iff_getElem]
      intro i j hi hj hij
      rw [List.getElem_eraseIdx, List.getElem_eraseIdx]
      have hl : (d.fs.set k ⟨tu, d.fs[k].sf, d.fs[k].wt⟩).length = d.fs.length := by simp
      rw [List.length_eraseIdx] at hi hj
      have key : ∀ a b (ha : a < (d.fs.set k ⟨tu, d.fs[k].sf, d.fs[k].wt⟩).length) (hb : b < (d.fs.set k ⟨tu, d.fs[k].sf, d.fs[k].wt⟩).length), a ≠ q → b ≠ q → a ≠ b → (d.fs.set k ⟨tu, d.fs[k].sf, d.fs[k].wt⟩)[a].nm ≠ (d.fs.set k ⟨tu, d.fs[k].sf, d.fs[k].wt⟩)[b].nm := by
        intro a b ha hb haq hbq hab
        rw [hl] at ha hb
        rw [List.getElem_set, List.getElem_set]
        split
        · rw [if_neg (by omega)]
          intro e
          exact hbq (hu b q hb hq (e.symm.trans hqn.symm))
        · split
          · intro e
            exact haq (hu a q ha hq (e.trans hqn.symm))
          · exact fun e => hab (hu a b ha hb e)
      split
      · split
        · exact key i j _ _ (by omega) (by omega) (by omega)
        · exact key i (j + 1) _ _ (by omega) (by omega) (by omega)
      · split
        · exact key (i + 1) j _ _ (by omega) (by omega) (by omega)
        · exact key (i + 1) (j + 1) _ _ (by omega) (by omega) (by omega)
    · show hit tu ((nmd d k tu).fs.eraseIdx q) = _
      rw [hnm]
      have hmem : (⟨tu, d.fs[k].sf, d.fs[k].wt⟩ : Fil) ∈ (d.fs.set k ⟨tu, d.fs[k].sf, d.fs[k].wt⟩).eraseIdx q := by
        rw [List.mem_eraseIdx_iff_getElem]
        exact ⟨k, by simpa using hk, fun e => hqk e.symm, by simp⟩
      obtain ⟨p, hp2, he⟩ := List.getElem_of_mem hmem
      have hothers : ∀ f ∈ (d.fs.set k ⟨tu, d.fs[k].sf, d.fs[k].wt⟩).eraseIdx q, f.nm = tu → f = ⟨tu, d.fs[k].sf, d.fs[k].wt⟩ := by
        intro f hfm hft
        obtain ⟨i, hi, hne2, rfl⟩ := List.mem_eraseIdx_iff_getElem.1 hfm
        simp only [List.length_set] at hi
        rw [List.getElem_set] at hft ⊢
        split
        · rfl
        · rename_i hik
          rw [if_neg hik] at hft
          exact absurd (hu i q hi hq (hft.trans hqn.symm)) hne2
      rcases plc_cases tu ((d.fs.set k ⟨tu, d.fs[k].sf, d.fs[k].wt⟩).eraseIdx q) with ⟨_, hall⟩ | ⟨r, hr, _, hrn, hrf⟩
      · exact absurd rfl (hall _ hmem)
      · rw [hit_at hr hrn hrf, hothers _ (List.getElem_mem hr) hrn]
end Du
end Go.Proofs.YtncippafbohgbaaDoor

/- The mathematics of a log that lasts: what a put, a sync, a crash and a recovery make of it. -/
namespace Go.Proofs.YtncippafbohgbaaDoor
set_option maxRecDepth 100000
open Dkm Wm Du
set_option linter.unusedVariables false
set_option linter.unusedSimpArgs false
namespace Wl

abbrev Rec := List UInt8
def Le (r : List Rec) : Prop := ∀ x ∈ r, x.length ≤ 2048
/-- under segment k stand these records, all of them safe. -/
def Full (fs : List Fil) (k : Int) (r : List Rec) : Prop :=
  (hit (namB k) fs).2 = true ∧ (hit (namB k) fs).1.sf.data.toList = flat r ∧ (hit (namB k) fs).1.wt = ⟨#[]⟩ ∧ (flat r).length ≤ 8192
/-- the files of a log: segments that are left, and the last one. -/
structure St (fs : List Fil) (rs : List (List Rec)) (r : List Rec) (t : List UInt8) (m : Nat) : Prop where
  uniq : Uniq fs
  top : rs.length + 1 ≤ 1000000
  full : ∀ i (h : i < rs.length), Full fs ((i : Int) + 1) rs[i]
  none : ∀ k : Int, (rs.length : Int) + 1 < k → segOk k → (hit (namB k) fs).2 = false
  les : ∀ x ∈ rs, Le x
  le : Le r
  part : Part t
  mle : m ≤ r.length
  size : (flat r ++ t).length ≤ 8192
  last : ((hit (namB ((rs.length : Int) + 1)) fs).2 = false ∧ r = [] ∧ t = []) ∨ ((hit (namB ((rs.length : Int) + 1)) fs).2 = true)
  text : (hit (namB ((rs.length : Int) + 1)) fs).1.sf.data.toList ++ (hit (namB ((rs.length : Int) + 1)) fs).1.wt.data.toList = flat r ++ t
  safe : flat (r.take m) <+: (hit (namB ((rs.length : Int) + 1)) fs).1.sf.data.toList
theorem St.ok {fs : List Fil} {rs : List (List Rec)} {r : List Rec} {t : List UInt8} {m : Nat} (h : St fs rs r t m) : segOk ((rs.length : Int) + 1) := by have := h.top; unfold segOk; omega
theorem hit_def {nm : ByteArray} {l : List Fil} (h : (hit nm l).2 = false) : (hit nm l).1 = ⟨⟨#[]⟩, ⟨#[]⟩, ⟨#[]⟩⟩ := by rw [hit_none (hit_no h)]
/-- a change of the last segment alone. -/
theorem St.turn {fs fs' : List Fil} {rs : List (List Rec)} {r r' : List Rec} {t t' : List UInt8} {m m' : Nat} (h : St fs rs r t m) (hu : Uniq fs')
    (ha : ∀ k, segOk k → k ≠ (rs.length : Int) + 1 → hit (namB k) fs' = hit (namB k) fs) (hle : Le r') (hp : Part t') (hm : m' ≤ r'.length) (hs : (flat r' ++ t').length ≤ 8192)
    (hit1 : (hit (namB ((rs.length : Int) + 1)) fs').2 = true) (htx : (hit (namB ((rs.length : Int) + 1)) fs').1.sf.data.toList ++ (hit (namB ((rs.length : Int) + 1)) fs').1.wt.data.toList = flat r' ++ t')
    (hsf : flat (r'.take m') <+: (hit (namB ((rs.length : Int) + 1)) fs').1.sf.data.toList) : St fs' rs r' t' m' where
  uniq := hu
  top := h.top
  full i hi := by
    have h1 := h.full i hi
    have e := ha ((i : Int) + 1) (by have := h.top; unfold segOk; omega) (by omega)
    unfold Full at h1 ⊢
    rw [e]; exact h1
  none k hk hs := by rw [ha k hs (by omega)]; exact h.none k hk hs
  les := h.les
  le := hle
  part := hp
  mle := hm
  size := hs
  last := .inr hit1
  text := htx
  safe := hsf
/-- the last segment is left. -/
theorem St.next {fs : List Fil} {rs : List (List Rec)} {r : List Rec} {m : Nat} (h : St fs rs r [] m) (htop : rs.length + 2 ≤ 1000000) (h1 : (hit (namB ((rs.length : Int) + 1)) fs).2 = true) (hw : (hit (namB ((rs.length : Int) + 1)) fs).1.wt = ⟨#[]⟩) : St fs (rs ++ [r]) [] [] 0 := by
  have hl : ((rs ++ [r]).length : Int) + 1 = (rs.length : Int) + 2 := by simp; omega
  have hn : (hit (namB ((rs.length : Int) + 2)) fs).2 = false := h.none _ (by omega) (by unfold segOk; omega)
  have hd := hit_def hn
  refine ⟨h.uniq, by simp; omega, fun i hi => ?_, fun k hk hs => h.none k (by rw [hl] at hk; omega) hs, fun x hx => ?_, fun x hx => by simp at hx, Part.nil, by simp, by simp [flat_nil], ?_, ?_, ?_⟩
  · by_cases hi2 : i < rs.length
    · rw [List.getElem_append_left hi2]; exact h.full i hi2
    · have e : i = rs.length := by simp at hi; omega
      subst e
      have htx := h.text
      rw [hw] at htx
      have e1 : (rs ++ [r])[rs.length] = r := by simp
      rw [e1]
      refine ⟨h1, by simpa using htx, hw, by have := h.size; simpa using this⟩
  · rcases List.mem_append.1 hx with hx | hx
    · exact h.les x hx
    · simp at hx; subst hx; exact h.le
  · rw [hl]; exact .inl ⟨hn, rfl, rfl⟩
  · rw [hl, hd]; rfl
  · rw [hl, hd]; simp [flat_nil]
/-- the segment ahead of the last one, which isn't there, is the last one. -/
theorem St.back {fs : List Fil} {rs : List (List Rec)} {r : List Rec} {m : Nat} (h : St fs (rs ++ [r]) [] [] m) (hn : (hit (namB (((rs ++ [r]).length : Int) + 1)) fs).2 = false) : St fs rs r [] r.length := by
  have hl : ((rs ++ [r]).length : Int) + 1 = (rs.length : Int) + 2 := by simp; omega
  rw [hl] at hn
  have hf := h.full rs.length (by simp)
  have e1 : (rs ++ [r])[rs.length]'(by simp) = r := by simp
  rw [e1] at hf
  obtain ⟨f1, f2, f3, f4⟩ := hf
  have htop := h.top
  rw [List.length_append, List.length_singleton] at htop
  refine ⟨h.uniq, by omega, fun i hi => ?_, fun k hk hs => ?_, fun x hx => h.les x (by simp [hx]), h.les r (by simp), Part.nil, Nat.le_refl _, by simpa using f4, .inr f1, by rw [f2, f3], by rw [f2, List.take_length]; exact List.prefix_refl _⟩
  · have := h.full i (by simp; omega)
    rw [List.getElem_append_left hi] at this; exact this
  · by_cases e : k = (rs.length : Int) + 2
    · rw [e]; exact hn
    · exact h.none k (by rw [hl]; omega) hs

/-- whole records ahead of a beginning that holds them. -/
theorem whole_in {us r : List Rec} {q : List UInt8} {m : Nat} (hu : Le us) (hr : Le r) (hq : Part q) (hm : m ≤ r.length) (h : flat (r.take m) <+: flat us ++ q) : m ≤ us.length := by
  obtain ⟨b, hb⟩ := h
  have h1 := scn_part us hu hq
  rw [← hb, scn_app (r.take m) (fun x hx => hr x (List.mem_of_mem_take hx)) b] at h1
  have := congrArg (fun x => x.1.length) h1
  simp only [List.length_append, List.length_take] at this
  omega

/-- what a put of a record that is no longer than 2048 bytes may make longer. -/
theorem sld_small (s : List UInt8) (hs : s.length ≤ 2048) : (sld s).length ≤ 2100 := by
  have := sld_length s (by omega)
  omega

/-- Append of a record to the last segment. -/
theorem putA_inv {d : Dk} {rs : List (List Rec)} {r : List Rec} {m : Nat} (h : St d.fs rs r [] m) (rec : ByteArray) (hrec : rec.size ≤ 2048) (hsz : (flat r).length < 256) :
    ((appd d (namB ((rs.length : Int) + 1)) (sealB rec)).2 = 0 → St (appd d (namB ((rs.length : Int) + 1)) (sealB rec)).1.fs rs (r ++ [rec.data.toList]) [] m) ∧
    ((appd d (namB ((rs.length : Int) + 1)) (sealB rec)).2 ≠ 0 → ∃ t, St (appd d (namB ((rs.length : Int) + 1)) (sealB rec)).1.fs rs r t m ∧ ((appd d (namB ((rs.length : Int) + 1)) (sealB rec)).2 ≠ 6 → t = [])) := by
  have hap : ∀ k, segOk k → k ≠ (rs.length : Int) + 1 → hit (namB k) (appd d (namB ((rs.length : Int) + 1)) (sealB rec)).1.fs = hit (namB k) d.fs := fun k hk hne => appd_apart d fun e => hne (namB_inj hk h.ok e)
  have hl : rec.data.toList.length = rec.size := by show rec.data.toList.length = rec.data.size; simp
  have hsl := sld_small rec.data.toList (by omega)
  rcases appd_cases d (namB ((rs.length : Int) + 1)) (sealB rec) h.uniq with ⟨e1, e2⟩ | ⟨e1, e2, e3⟩
  · rw [e1]
    refine ⟨fun h0 => ?_, fun _ => ⟨[], h, fun _ => rfl⟩⟩
    rcases e2 with ⟨e, _⟩ | ⟨e, _⟩ | e | ⟨e, _⟩ <;> rw [e] at h0 <;> cases h0
  · generalize appd d (namB ((rs.length : Int) + 1)) (sealB rec) = x at e1 e2 e3 hap
    have htx := h.text
    rw [List.append_nil] at htx
    cases hsh : short d.fuse (sealB rec) with
    | false =>
      rw [hsh] at e1
      have hc : cut d.fuse (sealB rec) = sealB rec := by unfold cut; rw [hsh]; rfl
      rw [hc] at e3
      have hfl : flat (r ++ [rec.data.toList]) = flat r ++ sld rec.data.toList := by rw [flat_app, flat_cons, flat_nil, List.append_nil]
      refine ⟨fun _ => h.turn e2 hap (fun y hy => ?_) Part.nil (by have := h.mle; simp; omega) (by rw [hfl]; simp; omega) (by rw [e3]) ?_ ?_, fun h0 => absurd e1 h0⟩
      · rcases List.mem_append.1 hy with hy | hy
        · exact h.le y hy
        · simp at hy; subst hy; omega
      · rw [e3]
        show (hit _ d.fs).1.sf.data.toList ++ ((hit _ d.fs).1.wt ++ sealB rec).data.toList = _
        rw [ByteArray.data_append, Array.toList_append, sealB_list, ← List.append_assoc, htx, hfl, List.append_nil]
      · rw [e3, List.take_append_of_le_length h.mle]; exact h.safe
    | true =>
      rw [hsh] at e1
      have hc : cut d.fuse (sealB rec) = (sealB rec).extract 0 d.fuse.toNat := by unfold cut; rw [hsh]; rfl
      rw [hc] at e3
      have hcl : ((sealB rec).extract 0 d.fuse.toNat).data.toList = (sld rec.data.toList).take d.fuse.toNat := by rw [ByteArray.data_extract]; simp [sealB]
      have hfu : d.fuse.toNat < (sld rec.data.toList).length := by
        simp only [short, decide_eq_true_eq] at hsh
        rw [sealB_size] at hsh; omega
      refine ⟨fun h0 => (by rw [h0] at e1; cases e1), fun _ => ⟨(sld rec.data.toList).take d.fuse.toNat, h.turn e2 hap h.le ⟨rec.data.toList, by unfold Dm.maxU; omega, _, hfu, rfl⟩ h.mle (by rw [List.length_append, List.length_take]; omega) (by rw [e3]) ?_ (by rw [e3]; exact h.safe), fun h6 => absurd e1 h6⟩⟩
      rw [e3]
      show (hit _ d.fs).1.sf.data.toList ++ ((hit _ d.fs).1.wt ++ (sealB rec).extract 0 d.fuse.toNat).data.toList = _
      rw [ByteArray.data_append, Array.toList_append, hcl, ← List.append_assoc, htx]
/-- Sync of the last segment. -/
theorem syn_inv {d : Dk} {rs : List (List Rec)} {r : List Rec} {t : List UInt8} {m : Nat} (h : St d.fs rs r t m) :
    ((syn d (namB ((rs.length : Int) + 1))).2 = 0 → St (syn d (namB ((rs.length : Int) + 1))).1.fs rs r t r.length ∧ (hit (namB ((rs.length : Int) + 1)) (syn d (namB ((rs.length : Int) + 1))).1.fs).2 = true ∧ (hit (namB ((rs.length : Int) + 1)) (syn d (namB ((rs.length : Int) + 1))).1.fs).1.wt = ⟨#[]⟩) ∧
    ((syn d (namB ((rs.length : Int) + 1))).2 ≠ 0 → (syn d (namB ((rs.length : Int) + 1))).1 = d) := by
  have hap : ∀ k, segOk k → k ≠ (rs.length : Int) + 1 → hit (namB k) (syn d (namB ((rs.length : Int) + 1))).1.fs = hit (namB k) d.fs := fun k hk hne => syn_apart d fun e => hne (namB_inj hk h.ok e)
  rcases syn_cases d (namB ((rs.length : Int) + 1)) h.uniq with ⟨e1, e2⟩ | ⟨e1, e2, e3, e4, e5⟩
  · rw [e1]
    refine ⟨fun h0 => ?_, fun _ => rfl⟩
    rcases e2 with ⟨e, _⟩ | ⟨e, _⟩ <;> rw [e] at h0 <;> cases h0
  · refine ⟨fun _ => ?_, fun h0 => absurd e1 h0⟩
    generalize syn d (namB ((rs.length : Int) + 1)) = x at e1 e4 e5 hap
    have htx := h.text
    have hsf : (hit (namB ((rs.length : Int) + 1)) x.1.fs).1.sf.data.toList = flat r ++ t := by
      rw [e5]
      show ((hit _ d.fs).1.sf ++ (hit _ d.fs).1.wt).data.toList = _
      rw [ByteArray.data_append, Array.toList_append]; exact htx
    refine ⟨h.turn e4 hap h.le h.part (Nat.le_refl _) h.size (by rw [e5]) ?_ ?_, by rw [e5], by rw [e5]⟩
    · rw [hsf, e5]; simp
    · rw [hsf, List.take_length]; exact List.prefix_append _ _
/-- a crash. -/
theorem crs_inv {d : Dk} {rs : List (List Rec)} {r : List Rec} {t : List UInt8} {m : Nat} (h : St d.fs rs r t m) (ks : List Int) :
    ∃ us q, us <+: r ∧ m ≤ us.length ∧ St (crs d ks).fs rs us q m ∧ (hit (namB ((rs.length : Int) + 1)) (crs d ks).fs).1.wt = ⟨#[]⟩ := by
  have hfull : ∀ i (hi : i < rs.length), Full (crs d ks).fs ((i : Int) + 1) rs[i] := by
    intro i hi
    obtain ⟨f1, f2, f3, f4⟩ := h.full i hi
    rcases hit_crs d ks (namB ((i : Int) + 1)) with ⟨e, _⟩ | ⟨_, k, e⟩
    · rw [f1] at e; cases e
    · unfold Full
      rw [e, f3]
      refine ⟨rfl, ?_, rfl, f4⟩
      show ((hit _ d.fs).1.sf ++ (⟨#[]⟩ : ByteArray).extract 0 k).data.toList = _
      rw [ByteArray.data_append, Array.toList_append, f2]; simp
  have hnone : ∀ k : Int, (rs.length : Int) + 1 < k → segOk k → (hit (namB k) (crs d ks).fs).2 = false := by
    intro k hk hs
    rcases hit_crs d ks (namB k) with ⟨_, e⟩ | ⟨e, _⟩
    · exact e
    · rw [h.none k hk hs] at e; cases e
  rcases hit_crs d ks (namB ((rs.length : Int) + 1)) with ⟨e1, e2⟩ | ⟨e1, k, e2⟩
  · rcases h.last with ⟨_, rfl, rfl⟩ | e
    · have hd := hit_def e2
      have hm : m = 0 := Nat.le_zero.1 h.mle
      subst hm
      refine ⟨[], [], List.prefix_refl _, Nat.le_refl _, ⟨crs_uniq d ks h.uniq, h.top, hfull, hnone, h.les, h.le, Part.nil, Nat.le_refl _, h.size, .inl ⟨e2, rfl, rfl⟩, by rw [hd]; rfl, by rw [hd]; simp [flat_nil]⟩, by rw [hd]⟩
    · rw [e1] at e; cases e
  · have htx := h.text
    have hsf : (hit (namB ((rs.length : Int) + 1)) (crs d ks).fs).1.sf.data.toList = (hit (namB ((rs.length : Int) + 1)) d.fs).1.sf.data.toList ++ (hit (namB ((rs.length : Int) + 1)) d.fs).1.wt.data.toList.take k := by
      rw [e2]
      show ((hit _ d.fs).1.sf ++ (hit _ d.fs).1.wt.extract 0 k).data.toList = _
      rw [ByteArray.data_append, Array.toList_append, ByteArray.data_extract]; simp
    have hpre : (hit (namB ((rs.length : Int) + 1)) (crs d ks).fs).1.sf.data.toList <+: flat r ++ t := by
      rw [hsf, ← htx]
      exact (List.prefix_append_right_inj _).2 (List.take_prefix _ _)
    have hsz := hpre.length_le
    obtain ⟨us, q, u1, u2, u3⟩ := pre_part r t _ h.le h.part hpre
    have hle : Le us := fun x hx => h.le x (u1.subset hx)
    have hsafe : flat (r.take m) <+: flat us ++ q := by
      rw [← u3, hsf]
      exact h.safe.trans (List.prefix_append _ _)
    have hml := whole_in hle h.le u2 h.mle hsafe
    obtain ⟨v, hv⟩ := u1
    have htk : r.take m = us.take m := by rw [← hv, List.take_append_of_le_length hml]
    refine ⟨us, q, ⟨v, hv⟩, hml, ⟨crs_uniq d ks h.uniq, h.top, hfull, hnone, h.les, hle, u2, hml, by rw [← u3]; exact Nat.le_trans hsz h.size, .inr (by rw [e2]), ?_, by rw [← htk, u3]; exact hsafe⟩, by rw [e2]⟩
    rw [u3, e2]; simp
end Wl
end Go.Proofs.YtncippafbohgbaaDoor

/- The mathematics of a log that lasts: what is recovered behind a crash, and what is recovered again. -/
namespace Go.Proofs.YtncippafbohgbaaDoor
set_option maxRecDepth 100000
open Dkm Wm Du
set_option linter.unusedVariables false
set_option linter.unusedSimpArgs false
namespace Wl

theorem appd_pow (d : Dk) (nm s : ByteArray) (h1 : d.off = false) (h2 : d.fuse < 0) : (appd d nm s).1.off = false ∧ (appd d nm s).1.fuse < 0 := by
  have hs : short d.fuse s = false := by unfold short; simp; omega
  unfold appd
  split; exact ⟨h1, h2⟩
  split; exact ⟨h1, h2⟩
  split; exact ⟨h1, h2⟩
  split; exact ⟨h1, h2⟩
  refine ⟨hs, ?_⟩
  show (if 0 ≤ d.fuse then _ else d.fuse) < 0
  rw [if_neg (by omega)]; exact h2
theorem syn_pow (d : Dk) (nm : ByteArray) (h1 : d.off = false) (h2 : d.fuse < 0) : (syn d nm).1.off = false ∧ (syn d nm).1.fuse < 0 := by
  unfold syn
  split; exact ⟨h1, h2⟩
  split <;> exact ⟨h1, h2⟩
theorem crs_pow (d : Dk) (ks : List Int) : (crs d ks).off = false ∧ (crs d ks).fuse < 0 := ⟨rfl, by show (-1 : Int) < 0; omega⟩

/-- the steps of a cut, where the power is on for good: no room, or all is done. -/
theorem cut_inv {x : Dk} {rs : List (List Rec)} {us : List Rec} {q : List UInt8} {m : Nat} (h : St x.fs rs us q m) (h1 : x.off = false) (h2 : x.fuse < 0) (hhit : (hit (namB ((rs.length : Int) + 1)) x.fs).2 = true) :
    (cutM x ((rs.length : Int) + 1) ⟨(flat us).toArray⟩).2 = 5 ∨ ((cutM x ((rs.length : Int) + 1) ⟨(flat us).toArray⟩).2 = 0 ∧ St (cutM x ((rs.length : Int) + 1) ⟨(flat us).toArray⟩).1.fs rs us [] us.length ∧
      (hit (namB ((rs.length : Int) + 1)) (cutM x ((rs.length : Int) + 1) ⟨(flat us).toArray⟩).1.fs).2 = true ∧ (hit (namB ((rs.length : Int) + 1)) (cutM x ((rs.length : Int) + 1) ⟨(flat us).toArray⟩).1.fs).1.wt = ⟨#[]⟩) := by
  obtain ⟨s, hs⟩ : ∃ s : ByteArray, s = ⟨(flat us).toArray⟩ := ⟨_, rfl⟩
  have hsl : s.data.toList = flat us := by rw [hs]
  have hsz : s.size ≤ 8192 := by
    have e : s.size = (flat us).length := by rw [← hsl]; show s.data.size = _; simp
    have := h.size
    rw [List.length_append] at this; omega
  rw [← hs]
  clear hs
  -- 1: a fresh file of before goes
  have c1 : (cut1 x).2 = 0 ∧ Uniq (cut1 x).1.fs ∧ (hit freshB (cut1 x).1.fs).2 = false ∧ (cut1 x).1.off = false ∧ (cut1 x).1.fuse < 0 ∧ ∀ o, o ≠ freshB → hit o (cut1 x).1.fs = hit o x.fs := by
    unfold Wm.cut1
    split
    · rename_i hf
      obtain ⟨a1, a2, a3, a4, a5⟩ := del_on x freshB h.uniq h1 h2 hf
      exact ⟨a1, a2, a3, a4, a5, fun o ho => del_apart x ho⟩
    · rename_i hf
      exact ⟨rfl, h.uniq, by simpa using hf, h1, h2, fun o _ => rfl⟩
  obtain ⟨a1, a2, a3, a4, a5, a6⟩ := c1
  have e2 : cut2 x s = appd (cut1 x).1 freshB s := by unfold Wm.cut2; rw [if_pos a1]
  have hsh : short (cut1 x).1.fuse s = false := by unfold short; simp; omega
  have hct : Dkm.cut (cut1 x).1.fuse s = s := by unfold Dkm.cut; rw [hsh]; rfl
  have hdef := hit_def a3
  rcases appd_cases (cut1 x).1 freshB s a2 with ⟨b1, b2⟩ | ⟨b1, b2, b3⟩
  · -- nothing was appended
    have h5 : (cut2 x s).2 = 5 := by
      rw [e2]
      rcases b2 with ⟨_, e⟩ | ⟨_, e⟩ | e | ⟨_, e⟩
      · rw [a4] at e; cases e
      · exact absurd e (by decide)
      · exact e
      · rw [hdef] at e
        have e0 : (⟨#[]⟩ : ByteArray).size = 0 := rfl
        rw [e0] at e; omega
    have h3 : (cut3 x s).2 = 5 := by unfold Wm.cut3; rw [if_neg (by rw [h5]; decide)]; exact h5
    have h4 : (cut4 x ((rs.length : Int) + 1) s).2 = 5 := by unfold Wm.cut4; rw [if_neg (by rw [h3]; decide)]; exact h3
    left
    unfold Wm.cutM; rw [if_neg (by rw [h4]; decide)]; exact h4
  · rw [hsh] at b1
    rw [hct, hdef] at b3
    have b1 : (appd (cut1 x).1 freshB s).2 = 0 := b1
    obtain ⟨p1, p2⟩ := appd_pow (cut1 x).1 freshB s a4 a5
    have b6 : ∀ o, o ≠ freshB → hit o (cut2 x s).1.fs = hit o x.fs := fun o ho => by rw [e2]; exact (appd_apart _ ho).trans (a6 o ho)
    rw [← e2] at b1 b2 b3 p1 p2
    have e3 : cut3 x s = syn (cut2 x s).1 freshB := by unfold Wm.cut3; rw [if_pos b1]
    obtain ⟨r1, r2⟩ := syn_pow (cut2 x s).1 freshB p1 p2
    rcases syn_cases (cut2 x s).1 freshB b2 with ⟨_, d2⟩ | ⟨d1, _, _, d4, d5⟩
    · exfalso
      rcases d2 with ⟨_, e⟩ | ⟨_, e⟩
      · rw [p1] at e; cases e
      · rw [b3] at e; cases e
    rw [b3] at d5
    have d6 : ∀ o, o ≠ freshB → hit o (cut3 x s).1.fs = hit o x.fs := fun o ho => by rw [e3]; exact (syn_apart _ ho).trans (b6 o ho)
    rw [← e3] at d1 d4 d5 r1 r2
    have e4 : cut4 x ((rs.length : Int) + 1) s = ren (cut3 x s).1 freshB (namB ((rs.length : Int) + 1)) := by unfold Wm.cut4; rw [if_pos d1]
    have hnok : nmOk (namB ((rs.length : Int) + 1)) = true := by have := namB_ok h.ok; unfold nmOk; simp; omega
    obtain ⟨f1, f2, f3, f4, f5⟩ := ren_on (cut3 x s).1 freshB (namB ((rs.length : Int) + 1)) d4 r1 r2 (by rw [d5]) hnok (Ne.symm (namB_fresh h.ok))
    rw [d5] at f3
    have f6 : ∀ o, o ≠ freshB → o ≠ namB ((rs.length : Int) + 1) → hit o (cut4 x ((rs.length : Int) + 1) s).1.fs = hit o x.fs := fun o ho ho2 => by rw [e4]; exact (ren_apart _ ho ho2).trans (d6 o ho)
    rw [← e4] at f1 f2 f3
    have hap : ∀ k, segOk k → k ≠ (rs.length : Int) + 1 → hit (namB k) (cut4 x ((rs.length : Int) + 1) s).1.fs = hit (namB k) x.fs := fun k hk hne => f6 _ (namB_fresh hk) fun e => hne (namB_inj hk h.ok e)
    have hS : St (cut4 x ((rs.length : Int) + 1) s).1.fs rs us [] us.length := by
      have hsf : (hit (namB ((rs.length : Int) + 1)) (cut4 x ((rs.length : Int) + 1) s).1.fs).1.sf.data.toList = flat us := by
        rw [f3]
        show ((⟨#[]⟩ : ByteArray) ++ ((⟨#[]⟩ : ByteArray) ++ s)).data.toList = _
        rw [ByteArray.data_append, ByteArray.data_append, Array.toList_append, Array.toList_append, hsl]; rfl
      refine h.turn f2 hap h.le Part.nil (Nat.le_refl _) (by have := h.size; rw [List.length_append] at this ⊢; simp; omega) (by rw [f3]) ?_ (by rw [hsf, List.take_length]; exact List.prefix_refl _)
      rw [hsf, f3]
    have hd : dels (fuelOf ((rs.length : Int) + 1 + 1)) (cut4 x ((rs.length : Int) + 1) s).1 ((rs.length : Int) + 1 + 1) = ((cut4 x ((rs.length : Int) + 1) s).1, 0) := by
      cases hfu : fuelOf ((rs.length : Int) + 1 + 1) with
      | zero => rfl
      | succ n =>
        unfold Wm.dels
        rw [if_neg]
        rintro ⟨g1, g2⟩
        rw [hS.none _ (by omega) g1] at g2; cases g2
    right
    unfold Wm.cutM
    rw [if_pos f1, hd]
    exact ⟨rfl, hS, by rw [f3], by rw [f3]⟩

/-- the segments that were left are read one behind the other. -/
theorem recF_full (d : Dk) (from_ : Int) : ∀ (rs : List (List Rec)) (n : Nat) (s : Int) (acc : List Rec) (last : Int), (∀ i (h : i < rs.length), Full d.fs (s + (i : Int)) rs[i]) → (∀ x ∈ rs, Le x) → 1 ≤ s → s + (rs.length : Int) ≤ 1000001 →
    recF (rs.length + n) d from_ s acc last = recF n d from_ (s + (rs.length : Int)) (acc ++ rs.flatten) (if rs = [] then last else s + (rs.length : Int) - 1)
  | [], n, s, acc, last, _, _, _, _ => by simp
  | r :: rs, n, s, acc, last, hf, hl, h1, h2 => by
    simp only [List.length_cons] at h2
    have hs : segOk s := by unfold segOk; omega
    obtain ⟨f1, f2, f3, f4⟩ := hf 0 (by simp)
    simp only [Int.ofNat_zero, Int.add_zero, List.getElem_cons_zero] at f1 f2 f3 f4
    have hrd : redd (namB s) d.fs = ((hit (namB s) d.fs).1.sf ++ ⟨#[]⟩, 0) := by unfold redd; rw [f1, if_pos rfl, f3]
    have hsc : scn (redd (namB s) d.fs).1.data.toList = (r, []) := by
      rw [hrd]
      show scn ((hit (namB s) d.fs).1.sf ++ (⟨#[]⟩ : ByteArray)).data.toList = _
      rw [ByteArray.data_append, Array.toList_append, f2]
      simpa using scn_flat r (hl r (by simp))
    have ih := recF_full d from_ rs n (s + 1) (acc ++ r) s (fun i hi => by
      have := hf (i + 1) (by simpa using hi)
      rw [List.getElem_cons_succ] at this
      rw [show s + 1 + (i : Int) = s + ((i + 1 : Nat) : Int) by omega]; exact this) (fun x hx => hl x (by simp [hx])) (by omega) (by omega)
    rw [show (r :: rs).length + n = (rs.length + n) + 1 by simp; omega]
    conv => lhs; unfold Wm.recF
    rw [if_neg (by simpa using hs), if_neg (by rw [hrd]; simp), hsc]
    simp only [if_true]
    rw [ih]
    have e1 : s + 1 + (rs.length : Int) = s + ((r :: rs).length : Int) := by simp; omega
    rw [e1]
    have e2 : acc ++ r ++ rs.flatten = acc ++ (r :: rs).flatten := by simp
    rw [e2]
    congr 1
    rw [if_neg (List.cons_ne_nil r rs)]
    by_cases hr : rs = []
    · rw [if_pos hr]; subst hr; simp
    · rw [if_neg hr]
theorem rec_st (x : Dk) {rs : List (List Rec)} {us : List Rec} {q : List UInt8} {m : Nat} (h : St x.fs rs us q m) :
    recM x 1 = recF (1000000 - rs.length) x 1 ((rs.length : Int) + 1) rs.flatten (if rs = [] then 1 else (rs.length : Int)) := by
  have htop := h.top
  unfold Wm.recM
  rw [if_neg (by unfold segOk; omega)]
  have e : fuelOf 1 = rs.length + (1000000 - rs.length) := by unfold fuelOf; omega
  rw [e, recF_full x 1 rs (1000000 - rs.length) 1 [] 1 (fun i hi => by rw [show (1 : Int) + (i : Int) = (i : Int) + 1 by omega]; exact h.full i hi) h.les (by omega) (by omega)]
  rw [show (1 : Int) + (rs.length : Int) = (rs.length : Int) + 1 by omega, List.nil_append]
  congr 1
  by_cases hr : rs = []
  · rw [if_pos hr, if_pos hr]
  · rw [if_neg hr, if_neg hr]; omega
/-- of a log that isn't torn. -/
theorem rec_clean {x : Dk} {rs : List (List Rec)} {us : List Rec} {m : Nat} (h : St x.fs rs us [] m) (hw : (hit (namB ((rs.length : Int) + 1)) x.fs).1.wt = ⟨#[]⟩) :
    recM x 1 = (x, rs.flatten ++ us, if (hit (namB ((rs.length : Int) + 1)) x.fs).2 then (rs.length : Int) + 1 else if rs = [] then 1 else (rs.length : Int), 0) := by
  rw [rec_st x h]
  have htop := h.top
  obtain ⟨n, hn⟩ : ∃ n, 1000000 - rs.length = n + 1 := ⟨1000000 - rs.length - 1, by omega⟩
  rw [hn]
  conv => lhs; unfold Wm.recF
  rw [if_neg (by simpa using h.ok)]
  rcases h.last with ⟨e, rfl, _⟩ | e
  · have hrd : (redd (namB ((rs.length : Int) + 1)) x.fs).2 = 7 := by unfold redd; rw [e]; rfl
    rw [if_pos (by rw [hrd]; decide), e]
    simp
  · have hrd : redd (namB ((rs.length : Int) + 1)) x.fs = ((hit (namB ((rs.length : Int) + 1)) x.fs).1.sf ++ (hit (namB ((rs.length : Int) + 1)) x.fs).1.wt, 0) := by unfold redd; rw [e, if_pos rfl]
    have hsc : scn (redd (namB ((rs.length : Int) + 1)) x.fs).1.data.toList = (us, []) := by
      rw [hrd]
      show scn ((hit _ x.fs).1.sf ++ (hit _ x.fs).1.wt).data.toList = _
      rw [ByteArray.data_append, Array.toList_append, h.text, List.append_nil]
      exact scn_flat us h.le
    rw [if_neg (by rw [hrd]; simp), hsc, e]
    simp only [if_true]
    cases n with
    | zero => rfl
    | succ n =>
      unfold Wm.recF
      by_cases hs : segOk ((rs.length : Int) + 1 + 1)
      · rw [if_neg (by simpa using hs)]
        have hno := h.none _ (by omega) hs
        have hrd2 : (redd (namB ((rs.length : Int) + 1 + 1)) x.fs).2 = 7 := by unfold redd; rw [hno]; rfl
        rw [if_pos (by rw [hrd2]; decide)]
      · rw [if_pos hs]
/-- of a torn one. -/
theorem rec_torn {x : Dk} {rs : List (List Rec)} {us : List Rec} {q : List UInt8} {m : Nat} (h : St x.fs rs us q m) (hq : q ≠ []) :
    (hit (namB ((rs.length : Int) + 1)) x.fs).2 = true ∧
    recM x 1 = if (cutM x ((rs.length : Int) + 1) ⟨(flat us).toArray⟩).2 ≠ 0 then ((cutM x ((rs.length : Int) + 1) ⟨(flat us).toArray⟩).1, [], 1, (cutM x ((rs.length : Int) + 1) ⟨(flat us).toArray⟩).2)
      else ((cutM x ((rs.length : Int) + 1) ⟨(flat us).toArray⟩).1, rs.flatten ++ us, (rs.length : Int) + 1, 0) := by
  have htop := h.top
  rcases h.last with ⟨_, _, e⟩ | e
  · exact absurd e hq
  refine ⟨e, ?_⟩
  rw [rec_st x h]
  obtain ⟨n, hn⟩ : ∃ n, 1000000 - rs.length = n + 1 := ⟨1000000 - rs.length - 1, by omega⟩
  rw [hn]
  have hrd : redd (namB ((rs.length : Int) + 1)) x.fs = ((hit (namB ((rs.length : Int) + 1)) x.fs).1.sf ++ (hit (namB ((rs.length : Int) + 1)) x.fs).1.wt, 0) := by unfold redd; rw [e, if_pos rfl]
  have hsc : scn (redd (namB ((rs.length : Int) + 1)) x.fs).1.data.toList = (us, q) := by
    rw [hrd]
    show scn ((hit _ x.fs).1.sf ++ (hit _ x.fs).1.wt).data.toList = _
    rw [ByteArray.data_append, Array.toList_append, h.text]
    exact scn_part us h.le h.part
  unfold Wm.recF
  rw [if_neg (by simpa using h.ok), if_neg (by rw [hrd]; simp), hsc]
  simp only
  rw [if_neg hq]
end Wl
end Go.Proofs.YtncippafbohgbaaDoor

/- The mathematics of a log that lasts: the law's world, and what is true of it. -/
namespace Go.Proofs.YtncippafbohgbaaDoor
set_option maxRecDepth 100000
open Dkm Wm Du
set_option linter.unusedVariables false
set_option linter.unusedSimpArgs false
namespace Wl

/-- a disk, the segment, what was put, how much of it is safe, and whether the power went in a put. -/
structure Lw where
  d : Dk
  seg : Int
  put : List Rec
  safe : Nat
  dead : Bool
def Lw.puts (w : Lw) (rec : ByteArray) : Lw :=
  if w.dead then w
  else ⟨(putM w.d w.seg rec).1, (putM w.d w.seg rec).2.1, if (putM w.d w.seg rec).2.2 = 0 then w.put ++ [rec.data.toList] else w.put, if (putM w.d w.seg rec).2.1 ≠ w.seg then w.put.length else w.safe, decide ((putM w.d w.seg rec).2.2 = 6)⟩
def Lw.syncs (w : Lw) : Lw := { w with d := (syncM w.d w.seg).1, safe := if (syncM w.d w.seg).2 = 0 ∧ w.dead = false then w.put.length else w.safe }
def In (w : Lw) : Prop := ∃ rs r t m, St w.d.fs rs r t m ∧ w.seg = (rs.length : Int) + 1 ∧ w.put = rs.flatten ++ r ∧ w.safe ≤ rs.flatten.length + m ∧ (w.dead = false → t = [])

theorem St.redd {fs : List Fil} {rs : List (List Rec)} {r : List Rec} {t : List UInt8} {m : Nat} (h : St fs rs r t m) : (redd (namB ((rs.length : Int) + 1)) fs).1.data.toList = flat r ++ t := by
  have htx := h.text
  unfold Dkm.redd
  split
  · show ((hit _ fs).1.sf ++ (hit _ fs).1.wt).data.toList = _
    rw [ByteArray.data_append, Array.toList_append]; exact htx
  · rename_i hh
    rw [hit_def (by simpa using hh)] at htx
    rw [← htx]; rfl
theorem new_in (room : Int) : In ⟨⟨[], room, -1, false⟩, 1, [], 0, false⟩ := by
  have hn : ∀ nm : ByteArray, hit nm [] = (⟨⟨#[]⟩, ⟨#[]⟩, ⟨#[]⟩⟩, false) := fun nm => rfl
  refine ⟨[], [], [], 0, ⟨fun i j hi _ _ => by simp at hi, by simp, fun i hi => by simp at hi, fun k _ _ => by rw [hn], fun x hx => by simp at hx, fun x hx => by simp at hx, Part.nil, by simp, by simp [flat_nil], .inl ⟨by rw [hn], rfl, rfl⟩, by rw [hn]; simp [flat_nil], by rw [hn]; simp [flat_nil]⟩, rfl, rfl, by simp, fun _ => rfl⟩
theorem arm_in {w : Lw} (h : In w) (d' : Dk) (hd : d'.fs = w.d.fs) : In { w with d := d' } := by
  obtain ⟨rs, r, t, m, h1, h2, h3, h4, h5⟩ := h
  exact ⟨rs, r, t, m, by show St d'.fs rs r t m; rw [hd]; exact h1, h2, h3, h4, h5⟩
theorem put_in {w : Lw} (h : In w) (rec : ByteArray) : In (w.puts rec) := by
  obtain ⟨d, seg, put, safe, dead⟩ := w
  obtain ⟨rs, r, t, m, h1, h2, h3, h4, h5⟩ := h
  simp only at h1 h2 h3 h4 h5
  unfold Lw.puts
  cases dead with
  | true => exact ⟨rs, r, t, m, h1, h2, h3, h4, h5⟩
  | false =>
    have ht := h5 rfl
    subst ht
    simp only [Bool.false_eq_true, if_false]
    have hok : segOk seg := by rw [h2]; exact h1.ok
    unfold putM
    rw [if_neg (by simpa using hok)]
    by_cases hbig : 2048 < rec.size
    · rw [if_pos hbig]
      exact ⟨rs, r, [], m, h1, h2, by simpa using h3, by simpa using h4, fun _ => rfl⟩
    · rw [if_neg hbig]
      have hrd : (redd (namB seg) d.fs).1.size = (flat r).length := by
        rw [h2]
        have := congrArg List.length h1.redd
        rw [List.append_nil] at this
        rw [← this]
        show (redd _ d.fs).1.data.size = _
        simp
      unfold putB
      by_cases hsm : (redd (namB seg) d.fs).1.size < 256
      · rw [if_pos hsm]
        unfold putA
        obtain ⟨p1, p2⟩ := putA_inv h1 rec (by omega) (by omega)
        rw [← h2] at p1 p2
        by_cases h0 : (appd d (namB seg) (sealB rec)).2 = 0
        · refine ⟨rs, r ++ [rec.data.toList], [], m, p1 h0, h2, ?_, by simpa using h4, fun _ => rfl⟩
          simp only [h0, if_true, h3, List.append_assoc]
        · obtain ⟨t, q1, q2⟩ := p2 h0
          refine ⟨rs, r, t, m, q1, h2, by simp only [h0, if_false]; exact h3, by simpa using h4, fun hd => q2 (by simpa using hd)⟩
      · rw [if_neg hsm]
        obtain ⟨s1, s2⟩ := syn_inv h1
        rw [← h2] at s1 s2
        by_cases h0 : (syn d (namB seg)).2 = 0
        · rw [if_neg (by simpa using h0)]
          obtain ⟨u1, u2, u3⟩ := s1 h0
          by_cases hmx : seg = 1000000
          · rw [if_pos hmx]
            have := h1.mle
            refine ⟨rs, r, [], r.length, u1, h2, by simpa using h3, ?_, fun _ => rfl⟩
            simp only [ne_eq, not_true_eq_false, if_false]; omega
          · rw [if_neg hmx]
            unfold putA
            have htop := h1.top
            have hn := u1.next (by omega) (by rw [← h2]; exact u2) (by rw [← h2]; exact u3)
            have hl : seg + 1 = ((rs ++ [r]).length : Int) + 1 := by rw [h2]; simp
            obtain ⟨p1, p2⟩ := putA_inv hn rec (by omega) (by simp [flat_nil])
            rw [← hl] at p1 p2
            have hput : put = (rs ++ [r]).flatten := by rw [h3]; simp
            have hne : seg + 1 ≠ seg := by omega
            by_cases h7 : (appd (syn d (namB seg)).1 (namB (seg + 1)) (sealB rec)).2 = 0
            · refine ⟨rs ++ [r], [] ++ [rec.data.toList], [], 0, p1 h7, hl, ?_, ?_, fun _ => rfl⟩
              · simp only [h7, if_true, hput, List.nil_append]
              · simp only [hne, ne_eq, not_false_eq_true, if_true, hput]; omega
            · obtain ⟨t, q1, q2⟩ := p2 h7
              refine ⟨rs ++ [r], [], t, 0, q1, hl, ?_, ?_, fun hd => q2 (by simpa using hd)⟩
              · simp only [h7, if_false, hput, List.append_nil]
              · simp only [hne, ne_eq, not_false_eq_true, if_true, hput]; omega
        · rw [if_pos (by simpa using h0), s2 h0]
          refine ⟨rs, r, [], m, h1, h2, by simp only [h0, if_false]; exact h3, by simpa using h4, fun _ => rfl⟩
theorem sync_in {w : Lw} (h : In w) : In w.syncs := by
  obtain ⟨d, seg, put, safe, dead⟩ := w
  obtain ⟨rs, r, t, m, h1, h2, h3, h4, h5⟩ := h
  simp only at h1 h2 h3 h4 h5
  have hput : put.length = rs.flatten.length + r.length := by rw [h3, List.length_append]
  have hmle := h1.mle
  unfold Lw.syncs syncM
  simp only
  by_cases hh : (hit (namB seg) d.fs).2 = true
  · rw [if_pos hh]
    obtain ⟨s1, s2⟩ := syn_inv h1
    rw [← h2] at s1 s2
    by_cases h0 : (syn d (namB seg)).2 = 0
    · obtain ⟨u1, _, _⟩ := s1 h0
      refine ⟨rs, r, t, r.length, u1, h2, h3, ?_, h5⟩
      simp only [h0, true_and]
      split <;> omega
    · rw [s2 h0]
      exact ⟨rs, r, t, m, h1, h2, h3, by simp only [h0, false_and, if_false]; exact h4, h5⟩
  · rw [if_neg hh]
    have hr : r = [] := by
      rcases h1.last with ⟨_, e, _⟩ | e
      · exact e
      · rw [← h2] at e; exact absurd e hh
    subst hr
    have hm : m = 0 := Nat.le_zero.1 hmle
    subst hm
    refine ⟨rs, [], t, 0, h1, h2, h3, ?_, h5⟩
    simp only [true_and]
    split
    · have e0 : ([] : List Rec).length = 0 := rfl
      omega
    · exact h4
/-- a log that was recovered, as a world. -/
theorem clean_in {x : Dk} {rs : List (List Rec)} {us : List Rec} {m safe : Nat} (h : St x.fs rs us [] m) (hs : safe ≤ rs.flatten.length + us.length) (hw : (hit (namB ((rs.length : Int) + 1)) x.fs).1.wt = ⟨#[]⟩) :
    In ⟨x, if (hit (namB ((rs.length : Int) + 1)) x.fs).2 then (rs.length : Int) + 1 else if rs = [] then 1 else (rs.length : Int), rs.flatten ++ us, safe, false⟩ := by
  cases hh : (hit (namB ((rs.length : Int) + 1)) x.fs).2 with
  | true =>
    have hS : St x.fs rs us [] us.length := by
      refine h.turn h.uniq (fun k _ _ => rfl) h.le h.part (Nat.le_refl _) h.size hh h.text ?_
      have htx := h.text
      rw [hw] at htx
      rw [List.take_length]
      have e : (hit (namB ((rs.length : Int) + 1)) x.fs).1.sf.data.toList = flat us := by simpa using htx
      rw [e]; exact List.prefix_refl _
    exact ⟨rs, us, [], us.length, hS, rfl, rfl, hs, fun _ => rfl⟩
  | false =>
    have hus : us = [] := by
      rcases h.last with ⟨_, e, _⟩ | e
      · exact e
      · rw [hh] at e; cases e
    subst hus
    simp only [Bool.false_eq_true, if_false]
    by_cases hr : rs = []
    · subst hr
      rw [if_pos rfl]
      exact ⟨[], [], [], m, h, by simp, rfl, by simp at hs ⊢; omega, fun _ => rfl⟩
    · rw [if_neg hr]
      obtain ⟨a, b, rfl⟩ : ∃ a b, rs = a ++ [b] := ⟨rs.dropLast, rs.getLast hr, (List.dropLast_concat_getLast hr).symm⟩
      exact ⟨a, b, [], b.length, h.back hh, by simp, by simp, by simp at hs ⊢; omega, fun _ => rfl⟩
theorem crash_in {w : Lw} (h : In w) (ks : List Int) :
    (recM (crs w.d ks) 1).2.2.2 = 5 ∨
    ((recM (crs w.d ks) 1).2.2.2 = 0 ∧ (recM (crs w.d ks) 1).2.1 <+: w.put ∧ w.safe ≤ (recM (crs w.d ks) 1).2.1.length ∧
      recM (recM (crs w.d ks) 1).1 1 = ((recM (crs w.d ks) 1).1, (recM (crs w.d ks) 1).2.1, (recM (crs w.d ks) 1).2.2.1, 0) ∧
      In ⟨(recM (crs w.d ks) 1).1, (recM (crs w.d ks) 1).2.2.1, (recM (crs w.d ks) 1).2.1, w.safe, false⟩) := by
  obtain ⟨rs, r, t, m, h1, h2, h3, h4, h5⟩ := h
  obtain ⟨us, q, u1, u2, u3, u4⟩ := crs_inv h1 ks
  obtain ⟨p1, p2⟩ := crs_pow w.d ks
  generalize crs w.d ks = x at u3 u4 p1 p2
  have hpre : rs.flatten ++ us <+: w.put := by rw [h3]; exact (List.prefix_append_right_inj _).2 u1
  have hsafe : w.safe ≤ (rs.flatten ++ us).length := by rw [List.length_append]; omega
  by_cases hq : q = []
  · subst hq
    have e := rec_clean u3 u4
    rw [e]
    exact .inr ⟨rfl, hpre, hsafe, e, clean_in u3 (by omega) u4⟩
  · obtain ⟨hh, e⟩ := rec_torn u3 hq
    rw [e]
    rcases cut_inv u3 p1 p2 hh with c | ⟨c1, c2, c3, c4⟩
    · left; rw [if_pos (by rw [c]; decide)]; exact c
    · rw [if_neg (by rw [c1]; decide)]
      generalize (cutM x ((rs.length : Int) + 1) ⟨(flat us).toArray⟩).1 = y at c2 c3 c4
      have e2 := rec_clean c2 c4
      have i2 := clean_in (safe := w.safe) c2 (by rw [List.length_append] at hsafe; exact hsafe) c4
      rw [c3] at e2 i2
      exact .inr ⟨rfl, hpre, hsafe, e2, i2⟩
end Wl
end Go.Proofs.YtncippafbohgbaaDoor

/- The frame of every law: what an argument reads as (with its sizes), opened by its type; a walk under that reading gives the given statement. -/
namespace Go.Proofs.YtncippafbohgbaaDoor
set_option maxRecDepth 100000
open Go.ChangeShapes Go.WideShapes Go.ChangeAt Go.RowKit
set_option linter.unusedVariables false

end Go.Proofs.YtncippafbohgbaaDoor

/- Lists whose elements lie flat in memory, out of what is known of each element. -/
namespace Go.Proofs.YtncippafbohgbaaDoor
set_option maxRecDepth 100000
open Go.ChangeShapes Go.WideShapes Go.RowKit
set_option linter.unusedVariables false

end Go.Proofs.YtncippafbohgbaaDoor

/- Kinds of elements that lie flat in memory: lists of them as they come in ('Lst', 'In_'), lists of the call's own ('OwnK'), append to these. -/
namespace Go.Proofs.YtncippafbohgbaaDoor
set_option maxRecDepth 100000
open Go.RowKit
set_option linter.unusedVariables false

structure Kind (α : Type) where
  T : TypeId
  S : TypeId
  k : Nat
  bs : Nat
  z : Value
  row : α → List Value
  pos : 0 < k
  bpos : 0 < bs
  len : ∀ a, (row a).length = k
  one : ∀ a, ∀ u ∈ row a, u.oneCell' = true
  und : Tryd.prog.underlying S = some (.slice T)
  info : (Tryd.prog.info? T).map (fun i => (i.zero, i.size, i.bytes)) = some (some z, k, bs)
  zc : z.cells.size = k

variable {α : Type}

def Kind.rows (K : Kind α) : List α → List Value
  | [] => []
  | a :: l => K.row a ++ K.rows l

theorem Kind.rows_len (K : Kind α) (l : List α) : (K.rows l).length = l.length * K.k := by
  induction l with
  | nil => simp [Kind.rows]
  | cons a l ih => simp only [Kind.rows, List.length_append, ih, List.length_cons, K.len, Nat.add_mul]; omega
theorem Kind.rows_app (K : Kind α) (l m : List α) : K.rows (l ++ m) = K.rows l ++ K.rows m := by
  induction l with
  | nil => rfl
  | cons a l ih => simp [Kind.rows, ih]
theorem Kind.rows_at (K : Kind α) (l : List α) (k : Nat) (h : k < l.length) (j : Nat) (hj : j < K.k) : (K.rows l)[k * K.k + j]? = (K.row l[k])[j]? := by
  induction l generalizing k with
  | nil => simp at h
  | cons a l ih =>
    cases k with
    | zero =>
      simp only [Kind.rows, Nat.zero_mul, Nat.zero_add, List.getElem_cons_zero]
      exact List.getElem?_append_left (by rw [K.len]; exact hj)
    | succ k =>
      simp only [Kind.rows, List.getElem_cons_succ]
      rw [List.getElem?_append_right (by rw [K.len, Nat.add_mul]; omega), ← ih k (by simpa using h)]
      congr 1
      rw [K.len, Nat.add_mul]; omega
theorem Kind.rows_one (K : Kind α) (l : List α) : ∀ u ∈ K.rows l, u.oneCell' = true := by
  induction l with
  | nil => simp [Kind.rows]
  | cons a l ih =>
    intro u hu
    rcases List.mem_append.1 hu with h | h
    · exact K.one a u h
    · exact ih u h
theorem Kind.rows_drop (K : Kind α) (l : List α) : ∀ (m : Nat), K.rows (l.drop m) = (K.rows l).drop (m * K.k) := by
  induction l with
  | nil => intro m; simp [Kind.rows]
  | cons f l ih =>
    intro m
    cases m with
    | zero => simp
    | succ m =>
      rw [List.drop_succ_cons, ih m, Kind.rows, show (m + 1) * K.k = (K.row f).length + m * K.k by rw [K.len, Nat.add_mul]; omega, List.drop_length_add_append]
theorem Kind.rows_take (K : Kind α) (l : List α) : ∀ (m : Nat), K.rows (l.take m) = (K.rows l).take (m * K.k) := by
  induction l with
  | nil => intro m; simp [Kind.rows]
  | cons f l ih =>
    intro m
    cases m with
    | zero => simp [Kind.rows]
    | succ m =>
      rw [List.take_succ_cons, Kind.rows, ih m, Kind.rows, show (m + 1) * K.k = (K.row f).length + m * K.k by rw [K.len, Nat.add_mul]; omega, List.take_length_add_append]
theorem Kind.rows_set (K : Kind α) (l : List α) (k : Nat) (h : k < l.length) (a : α) : (K.rows l).take (k * K.k) ++ K.row a ++ (K.rows l).drop (k * K.k + (K.row a).length) = K.rows (l.set k a) := by
  have e : l.set k a = l.take k ++ (a :: l.drop (k + 1)) := by
    rw [List.set_eq_take_append_cons_drop, if_pos h]
  rw [e, K.rows_app, Kind.rows, K.rows_take, K.rows_drop, K.len, Nat.add_mul]
  simp

/-- The slice '.slice A n _' reads as l. -/
def Lst (K : Kind α) (w : World) (A : Option Addr) (n : Nat) (l : List α) : Prop := Holds w w.heap.size K.k A n (K.rows l)
theorem Lst.q {K : Kind α} {w w' : World} {A : Option Addr} {n : Nat} {l : List α} (h : Lst K w A n l) (hq : Q w w') : Lst K w' A n l := Holds.q h hq
theorem Lst.len {K : Kind α} {w : World} {A : Option Addr} {n : Nat} {l : List α} (h : Lst K w A n l) : l.length = n := by
  have := h.1; rw [K.rows_len] at this
  exact Nat.eq_of_mul_eq_mul_right K.pos this
theorem Lst.nil {K : Kind α} (w : World) (A : Option Addr) : Lst K w A 0 [] := Holds.none_ _ _ _ _

/-- What a load of the element in place k reads. -/
theorem Lst.load {K : Kind α} {w : World} {A : Option Addr} {n : Nat} {l : List α} (h : Lst K w A n l) {k : Nat} (hk : k < n) (hl : k < l.length) :
    ∃ ad, A = some ad ∧ ad.block < w.heap.size ∧ ∀ j v, (K.row l[k])[j]? = some v → w.cell? ((ad.add (k * K.k)).add j) = some v := by
  have h0 : ∀ j v, (K.row l[k])[j]? = some v → ∃ ad, A = some ad ∧ ad.block < w.heap.size ∧ w.cell? (ad.add (k * K.k + j)) = some v := fun j v hj =>
    h.2 (k * K.k + j) _ (by rw [K.rows_at l k hl j (by rw [← K.len l[k]]; exact (List.getElem?_eq_some_iff.1 hj).1)]; exact hj)
  obtain ⟨ad, rfl, hb, _⟩ := h0 0 _ (List.getElem?_eq_getElem (by rw [K.len]; exact K.pos))
  refine ⟨ad, rfl, hb, fun j v hj => ?_⟩
  obtain ⟨_, e, _, hc⟩ := h0 j v hj
  injection e with e
  subst e
  rw [addr_add]; exact hc

/-- a list of the call's own. -/
def OwnK (K : Kind α) (w : World) (base : Nat) (A : Option Addr) (n c : Nat) (l : List α) : Prop := w.ownsRow base K.T K.k (.slice A n c) n (K.rows l)

/-- a list as it comes in. -/
structure In_ (K : Kind α) (w : World) (A : Option Addr) (n c : Nat) (l : List α) : Prop where
  lst : Lst K w A n l
  nil : A = none → n = 0 ∧ c = 0
  le : n ≤ c
  cap : c ≤ maxLen
  few : n * K.bs ≤ 140737488355328
theorem In_.len {K : Kind α} {w : World} {A : Option Addr} {n c : Nat} {l : List α} (h : In_ K w A n c l) : l.length = n := h.lst.len
theorem In_.q {K : Kind α} {w w' : World} {A : Option Addr} {n c : Nat} {l : List α} (h : In_ K w A n c l) (hq : Q w w') : In_ K w' A n c l := ⟨h.lst.q hq, h.nil, h.le, h.cap, h.few⟩
theorem In_.max {K : Kind α} {w : World} {A : Option Addr} {n c : Nat} {l : List α} (h : In_ K w A n c l) : n ≤ maxLen := Nat.le_trans h.le h.cap
theorem In_.none_ (K : Kind α) (w : World) : In_ K w none 0 0 [] := ⟨Lst.nil w _, fun _ => ⟨rfl, rfl⟩, Nat.le_refl _, Nat.zero_le _, by simp⟩

section
variable {K : Kind α} {w w' : World} {base : Nat} {A : Option Addr} {n c : Nat} {l : List α}
theorem OwnK.len (h : OwnK K w base A n c l) : l.length = n := by
  have := h.1; rw [K.rows_len] at this
  exact Nat.eq_of_mul_eq_mul_right K.pos this
theorem OwnK.parts (h : OwnK K w base A n c l) :
    (A = none ∧ n = 0 ∧ c = 0 ∧ l = []) ∨ ∃ g cur, A = some ⟨g, 0, none⟩ ∧ base ≤ g ∧ w.heap[g]? = some (.cells cur K.T (0, 0)) ∧ n ≤ c ∧ c ≤ maxLen ∧ cur.size = c * K.k ∧ cur.toList.take (n * K.k) = K.rows l := by
  rcases h.2 with ⟨e, h0⟩ | ⟨g, cap, cur, e, hb, hh, hc, hm, hs, ht⟩
  · injection e with e1 e2 e3
    exact .inl ⟨e1, e2, e3, List.eq_nil_of_length_eq_zero (by rw [h.len]; exact e2)⟩
  · injection e with e1 e2 e3
    subst e1 e3
    exact .inr ⟨g, cur, rfl, hb, hh, hc, hm, hs, ht⟩
theorem OwnK.lst (h : OwnK K w base A n c l) : Lst K w A n l := by
  refine ⟨h.1, fun j u hu => ?_⟩
  rcases h.parts with ⟨rfl, rfl, rfl, rfl⟩ | ⟨g, cur, rfl, hb, hh, hc, hm, hs, ht⟩
  · simp [Kind.rows] at hu
  · have hj : j < n * K.k := by
      have := (List.getElem?_eq_some_iff.1 hu).1; rw [h.1] at this; exact this
    refine ⟨_, rfl, ?_, ?_⟩
    · rcases Nat.lt_or_ge g w.heap.size with hlt | hge
      · exact hlt
      · rw [Array.getElem?_eq_none hge] at hh; cases hh
    · rw [Addr.add_mid, Nat.zero_add, World.ownsRow.cellAt h j hj]; exact hu
theorem OwnK.le (h : OwnK K w base A n c l) : n ≤ c := by
  rcases h.parts with ⟨rfl, rfl, rfl, rfl⟩ | ⟨g, cur, rfl, hb, hh, hc, hm, hs, ht⟩
  · exact Nat.le_refl _
  · exact hc
theorem OwnK.cap (h : OwnK K w base A n c l) : c ≤ maxLen := by
  rcases h.parts with ⟨rfl, rfl, rfl, rfl⟩ | ⟨g, cur, rfl, hb, hh, hc, hm, hs, ht⟩
  · exact Nat.zero_le _
  · exact hm
theorem OwnK.keep {B : Nat} (h : OwnK K w base A n c l) (hb : Below B w w') (hB : w.heap.size ≤ B) : OwnK K w' base A n c l := by
  refine ⟨h.1, ?_⟩
  rcases h.2 with ⟨e, h0⟩ | ⟨g, cap, cur, e, hg, hh, r⟩
  · exact .inl ⟨e, h0⟩
  · have hlt : g < w.heap.size := by
      rcases Nat.lt_or_ge g w.heap.size with hlt | hge
      · exact hlt
      · rw [Array.getElem?_eq_none hge] at hh; cases hh
    exact .inr ⟨g, cap, cur, e, hg, (hb.block g (by omega)).trans hh, r⟩
theorem OwnK.q (h : OwnK K w base A n c l) (hq : Q w w') : OwnK K w' base A n c l := h.keep hq.below (Nat.le_refl _)
theorem OwnK.setCell (h : OwnK K w base A n c l) {p : Addr} (hp : p.block < base) (u : Value) : OwnK K (w.setCell p u) base A n c l := by
  refine ⟨h.1, ?_⟩
  rcases h.2 with ⟨e, h0⟩ | ⟨g, cap, cur, e, hg, hh, r⟩
  · exact .inl ⟨e, h0⟩
  · exact .inr ⟨g, cap, cur, e, hg, (heap_setCell_other w p g u (by omega)).trans hh, r⟩
theorem OwnK.alloc (h : OwnK K w base A n c l) (o : Obj) : OwnK K (w.alloc o) base A n c l := h.q ((Q.refl _).alloc o)
theorem OwnK.drew (h : OwnK K w base A n c l) : OwnK K w.drew base A n c l := h
theorem OwnK.lower {b2 : Nat} (h : OwnK K w base A n c l) (hb : b2 ≤ base) : OwnK K w b2 A n c l := by
  refine ⟨h.1, ?_⟩
  rcases h.2 with ⟨e, h0⟩ | ⟨g, cap, cur, e, hg, hh, r⟩
  · exact .inl ⟨e, h0⟩
  · exact .inr ⟨g, cap, cur, e, by omega, hh, r⟩
theorem OwnK.nil_ (K : Kind α) (w : World) (base : Nat) : OwnK K w base none 0 0 [] := World.ownsRow_nil _ _ _ _
theorem OwnK.lit0 (K : Kind α) (w : World) (base : Nat) (hb : base ≤ w.heap.size) : OwnK K (w.alloc (.cells #[] K.T)) base (some ⟨w.heap.size, 0, none⟩) 0 0 [] :=
  World.ownsRow_lit w #[] 0 hb (Nat.zero_le _) (by simp)
theorem OwnK.lit1 (K : Kind α) (w : World) (base : Nat) (hb : base ≤ w.heap.size) (a : α) : OwnK K (w.alloc (.cells (K.row a).toArray K.T)) base (some ⟨w.heap.size, 0, none⟩) 1 1 [a] := by
  have := World.ownsRow_lit (e := K.T) (size := K.k) w (K.row a).toArray 1 hb (by unfold maxLen; omega) (by simp [K.len])
  unfold OwnK
  rw [show K.rows [a] = (K.row a).toArray.toList by simp [Kind.rows]]
  exact this
/-- the cells of the element in place k. -/
theorem OwnK.cells {g : Nat} (h : OwnK K w base (some ⟨g, 0, none⟩) n c l) {k : Nat} (hk : k < l.length) : ∀ j v, (K.row l[k])[j]? = some v → w.cell? ⟨g, k * K.k + j, none⟩ = some v := fun j v hj => by
  have hjk : j < K.k := by rw [← K.len l[k]]; exact (List.getElem?_eq_some_iff.1 hj).1
  have hn := h.len
  have : k * K.k + j < n * K.k := by
    have : (k + 1) * K.k ≤ n * K.k := Nat.mul_le_mul_right _ (by omega)
    rw [Nat.add_mul] at this; omega
  rw [World.ownsRow.cellAt h _ this, K.rows_at l k hk j hjk]
  exact hj
theorem OwnK.free {g : Nat} (h : OwnK K w base (some ⟨g, 0, none⟩) n c l) (j : Nat) : w.frozen? ⟨g, j, none⟩ = false := World.ownsRow.frozenAt h _
/-- an element written in place. -/
theorem OwnK.put {g : Nat} (h : OwnK K w base (some ⟨g, 0, none⟩) n c l) {k : Nat} (hk : k < l.length) (a : α) :
    OwnK K (w.setCells g (k * K.k) (K.row a)) base (some ⟨g, 0, none⟩) n c (l.set k a) := by
  have hl : k * K.k + (K.row a).length ≤ (K.rows l).length := by
    rw [K.len, K.rows_len]
    have : (k + 1) * K.k ≤ l.length * K.k := Nat.mul_le_mul_right _ (by omega)
    rw [Nat.add_mul] at this; omega
  have := owns_setCells (e := K.T) (sz := K.k) (K.row a) (k * K.k) w (K.rows l) h hl
  rw [K.rows_set l k hk a] at this
  exact this
end

/-- 'append(own, more...)', the source nil or not. -/
theorem run_appK (K : Kind α) (w : World) (base : Nat) (A : Option Addr) (n c : Nat) (l : List α) (h : OwnK K w base A n c l) (A2 : Option Addr) (m c2 : Nat) (l2 : List α) (h2 : Lst K w A2 m l2) (hnil : A2 = none → m = 0 ∧ c2 = 0)
    (hb : (n + m) * K.bs ≤ 140737488355328) (hbase : base ≤ w.heap.size) (ty : TypeId) :
    ∃ A' c' w', (Builtin.append_ #[K.S, K.S] ty #[.slice A n c, .slice A2 m c2]).run Tryd.prog w = .ok (.slice A' (n + m) c') w' ∧ OwnK K w' base A' (n + m) c' (l ++ l2) ∧ Below base w w' := by
  obtain ⟨i, hi, hz, hs, hy⟩ := info_parts K.info
  have hmax : n + m ≤ maxLen := by
    have : (n + m) * 1 ≤ (n + m) * K.bs := Nat.mul_le_mul_left _ K.bpos
    unfold maxLen; omega
  cases A2 with
  | none =>
    obtain ⟨rfl, rfl⟩ := hnil rfl
    have e2 : l2 = [] := List.eq_nil_of_length_eq_zero h2.len
    subst e2
    refine ⟨A, c, w, run_append_owned_none (P := Tryd.prog) (w := w) base _ ty K.T i K.k K.und hi _ n (K.rows l) h, by simpa using h, Below.refl _ _⟩
  | some ad =>
    obtain ⟨v', w', hr, ho, hg, hn, hat⟩ := run_append_own_at (P := Tryd.prog) w base K.S ty K.T i _ K.k K.bs K.und hi hz hs hy K.zc K.pos (.slice A n c) n (K.rows l) h ad m c2 (K.rows l2) h2.1
      (fun j u hu => by obtain ⟨a', e, _, hc⟩ := h2.2 j u hu; injection e with e; subst e; exact hc) (K.rows_one l2) hmax hb hbase
    rw [← K.rows_app] at ho
    have hbl : Below base w w' := (Below.refl _ _).grown hg hbase (fun k hk => by
      rcases h.parts with ⟨rfl, _⟩ | ⟨g, cur, rfl, hb, _⟩
      · cases hk
      · simp only [Value.ownBlock, Option.some.injEq] at hk; omega)
    rcases ho.2 with ⟨e, h0⟩ | ⟨g, cap, cur, e, _⟩
    · have h00 : Value.slice none 0 0 = .slice none (n + m) 0 := by rw [h0]
      rw [h00] at e
      subst e
      exact ⟨none, 0, w', hr, ho, hbl⟩
    · subst e
      exact ⟨_, cap, w', hr, ho, hbl⟩

/-- The same, for a plain region's list. -/
theorem wpl_appK (K : Kind α) {w : World} {ops : Array Oper} {rest : List Oper} {o : Oper} {a : Act} {R : Exit → Act → World → Prop} (hgd : o.guard = none) (s x : Operand) (t : TypeId) (ht : t = K.S)
    (ho : o.op = .call { callee := .builtin .append, args := #[s, x], argTypes := #[t, t] })
    (base : Nat) (A : Option Addr) (n c : Nat) (l : List α) (hs : a.eval s = .slice A n c) (h : OwnK K w base A n c l) (A2 : Option Addr) (m c2 : Nat) (l2 : List α) (hx : a.eval x = .slice A2 m c2) (h2 : Lst K w A2 m l2) (hnil : A2 = none → m = 0 ∧ c2 = 0)
    (hb : (n + m) * K.bs ≤ 140737488355328) (hbase : base ≤ w.heap.size)
    (hk : ∀ A' c' w', OwnK K w' base A' (n + m) c' (l ++ l2) → Below base w w' → wpList Tryd.prog ops R rest (a.put o.dst (.slice A' (n + m) c')) w') : wpList Tryd.prog ops R (o :: rest) a w := by
  subst ht
  refine wpList_plain hgd fun X hX => ?_
  obtain ⟨A', c', w', hr, h3, h4⟩ := run_appK K w base A n c l h A2 m c2 l2 h2 hnil hb hbase o.type
  unfold Oper.wp execOp
  simp only [ho, resolve, invoke, builtin, Sem.run_bind, Sem.run_pure, Result.andThen_ok, List.map_toArray, List.map_cons, List.map_nil, hs, hx, hr]
  exact hX _ _ (hk A' c' w' h3 h4)

end Go.Proofs.YtncippafbohgbaaDoor

/- What comes in: a list of a kind of elements, opened out of a reading. -/
namespace Go.Proofs.YtncippafbohgbaaDoor
set_option maxRecDepth 100000
open Go.ChangeShapes Go.WideShapes Go.RowKit
set_option linter.unusedVariables false

end Go.Proofs.YtncippafbohgbaaDoor

/- What comes in: the acts of a log's law. -/
namespace Go.Proofs.YtncippafbohgbaaDoor
set_option maxRecDepth 100000
open Go.ChangeShapes Go.WideShapes Go.RowKit
set_option linter.unusedVariables false

/-- an act: its kind, its number, its text. -/
structure WAct where
  kind : Int
  num : Int
  s : ByteArray
abbrev WAct.v (a : WAct) : Value := .agg #[.int .i64 a.kind, .int .i64 a.num, .string a.s]
def actK : Kind WAct where
  T := 33
  S := 22
  k := 3
  bs := 32
  z := .agg #[.int .i64 0, .int .i64 0, .string ⟨#[]⟩]
  row := fun p => [.int .i64 p.kind, .int .i64 p.num, .string p.s]
  pos := by omega
  bpos := by omega
  len := fun _ => rfl
  one := fun _ u hu => by simp at hu; rcases hu with rfl | rfl | rfl <;> rfl
  und := Tryd.underlying22
  info := by kernel_rfl
  zc := rfl
theorem load_act {w : World} {A : Option Addr} {n : Nat} {l : List WAct} (h : Lst actK w A n l) {k : Nat} (hk : k < n) (hl : k < l.length) :
    ∃ ad, A = some ad ∧ ad.block < w.heap.size ∧ w.cell? (ad.add (k * 3)) = some (.int .i64 l[k].kind) ∧ w.cell? ⟨(ad.add (k * 3)).block, (ad.add (k * 3)).off + 1, none⟩ = some (.int .i64 l[k].num) ∧
      w.cell? ⟨(ad.add (k * 3)).block, (ad.add (k * 3)).off + 2, none⟩ = some (.string l[k].s) := by
  obtain ⟨ad, e, hb, hc⟩ := h.load hk hl
  exact ⟨ad, e, hb, hc 0 _ rfl, hc 1 _ rfl, hc 2 _ rfl⟩
def ActIn (a : WAct) : Prop := (-9223372036854775808 ≤ a.kind ∧ a.kind ≤ 9223372036854775807) ∧ (-9223372036854775808 ≤ a.num ∧ a.num ≤ 9223372036854775807) ∧ a.s.size ≤ 140737488351232
end Go.Proofs.YtncippafbohgbaaDoor

/- The table of powers of ten: what it holds, and that it stays. -/
namespace Go.Proofs.YtncippafbohgbaaDoor
set_option maxRecDepth 100000
open Go.RowKit
set_option linter.unusedVariables false

/-- The library's table of powers of ten reads as it was laid. -/
def Tab (w : World) : Prop := Lib.TabIs Tryd.prog w "internal/strconv.uint64pow10" .u64 Lib.pow10Tab
theorem Tab.q {w w' : World} (h : Tab w) (hq : Q w w') : Tab w' := Lib.tabBelow_of_tabIs h w' hq.below
end Go.Proofs.YtncippafbohgbaaDoor
