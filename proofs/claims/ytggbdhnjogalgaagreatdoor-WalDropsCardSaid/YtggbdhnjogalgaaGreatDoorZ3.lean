/- DiskAppend, DiskAppend2, DiskAppend3, DiskAppend4, DiskAppend5, DiskShown, DiskDoes, DiskDoes2, DiskInv, WalDisk, WalPut, DiskRef4, DiskRef7, DiskRef8, Held, HeldL, App, DiskRef9, DiskRef10, WalPut2: merged. -/
import Derived.Test.YtggbdhnjogalgaaGreatDoorZ2
import Derived.Test.YtggbdhnjogalgaaGreatDoorZ1
import Derived.Deep.RegionHeld3
import Derived.Outline
import Derived.Maps.AppendAt
import Derived.Laws.AppendOwnNone
import Derived.Deep.DeepCutAuto
/- Contract: Append. -/
namespace Go.Proofs.YtggbdhnjogalgaaGreatDoor
set_option maxRecDepth 100000
open Go.RowKit Dkm
set_option linter.unusedVariables false

theorem Own.setNew {w0 w : World} {base : Nat} {A : Option Addr} {n c : Nat} {l0 l : List Fil} (h0 : Own w0 base A n c l0) (h : Own w base A n c l) {p : Addr} (hp : w0.heap.size ≤ p.block) (u : Value) : Own (w.setCell p u) base A n c l := by
  refine ⟨h.1, ?_⟩
  rcases h.2 with ⟨e, hz⟩ | ⟨g, cap, cur, e, hg, hh, r⟩
  · exact .inl ⟨e, hz⟩
  · refine .inr ⟨g, cap, cur, e, hg, (heap_setCell_other w p g u ?_).trans hh, r⟩
    rcases h0.parts with ⟨rfl, _⟩ | ⟨g', cur', rfl, hb, hh', _⟩
    · injection e with e; cases e
    · injection e with e; injection e with e; injection e with e
      subst e
      have : g' < w0.heap.size := by
        rcases Nat.lt_or_ge g' w0.heap.size with hlt | hge
        · exact hlt
        · rw [Array.getElem?_eq_none hge] at hh'; cases hh'
      omega

set_option maxHeartbeats 1000000 in
set_option maxRecDepth 100000 in
theorem append_off (nm s : ByteArray) (A : Option Addr) (n c : Nat) (room fuse : Int) (l : List Fil) (w : World) (hd : Dsk w A n c l) (f : Fil) (k : Nat) (hop : opn nm l = (f, k)) (hk : k ≤ n) (hf : f.sf.size + f.wt.size ≤ 2305843009213693952) (hs : s.size ≤ 2305843009213693952) :
    Calls Tryz.prog 33 #[dkv A n c room fuse true, .string nm, .string s] w fun e w' => RetDE w ⟨l, room, fuse, true⟩ 6 e w' := by
  have HD := Lib.hid hd
  have HN := Lib.hid hd.max
  have hlen := Lib.hid hd.len
  have hnm := hd.max
  unfold maxLen at hnm
  have HOP := Lib.hid hop
  clear hd hop
  obtain ⟨fa, fb, fc⟩ := f
  simp only at hf
  go_enter Tryz.func33, Tryz.ntmps33
  go_wp2_with fail
  have B0 := two_new w (.slice A n c) (.int .i64 room) (.int .i64 fuse) (.bool true) (.slice none 0 0) (.int .i64 0) (.int .i64 0) (.bool false) 24
  refine (own_any A n c room fuse true l _ (HD.out.q (((Q.refl _).alloc _).alloc _))).mono ?_
  rintro e w1 ⟨A1, c1, rfl, ho, q1⟩
  rw [size_two] at ho
  have HO := Lib.hid (ho.set4 (b := w.heap.size) (by omega) (.slice A1 n c1) (.int .i64 room) (.int .i64 fuse) (.bool true))
  have D1 := Lib.hid ((B0.1.q q1).put4 (.slice A1 n c1) (.int .i64 room) (.int .i64 fuse) (.bool true))
  have R1 := Lib.hid ((B0.2.q q1).far4 (c := w.heap.size) (by omega) (.slice A1 n c1) (.int .i64 room) (.int .i64 fuse) (.bool true))
  have Q1 := Lib.hid ((((((Q.refl w).alloc _).alloc _).trans q1)).set4 (b := w.heap.size) (Nat.le_refl _) (.slice A1 n c1) (.int .i64 room) (.int .i64 fuse) (.bool true))
  obtain ⟨⟨e0, e1, e2, e3⟩, f0, f1, f2, f3⟩ := (B0.1.q q1).get4
  clear B0 q1 ho
  go_wp2_with fail
  refine (open_any nm A1 n c1 room fuse true l _ HO.out.files HN.out).mono ?_
  rintro e w2 ⟨rfl, q2⟩
  rw [HOP.out]
  have HO2 := Lib.hid (HO.out.q q2)
  have Q2 := Lib.hid (Q1.out.trans q2)
  have z0 : w.heap.size < w2.heap.size := (D1.out.q q2).lt
  have z1 : w.heap.size + 1 < w2.heap.size := (R1.out.q q2).lt
  have z2 : w.heap.size ≠ w2.heap.size := by omega
  have z3 : w.heap.size + 1 ≠ w2.heap.size := by omega
  have D2 := Lib.hid (D1.out.q q2)
  have R2 := Lib.hid (R1.out.q q2)
  obtain ⟨⟨d0, d1, d2, d3⟩, g0, g1, g2, g3⟩ := (D1.out.q q2).get4
  obtain ⟨⟨s0, s1, s2, s3⟩, h0, h1, h2, h3⟩ := (R1.out.q q2).get4
  clear q2 e0 e1 e2 e3 f0 f1 f2 f3
  go_wp2
  refine bodyPost_ret (v := .tuple #[dkv A1 n c1 room fuse true, .int .i64 6]) (by simp [results, Tryz.results33, go_sem, s0, s1, s2, s3, z1]) rfl ⟨A1, n, c1, rfl, (((HO2.out).set4 (b := w.heap.size + 1) (by omega) _ _ _ _).alloc _).lower (by omega), ((Q2.out).set4 (b := w.heap.size + 1) (by omega) _ _ _ _).alloc _⟩

set_option maxHeartbeats 1000000 in
set_option maxRecDepth 100000 in
theorem append_arg (nm s : ByteArray) (A : Option Addr) (n c : Nat) (room fuse : Int) (l : List Fil) (w : World) (hd : Dsk w A n c l) (f : Fil) (k : Nat) (hop : opn nm l = (f, k)) (hk : k ≤ n) (hf : f.sf.size + f.wt.size ≤ 2305843009213693952) (hs : s.size ≤ 2305843009213693952) (hn : nmOk nm = false) :
    Calls Tryz.prog 33 #[dkv A n c room fuse false, .string nm, .string s] w fun e w' => RetDE w ⟨l, room, fuse, false⟩ 1 e w' := by
  have HNM := Lib.hid hn
  clear hn
  have HD := Lib.hid hd
  have HN := Lib.hid hd.max
  have hlen := Lib.hid hd.len
  have hnm := hd.max
  unfold maxLen at hnm
  have HOP := Lib.hid hop
  clear hd hop
  obtain ⟨fa, fb, fc⟩ := f
  simp only at hf
  go_enter Tryz.func33, Tryz.ntmps33
  go_wp2_with fail
  have B0 := two_new w (.slice A n c) (.int .i64 room) (.int .i64 fuse) (.bool false) (.slice none 0 0) (.int .i64 0) (.int .i64 0) (.bool false) 24
  refine (own_any A n c room fuse false l _ (HD.out.q (((Q.refl _).alloc _).alloc _))).mono ?_
  rintro e w1 ⟨A1, c1, rfl, ho, q1⟩
  rw [size_two] at ho
  have HO := Lib.hid (ho.set4 (b := w.heap.size) (by omega) (.slice A1 n c1) (.int .i64 room) (.int .i64 fuse) (.bool false))
  have D1 := Lib.hid ((B0.1.q q1).put4 (.slice A1 n c1) (.int .i64 room) (.int .i64 fuse) (.bool false))
  have R1 := Lib.hid ((B0.2.q q1).far4 (c := w.heap.size) (by omega) (.slice A1 n c1) (.int .i64 room) (.int .i64 fuse) (.bool false))
  have Q1 := Lib.hid ((((((Q.refl w).alloc _).alloc _).trans q1)).set4 (b := w.heap.size) (Nat.le_refl _) (.slice A1 n c1) (.int .i64 room) (.int .i64 fuse) (.bool false))
  obtain ⟨⟨e0, e1, e2, e3⟩, f0, f1, f2, f3⟩ := (B0.1.q q1).get4
  clear B0 q1 ho
  go_wp2_with fail
  refine (open_any nm A1 n c1 room fuse false l _ HO.out.files HN.out).mono ?_
  rintro e w2 ⟨rfl, q2⟩
  rw [HOP.out]
  have HO2 := Lib.hid (HO.out.q q2)
  have Q2 := Lib.hid (Q1.out.trans q2)
  have z0 : w.heap.size < w2.heap.size := (D1.out.q q2).lt
  have z1 : w.heap.size + 1 < w2.heap.size := (R1.out.q q2).lt
  have z2 : w.heap.size ≠ w2.heap.size := by omega
  have z3 : w.heap.size + 1 ≠ w2.heap.size := by omega
  have D2 := Lib.hid (D1.out.q q2)
  have R2 := Lib.hid (R1.out.q q2)
  obtain ⟨⟨d0, d1, d2, d3⟩, g0, g1, g2, g3⟩ := (D1.out.q q2).get4
  obtain ⟨⟨s0, s1, s2, s3⟩, h0, h1, h2, h3⟩ := (R1.out.q q2).get4
  clear q2 e0 e1 e2 e3 f0 f1 f2 f3
  go_wp2_with fail
  refine (named_any nm _).mono ?_
  rintro e w' ⟨rfl, rfl⟩
  rw [HNM.out]
  go_wp2
  refine bodyPost_ret (v := .tuple #[dkv A1 n c1 room fuse false, .int .i64 1]) (by simp [results, Tryz.results33, go_sem, s0, s1, s2, s3, z1]) rfl ⟨A1, n, c1, rfl, (((HO2.out).set4 (b := w.heap.size + 1) (by omega) _ _ _ _).alloc _).lower (by omega), ((Q2.out).set4 (b := w.heap.size + 1) (by omega) _ _ _ _).alloc _⟩

set_option maxHeartbeats 1000000 in
set_option maxRecDepth 100000 in
theorem append_full1 (nm s : ByteArray) (A : Option Addr) (n c : Nat) (room fuse : Int) (l : List Fil) (w : World) (hd : Dsk w A n c l) (f : Fil) (k : Nat) (hop : opn nm l = (f, k)) (hk : k ≤ n) (hf : f.sf.size + f.wt.size ≤ 2305843009213693952) (hs : s.size ≤ 2305843009213693952) (hn : nmOk nm = true) (hkn : k = n) (h64 : 64 ≤ n) :
    Calls Tryz.prog 33 #[dkv A n c room fuse false, .string nm, .string s] w fun e w' => RetDE w ⟨l, room, fuse, false⟩ 5 e w' := by
  have hkn2 : n = k := hkn.symm
  subst hkn2
  clear hkn
  have HNM := Lib.hid hn
  clear hn
  have HD := Lib.hid hd
  have HN := Lib.hid hd.max
  have hlen := Lib.hid hd.len
  have hnm := hd.max
  unfold maxLen at hnm
  have HOP := Lib.hid hop
  clear hd hop
  obtain ⟨fa, fb, fc⟩ := f
  simp only at hf
  go_enter Tryz.func33, Tryz.ntmps33
  go_wp2_with fail
  have B0 := two_new w (.slice A n c) (.int .i64 room) (.int .i64 fuse) (.bool false) (.slice none 0 0) (.int .i64 0) (.int .i64 0) (.bool false) 24
  refine (own_any A n c room fuse false l _ (HD.out.q (((Q.refl _).alloc _).alloc _))).mono ?_
  rintro e w1 ⟨A1, c1, rfl, ho, q1⟩
  rw [size_two] at ho
  have HO := Lib.hid (ho.set4 (b := w.heap.size) (by omega) (.slice A1 n c1) (.int .i64 room) (.int .i64 fuse) (.bool false))
  have D1 := Lib.hid ((B0.1.q q1).put4 (.slice A1 n c1) (.int .i64 room) (.int .i64 fuse) (.bool false))
  have R1 := Lib.hid ((B0.2.q q1).far4 (c := w.heap.size) (by omega) (.slice A1 n c1) (.int .i64 room) (.int .i64 fuse) (.bool false))
  have Q1 := Lib.hid ((((((Q.refl w).alloc _).alloc _).trans q1)).set4 (b := w.heap.size) (Nat.le_refl _) (.slice A1 n c1) (.int .i64 room) (.int .i64 fuse) (.bool false))
  obtain ⟨⟨e0, e1, e2, e3⟩, f0, f1, f2, f3⟩ := (B0.1.q q1).get4
  clear B0 q1 ho
  go_wp2_with fail
  refine (open_any nm A1 n c1 room fuse false l _ HO.out.files HN.out).mono ?_
  rintro e w2 ⟨rfl, q2⟩
  rw [HOP.out]
  have HO2 := Lib.hid (HO.out.q q2)
  have Q2 := Lib.hid (Q1.out.trans q2)
  have z0 : w.heap.size < w2.heap.size := (D1.out.q q2).lt
  have z1 : w.heap.size + 1 < w2.heap.size := (R1.out.q q2).lt
  have z2 : w.heap.size ≠ w2.heap.size := by omega
  have z3 : w.heap.size + 1 ≠ w2.heap.size := by omega
  have D2 := Lib.hid (D1.out.q q2)
  have R2 := Lib.hid (R1.out.q q2)
  obtain ⟨⟨d0, d1, d2, d3⟩, g0, g1, g2, g3⟩ := (D1.out.q q2).get4
  obtain ⟨⟨s0, s1, s2, s3⟩, h0, h1, h2, h3⟩ := (R1.out.q q2).get4
  clear q2 e0 e1 e2 e3 f0 f1 f2 f3
  go_wp2_with fail
  refine (named_any nm _).mono ?_
  rintro e w' ⟨rfl, rfl⟩
  rw [HNM.out]
  go_wp2
  refine bodyPost_ret (v := .tuple #[dkv A1 n c1 room fuse false, .int .i64 5]) (by simp [results, Tryz.results33, go_sem, s0, s1, s2, s3, z1]) rfl ⟨A1, n, c1, rfl, (((HO2.out).set4 (b := w.heap.size + 1) (by omega) _ _ _ _).alloc _).lower (by omega), ((Q2.out).set4 (b := w.heap.size + 1) (by omega) _ _ _ _).alloc _⟩

end Go.Proofs.YtggbdhnjogalgaaGreatDoor

/- Contract: Append, the other cases. -/
namespace Go.Proofs.YtggbdhnjogalgaaGreatDoor
set_option maxRecDepth 100000
open Go.RowKit Dkm
set_option linter.unusedVariables false

set_option maxHeartbeats 1000000 in
set_option maxRecDepth 100000 in
theorem append_full2_eq (nm s : ByteArray) (A : Option Addr) (n c : Nat) (room fuse : Int) (l : List Fil) (w : World) (hd : Dsk w A n c l) (f : Fil) (k : Nat) (hop : opn nm l = (f, k)) (hk : k ≤ n) (hf : f.sf.size + f.wt.size ≤ 2305843009213693952) (hs : s.size ≤ 2305843009213693952) (hn : nmOk nm = true) (hkn : k = n) (h64 : n < 64) (hr : room < s.size) :
    Calls Tryz.prog 33 #[dkv A n c room fuse false, .string nm, .string s] w fun e w' => RetDE w ⟨l, room, fuse, false⟩ 5 e w' := by
  have hkn2 : n = k := hkn.symm
  subst hkn2
  clear hkn
  have HNM := Lib.hid hn
  clear hn
  have HD := Lib.hid hd
  have HN := Lib.hid hd.max
  have hlen := Lib.hid hd.len
  have hnm := hd.max
  unfold maxLen at hnm
  have HOP := Lib.hid hop
  clear hd hop
  obtain ⟨fa, fb, fc⟩ := f
  simp only at hf
  go_enter Tryz.func33, Tryz.ntmps33
  go_wp2_with fail
  have B0 := two_new w (.slice A n c) (.int .i64 room) (.int .i64 fuse) (.bool false) (.slice none 0 0) (.int .i64 0) (.int .i64 0) (.bool false) 24
  refine (own_any A n c room fuse false l _ (HD.out.q (((Q.refl _).alloc _).alloc _))).mono ?_
  rintro e w1 ⟨A1, c1, rfl, ho, q1⟩
  rw [size_two] at ho
  have HO := Lib.hid (ho.set4 (b := w.heap.size) (by omega) (.slice A1 n c1) (.int .i64 room) (.int .i64 fuse) (.bool false))
  have D1 := Lib.hid ((B0.1.q q1).put4 (.slice A1 n c1) (.int .i64 room) (.int .i64 fuse) (.bool false))
  have R1 := Lib.hid ((B0.2.q q1).far4 (c := w.heap.size) (by omega) (.slice A1 n c1) (.int .i64 room) (.int .i64 fuse) (.bool false))
  have Q1 := Lib.hid ((((((Q.refl w).alloc _).alloc _).trans q1)).set4 (b := w.heap.size) (Nat.le_refl _) (.slice A1 n c1) (.int .i64 room) (.int .i64 fuse) (.bool false))
  obtain ⟨⟨e0, e1, e2, e3⟩, f0, f1, f2, f3⟩ := (B0.1.q q1).get4
  clear B0 q1 ho
  go_wp2_with fail
  refine (open_any nm A1 n c1 room fuse false l _ HO.out.files HN.out).mono ?_
  rintro e w2 ⟨rfl, q2⟩
  rw [HOP.out]
  have HO2 := Lib.hid (HO.out.q q2)
  have Q2 := Lib.hid (Q1.out.trans q2)
  have z0 : w.heap.size < w2.heap.size := (D1.out.q q2).lt
  have z1 : w.heap.size + 1 < w2.heap.size := (R1.out.q q2).lt
  have z2 : w.heap.size ≠ w2.heap.size := by omega
  have z3 : w.heap.size + 1 ≠ w2.heap.size := by omega
  have D2 := Lib.hid (D1.out.q q2)
  have R2 := Lib.hid (R1.out.q q2)
  obtain ⟨⟨d0, d1, d2, d3⟩, g0, g1, g2, g3⟩ := (D1.out.q q2).get4
  obtain ⟨⟨s0, s1, s2, s3⟩, h0, h1, h2, h3⟩ := (R1.out.q q2).get4
  clear q2 e0 e1 e2 e3 f0 f1 f2 f3
  go_wp2_with fail
  refine (named_any nm _).mono ?_
  rintro e w' ⟨rfl, rfl⟩
  rw [HNM.out]
  go_wp2
  refine bodyPost_ret (v := .tuple #[dkv A1 n c1 room fuse false, .int .i64 5]) (by simp [results, Tryz.results33, go_sem, s0, s1, s2, s3, z1]) rfl ⟨A1, n, c1, rfl, (((HO2.out).set4 (b := w.heap.size + 1) (by omega) _ _ _ _).alloc _).lower (by omega), ((Q2.out).set4 (b := w.heap.size + 1) (by omega) _ _ _ _).alloc _⟩

set_option maxHeartbeats 1000000 in
set_option maxRecDepth 100000 in
theorem append_big_eq (nm s : ByteArray) (A : Option Addr) (n c : Nat) (room fuse : Int) (l : List Fil) (w : World) (hd : Dsk w A n c l) (f : Fil) (k : Nat) (hop : opn nm l = (f, k)) (hk : k ≤ n) (hf : f.sf.size + f.wt.size ≤ 2305843009213693952) (hs : s.size ≤ 2305843009213693952) (hn : nmOk nm = true) (hkn : k = n) (h64 : n < 64) (hr : (s.size : Int) ≤ room) (hb : 65536 < f.sf.size + f.wt.size + s.size) :
    Calls Tryz.prog 33 #[dkv A n c room fuse false, .string nm, .string s] w fun e w' => RetDE w ⟨l, room, fuse, false⟩ 4 e w' := by
  have hkn2 : n = k := hkn.symm
  subst hkn2
  clear hkn
  have HNM := Lib.hid hn
  clear hn
  have HD := Lib.hid hd
  have HN := Lib.hid hd.max
  have hlen := Lib.hid hd.len
  have hnm := hd.max
  unfold maxLen at hnm
  have HOP := Lib.hid hop
  clear hd hop
  obtain ⟨fa, fb, fc⟩ := f
  simp only at hf hb
  go_enter Tryz.func33, Tryz.ntmps33
  go_wp2_with fail
  have B0 := two_new w (.slice A n c) (.int .i64 room) (.int .i64 fuse) (.bool false) (.slice none 0 0) (.int .i64 0) (.int .i64 0) (.bool false) 24
  refine (own_any A n c room fuse false l _ (HD.out.q (((Q.refl _).alloc _).alloc _))).mono ?_
  rintro e w1 ⟨A1, c1, rfl, ho, q1⟩
  rw [size_two] at ho
  have HO := Lib.hid (ho.set4 (b := w.heap.size) (by omega) (.slice A1 n c1) (.int .i64 room) (.int .i64 fuse) (.bool false))
  have D1 := Lib.hid ((B0.1.q q1).put4 (.slice A1 n c1) (.int .i64 room) (.int .i64 fuse) (.bool false))
  have R1 := Lib.hid ((B0.2.q q1).far4 (c := w.heap.size) (by omega) (.slice A1 n c1) (.int .i64 room) (.int .i64 fuse) (.bool false))
  have Q1 := Lib.hid ((((((Q.refl w).alloc _).alloc _).trans q1)).set4 (b := w.heap.size) (Nat.le_refl _) (.slice A1 n c1) (.int .i64 room) (.int .i64 fuse) (.bool false))
  obtain ⟨⟨e0, e1, e2, e3⟩, f0, f1, f2, f3⟩ := (B0.1.q q1).get4
  clear B0 q1 ho
  go_wp2_with fail
  refine (open_any nm A1 n c1 room fuse false l _ HO.out.files HN.out).mono ?_
  rintro e w2 ⟨rfl, q2⟩
  rw [HOP.out]
  have HO2 := Lib.hid (HO.out.q q2)
  have Q2 := Lib.hid (Q1.out.trans q2)
  have z0 : w.heap.size < w2.heap.size := (D1.out.q q2).lt
  have z1 : w.heap.size + 1 < w2.heap.size := (R1.out.q q2).lt
  have z2 : w.heap.size ≠ w2.heap.size := by omega
  have z3 : w.heap.size + 1 ≠ w2.heap.size := by omega
  have D2 := Lib.hid (D1.out.q q2)
  have R2 := Lib.hid (R1.out.q q2)
  obtain ⟨⟨d0, d1, d2, d3⟩, g0, g1, g2, g3⟩ := (D1.out.q q2).get4
  obtain ⟨⟨s0, s1, s2, s3⟩, h0, h1, h2, h3⟩ := (R1.out.q q2).get4
  clear q2 e0 e1 e2 e3 f0 f1 f2 f3
  go_wp2_with fail
  refine (named_any nm _).mono ?_
  rintro e w' ⟨rfl, rfl⟩
  rw [HNM.out]
  go_wp2_with fail
  have F2 := Bx.new w2 [.string fa, .string fb, .string fc] 42
  refine (size_any ⟨fa, fb, fc⟩ _ (by unfold maxLen; show fb.size + fc.size ≤ _; omega)).mono ?_
  rintro e w3 ⟨rfl, q3⟩
  simp only
  have HO3 := Lib.hid ((HO2.out.alloc _).q q3)
  have Q3 := Lib.hid ((Q2.out.alloc _).trans q3)
  have D3 := Lib.hid ((D2.out.alloc _).q q3)
  have R3 := Lib.hid ((R2.out.alloc _).q q3)
  have F3 := Lib.hid (F2.q q3)
  have y0 : w2.heap.size < w3.heap.size := F3.out.lt
  clear d0 d1 d2 d3 g0 g1 g2 g3 s0 s1 s2 s3 h0 h1 h2 h3 F2 q3
  obtain ⟨⟨d0, d1, d2, d3⟩, g0, g1, g2, g3⟩ := D3.out.get4
  obtain ⟨⟨s0, s1, s2, s3⟩, h0, h1, h2, h3⟩ := R3.out.get4
  obtain ⟨⟨t0, t1, t2⟩, u0, u1, u2⟩ := F3.out.get3
  go_wp2
  refine bodyPost_ret (v := .tuple #[dkv A1 n c1 room fuse false, .int .i64 4]) (by simp [results, Tryz.results33, go_sem, s0, s1, s2, s3]) rfl ⟨A1, n, c1, rfl, (((HO3.out).set4 (b := w.heap.size + 1) (by omega) _ _ _ _)).lower (by omega), ((Q3.out).set4 (b := w.heap.size + 1) (by omega) _ _ _ _)⟩

set_option maxHeartbeats 1000000 in
set_option maxRecDepth 100000 in
theorem append_full2_lt (nm s : ByteArray) (A : Option Addr) (n c : Nat) (room fuse : Int) (l : List Fil) (w : World) (hd : Dsk w A n c l) (f : Fil) (k : Nat) (hop : opn nm l = (f, k)) (hk : k ≤ n) (hf : f.sf.size + f.wt.size ≤ 2305843009213693952) (hs : s.size ≤ 2305843009213693952) (hn : nmOk nm = true) (hkn : k < n) (hr : room < s.size) :
    Calls Tryz.prog 33 #[dkv A n c room fuse false, .string nm, .string s] w fun e w' => RetDE w ⟨l, room, fuse, false⟩ 5 e w' := by
  have k1 : ((k : Int) == (n : Int)) = false := by simp; omega
  have k2 : (k == n) = false := by simp; omega
  have HNM := Lib.hid hn
  clear hn
  have HD := Lib.hid hd
  have HN := Lib.hid hd.max
  have hlen := Lib.hid hd.len
  have hnm := hd.max
  unfold maxLen at hnm
  have HOP := Lib.hid hop
  clear hd hop
  obtain ⟨fa, fb, fc⟩ := f
  simp only at hf
  go_enter Tryz.func33, Tryz.ntmps33
  go_wp2_with fail
  have B0 := two_new w (.slice A n c) (.int .i64 room) (.int .i64 fuse) (.bool false) (.slice none 0 0) (.int .i64 0) (.int .i64 0) (.bool false) 24
  refine (own_any A n c room fuse false l _ (HD.out.q (((Q.refl _).alloc _).alloc _))).mono ?_
  rintro e w1 ⟨A1, c1, rfl, ho, q1⟩
  rw [size_two] at ho
  have HO := Lib.hid (ho.set4 (b := w.heap.size) (by omega) (.slice A1 n c1) (.int .i64 room) (.int .i64 fuse) (.bool false))
  have D1 := Lib.hid ((B0.1.q q1).put4 (.slice A1 n c1) (.int .i64 room) (.int .i64 fuse) (.bool false))
  have R1 := Lib.hid ((B0.2.q q1).far4 (c := w.heap.size) (by omega) (.slice A1 n c1) (.int .i64 room) (.int .i64 fuse) (.bool false))
  have Q1 := Lib.hid ((((((Q.refl w).alloc _).alloc _).trans q1)).set4 (b := w.heap.size) (Nat.le_refl _) (.slice A1 n c1) (.int .i64 room) (.int .i64 fuse) (.bool false))
  obtain ⟨⟨e0, e1, e2, e3⟩, f0, f1, f2, f3⟩ := (B0.1.q q1).get4
  clear B0 q1 ho
  go_wp2_with fail
  refine (open_any nm A1 n c1 room fuse false l _ HO.out.files HN.out).mono ?_
  rintro e w2 ⟨rfl, q2⟩
  rw [HOP.out]
  have HO2 := Lib.hid (HO.out.q q2)
  have Q2 := Lib.hid (Q1.out.trans q2)
  have z0 : w.heap.size < w2.heap.size := (D1.out.q q2).lt
  have z1 : w.heap.size + 1 < w2.heap.size := (R1.out.q q2).lt
  have z2 : w.heap.size ≠ w2.heap.size := by omega
  have z3 : w.heap.size + 1 ≠ w2.heap.size := by omega
  have D2 := Lib.hid (D1.out.q q2)
  have R2 := Lib.hid (R1.out.q q2)
  obtain ⟨⟨d0, d1, d2, d3⟩, g0, g1, g2, g3⟩ := (D1.out.q q2).get4
  obtain ⟨⟨s0, s1, s2, s3⟩, h0, h1, h2, h3⟩ := (R1.out.q q2).get4
  clear q2 e0 e1 e2 e3 f0 f1 f2 f3
  go_wp2_with fail
  refine (named_any nm _).mono ?_
  rintro e w' ⟨rfl, rfl⟩
  rw [HNM.out]
  go_wp2
  refine bodyPost_ret (v := .tuple #[dkv A1 n c1 room fuse false, .int .i64 5]) (by simp [results, Tryz.results33, go_sem, s0, s1, s2, s3, z1]) rfl ⟨A1, n, c1, rfl, (((HO2.out).set4 (b := w.heap.size + 1) (by omega) _ _ _ _).alloc _).lower (by omega), ((Q2.out).set4 (b := w.heap.size + 1) (by omega) _ _ _ _).alloc _⟩

set_option maxHeartbeats 1000000 in
set_option maxRecDepth 100000 in
theorem append_big_lt (nm s : ByteArray) (A : Option Addr) (n c : Nat) (room fuse : Int) (l : List Fil) (w : World) (hd : Dsk w A n c l) (f : Fil) (k : Nat) (hop : opn nm l = (f, k)) (hk : k ≤ n) (hf : f.sf.size + f.wt.size ≤ 2305843009213693952) (hs : s.size ≤ 2305843009213693952) (hn : nmOk nm = true) (hkn : k < n) (hr : (s.size : Int) ≤ room) (hb : 65536 < f.sf.size + f.wt.size + s.size) :
    Calls Tryz.prog 33 #[dkv A n c room fuse false, .string nm, .string s] w fun e w' => RetDE w ⟨l, room, fuse, false⟩ 4 e w' := by
  have k1 : ((k : Int) == (n : Int)) = false := by simp; omega
  have k2 : (k == n) = false := by simp; omega
  have HNM := Lib.hid hn
  clear hn
  have HD := Lib.hid hd
  have HN := Lib.hid hd.max
  have hlen := Lib.hid hd.len
  have hnm := hd.max
  unfold maxLen at hnm
  have HOP := Lib.hid hop
  clear hd hop
  obtain ⟨fa, fb, fc⟩ := f
  simp only at hf hb
  go_enter Tryz.func33, Tryz.ntmps33
  go_wp2_with fail
  have B0 := two_new w (.slice A n c) (.int .i64 room) (.int .i64 fuse) (.bool false) (.slice none 0 0) (.int .i64 0) (.int .i64 0) (.bool false) 24
  refine (own_any A n c room fuse false l _ (HD.out.q (((Q.refl _).alloc _).alloc _))).mono ?_
  rintro e w1 ⟨A1, c1, rfl, ho, q1⟩
  rw [size_two] at ho
  have HO := Lib.hid (ho.set4 (b := w.heap.size) (by omega) (.slice A1 n c1) (.int .i64 room) (.int .i64 fuse) (.bool false))
  have D1 := Lib.hid ((B0.1.q q1).put4 (.slice A1 n c1) (.int .i64 room) (.int .i64 fuse) (.bool false))
  have R1 := Lib.hid ((B0.2.q q1).far4 (c := w.heap.size) (by omega) (.slice A1 n c1) (.int .i64 room) (.int .i64 fuse) (.bool false))
  have Q1 := Lib.hid ((((((Q.refl w).alloc _).alloc _).trans q1)).set4 (b := w.heap.size) (Nat.le_refl _) (.slice A1 n c1) (.int .i64 room) (.int .i64 fuse) (.bool false))
  obtain ⟨⟨e0, e1, e2, e3⟩, f0, f1, f2, f3⟩ := (B0.1.q q1).get4
  clear B0 q1 ho
  go_wp2_with fail
  refine (open_any nm A1 n c1 room fuse false l _ HO.out.files HN.out).mono ?_
  rintro e w2 ⟨rfl, q2⟩
  rw [HOP.out]
  have HO2 := Lib.hid (HO.out.q q2)
  have Q2 := Lib.hid (Q1.out.trans q2)
  have z0 : w.heap.size < w2.heap.size := (D1.out.q q2).lt
  have z1 : w.heap.size + 1 < w2.heap.size := (R1.out.q q2).lt
  have z2 : w.heap.size ≠ w2.heap.size := by omega
  have z3 : w.heap.size + 1 ≠ w2.heap.size := by omega
  have D2 := Lib.hid (D1.out.q q2)
  have R2 := Lib.hid (R1.out.q q2)
  obtain ⟨⟨d0, d1, d2, d3⟩, g0, g1, g2, g3⟩ := (D1.out.q q2).get4
  obtain ⟨⟨s0, s1, s2, s3⟩, h0, h1, h2, h3⟩ := (R1.out.q q2).get4
  clear q2 e0 e1 e2 e3 f0 f1 f2 f3
  go_wp2_with fail
  refine (named_any nm _).mono ?_
  rintro e w' ⟨rfl, rfl⟩
  rw [HNM.out]
  go_wp2_with fail
  have F2 := Bx.new w2 [.string fa, .string fb, .string fc] 42
  refine (size_any ⟨fa, fb, fc⟩ _ (by unfold maxLen; show fb.size + fc.size ≤ _; omega)).mono ?_
  rintro e w3 ⟨rfl, q3⟩
  simp only
  have HO3 := Lib.hid ((HO2.out.alloc _).q q3)
  have Q3 := Lib.hid ((Q2.out.alloc _).trans q3)
  have D3 := Lib.hid ((D2.out.alloc _).q q3)
  have R3 := Lib.hid ((R2.out.alloc _).q q3)
  have F3 := Lib.hid (F2.q q3)
  have y0 : w2.heap.size < w3.heap.size := F3.out.lt
  clear d0 d1 d2 d3 g0 g1 g2 g3 s0 s1 s2 s3 h0 h1 h2 h3 F2 q3
  obtain ⟨⟨d0, d1, d2, d3⟩, g0, g1, g2, g3⟩ := D3.out.get4
  obtain ⟨⟨s0, s1, s2, s3⟩, h0, h1, h2, h3⟩ := R3.out.get4
  obtain ⟨⟨t0, t1, t2⟩, u0, u1, u2⟩ := F3.out.get3
  go_wp2
  refine bodyPost_ret (v := .tuple #[dkv A1 n c1 room fuse false, .int .i64 4]) (by simp [results, Tryz.results33, go_sem, s0, s1, s2, s3]) rfl ⟨A1, n, c1, rfl, (((HO3.out).set4 (b := w.heap.size + 1) (by omega) _ _ _ _)).lower (by omega), ((Q3.out).set4 (b := w.heap.size + 1) (by omega) _ _ _ _)⟩

end Go.Proofs.YtggbdhnjogalgaaGreatDoor

/- Contract: Append, what is done. -/
namespace Go.Proofs.YtggbdhnjogalgaaGreatDoor
set_option maxRecDepth 100000
open Go.RowKit Dkm
set_option linter.unusedVariables false

set_option maxHeartbeats 1000000 in
set_option maxRecDepth 100000 in
theorem append_done_eq_neg (nm s : ByteArray) (A : Option Addr) (n c : Nat) (room fuse : Int) (l : List Fil) (w : World) (hd : Dsk w A n c l) (f : Fil) (k : Nat) (hop : opn nm l = (f, k)) (hk : k ≤ n) (hf : f.sf.size + f.wt.size ≤ 2305843009213693952) (hs : s.size ≤ 2305843009213693952) (hn : nmOk nm = true) (hkn : k = n) (h64 : n < 64) (hr : (s.size : Int) ≤ room) (hr2 : room ≤ 9223372036854775807) (hb : f.sf.size + f.wt.size + s.size ≤ 65536) (hz : fuse < 0) :
    Calls Tryz.prog 33 #[dkv A n c room fuse false, .string nm, .string s] w fun e w' => RetDE w ⟨l ++ [⟨f.nm, f.sf, f.wt ++ s⟩], room - (s).size, fuse, false⟩ 0 e w' := by
  have hkn2 : n = k := hkn.symm
  subst hkn2
  clear hkn
  have HNM := Lib.hid hn
  clear hn
  have HD := Lib.hid hd
  have HN := Lib.hid hd.max
  have hlen := Lib.hid hd.len
  have hnm := hd.max
  unfold maxLen at hnm
  have HOP := Lib.hid hop
  clear hd hop
  obtain ⟨fa, fb, fc⟩ := f
  simp only at hf hb
  show Calls _ _ _ _ fun e w' => RetDE w ⟨l ++ [⟨fa, fb, fc ++ s⟩], room - (s).size, fuse, false⟩ 0 e w'
  go_enter Tryz.func33, Tryz.ntmps33
  go_wp2_with fail
  have B0 := two_new w (.slice A n c) (.int .i64 room) (.int .i64 fuse) (.bool false) (.slice none 0 0) (.int .i64 0) (.int .i64 0) (.bool false) 24
  refine (own_any A n c room fuse false l _ (HD.out.q (((Q.refl _).alloc _).alloc _))).mono ?_
  rintro e w1 ⟨A1, c1, rfl, ho, q1⟩
  rw [size_two] at ho
  have HO := Lib.hid (ho.set4 (b := w.heap.size) (by omega) (.slice A1 n c1) (.int .i64 room) (.int .i64 fuse) (.bool false))
  have D1 := Lib.hid ((B0.1.q q1).put4 (.slice A1 n c1) (.int .i64 room) (.int .i64 fuse) (.bool false))
  have R1 := Lib.hid ((B0.2.q q1).far4 (c := w.heap.size) (by omega) (.slice A1 n c1) (.int .i64 room) (.int .i64 fuse) (.bool false))
  have Q1 := Lib.hid ((((((Q.refl w).alloc _).alloc _).trans q1)).set4 (b := w.heap.size) (Nat.le_refl _) (.slice A1 n c1) (.int .i64 room) (.int .i64 fuse) (.bool false))
  obtain ⟨⟨e0, e1, e2, e3⟩, f0, f1, f2, f3⟩ := (B0.1.q q1).get4
  clear B0 q1 ho
  go_wp2_with fail
  refine (open_any nm A1 n c1 room fuse false l _ HO.out.files HN.out).mono ?_
  rintro e w2 ⟨rfl, q2⟩
  rw [HOP.out]
  have HO2 := Lib.hid (HO.out.q q2)
  have Q2 := Lib.hid (Q1.out.trans q2)
  have z0 : w.heap.size < w2.heap.size := (D1.out.q q2).lt
  have z1 : w.heap.size + 1 < w2.heap.size := (R1.out.q q2).lt
  have z2 : w.heap.size ≠ w2.heap.size := by omega
  have z3 : w.heap.size + 1 ≠ w2.heap.size := by omega
  have D2 := Lib.hid (D1.out.q q2)
  have R2 := Lib.hid (R1.out.q q2)
  obtain ⟨⟨d0, d1, d2, d3⟩, g0, g1, g2, g3⟩ := (D1.out.q q2).get4
  obtain ⟨⟨s0, s1, s2, s3⟩, h0, h1, h2, h3⟩ := (R1.out.q q2).get4
  clear q2 e0 e1 e2 e3 f0 f1 f2 f3
  go_wp2_with fail
  refine (named_any nm _).mono ?_
  rintro e w' ⟨rfl, rfl⟩
  rw [HNM.out]
  go_wp2_with fail
  have F2 := Bx.new w2 [.string fa, .string fb, .string fc] 42
  refine (size_any ⟨fa, fb, fc⟩ _ (by unfold maxLen; show fb.size + fc.size ≤ _; omega)).mono ?_
  rintro e w3 ⟨rfl, q3⟩
  simp only
  have HO3 := Lib.hid ((HO2.out.alloc _).q q3)
  have Q3 := Lib.hid ((Q2.out.alloc _).trans q3)
  have D3 := Lib.hid ((D2.out.alloc _).q q3)
  have R3 := Lib.hid ((R2.out.alloc _).q q3)
  have F3 := Lib.hid (F2.q q3)
  have y0 : w2.heap.size < w3.heap.size := F3.out.lt
  clear d0 d1 d2 d3 g0 g1 g2 g3 s0 s1 s2 s3 h0 h1 h2 h3 F2 q3
  obtain ⟨⟨d0, d1, d2, d3⟩, g0, g1, g2, g3⟩ := D3.out.get4
  obtain ⟨⟨s0, s1, s2, s3⟩, h0, h1, h2, h3⟩ := R3.out.get4
  obtain ⟨⟨t0, t1, t2⟩, u0, u1, u2⟩ := F3.out.get3
  go_wp2_with fail
  refine (set_end (w.heap.size + 2) A1 n c1 ⟨fa, fb, fc ++ s⟩ l _ (Own.setNew HO2.out HO3.out (p := ⟨w2.heap.size, 2, none⟩) (Nat.le_refl _) _) (by omega) (by show w.heap.size + 2 ≤ (w3.setCell _ _).heap.size; simp; omega)).mono ?_
  rintro e w4 ⟨A4, c4, rfl, ho4, b4⟩
  have HO4 := Lib.hid ho4
  have Q4 := Lib.hid (show Q w w4 from (Q3.out.setCell (p := ⟨w2.heap.size, 2, none⟩) (by show w.heap.size ≤ w2.heap.size; omega) _).below.trans (b4.mono (by omega)))
  have D4 := (D3.out.far (p := ⟨w2.heap.size, 2, none⟩) (by show w2.heap.size ≠ w.heap.size; omega) _).below b4 (by omega)
  have R4 := (R3.out.far (p := ⟨w2.heap.size, 2, none⟩) (by show w2.heap.size ≠ w.heap.size + 1; omega) _).below b4 (by omega)
  clear ho4 b4 d0 d1 d2 d3 g0 g1 g2 g3 s0 s1 s2 s3 h0 h1 h2 h3 t0 t1 t2 u0 u1 u2
  obtain ⟨⟨d0, d1, d2, d3⟩, g0, g1, g2, g3⟩ := D4.get4
  obtain ⟨⟨s0, s1, s2, s3⟩, h0, h1, h2, h3⟩ := R4.get4
  clear D4 R4
  go_wp2
  refine bodyPost_ret (v := .tuple #[dkv A4 (n + 1) c4 (room - (s).size) (fuse) false, .int .i64 0]) (by simp [results, Tryz.results33, go_sem, s0, s1, s2, s3]) rfl ⟨A4, (n + 1), c4, rfl, ?_, ?_⟩
  · exact (((HO4.out.setCell (p := ⟨w.heap.size, 0, none⟩) (by simp) _).setCell (p := ⟨w.heap.size, 1, none⟩) (by simp) _).set4 (b := w.heap.size + 1) (by omega) _ _ _ _).lower (by omega)
  · exact ((Q4.out.setCell (p := ⟨w.heap.size, 0, none⟩) (Nat.le_refl _) _).setCell (p := ⟨w.heap.size, 1, none⟩) (Nat.le_refl _) _).set4 (b := w.heap.size + 1) (by omega) _ _ _ _

set_option maxHeartbeats 1000000 in
set_option maxRecDepth 100000 in
theorem append_done_eq_fits (nm s : ByteArray) (A : Option Addr) (n c : Nat) (room fuse : Int) (l : List Fil) (w : World) (hd : Dsk w A n c l) (f : Fil) (k : Nat) (hop : opn nm l = (f, k)) (hk : k ≤ n) (hf : f.sf.size + f.wt.size ≤ 2305843009213693952) (hs : s.size ≤ 2305843009213693952) (hn : nmOk nm = true) (hkn : k = n) (h64 : n < 64) (hr : (s.size : Int) ≤ room) (hr2 : room ≤ 9223372036854775807) (hb : f.sf.size + f.wt.size + s.size ≤ 65536) (hz : (s.size : Int) ≤ fuse) (hz2 : fuse ≤ 9223372036854775807) :
    Calls Tryz.prog 33 #[dkv A n c room fuse false, .string nm, .string s] w fun e w' => RetDE w ⟨l ++ [⟨f.nm, f.sf, f.wt ++ s⟩], room - (s).size, fuse - s.size, false⟩ 0 e w' := by
  have hkn2 : n = k := hkn.symm
  subst hkn2
  clear hkn
  have HNM := Lib.hid hn
  clear hn
  have HD := Lib.hid hd
  have HN := Lib.hid hd.max
  have hlen := Lib.hid hd.len
  have hnm := hd.max
  unfold maxLen at hnm
  have HOP := Lib.hid hop
  clear hd hop
  obtain ⟨fa, fb, fc⟩ := f
  simp only at hf hb
  show Calls _ _ _ _ fun e w' => RetDE w ⟨l ++ [⟨fa, fb, fc ++ s⟩], room - (s).size, fuse - s.size, false⟩ 0 e w'
  go_enter Tryz.func33, Tryz.ntmps33
  go_wp2_with fail
  have B0 := two_new w (.slice A n c) (.int .i64 room) (.int .i64 fuse) (.bool false) (.slice none 0 0) (.int .i64 0) (.int .i64 0) (.bool false) 24
  refine (own_any A n c room fuse false l _ (HD.out.q (((Q.refl _).alloc _).alloc _))).mono ?_
  rintro e w1 ⟨A1, c1, rfl, ho, q1⟩
  rw [size_two] at ho
  have HO := Lib.hid (ho.set4 (b := w.heap.size) (by omega) (.slice A1 n c1) (.int .i64 room) (.int .i64 fuse) (.bool false))
  have D1 := Lib.hid ((B0.1.q q1).put4 (.slice A1 n c1) (.int .i64 room) (.int .i64 fuse) (.bool false))
  have R1 := Lib.hid ((B0.2.q q1).far4 (c := w.heap.size) (by omega) (.slice A1 n c1) (.int .i64 room) (.int .i64 fuse) (.bool false))
  have Q1 := Lib.hid ((((((Q.refl w).alloc _).alloc _).trans q1)).set4 (b := w.heap.size) (Nat.le_refl _) (.slice A1 n c1) (.int .i64 room) (.int .i64 fuse) (.bool false))
  obtain ⟨⟨e0, e1, e2, e3⟩, f0, f1, f2, f3⟩ := (B0.1.q q1).get4
  clear B0 q1 ho
  go_wp2_with fail
  refine (open_any nm A1 n c1 room fuse false l _ HO.out.files HN.out).mono ?_
  rintro e w2 ⟨rfl, q2⟩
  rw [HOP.out]
  have HO2 := Lib.hid (HO.out.q q2)
  have Q2 := Lib.hid (Q1.out.trans q2)
  have z0 : w.heap.size < w2.heap.size := (D1.out.q q2).lt
  have z1 : w.heap.size + 1 < w2.heap.size := (R1.out.q q2).lt
  have z2 : w.heap.size ≠ w2.heap.size := by omega
  have z3 : w.heap.size + 1 ≠ w2.heap.size := by omega
  have D2 := Lib.hid (D1.out.q q2)
  have R2 := Lib.hid (R1.out.q q2)
  obtain ⟨⟨d0, d1, d2, d3⟩, g0, g1, g2, g3⟩ := (D1.out.q q2).get4
  obtain ⟨⟨s0, s1, s2, s3⟩, h0, h1, h2, h3⟩ := (R1.out.q q2).get4
  clear q2 e0 e1 e2 e3 f0 f1 f2 f3
  go_wp2_with fail
  refine (named_any nm _).mono ?_
  rintro e w' ⟨rfl, rfl⟩
  rw [HNM.out]
  go_wp2_with fail
  have F2 := Bx.new w2 [.string fa, .string fb, .string fc] 42
  refine (size_any ⟨fa, fb, fc⟩ _ (by unfold maxLen; show fb.size + fc.size ≤ _; omega)).mono ?_
  rintro e w3 ⟨rfl, q3⟩
  simp only
  have HO3 := Lib.hid ((HO2.out.alloc _).q q3)
  have Q3 := Lib.hid ((Q2.out.alloc _).trans q3)
  have D3 := Lib.hid ((D2.out.alloc _).q q3)
  have R3 := Lib.hid ((R2.out.alloc _).q q3)
  have F3 := Lib.hid (F2.q q3)
  have y0 : w2.heap.size < w3.heap.size := F3.out.lt
  clear d0 d1 d2 d3 g0 g1 g2 g3 s0 s1 s2 s3 h0 h1 h2 h3 F2 q3
  obtain ⟨⟨d0, d1, d2, d3⟩, g0, g1, g2, g3⟩ := D3.out.get4
  obtain ⟨⟨s0, s1, s2, s3⟩, h0, h1, h2, h3⟩ := R3.out.get4
  obtain ⟨⟨t0, t1, t2⟩, u0, u1, u2⟩ := F3.out.get3
  go_wp2_with fail
  refine (set_end (w.heap.size + 2) A1 n c1 ⟨fa, fb, fc ++ s⟩ l _ (Own.setNew HO2.out HO3.out (p := ⟨w2.heap.size, 2, none⟩) (Nat.le_refl _) _) (by omega) (by show w.heap.size + 2 ≤ (w3.setCell _ _).heap.size; simp; omega)).mono ?_
  rintro e w4 ⟨A4, c4, rfl, ho4, b4⟩
  have HO4 := Lib.hid ho4
  have Q4 := Lib.hid (show Q w w4 from (Q3.out.setCell (p := ⟨w2.heap.size, 2, none⟩) (by show w.heap.size ≤ w2.heap.size; omega) _).below.trans (b4.mono (by omega)))
  have D4 := (D3.out.far (p := ⟨w2.heap.size, 2, none⟩) (by show w2.heap.size ≠ w.heap.size; omega) _).below b4 (by omega)
  have R4 := (R3.out.far (p := ⟨w2.heap.size, 2, none⟩) (by show w2.heap.size ≠ w.heap.size + 1; omega) _).below b4 (by omega)
  clear ho4 b4 d0 d1 d2 d3 g0 g1 g2 g3 s0 s1 s2 s3 h0 h1 h2 h3 t0 t1 t2 u0 u1 u2
  obtain ⟨⟨d0, d1, d2, d3⟩, g0, g1, g2, g3⟩ := D4.get4
  obtain ⟨⟨s0, s1, s2, s3⟩, h0, h1, h2, h3⟩ := R4.get4
  clear D4 R4
  go_wp2
  refine bodyPost_ret (v := .tuple #[dkv A4 (n + 1) c4 (room - (s).size) (fuse - s.size) false, .int .i64 0]) (by simp [results, Tryz.results33, go_sem, s0, s1, s2, s3]) rfl ⟨A4, (n + 1), c4, rfl, ?_, ?_⟩
  · exact ((((HO4.out.setCell (p := ⟨w.heap.size, 0, none⟩) (by simp) _).setCell (p := ⟨w.heap.size, 1, none⟩) (by simp) _).setCell (p := ⟨w.heap.size, 2, none⟩) (by simp) _).set4 (b := w.heap.size + 1) (by omega) _ _ _ _).lower (by omega)
  · exact (((Q4.out.setCell (p := ⟨w.heap.size, 0, none⟩) (Nat.le_refl _) _).setCell (p := ⟨w.heap.size, 1, none⟩) (Nat.le_refl _) _).setCell (p := ⟨w.heap.size, 2, none⟩) (Nat.le_refl _) _).set4 (b := w.heap.size + 1) (by omega) _ _ _ _

set_option maxHeartbeats 1000000 in
set_option maxRecDepth 100000 in
theorem append_done_lt_neg (nm s : ByteArray) (A : Option Addr) (n c : Nat) (room fuse : Int) (l : List Fil) (w : World) (hd : Dsk w A n c l) (f : Fil) (k : Nat) (hop : opn nm l = (f, k)) (hk : k ≤ n) (hf : f.sf.size + f.wt.size ≤ 2305843009213693952) (hs : s.size ≤ 2305843009213693952) (hn : nmOk nm = true) (hkn : k < n) (hr : (s.size : Int) ≤ room) (hr2 : room ≤ 9223372036854775807) (hb : f.sf.size + f.wt.size + s.size ≤ 65536) (hz : fuse < 0) :
    Calls Tryz.prog 33 #[dkv A n c room fuse false, .string nm, .string s] w fun e w' => RetDE w ⟨l.set k ⟨f.nm, f.sf, f.wt ++ s⟩, room - (s).size, fuse, false⟩ 0 e w' := by
  have k1 : ((k : Int) == (n : Int)) = false := by simp; omega
  have k2 : (k == n) = false := by simp; omega
  have HNM := Lib.hid hn
  clear hn
  have HD := Lib.hid hd
  have HN := Lib.hid hd.max
  have hlen := Lib.hid hd.len
  have hnm := hd.max
  unfold maxLen at hnm
  have HOP := Lib.hid hop
  clear hd hop
  obtain ⟨fa, fb, fc⟩ := f
  simp only at hf hb
  show Calls _ _ _ _ fun e w' => RetDE w ⟨l.set k ⟨fa, fb, fc ++ s⟩, room - (s).size, fuse, false⟩ 0 e w'
  go_enter Tryz.func33, Tryz.ntmps33
  go_wp2_with fail
  have B0 := two_new w (.slice A n c) (.int .i64 room) (.int .i64 fuse) (.bool false) (.slice none 0 0) (.int .i64 0) (.int .i64 0) (.bool false) 24
  refine (own_any A n c room fuse false l _ (HD.out.q (((Q.refl _).alloc _).alloc _))).mono ?_
  rintro e w1 ⟨A1, c1, rfl, ho, q1⟩
  rw [size_two] at ho
  have HO := Lib.hid (ho.set4 (b := w.heap.size) (by omega) (.slice A1 n c1) (.int .i64 room) (.int .i64 fuse) (.bool false))
  have D1 := Lib.hid ((B0.1.q q1).put4 (.slice A1 n c1) (.int .i64 room) (.int .i64 fuse) (.bool false))
  have R1 := Lib.hid ((B0.2.q q1).far4 (c := w.heap.size) (by omega) (.slice A1 n c1) (.int .i64 room) (.int .i64 fuse) (.bool false))
  have Q1 := Lib.hid ((((((Q.refl w).alloc _).alloc _).trans q1)).set4 (b := w.heap.size) (Nat.le_refl _) (.slice A1 n c1) (.int .i64 room) (.int .i64 fuse) (.bool false))
  obtain ⟨⟨e0, e1, e2, e3⟩, f0, f1, f2, f3⟩ := (B0.1.q q1).get4
  clear B0 q1 ho
  go_wp2_with fail
  refine (open_any nm A1 n c1 room fuse false l _ HO.out.files HN.out).mono ?_
  rintro e w2 ⟨rfl, q2⟩
  rw [HOP.out]
  have HO2 := Lib.hid (HO.out.q q2)
  have Q2 := Lib.hid (Q1.out.trans q2)
  have z0 : w.heap.size < w2.heap.size := (D1.out.q q2).lt
  have z1 : w.heap.size + 1 < w2.heap.size := (R1.out.q q2).lt
  have z2 : w.heap.size ≠ w2.heap.size := by omega
  have z3 : w.heap.size + 1 ≠ w2.heap.size := by omega
  have D2 := Lib.hid (D1.out.q q2)
  have R2 := Lib.hid (R1.out.q q2)
  obtain ⟨⟨d0, d1, d2, d3⟩, g0, g1, g2, g3⟩ := (D1.out.q q2).get4
  obtain ⟨⟨s0, s1, s2, s3⟩, h0, h1, h2, h3⟩ := (R1.out.q q2).get4
  clear q2 e0 e1 e2 e3 f0 f1 f2 f3
  go_wp2_with fail
  refine (named_any nm _).mono ?_
  rintro e w' ⟨rfl, rfl⟩
  rw [HNM.out]
  go_wp2_with fail
  have F2 := Bx.new w2 [.string fa, .string fb, .string fc] 42
  refine (size_any ⟨fa, fb, fc⟩ _ (by unfold maxLen; show fb.size + fc.size ≤ _; omega)).mono ?_
  rintro e w3 ⟨rfl, q3⟩
  simp only
  have HO3 := Lib.hid ((HO2.out.alloc _).q q3)
  have Q3 := Lib.hid ((Q2.out.alloc _).trans q3)
  have D3 := Lib.hid ((D2.out.alloc _).q q3)
  have R3 := Lib.hid ((R2.out.alloc _).q q3)
  have F3 := Lib.hid (F2.q q3)
  have y0 : w2.heap.size < w3.heap.size := F3.out.lt
  clear d0 d1 d2 d3 g0 g1 g2 g3 s0 s1 s2 s3 h0 h1 h2 h3 F2 q3
  obtain ⟨⟨d0, d1, d2, d3⟩, g0, g1, g2, g3⟩ := D3.out.get4
  obtain ⟨⟨s0, s1, s2, s3⟩, h0, h1, h2, h3⟩ := R3.out.get4
  obtain ⟨⟨t0, t1, t2⟩, u0, u1, u2⟩ := F3.out.get3
  go_wp2_with fail
  refine (set_mid (w.heap.size + 2) A1 n c1 k ⟨fa, fb, fc ++ s⟩ l _ (Own.setNew HO2.out HO3.out (p := ⟨w2.heap.size, 2, none⟩) (Nat.le_refl _) _) hkn).mono ?_
  rintro e w4 ⟨rfl, ho4, b4⟩
  have HO4 := Lib.hid ho4
  have Q4 := Lib.hid (show Q w w4 from (Q3.out.setCell (p := ⟨w2.heap.size, 2, none⟩) (by show w.heap.size ≤ w2.heap.size; omega) _).below.trans (b4.mono (by omega)))
  have D4 := (D3.out.far (p := ⟨w2.heap.size, 2, none⟩) (by show w2.heap.size ≠ w.heap.size; omega) _).below b4 (by omega)
  have R4 := (R3.out.far (p := ⟨w2.heap.size, 2, none⟩) (by show w2.heap.size ≠ w.heap.size + 1; omega) _).below b4 (by omega)
  clear ho4 b4 d0 d1 d2 d3 g0 g1 g2 g3 s0 s1 s2 s3 h0 h1 h2 h3 t0 t1 t2 u0 u1 u2
  obtain ⟨⟨d0, d1, d2, d3⟩, g0, g1, g2, g3⟩ := D4.get4
  obtain ⟨⟨s0, s1, s2, s3⟩, h0, h1, h2, h3⟩ := R4.get4
  clear D4 R4
  go_wp2
  refine bodyPost_ret (v := .tuple #[dkv A1 n c1 (room - (s).size) (fuse) false, .int .i64 0]) (by simp [results, Tryz.results33, go_sem, s0, s1, s2, s3]) rfl ⟨A1, n, c1, rfl, ?_, ?_⟩
  · exact (((HO4.out.setCell (p := ⟨w.heap.size, 0, none⟩) (by simp) _).setCell (p := ⟨w.heap.size, 1, none⟩) (by simp) _).set4 (b := w.heap.size + 1) (by omega) _ _ _ _).lower (by omega)
  · exact ((Q4.out.setCell (p := ⟨w.heap.size, 0, none⟩) (Nat.le_refl _) _).setCell (p := ⟨w.heap.size, 1, none⟩) (Nat.le_refl _) _).set4 (b := w.heap.size + 1) (by omega) _ _ _ _

set_option maxHeartbeats 1000000 in
set_option maxRecDepth 100000 in
theorem append_done_lt_fits (nm s : ByteArray) (A : Option Addr) (n c : Nat) (room fuse : Int) (l : List Fil) (w : World) (hd : Dsk w A n c l) (f : Fil) (k : Nat) (hop : opn nm l = (f, k)) (hk : k ≤ n) (hf : f.sf.size + f.wt.size ≤ 2305843009213693952) (hs : s.size ≤ 2305843009213693952) (hn : nmOk nm = true) (hkn : k < n) (hr : (s.size : Int) ≤ room) (hr2 : room ≤ 9223372036854775807) (hb : f.sf.size + f.wt.size + s.size ≤ 65536) (hz : (s.size : Int) ≤ fuse) (hz2 : fuse ≤ 9223372036854775807) :
    Calls Tryz.prog 33 #[dkv A n c room fuse false, .string nm, .string s] w fun e w' => RetDE w ⟨l.set k ⟨f.nm, f.sf, f.wt ++ s⟩, room - (s).size, fuse - s.size, false⟩ 0 e w' := by
  have k1 : ((k : Int) == (n : Int)) = false := by simp; omega
  have k2 : (k == n) = false := by simp; omega
  have HNM := Lib.hid hn
  clear hn
  have HD := Lib.hid hd
  have HN := Lib.hid hd.max
  have hlen := Lib.hid hd.len
  have hnm := hd.max
  unfold maxLen at hnm
  have HOP := Lib.hid hop
  clear hd hop
  obtain ⟨fa, fb, fc⟩ := f
  simp only at hf hb
  show Calls _ _ _ _ fun e w' => RetDE w ⟨l.set k ⟨fa, fb, fc ++ s⟩, room - (s).size, fuse - s.size, false⟩ 0 e w'
  go_enter Tryz.func33, Tryz.ntmps33
  go_wp2_with fail
  have B0 := two_new w (.slice A n c) (.int .i64 room) (.int .i64 fuse) (.bool false) (.slice none 0 0) (.int .i64 0) (.int .i64 0) (.bool false) 24
  refine (own_any A n c room fuse false l _ (HD.out.q (((Q.refl _).alloc _).alloc _))).mono ?_
  rintro e w1 ⟨A1, c1, rfl, ho, q1⟩
  rw [size_two] at ho
  have HO := Lib.hid (ho.set4 (b := w.heap.size) (by omega) (.slice A1 n c1) (.int .i64 room) (.int .i64 fuse) (.bool false))
  have D1 := Lib.hid ((B0.1.q q1).put4 (.slice A1 n c1) (.int .i64 room) (.int .i64 fuse) (.bool false))
  have R1 := Lib.hid ((B0.2.q q1).far4 (c := w.heap.size) (by omega) (.slice A1 n c1) (.int .i64 room) (.int .i64 fuse) (.bool false))
  have Q1 := Lib.hid ((((((Q.refl w).alloc _).alloc _).trans q1)).set4 (b := w.heap.size) (Nat.le_refl _) (.slice A1 n c1) (.int .i64 room) (.int .i64 fuse) (.bool false))
  obtain ⟨⟨e0, e1, e2, e3⟩, f0, f1, f2, f3⟩ := (B0.1.q q1).get4
  clear B0 q1 ho
  go_wp2_with fail
  refine (open_any nm A1 n c1 room fuse false l _ HO.out.files HN.out).mono ?_
  rintro e w2 ⟨rfl, q2⟩
  rw [HOP.out]
  have HO2 := Lib.hid (HO.out.q q2)
  have Q2 := Lib.hid (Q1.out.trans q2)
  have z0 : w.heap.size < w2.heap.size := (D1.out.q q2).lt
  have z1 : w.heap.size + 1 < w2.heap.size := (R1.out.q q2).lt
  have z2 : w.heap.size ≠ w2.heap.size := by omega
  have z3 : w.heap.size + 1 ≠ w2.heap.size := by omega
  have D2 := Lib.hid (D1.out.q q2)
  have R2 := Lib.hid (R1.out.q q2)
  obtain ⟨⟨d0, d1, d2, d3⟩, g0, g1, g2, g3⟩ := (D1.out.q q2).get4
  obtain ⟨⟨s0, s1, s2, s3⟩, h0, h1, h2, h3⟩ := (R1.out.q q2).get4
  clear q2 e0 e1 e2 e3 f0 f1 f2 f3
  go_wp2_with fail
  refine (named_any nm _).mono ?_
  rintro e w' ⟨rfl, rfl⟩
  rw [HNM.out]
  go_wp2_with fail
  have F2 := Bx.new w2 [.string fa, .string fb, .string fc] 42
  refine (size_any ⟨fa, fb, fc⟩ _ (by unfold maxLen; show fb.size + fc.size ≤ _; omega)).mono ?_
  rintro e w3 ⟨rfl, q3⟩
  simp only
  have HO3 := Lib.hid ((HO2.out.alloc _).q q3)
  have Q3 := Lib.hid ((Q2.out.alloc _).trans q3)
  have D3 := Lib.hid ((D2.out.alloc _).q q3)
  have R3 := Lib.hid ((R2.out.alloc _).q q3)
  have F3 := Lib.hid (F2.q q3)
  have y0 : w2.heap.size < w3.heap.size := F3.out.lt
  clear d0 d1 d2 d3 g0 g1 g2 g3 s0 s1 s2 s3 h0 h1 h2 h3 F2 q3
  obtain ⟨⟨d0, d1, d2, d3⟩, g0, g1, g2, g3⟩ := D3.out.get4
  obtain ⟨⟨s0, s1, s2, s3⟩, h0, h1, h2, h3⟩ := R3.out.get4
  obtain ⟨⟨t0, t1, t2⟩, u0, u1, u2⟩ := F3.out.get3
  go_wp2_with fail
  refine (set_mid (w.heap.size + 2) A1 n c1 k ⟨fa, fb, fc ++ s⟩ l _ (Own.setNew HO2.out HO3.out (p := ⟨w2.heap.size, 2, none⟩) (Nat.le_refl _) _) hkn).mono ?_
  rintro e w4 ⟨rfl, ho4, b4⟩
  have HO4 := Lib.hid ho4
  have Q4 := Lib.hid (show Q w w4 from (Q3.out.setCell (p := ⟨w2.heap.size, 2, none⟩) (by show w.heap.size ≤ w2.heap.size; omega) _).below.trans (b4.mono (by omega)))
  have D4 := (D3.out.far (p := ⟨w2.heap.size, 2, none⟩) (by show w2.heap.size ≠ w.heap.size; omega) _).below b4 (by omega)
  have R4 := (R3.out.far (p := ⟨w2.heap.size, 2, none⟩) (by show w2.heap.size ≠ w.heap.size + 1; omega) _).below b4 (by omega)
  clear ho4 b4 d0 d1 d2 d3 g0 g1 g2 g3 s0 s1 s2 s3 h0 h1 h2 h3 t0 t1 t2 u0 u1 u2
  obtain ⟨⟨d0, d1, d2, d3⟩, g0, g1, g2, g3⟩ := D4.get4
  obtain ⟨⟨s0, s1, s2, s3⟩, h0, h1, h2, h3⟩ := R4.get4
  clear D4 R4
  go_wp2
  refine bodyPost_ret (v := .tuple #[dkv A1 n c1 (room - (s).size) (fuse - s.size) false, .int .i64 0]) (by simp [results, Tryz.results33, go_sem, s0, s1, s2, s3]) rfl ⟨A1, n, c1, rfl, ?_, ?_⟩
  · exact ((((HO4.out.setCell (p := ⟨w.heap.size, 0, none⟩) (by simp) _).setCell (p := ⟨w.heap.size, 1, none⟩) (by simp) _).setCell (p := ⟨w.heap.size, 2, none⟩) (by simp) _).set4 (b := w.heap.size + 1) (by omega) _ _ _ _).lower (by omega)
  · exact (((Q4.out.setCell (p := ⟨w.heap.size, 0, none⟩) (Nat.le_refl _) _).setCell (p := ⟨w.heap.size, 1, none⟩) (Nat.le_refl _) _).setCell (p := ⟨w.heap.size, 2, none⟩) (Nat.le_refl _) _).set4 (b := w.heap.size + 1) (by omega) _ _ _ _

end Go.Proofs.YtggbdhnjogalgaaGreatDoor

/- Contract: Append, cut by the fuse; and all cases together. -/
namespace Go.Proofs.YtggbdhnjogalgaaGreatDoor
set_option maxRecDepth 100000
open Go.RowKit Dkm
set_option linter.unusedVariables false

set_option maxHeartbeats 1000000 in
set_option maxRecDepth 100000 in
theorem append_short_eq (nm s : ByteArray) (A : Option Addr) (n c : Nat) (room fuse : Int) (l : List Fil) (w : World) (hd : Dsk w A n c l) (f : Fil) (k : Nat) (hop : opn nm l = (f, k)) (hk : k ≤ n) (hf : f.sf.size + f.wt.size ≤ 2305843009213693952) (hs : s.size ≤ 2305843009213693952) (hn : nmOk nm = true) (hkn : k = n) (h64 : n < 64) (hr : (s.size : Int) ≤ room) (hr2 : room ≤ 9223372036854775807) (hb : f.sf.size + f.wt.size + s.size ≤ 65536) (q : Nat) (hq : fuse = q) (hz : q < s.size) :
    Calls Tryz.prog 33 #[dkv A n c room fuse false, .string nm, .string s] w fun e w' => RetDE w ⟨l ++ [⟨f.nm, f.sf, f.wt ++ s.extract 0 q⟩], room - (s.extract 0 q).size, (q : Int) - (s.extract 0 q).size, true⟩ 6 e w' := by
  subst hq
  have hkn2 : n = k := hkn.symm
  subst hkn2
  clear hkn
  have HNM := Lib.hid hn
  clear hn
  have hx1 : (s.extract 0 q).size ≤ q := by simp; omega
  have hx2 : (s.extract 0 q).size ≤ s.size := by simp; omega
  have HD := Lib.hid hd
  have HN := Lib.hid hd.max
  have hlen := Lib.hid hd.len
  have hnm := hd.max
  unfold maxLen at hnm
  have HOP := Lib.hid hop
  clear hd hop
  obtain ⟨fa, fb, fc⟩ := f
  simp only at hf hb
  show Calls _ _ _ _ fun e w' => RetDE w ⟨l ++ [⟨fa, fb, fc ++ s.extract 0 q⟩], room - (s.extract 0 q).size, (q : Int) - (s.extract 0 q).size, true⟩ 6 e w'
  go_enter Tryz.func33, Tryz.ntmps33
  go_wp2_with fail
  have B0 := two_new w (.slice A n c) (.int .i64 room) (.int .i64 (q : Int)) (.bool false) (.slice none 0 0) (.int .i64 0) (.int .i64 0) (.bool false) 24
  refine (own_any A n c room (q : Int) false l _ (HD.out.q (((Q.refl _).alloc _).alloc _))).mono ?_
  rintro e w1 ⟨A1, c1, rfl, ho, q1⟩
  rw [size_two] at ho
  have HO := Lib.hid (ho.set4 (b := w.heap.size) (by omega) (.slice A1 n c1) (.int .i64 room) (.int .i64 (q : Int)) (.bool false))
  have D1 := Lib.hid ((B0.1.q q1).put4 (.slice A1 n c1) (.int .i64 room) (.int .i64 (q : Int)) (.bool false))
  have R1 := Lib.hid ((B0.2.q q1).far4 (c := w.heap.size) (by omega) (.slice A1 n c1) (.int .i64 room) (.int .i64 (q : Int)) (.bool false))
  have Q1 := Lib.hid ((((((Q.refl w).alloc _).alloc _).trans q1)).set4 (b := w.heap.size) (Nat.le_refl _) (.slice A1 n c1) (.int .i64 room) (.int .i64 (q : Int)) (.bool false))
  obtain ⟨⟨e0, e1, e2, e3⟩, f0, f1, f2, f3⟩ := (B0.1.q q1).get4
  clear B0 q1 ho
  go_wp2_with fail
  refine (open_any nm A1 n c1 room (q : Int) false l _ HO.out.files HN.out).mono ?_
  rintro e w2 ⟨rfl, q2⟩
  rw [HOP.out]
  have HO2 := Lib.hid (HO.out.q q2)
  have Q2 := Lib.hid (Q1.out.trans q2)
  have z0 : w.heap.size < w2.heap.size := (D1.out.q q2).lt
  have z1 : w.heap.size + 1 < w2.heap.size := (R1.out.q q2).lt
  have z2 : w.heap.size ≠ w2.heap.size := by omega
  have z3 : w.heap.size + 1 ≠ w2.heap.size := by omega
  have D2 := Lib.hid (D1.out.q q2)
  have R2 := Lib.hid (R1.out.q q2)
  obtain ⟨⟨d0, d1, d2, d3⟩, g0, g1, g2, g3⟩ := (D1.out.q q2).get4
  obtain ⟨⟨s0, s1, s2, s3⟩, h0, h1, h2, h3⟩ := (R1.out.q q2).get4
  clear q2 e0 e1 e2 e3 f0 f1 f2 f3
  go_wp2_with fail
  refine (named_any nm _).mono ?_
  rintro e w' ⟨rfl, rfl⟩
  rw [HNM.out]
  go_wp2_with fail
  have F2 := Bx.new w2 [.string fa, .string fb, .string fc] 42
  refine (size_any ⟨fa, fb, fc⟩ _ (by unfold maxLen; show fb.size + fc.size ≤ _; omega)).mono ?_
  rintro e w3 ⟨rfl, q3⟩
  simp only
  have HO3 := Lib.hid ((HO2.out.alloc _).q q3)
  have Q3 := Lib.hid ((Q2.out.alloc _).trans q3)
  have D3 := Lib.hid ((D2.out.alloc _).q q3)
  have R3 := Lib.hid ((R2.out.alloc _).q q3)
  have F3 := Lib.hid (F2.q q3)
  have y0 : w2.heap.size < w3.heap.size := F3.out.lt
  clear d0 d1 d2 d3 g0 g1 g2 g3 s0 s1 s2 s3 h0 h1 h2 h3 F2 q3
  obtain ⟨⟨d0, d1, d2, d3⟩, g0, g1, g2, g3⟩ := D3.out.get4
  obtain ⟨⟨s0, s1, s2, s3⟩, h0, h1, h2, h3⟩ := R3.out.get4
  obtain ⟨⟨t0, t1, t2⟩, u0, u1, u2⟩ := F3.out.get3
  go_wp2_with fail
  refine (set_end (w.heap.size + 2) A1 n c1 ⟨fa, fb, fc ++ s.extract 0 q⟩ l _ (Own.setNew HO2.out (HO3.out.setCell (p := ⟨w.heap.size, 3, none⟩) (by simp) (.bool true)) (p := ⟨w2.heap.size, 2, none⟩) (Nat.le_refl _) _) (by omega) (by show w.heap.size + 2 ≤ ((w3.setCell _ _).setCell _ _).heap.size; simp; omega)).mono ?_
  rintro e w4 ⟨A4, c4, rfl, ho4, b4⟩
  have HO4 := Lib.hid ho4
  have Q4 := Lib.hid (show Q w w4 from ((Q3.out.setCell (p := ⟨w.heap.size, 3, none⟩) (Nat.le_refl _) _).setCell (p := ⟨w2.heap.size, 2, none⟩) (by show w.heap.size ≤ w2.heap.size; omega) _).below.trans (b4.mono (by omega)))
  have D4 := ((D3.out.set (k := 3) (by simp) (.bool true)).far (p := ⟨w2.heap.size, 2, none⟩) (by show w2.heap.size ≠ w.heap.size; omega) _).below b4 (by omega)
  have R4 := ((R3.out.far (p := ⟨w.heap.size, 3, none⟩) (by show w.heap.size ≠ w.heap.size + 1; omega) _).far (p := ⟨w2.heap.size, 2, none⟩) (by show w2.heap.size ≠ w.heap.size + 1; omega) _).below b4 (by omega)
  clear ho4 b4 d0 d1 d2 d3 g0 g1 g2 g3 s0 s1 s2 s3 h0 h1 h2 h3 t0 t1 t2 u0 u1 u2
  obtain ⟨⟨d0, d1, d2, d3⟩, g0, g1, g2, g3⟩ := Bx.get4 (x := .slice A1 n c1) (y := .int .i64 room) (z := .int .i64 (q : Int)) (u := .bool true) D4
  obtain ⟨⟨s0, s1, s2, s3⟩, h0, h1, h2, h3⟩ := R4.get4
  clear D4 R4
  go_wp2
  refine bodyPost_ret (v := .tuple #[dkv A4 (n + 1) c4 (room - (s.extract 0 q).size) ((q : Int) - (s.extract 0 q).size) true, .int .i64 6]) (by simp [results, Tryz.results33, go_sem, s0, s1, s2, s3]) rfl ⟨A4, (n + 1), c4, rfl, ?_, ?_⟩
  · exact ((((HO4.out.setCell (p := ⟨w.heap.size, 0, none⟩) (by simp) _).setCell (p := ⟨w.heap.size, 1, none⟩) (by simp) _).setCell (p := ⟨w.heap.size, 2, none⟩) (by simp) _).set4 (b := w.heap.size + 1) (by omega) _ _ _ _).lower (by omega)
  · exact (((Q4.out.setCell (p := ⟨w.heap.size, 0, none⟩) (Nat.le_refl _) _).setCell (p := ⟨w.heap.size, 1, none⟩) (Nat.le_refl _) _).setCell (p := ⟨w.heap.size, 2, none⟩) (Nat.le_refl _) _).set4 (b := w.heap.size + 1) (by omega) _ _ _ _

set_option maxHeartbeats 1000000 in
set_option maxRecDepth 100000 in
theorem append_short_lt (nm s : ByteArray) (A : Option Addr) (n c : Nat) (room fuse : Int) (l : List Fil) (w : World) (hd : Dsk w A n c l) (f : Fil) (k : Nat) (hop : opn nm l = (f, k)) (hk : k ≤ n) (hf : f.sf.size + f.wt.size ≤ 2305843009213693952) (hs : s.size ≤ 2305843009213693952) (hn : nmOk nm = true) (hkn : k < n) (hr : (s.size : Int) ≤ room) (hr2 : room ≤ 9223372036854775807) (hb : f.sf.size + f.wt.size + s.size ≤ 65536) (q : Nat) (hq : fuse = q) (hz : q < s.size) :
    Calls Tryz.prog 33 #[dkv A n c room fuse false, .string nm, .string s] w fun e w' => RetDE w ⟨l.set k ⟨f.nm, f.sf, f.wt ++ s.extract 0 q⟩, room - (s.extract 0 q).size, (q : Int) - (s.extract 0 q).size, true⟩ 6 e w' := by
  subst hq
  have k1 : ((k : Int) == (n : Int)) = false := by simp; omega
  have k2 : (k == n) = false := by simp; omega
  have HNM := Lib.hid hn
  clear hn
  have hx1 : (s.extract 0 q).size ≤ q := by simp; omega
  have hx2 : (s.extract 0 q).size ≤ s.size := by simp; omega
  have HD := Lib.hid hd
  have HN := Lib.hid hd.max
  have hlen := Lib.hid hd.len
  have hnm := hd.max
  unfold maxLen at hnm
  have HOP := Lib.hid hop
  clear hd hop
  obtain ⟨fa, fb, fc⟩ := f
  simp only at hf hb
  show Calls _ _ _ _ fun e w' => RetDE w ⟨l.set k ⟨fa, fb, fc ++ s.extract 0 q⟩, room - (s.extract 0 q).size, (q : Int) - (s.extract 0 q).size, true⟩ 6 e w'
  go_enter Tryz.func33, Tryz.ntmps33
  go_wp2_with fail
  have B0 := two_new w (.slice A n c) (.int .i64 room) (.int .i64 (q : Int)) (.bool false) (.slice none 0 0) (.int .i64 0) (.int .i64 0) (.bool false) 24
  refine (own_any A n c room (q : Int) false l _ (HD.out.q (((Q.refl _).alloc _).alloc _))).mono ?_
  rintro e w1 ⟨A1, c1, rfl, ho, q1⟩
  rw [size_two] at ho
  have HO := Lib.hid (ho.set4 (b := w.heap.size) (by omega) (.slice A1 n c1) (.int .i64 room) (.int .i64 (q : Int)) (.bool false))
  have D1 := Lib.hid ((B0.1.q q1).put4 (.slice A1 n c1) (.int .i64 room) (.int .i64 (q : Int)) (.bool false))
  have R1 := Lib.hid ((B0.2.q q1).far4 (c := w.heap.size) (by omega) (.slice A1 n c1) (.int .i64 room) (.int .i64 (q : Int)) (.bool false))
  have Q1 := Lib.hid ((((((Q.refl w).alloc _).alloc _).trans q1)).set4 (b := w.heap.size) (Nat.le_refl _) (.slice A1 n c1) (.int .i64 room) (.int .i64 (q : Int)) (.bool false))
  obtain ⟨⟨e0, e1, e2, e3⟩, f0, f1, f2, f3⟩ := (B0.1.q q1).get4
  clear B0 q1 ho
  go_wp2_with fail
  refine (open_any nm A1 n c1 room (q : Int) false l _ HO.out.files HN.out).mono ?_
  rintro e w2 ⟨rfl, q2⟩
  rw [HOP.out]
  have HO2 := Lib.hid (HO.out.q q2)
  have Q2 := Lib.hid (Q1.out.trans q2)
  have z0 : w.heap.size < w2.heap.size := (D1.out.q q2).lt
  have z1 : w.heap.size + 1 < w2.heap.size := (R1.out.q q2).lt
  have z2 : w.heap.size ≠ w2.heap.size := by omega
  have z3 : w.heap.size + 1 ≠ w2.heap.size := by omega
  have D2 := Lib.hid (D1.out.q q2)
  have R2 := Lib.hid (R1.out.q q2)
  obtain ⟨⟨d0, d1, d2, d3⟩, g0, g1, g2, g3⟩ := (D1.out.q q2).get4
  obtain ⟨⟨s0, s1, s2, s3⟩, h0, h1, h2, h3⟩ := (R1.out.q q2).get4
  clear q2 e0 e1 e2 e3 f0 f1 f2 f3
  go_wp2_with fail
  refine (named_any nm _).mono ?_
  rintro e w' ⟨rfl, rfl⟩
  rw [HNM.out]
  go_wp2_with fail
  have F2 := Bx.new w2 [.string fa, .string fb, .string fc] 42
  refine (size_any ⟨fa, fb, fc⟩ _ (by unfold maxLen; show fb.size + fc.size ≤ _; omega)).mono ?_
  rintro e w3 ⟨rfl, q3⟩
  simp only
  have HO3 := Lib.hid ((HO2.out.alloc _).q q3)
  have Q3 := Lib.hid ((Q2.out.alloc _).trans q3)
  have D3 := Lib.hid ((D2.out.alloc _).q q3)
  have R3 := Lib.hid ((R2.out.alloc _).q q3)
  have F3 := Lib.hid (F2.q q3)
  have y0 : w2.heap.size < w3.heap.size := F3.out.lt
  clear d0 d1 d2 d3 g0 g1 g2 g3 s0 s1 s2 s3 h0 h1 h2 h3 F2 q3
  obtain ⟨⟨d0, d1, d2, d3⟩, g0, g1, g2, g3⟩ := D3.out.get4
  obtain ⟨⟨s0, s1, s2, s3⟩, h0, h1, h2, h3⟩ := R3.out.get4
  obtain ⟨⟨t0, t1, t2⟩, u0, u1, u2⟩ := F3.out.get3
  go_wp2_with fail
  refine (set_mid (w.heap.size + 2) A1 n c1 k ⟨fa, fb, fc ++ s.extract 0 q⟩ l _ (Own.setNew HO2.out (HO3.out.setCell (p := ⟨w.heap.size, 3, none⟩) (by simp) (.bool true)) (p := ⟨w2.heap.size, 2, none⟩) (Nat.le_refl _) _) hkn).mono ?_
  rintro e w4 ⟨rfl, ho4, b4⟩
  have HO4 := Lib.hid ho4
  have Q4 := Lib.hid (show Q w w4 from ((Q3.out.setCell (p := ⟨w.heap.size, 3, none⟩) (Nat.le_refl _) _).setCell (p := ⟨w2.heap.size, 2, none⟩) (by show w.heap.size ≤ w2.heap.size; omega) _).below.trans (b4.mono (by omega)))
  have D4 := ((D3.out.set (k := 3) (by simp) (.bool true)).far (p := ⟨w2.heap.size, 2, none⟩) (by show w2.heap.size ≠ w.heap.size; omega) _).below b4 (by omega)
  have R4 := ((R3.out.far (p := ⟨w.heap.size, 3, none⟩) (by show w.heap.size ≠ w.heap.size + 1; omega) _).far (p := ⟨w2.heap.size, 2, none⟩) (by show w2.heap.size ≠ w.heap.size + 1; omega) _).below b4 (by omega)
  clear ho4 b4 d0 d1 d2 d3 g0 g1 g2 g3 s0 s1 s2 s3 h0 h1 h2 h3 t0 t1 t2 u0 u1 u2
  obtain ⟨⟨d0, d1, d2, d3⟩, g0, g1, g2, g3⟩ := Bx.get4 (x := .slice A1 n c1) (y := .int .i64 room) (z := .int .i64 (q : Int)) (u := .bool true) D4
  obtain ⟨⟨s0, s1, s2, s3⟩, h0, h1, h2, h3⟩ := R4.get4
  clear D4 R4
  go_wp2
  refine bodyPost_ret (v := .tuple #[dkv A1 n c1 (room - (s.extract 0 q).size) ((q : Int) - (s.extract 0 q).size) true, .int .i64 6]) (by simp [results, Tryz.results33, go_sem, s0, s1, s2, s3]) rfl ⟨A1, n, c1, rfl, ?_, ?_⟩
  · exact ((((HO4.out.setCell (p := ⟨w.heap.size, 0, none⟩) (by simp) _).setCell (p := ⟨w.heap.size, 1, none⟩) (by simp) _).setCell (p := ⟨w.heap.size, 2, none⟩) (by simp) _).set4 (b := w.heap.size + 1) (by omega) _ _ _ _).lower (by omega)
  · exact (((Q4.out.setCell (p := ⟨w.heap.size, 0, none⟩) (Nat.le_refl _) _).setCell (p := ⟨w.heap.size, 1, none⟩) (Nat.le_refl _) _).setCell (p := ⟨w.heap.size, 2, none⟩) (Nat.le_refl _) _).set4 (b := w.heap.size + 1) (by omega) _ _ _ _

end Go.Proofs.YtggbdhnjogalgaaGreatDoor

/- Contract: Append, all cases together. -/
namespace Go.Proofs.YtggbdhnjogalgaaGreatDoor
set_option maxRecDepth 100000
open Go.RowKit Dkm
set_option linter.unusedVariables false

theorem append_any (nm s : ByteArray) (A : Option Addr) (n c : Nat) (d : Dk) (w : World) (hd : Dsk w A n c d.fs) (hf : ∀ f ∈ d.fs, f.sf.size + f.wt.size ≤ 2305843009213693952) (hs : s.size ≤ 2305843009213693952)
    (hr2 : d.room ≤ 9223372036854775807) (hfu : d.fuse ≤ 9223372036854775807) :
    Calls Tryz.prog 33 #[dkv A n c d.room d.fuse d.off, .string nm, .string s] w fun e w' => RetDE w (appd d nm s).1 (appd d nm s).2 e w' := by
  obtain ⟨l, room, fuse, off⟩ := d
  simp only at hd hf hr2 hfu ⊢
  have hlen := hd.len
  rcases hop : opn nm l with ⟨f, k⟩
  have hk : k ≤ n := by have := opn_le nm l; rw [hop] at this; simp only at this; omega
  have hff : f.sf.size + f.wt.size ≤ 2305843009213693952 := by
    rcases plc_cases nm l with ⟨_, h⟩ | ⟨j, hj, _, hn, hfi⟩
    · rw [opn_none h] at hop
      injection hop with h1 h2
      rw [← h1]; show (⟨#[]⟩ : ByteArray).size + (⟨#[]⟩ : ByteArray).size ≤ _; decide
    · rw [opn_at hj hn hfi] at hop
      injection hop with h1 h2
      rw [← h1]; exact hf _ (List.getElem_mem hj)
  cases off with
  | true =>
    rw [show appd ⟨l, room, fuse, true⟩ nm s = (⟨l, room, fuse, true⟩, 6) from rfl]
    exact append_off nm s A n c room fuse l w hd f k hop hk hff hs
  | false =>
    by_cases hn : nmOk nm = true
    · by_cases hful : (k = l.length ∧ 64 ≤ l.length) ∨ room < s.size
      · rw [show appd ⟨l, room, fuse, false⟩ nm s = (⟨l, room, fuse, false⟩, 5) by unfold appd; simp only [hn, hop]; rw [if_neg (by simp), if_neg (by simp), if_pos hful]]
        by_cases h1 : k = n
        · by_cases h2 : 64 ≤ n
          · exact append_full1 nm s A n c room fuse l w hd f k hop hk hff hs hn h1 h2
          · exact append_full2_eq nm s A n c room fuse l w hd f k hop hk hff hs hn h1 (by omega) (by omega)
        · exact append_full2_lt nm s A n c room fuse l w hd f k hop hk hff hs hn (by omega) (by omega)
      · by_cases hb : 65536 < f.sf.size + f.wt.size + s.size
        · rw [show appd ⟨l, room, fuse, false⟩ nm s = (⟨l, room, fuse, false⟩, 4) by unfold appd; simp only [hn, hop]; rw [if_neg (by simp), if_neg (by simp), if_neg hful, if_pos hb]]
          by_cases h1 : k = n
          · exact append_big_eq nm s A n c room fuse l w hd f k hop hk hff hs hn h1 (by omega) (by omega) hb
          · exact append_big_lt nm s A n c room fuse l w hd f k hop hk hff hs hn (by omega) (by omega) hb
        · have e : appd ⟨l, room, fuse, false⟩ nm s = (⟨put l k ⟨f.nm, f.sf, f.wt ++ cut fuse s⟩, room - (cut fuse s).size, if 0 ≤ fuse then fuse - (cut fuse s).size else fuse, short fuse s⟩, if short fuse s then 6 else 0) := by
            unfold appd; simp only [hn, hop]; rw [if_neg (by simp), if_neg (by simp), if_neg hful, if_neg hb]
          rw [e]; clear e
          by_cases hsh : 0 ≤ fuse ∧ fuse < s.size
          · have e1 : short fuse s = true := by unfold short; simpa using hsh
            obtain ⟨q, rfl⟩ : ∃ q : Nat, fuse = q := ⟨fuse.toNat, by omega⟩
            have e2 : cut (q : Int) s = s.extract 0 q := by unfold cut; rw [e1]; simp
            rw [e1, e2, if_pos (by omega), if_pos rfl]
            by_cases h1 : k = n
            · rw [show put l k ⟨f.nm, f.sf, f.wt ++ s.extract 0 q⟩ = l ++ [⟨f.nm, f.sf, f.wt ++ s.extract 0 q⟩] by unfold put; rw [if_pos (by omega)]]
              exact append_short_eq nm s A n c room q l w hd f k hop hk hff hs hn h1 (by omega) (by omega) hr2 (by omega) q rfl (by omega)
            · rw [show put l k ⟨f.nm, f.sf, f.wt ++ s.extract 0 q⟩ = l.set k ⟨f.nm, f.sf, f.wt ++ s.extract 0 q⟩ by unfold put; rw [if_neg (by omega)]]
              exact append_short_lt nm s A n c room q l w hd f k hop hk hff hs hn (by omega) (by omega) hr2 (by omega) q rfl (by omega)
          · have e1 : short fuse s = false := by unfold short; simpa using hsh
            have e2 : cut fuse s = s := by unfold cut; rw [e1]; rfl
            have e3 : (if false = true then (6 : Int) else 0) = 0 := rfl
            rw [e1, e2, e3]
            by_cases h0 : 0 ≤ fuse
            · rw [if_pos h0]
              by_cases h1 : k = n
              · rw [show put l k ⟨f.nm, f.sf, f.wt ++ s⟩ = l ++ [⟨f.nm, f.sf, f.wt ++ s⟩] by unfold put; rw [if_pos (by omega)]]
                exact append_done_eq_fits nm s A n c room fuse l w hd f k hop hk hff hs hn h1 (by omega) (by omega) hr2 (by omega) (by omega) hfu
              · rw [show put l k ⟨f.nm, f.sf, f.wt ++ s⟩ = l.set k ⟨f.nm, f.sf, f.wt ++ s⟩ by unfold put; rw [if_neg (by omega)]]
                exact append_done_lt_fits nm s A n c room fuse l w hd f k hop hk hff hs hn (by omega) (by omega) hr2 (by omega) (by omega) hfu
            · rw [if_neg h0]
              by_cases h1 : k = n
              · rw [show put l k ⟨f.nm, f.sf, f.wt ++ s⟩ = l ++ [⟨f.nm, f.sf, f.wt ++ s⟩] by unfold put; rw [if_pos (by omega)]]
                exact append_done_eq_neg nm s A n c room fuse l w hd f k hop hk hff hs hn h1 (by omega) (by omega) hr2 (by omega) (by omega)
              · rw [show put l k ⟨f.nm, f.sf, f.wt ++ s⟩ = l.set k ⟨f.nm, f.sf, f.wt ++ s⟩ by unfold put; rw [if_neg (by omega)]]
                exact append_done_lt_neg nm s A n c room fuse l w hd f k hop hk hff hs hn (by omega) (by omega) hr2 (by omega) (by omega)
    · have hn' : nmOk nm = false := by simpa using hn
      rw [show appd ⟨l, room, fuse, false⟩ nm s = (⟨l, room, fuse, false⟩, 1) by unfold appd; rw [if_neg (by simp), if_pos hn']]
      exact append_arg nm s A n c room fuse l w hd f k hop hk hff hs hn'
end Go.Proofs.YtggbdhnjogalgaaGreatDoor

/- The document's example of chapter 3. -/
namespace Go.Proofs.YtggbdhnjogalgaaGreatDoor
set_option maxRecDepth 100000
open Go.RowKit Dkm
set_option linter.unusedVariables false

theorem dsk_nil (w : World) : Dsk w none 0 0 [] := ⟨Holds.none_ _ _ _ _, fun _ => ⟨rfl, rfl⟩, Nat.le_refl _, Nat.zero_le _, by omega⟩
theorem Own.few {w : World} {base : Nat} {A : Option Addr} {n c : Nat} {l : List Fil} (h : Own w base A n c l) (hl : l.length ≤ 1000) : Dsk w A n c l := h.dsk (by have := h.len; omega)

/-- a disk in a variable's box, in a world W. -/
structure DV (W : World) (B : Nat) (A : Option Addr) (n c : Nat) (d : Dk) : Prop where
  box : Bx W B [.slice A n c, .int .i64 d.room, .int .i64 d.fuse, .bool d.off]
  dsk : Dsk W A n c d.fs
theorem DV.q {W W' : World} {B : Nat} {A : Option Addr} {n c : Nat} {d : Dk} (h : DV W B A n c d) (hq : Q W W') : DV W' B A n c d := ⟨h.box.q hq, h.dsk.q hq⟩
/-- a new variable. -/
theorem DV.new {W : World} {A : Option Addr} {n c : Nat} {d : Dk} (h : Dsk W A n c d.fs) : DV (W.alloc (.cells #[.slice A n c, .int .i64 d.room, .int .i64 d.fuse, .bool d.off] 24)) W.heap.size A n c d :=
  ⟨Bx.new W [.slice A n c, .int .i64 d.room, .int .i64 d.fuse, .bool d.off] 24, h.q ((Q.refl _).alloc _)⟩
/-- what a call returned is stored into the variable. -/
theorem DV.put {W W' : World} {B : Nat} {A A' : Option Addr} {n c n' c' : Nat} {d d' : Dk} (h : DV W B A n c d) (hq : Q W W') (ho : Own W' W.heap.size A' n' c' d'.fs) (hn : n' * 48 ≤ 140737488355328) :
    DV ((((W'.setCell ⟨B, 0, none⟩ (.slice A' n' c')).setCell ⟨B, 1, none⟩ (.int .i64 d'.room)).setCell ⟨B, 2, none⟩ (.int .i64 d'.fuse)).setCell ⟨B, 3, none⟩ (.bool d'.off)) B A' n' c' d' :=
  ⟨(h.box.q hq).put4 _ _ _ _, (ho.set4 h.box.lt _ _ _ _).dsk hn⟩
theorem DV.get {W : World} {B : Nat} {A : Option Addr} {n c : Nat} {d : Dk} (h : DV W B A n c d) : (W.cell? ⟨B, 0, none⟩ = some (.slice A n c) ∧ W.cell? ⟨B, 1, none⟩ = some (.int .i64 d.room) ∧ W.cell? ⟨B, 2, none⟩ = some (.int .i64 d.fuse) ∧ W.cell? ⟨B, 3, none⟩ = some (.bool d.off)) ∧
    W.frozen? ⟨B, 0, none⟩ = false ∧ W.frozen? ⟨B, 1, none⟩ = false ∧ W.frozen? ⟨B, 2, none⟩ = false ∧ W.frozen? ⟨B, 3, none⟩ = false := h.box.get4

theorem ints_lit1 (w : World) (x : Int) : Ints (w.alloc (.cells #[.int .i64 x] 3)) (some ⟨w.heap.size, 0, none⟩) 1 [x] := by
  refine ⟨rfl, fun j u hj => ?_⟩
  have hj0 : j = 0 := by
    have := (List.getElem?_eq_some_iff.1 hj).1; simp at this; exact this
  subst hj0
  simp only [List.map_cons, List.map_nil, List.getElem?_cons_zero, Option.some.injEq] at hj
  subst hj
  exact ⟨⟨w.heap.size, 0, none⟩, rfl, by simp, by simp [Addr.add]⟩

end Go.Proofs.YtggbdhnjogalgaaGreatDoor

/- Contracts: the law's 'does': one act. -/
namespace Go.Proofs.YtggbdhnjogalgaaGreatDoor
set_option maxRecDepth 100000
open Go.RowKit Dkm
set_option linter.unusedVariables false

namespace Dkm
theorem lss_len (d : Dk) (k : Nat) : (lss d k).fs.length ≤ d.fs.length := by unfold lss; simp [List.length_eraseIdx]; split <;> omega
theorem pow_fs (d : Dk) : (pow d).1.fs = d.fs := by unfold pow; split; rfl; split <;> rfl
theorem del_len (d : Dk) (nm : ByteArray) : (del d nm).1.fs.length ≤ d.fs.length := by
  unfold del
  split; exact Nat.le_refl _
  split; exact Nat.le_refl _
  split
  · rw [pow_fs]; exact Nat.le_refl _
  · exact Nat.le_trans (lss_len _ _) (by rw [pow_fs]; exact Nat.le_refl _)
theorem nmd_len (d : Dk) (k : Nat) (tu : ByteArray) : (nmd d k tu).fs.length = d.fs.length := by unfold nmd; simp
theorem ren_len (d : Dk) (fr tu : ByteArray) : (ren d fr tu).1.fs.length ≤ d.fs.length := by
  unfold ren
  split; exact Nat.le_refl _
  split; exact Nat.le_refl _
  split; exact Nat.le_refl _
  split; exact Nat.le_refl _
  split
  · rw [pow_fs]; exact Nat.le_refl _
  split
  · exact Nat.le_trans (lss_len _ _) (by rw [nmd_len, pow_fs]; exact Nat.le_refl _)
  · rw [nmd_len, pow_fs]; exact Nat.le_refl _
theorem appd_few (d : Dk) (nm s : ByteArray) : (appd d nm s).1.fs.length ≤ max d.fs.length 64 := by
  have h := appd_len d nm s
  by_cases h1 : d.fs.length < 64
  · omega
  · unfold appd
    split; exact Nat.le_max_left _ _
    split; exact Nat.le_max_left _ _
    split; exact Nat.le_max_left _ _
    split; exact Nat.le_max_left _ _
    rename_i _ _ h3 _
    show (put _ _ _).length ≤ _
    unfold put
    split
    · exact absurd (Or.inl ⟨by assumption, by omega⟩) h3
    · simp only [List.length_set]; exact Nat.le_max_left _ _
end Dkm

theorem Own.far_ {w : World} {base : Nat} {A : Option Addr} {n c : Nat} {l : List Fil} (h : Own w base A n c l) : ∀ ad, A = some ad → base ≤ ad.block := by
  intro ad e
  rcases h.parts with ⟨rfl, _⟩ | ⟨g, cur, rfl, hb, _⟩
  · cases e
  · injection e with e; subst e; exact hb
theorem Holds.away {w : World} {B k : Nat} {A : Option Addr} {n : Nat} {xs : List Value} (h : Holds w B k A n xs) {b : Nat} (ha : ∀ ad, A = some ad → ad.block ≠ b) (o : Nat) (u : Value) : Holds (w.setCell ⟨b, o, none⟩ u) B k A n xs :=
  ⟨h.1, fun j v hj => by
    obtain ⟨ad, e, hb, hc⟩ := h.2 j v hj
    exact ⟨ad, e, hb, (World.cell?_setCell_other _ _ _ _ (by intro x; have := congrArg Addr.block x; rw [addr_block] at this; exact ha ad e this.symm)).trans hc⟩⟩
theorem Dsk.away {w : World} {A : Option Addr} {n c : Nat} {l : List Fil} (h : Dsk w A n c l) {b : Nat} (ha : ∀ ad, A = some ad → ad.block ≠ b) (o : Nat) (u : Value) : Dsk (w.setCell ⟨b, o, none⟩ u) A n c l :=
  ⟨by have := Holds.away h.files ha o u; rw [show w.heap.size = (w.setCell ⟨b, o, none⟩ u).heap.size by simp [World.setCell]] at this; exact this, h.nil, h.le, h.cap, h.few⟩

end Go.Proofs.YtggbdhnjogalgaaGreatDoor

/- Contracts: the law's 'does', case by case. -/
namespace Go.Proofs.YtggbdhnjogalgaaGreatDoor
set_option maxRecDepth 100000
open Go.RowKit Dkm
set_option linter.unusedVariables false

end Go.Proofs.YtggbdhnjogalgaaGreatDoor

/- What stays, whatever acts come: sizes, numbers, room; and 'does' whole. -/
namespace Go.Proofs.YtggbdhnjogalgaaGreatDoor
set_option maxRecDepth 100000
open Go.RowKit Dkm
set_option linter.unusedVariables false

namespace Dkm
theorem erase_sum {B : Nat} {l : List Fil} (h : ∀ f ∈ l, f.sf.size + f.wt.size ≤ B) (k : Nat) : ∀ f ∈ l.eraseIdx k, f.sf.size + f.wt.size ≤ B := fun f hf => h f (List.mem_of_mem_eraseIdx hf)
theorem lss_sum {B : Nat} (d : Dk) (k : Nat) (h : ∀ f ∈ d.fs, f.sf.size + f.wt.size ≤ B) : ∀ f ∈ (lss d k).fs, f.sf.size + f.wt.size ≤ B := erase_sum h k
theorem nmd_sum {B : Nat} (d : Dk) (k : Nat) (tu : ByteArray) (h : ∀ f ∈ d.fs, f.sf.size + f.wt.size ≤ B) : ∀ f ∈ (nmd d k tu).fs, f.sf.size + f.wt.size ≤ B := by
  unfold nmd
  by_cases hk : k < d.fs.length
  · refine set_sum h ?_
    simp only [List.getD_eq_getElem?_getD, List.getElem?_eq_getElem hk, Option.getD_some]
    exact h _ (List.getElem_mem hk)
  · show ∀ f ∈ d.fs.set k _, _
    rw [List.set_eq_of_length_le (by omega)]; exact h
theorem pow_sum {B : Nat} (d : Dk) (h : ∀ f ∈ d.fs, f.sf.size + f.wt.size ≤ B) : ∀ f ∈ (pow d).1.fs, f.sf.size + f.wt.size ≤ B := by rw [pow_fs]; exact h
theorem del_sum {B : Nat} (d : Dk) (nm : ByteArray) (h : ∀ f ∈ d.fs, f.sf.size + f.wt.size ≤ B) : ∀ f ∈ (del d nm).1.fs, f.sf.size + f.wt.size ≤ B := by
  unfold del
  split; exact h
  split; exact h
  split; exact pow_sum d h
  exact lss_sum _ _ (pow_sum d h)
theorem ren_sum {B : Nat} (d : Dk) (fr tu : ByteArray) (h : ∀ f ∈ d.fs, f.sf.size + f.wt.size ≤ B) : ∀ f ∈ (ren d fr tu).1.fs, f.sf.size + f.wt.size ≤ B := by
  unfold ren
  split; exact h
  split; exact h
  split; exact h
  split; exact h
  split; exact pow_sum d h
  split
  · exact lss_sum _ _ (nmd_sum _ _ _ (pow_sum d h))
  · exact nmd_sum _ _ _ (pow_sum d h)
/-- an int. -/
def In64 (x : Int) : Prop := -9223372036854775808 ≤ x ∧ x ≤ 9223372036854775807
theorem appd_rng (d : Dk) (nm s : ByteArray) (h1 : In64 d.room) (h2 : In64 d.fuse) : In64 (appd d nm s).1.room ∧ In64 (appd d nm s).1.fuse := by
  unfold appd
  split; exact ⟨h1, h2⟩
  split; exact ⟨h1, h2⟩
  split; exact ⟨h1, h2⟩
  split; exact ⟨h1, h2⟩
  rename_i _ _ h3 _
  have hc := cut_size d.fuse s
  unfold In64 at *
  have h4 : ¬ d.room < s.size := fun h => h3 (.inr h)
  have h5 : 0 ≤ d.fuse → (cut d.fuse s).size ≤ d.fuse.toNat ∨ ¬ short d.fuse s := by
    intro h0
    by_cases hsh : short d.fuse s
    · left; unfold cut; rw [if_pos hsh, ByteArray.size_extract]; omega
    · exact .inr hsh
  have h6 : 0 ≤ d.fuse → ((cut d.fuse s).size : Int) ≤ d.fuse := by
    intro h0
    rcases h5 h0 with h | h
    · omega
    · unfold cut; rw [if_neg h]
      unfold short at h
      simp only [decide_eq_true_eq] at h
      omega
  simp only
  refine ⟨by omega, ?_⟩
  split
  · have := h6 (by assumption); omega
  · exact h2
theorem pow_rng (d : Dk) (h1 : In64 d.room) (h2 : In64 d.fuse) : In64 (pow d).1.room ∧ In64 (pow d).1.fuse := by
  unfold pow
  split; exact ⟨h1, h2⟩
  split
  · exact ⟨h1, by unfold In64 at *; simp only; omega⟩
  · exact ⟨h1, h2⟩
theorem lss_rng (d : Dk) (k : Nat) (h2 : In64 d.fuse) : In64 (lss d k).room ∧ In64 (lss d k).fuse := ⟨wrap_rng _, h2⟩
theorem del_rng (d : Dk) (nm : ByteArray) (h1 : In64 d.room) (h2 : In64 d.fuse) : In64 (del d nm).1.room ∧ In64 (del d nm).1.fuse := by
  have hp := pow_rng d h1 h2
  unfold del
  split; exact ⟨h1, h2⟩
  split; exact ⟨h1, h2⟩
  split; exact hp
  exact lss_rng _ _ hp.2
theorem ren_rng (d : Dk) (fr tu : ByteArray) (h1 : In64 d.room) (h2 : In64 d.fuse) : In64 (ren d fr tu).1.room ∧ In64 (ren d fr tu).1.fuse := by
  have hp := pow_rng d h1 h2
  unfold ren
  split; exact ⟨h1, h2⟩
  split; exact ⟨h1, h2⟩
  split; exact ⟨h1, h2⟩
  split; exact ⟨h1, h2⟩
  split; exact hp
  split
  · exact lss_rng _ _ hp.2
  · exact hp
theorem syn_rng (d : Dk) (nm : ByteArray) (h1 : In64 d.room) (h2 : In64 d.fuse) : In64 (syn d nm).1.room ∧ In64 (syn d nm).1.fuse := by
  unfold syn
  split; exact ⟨h1, h2⟩
  split <;> exact ⟨h1, h2⟩
end Dkm
end Go.Proofs.YtggbdhnjogalgaaGreatDoor

/- What the calls of chapter 4 make of a disk, in plain mathematics. -/
namespace Go.Proofs.YtggbdhnjogalgaaGreatDoor
set_option maxRecDepth 100000
open Dkm
set_option linter.unusedVariables false
namespace Wm

def sealB (r : ByteArray) : ByteArray := ⟨(sld r.data.toList).toArray⟩
theorem sealB_size (r : ByteArray) : (sealB r).size = (sld r.data.toList).length := by show (sld r.data.toList).toArray.size = _; simp
/-- Put behind its checks, the segment not full. -/
def putA (d : Dk) (seg : Int) (rec : ByteArray) : Dk × Int × Int := ((appd d (namB seg) (sealB rec)).1, seg, (appd d (namB seg) (sealB rec)).2)
/-- Put behind its checks. -/
def putB (d : Dk) (seg : Int) (rec : ByteArray) : Dk × Int × Int :=
  if (redd (namB seg) d.fs).1.size < 256 then putA d seg rec
  else if (syn d (namB seg)).2 ≠ 0 then ((syn d (namB seg)).1, seg, (syn d (namB seg)).2)
  else if seg = 1000000 then ((syn d (namB seg)).1, seg, 5)
  else putA (syn d (namB seg)).1 (seg + 1) rec
def putM (d : Dk) (seg : Int) (rec : ByteArray) : Dk × Int × Int :=
  if ¬ segOk seg then (d, seg, 1) else if 2048 < rec.size then (d, seg, 4) else putB d seg rec
def syncM (d : Dk) (seg : Int) : Dk × Int := if (hit (namB seg) d.fs).2 then syn d (namB seg) else (d, 0)

/-- the steps of a cut, up to the rename. -/
def cut1 (d : Dk) : Dk × Int := if (hit freshB d.fs).2 then del d freshB else (d, 0)
def cut2 (d : Dk) (s : ByteArray) : Dk × Int := if (cut1 d).2 = 0 then appd (cut1 d).1 freshB s else cut1 d
def cut3 (d : Dk) (s : ByteArray) : Dk × Int := if (cut2 d s).2 = 0 then syn (cut2 d s).1 freshB else cut2 d s
def cut4 (d : Dk) (seg : Int) (s : ByteArray) : Dk × Int := if (cut3 d s).2 = 0 then ren (cut3 d s).1 freshB (namB seg) else cut3 d s
/-- each segment from seg on is deleted, up to the first one that isn't there. -/
def dels : Nat → Dk → Int → Dk × Int
  | 0, d, _ => (d, 0)
  | n + 1, d, seg => if segOk seg ∧ (hit (namB seg) d.fs).2 then (if (del d (namB seg)).2 = 0 then dels n (del d (namB seg)).1 (seg + 1) else del d (namB seg)) else (d, 0)
def fuelOf (seg : Int) : Nat := (1000001 - seg).toNat
def cutM (d : Dk) (seg : Int) (s : ByteArray) : Dk × Int :=
  if (cut4 d seg s).2 = 0 then dels (fuelOf (seg + 1)) (cut4 d seg s).1 (seg + 1) else cut4 d seg s

/-- what Recover tells: the disk, the records, the segment, the errno. -/
def recF : Nat → Dk → Int → Int → List (List UInt8) → Int → Dk × List (List UInt8) × Int × Int
  | 0, d, _, _, rs, last => (d, rs, last, 0)
  | n + 1, d, from_, seg, rs, last =>
    if ¬ segOk seg then (d, rs, last, 0)
    else if (redd (namB seg) d.fs).2 ≠ 0 then (d, rs, last, 0)
    else if (scn (redd (namB seg) d.fs).1.data.toList).2 = [] then recF n d from_ (seg + 1) (rs ++ (scn (redd (namB seg) d.fs).1.data.toList).1) seg
    else if (cutM d seg ⟨(flat (scn (redd (namB seg) d.fs).1.data.toList).1).toArray⟩).2 ≠ 0 then ((cutM d seg ⟨(flat (scn (redd (namB seg) d.fs).1.data.toList).1).toArray⟩).1, [], from_, (cutM d seg ⟨(flat (scn (redd (namB seg) d.fs).1.data.toList).1).toArray⟩).2)
    else ((cutM d seg ⟨(flat (scn (redd (namB seg) d.fs).1.data.toList).1).toArray⟩).1, rs ++ (scn (redd (namB seg) d.fs).1.data.toList).1, seg, 0)
def recM (d : Dk) (from_ : Int) : Dk × List (List UInt8) × Int × Int :=
  if ¬ segOk from_ then (d, [], from_, 1) else recF (fuelOf from_) d from_ from_ [] from_

/-- Drop's deletions, segment by segment. -/
def drops : List Int → Dk → Dk × Int
  | [], d => (d, 0)
  | k :: ks, d => if (del d (namB k)).2 = 0 then drops ks (del d (namB k)).1 else del d (namB k)

/-! ### Sizes and ranges are kept -/
structure Bnd (B : Nat) (d : Dk) : Prop where
  sum : ∀ f ∈ d.fs, f.sf.size + f.wt.size ≤ B
  few : d.fs.length * 48 ≤ 140737488355328
  room : In64 d.room
  fuse : In64 d.fuse
theorem Bnd.appd {B : Nat} {d : Dk} (h : Bnd B d) (hB : 65536 ≤ B) (nm s : ByteArray) : Bnd B (appd d nm s).1 := ⟨appd_sum d nm s hB h.sum, by have h1 := appd_few d nm s; have h2 := h.few; omega, (appd_rng d nm s h.room h.fuse).1, (appd_rng d nm s h.room h.fuse).2⟩
theorem Bnd.syn {B : Nat} {d : Dk} (h : Bnd B d) (nm : ByteArray) : Bnd B (syn d nm).1 := ⟨syn_sum d nm h.sum, by rw [syn_len]; exact h.few, (syn_rng d nm h.room h.fuse).1, (syn_rng d nm h.room h.fuse).2⟩
theorem Bnd.del {B : Nat} {d : Dk} (h : Bnd B d) (nm : ByteArray) : Bnd B (del d nm).1 := ⟨del_sum d nm h.sum, by have h1 := del_len d nm; have h2 := h.few; omega, (del_rng d nm h.room h.fuse).1, (del_rng d nm h.room h.fuse).2⟩
theorem Bnd.ren {B : Nat} {d : Dk} (h : Bnd B d) (a b : ByteArray) : Bnd B (ren d a b).1 := ⟨ren_sum d a b h.sum, by have h1 := ren_len d a b; have h2 := h.few; omega, (ren_rng d a b h.room h.fuse).1, (ren_rng d a b h.room h.fuse).2⟩
theorem Bnd.cut1 {B : Nat} {d : Dk} (h : Bnd B d) : Bnd B (cut1 d).1 := by unfold Wm.cut1; split; exact h.del _; exact h
theorem Bnd.cut2 {B : Nat} {d : Dk} (h : Bnd B d) (hB : 65536 ≤ B) (s : ByteArray) : Bnd B (cut2 d s).1 := by unfold Wm.cut2; split; exact h.cut1.appd hB _ _; exact h.cut1
theorem Bnd.cut3 {B : Nat} {d : Dk} (h : Bnd B d) (hB : 65536 ≤ B) (s : ByteArray) : Bnd B (cut3 d s).1 := by unfold Wm.cut3; split; exact (h.cut2 hB s).syn _; exact h.cut2 hB s
theorem Bnd.cut4 {B : Nat} {d : Dk} (h : Bnd B d) (hB : 65536 ≤ B) (seg : Int) (s : ByteArray) : Bnd B (cut4 d seg s).1 := by unfold Wm.cut4; split; exact (h.cut3 hB s).ren _ _; exact h.cut3 hB s
theorem Bnd.dels {B : Nat} : ∀ (n : Nat) {d : Dk} (seg : Int), Bnd B d → Bnd B (dels n d seg).1
  | 0, _, _, h => h
  | n + 1, d, seg, h => by
    unfold Wm.dels
    split
    · split
      · exact Bnd.dels n _ (h.del _)
      · exact h.del _
    · exact h
theorem Bnd.cutM {B : Nat} {d : Dk} (h : Bnd B d) (hB : 65536 ≤ B) (seg : Int) (s : ByteArray) : Bnd B (cutM d seg s).1 := by unfold Wm.cutM; split; exact Bnd.dels _ _ (h.cut4 hB seg s); exact h.cut4 hB seg s
theorem Bnd.putA {B : Nat} {d : Dk} (h : Bnd B d) (hB : 65536 ≤ B) (seg : Int) (r : ByteArray) : Bnd B (putA d seg r).1 := h.appd hB _ _
theorem Bnd.putM {B : Nat} {d : Dk} (h : Bnd B d) (hB : 65536 ≤ B) (seg : Int) (r : ByteArray) : Bnd B (putM d seg r).1 := by
  unfold Wm.putM
  split; exact h
  split; exact h
  unfold Wm.putB
  split; exact h.putA hB _ _
  split; exact h.syn _
  split; exact h.syn _
  exact (h.syn _).putA hB _ _
theorem Bnd.syncM {B : Nat} {d : Dk} (h : Bnd B d) (seg : Int) : Bnd B (syncM d seg).1 := by unfold Wm.syncM; split; exact h.syn _; exact h
end Wm
end Go.Proofs.YtggbdhnjogalgaaGreatDoor

/- Contracts: wal.Sync, wal.Put. -/
namespace Go.Proofs.YtggbdhnjogalgaaGreatDoor
set_option maxRecDepth 100000
open Go.RowKit Dkm Wm
set_option linter.unusedVariables false

/-- a disk of the call's own, and what is told beside it. -/
def RetW (w : World) (d : Dk) (vs : List Value) (e : Ending) (w' : World) : Prop :=
  ∃ A n c, e = .returned (.tuple (dkv A n c d.room d.fuse d.off :: vs).toArray) ∧ Dsk w' A n c d.fs ∧ (∀ ad, A = some ad → w.heap.size ≤ ad.block) ∧ Q w w'
theorem Sb.endW {w wr : World} {A : Option Addr} {n c : Nat} {room fuse : Int} {off : Bool} (h : Sb w A n c room fuse off wr) {w2 : World} (q : Q wr w2) {A2 : Option Addr} {n2 c2 : Nat} {d : Dk} (ho : Own w2 wr.heap.size A2 n2 c2 d.fs) (hn : n2 * 48 ≤ 140737488355328) (vs : List Value) (x y z u : Value) :
    RetW w d vs (.returned (.tuple (dkv A2 n2 c2 d.room d.fuse d.off :: vs).toArray)) ((((w2.setCell ⟨w.heap.size + 1, 0, none⟩ x).setCell ⟨w.heap.size + 1, 1, none⟩ y).setCell ⟨w.heap.size + 1, 2, none⟩ z).setCell ⟨w.heap.size + 1, 3, none⟩ u) :=
  ⟨A2, n2, c2, rfl, (ho.set4 h.res.lt _ _ _ _).dsk hn, fun ad e => by have h1 := ho.far_ ad e; have h2 := h.q.size; omega, (h.q.trans q).set4 (b := w.heap.size + 1) (by omega) _ _ _ _⟩

set_option maxHeartbeats 2000000 in
theorem wsync_any (seg : Int) (A : Option Addr) (n c : Nat) (d : Dk) (w : World) (hT : Tab w) (hd : Dsk w A n c d.fs) (hs : ∀ f ∈ d.fs, f.sf.size + f.wt.size ≤ maxLen) :
    Calls Tryz.prog 16 #[dkv A n c d.room d.fuse d.off, .int .i64 seg] w fun e w' => RetW w (syncM d seg).1 [.int .i64 (syncM d seg).2] e w' := by
  obtain ⟨l, room, fuse, off⟩ := d
  have HT := Lib.hid hT
  have HD := Lib.hid hd
  have HN := Lib.hid hd.max
  have HS := Lib.hid hs
  clear hT hd hs
  have hsl := syn_len ⟨l, room, fuse, off⟩ (namB seg)
  have KS := Lib.hid (fun w hd => sync_any (namB seg) A n c ⟨l, room, fuse, off⟩ w hd HS.out)
  have KH := Lib.hid (fun w hf hn => has_any (namB seg) A n c room fuse off l w hf hn)
  unfold syncM
  generalize syn ⟨l, room, fuse, off⟩ (namB seg) = r at hsl KS ⊢
  generalize hit (namB seg) l = b at KH ⊢
  obtain ⟨f, b⟩ := b
  have KN := Lib.hid (name_any seg)
  cases b
  · simp only [Bool.false_eq_true, if_false]
    go_enter Tryz.func16, Tryz.ntmps16
    go_upto_region 1 with (fail)
    have X := Lib.hid (Sb.new w A n c room fuse off)
    generalize ((w.alloc (.cells #[.slice A n c, .int .i64 room, .int .i64 fuse, .bool off] 24)).alloc (.cells #[.slice none 0 0, .int .i64 0, .int .i64 0, .bool false] 24)) = W at X ⊢
    obtain ⟨⟨e0, e1, e2, e3⟩, f0, f1, f2', f3⟩ := X.out.get
    go_region_held3 (fun w' => w'.cell? ⟨w.heap.size, 0, none⟩ = some (.slice A n c) ∧ w'.cell? ⟨w.heap.size, 1, none⟩ = some (.int .i64 room) ∧ w'.cell? ⟨w.heap.size, 2, none⟩ = some (.int .i64 fuse) ∧ w'.cell? ⟨w.heap.size, 3, none⟩ = some (.bool off))
      (first
        | go_keep
        | (go_split_ands
           (repeat' apply And.intro) <;> exact box_ ‹Q _ _› (by assumption)))
      (first
        | (go_at_call 13
           (with_reducible refine (KN.out _ (HT.out.q (X.out.q.trans (Q.refl W).drew))).mono ?_)
           rintro e w2 ⟨rfl, q2⟩)
        | (go_at_call 35
           (with_reducible refine (KH.out _ (HD.out.files.q (X.out.q.trans ((Q.refl W).drew.trans q2))) HN.out).mono ?_)
           rintro e w3 ⟨rfl, q3⟩))
    have Y := Lib.hid (X.out.step (((Q.refl W).drew.trans q2).trans q3))
    clear X q2 q3 e0 e1 e2 e3 f0 f1 f2' f3
    obtain ⟨⟨e0, e1, e2, e3⟩, f0, f1, f2', f3⟩ := Y.out.get
    go_wp2_with fail
    refine (wown_any A n c room fuse off l _ (HD.out.q Y.out.q)).mono ?_
    rintro e w4 ⟨A4, c4, rfl, ho, q4⟩
    have Z := Lib.hid (And.intro ho q4)
    obtain ⟨⟨s0, s1, s2, s3⟩, h0, h1, h2, h3⟩ := (Y.out.step q4).getR
    clear ho q4 e0 e1 e2 e3 f0 f1 f2' f3
    go_wp2
    refine bodyPost_ret (v := .tuple #[dkv A4 n c4 room fuse off, .int .i64 0]) (by simp [results, Tryz.results16, go_sem, s0, s1, s2, s3]) rfl ?_
    exact Y.out.endW Z.out.2 (d := ⟨l, room, fuse, off⟩) Z.out.1 HD.out.few [.int .i64 0] _ _ _ _
  · simp only [if_true]
    go_enter Tryz.func16, Tryz.ntmps16
    go_upto_region 1 with (fail)
    have X := Lib.hid (Sb.new w A n c room fuse off)
    generalize ((w.alloc (.cells #[.slice A n c, .int .i64 room, .int .i64 fuse, .bool off] 24)).alloc (.cells #[.slice none 0 0, .int .i64 0, .int .i64 0, .bool false] 24)) = W at X ⊢
    obtain ⟨⟨e0, e1, e2, e3⟩, f0, f1, f2', f3⟩ := X.out.get
    go_region_held3 (fun w' => w'.cell? ⟨w.heap.size, 0, none⟩ = some (.slice A n c) ∧ w'.cell? ⟨w.heap.size, 1, none⟩ = some (.int .i64 room) ∧ w'.cell? ⟨w.heap.size, 2, none⟩ = some (.int .i64 fuse) ∧ w'.cell? ⟨w.heap.size, 3, none⟩ = some (.bool off))
      (first
        | go_keep
        | (go_split_ands
           (repeat' apply And.intro) <;> exact box_ ‹Q _ _› (by assumption)))
      (first
        | (go_at_call 13
           (with_reducible refine (KN.out _ (HT.out.q (X.out.q.trans (Q.refl W).drew))).mono ?_)
           rintro e w2 ⟨rfl, q2⟩)
        | (go_at_call 35
           (with_reducible refine (KH.out _ (HD.out.files.q (X.out.q.trans ((Q.refl W).drew.trans q2))) HN.out).mono ?_)
           rintro e w3 ⟨rfl, q3⟩))
    have Y := Lib.hid (X.out.step (((Q.refl W).drew.trans q2).trans q3))
    clear X q2 q3 e0 e1 e2 e3 f0 f1 f2' f3
    obtain ⟨⟨e0, e1, e2, e3⟩, f0, f1, f2', f3⟩ := Y.out.get
    go_upto_region 3 with (fail)
    go_region_held3 (fun w' => w'.cell? ⟨w.heap.size, 0, none⟩ = some (.slice A n c) ∧ w'.cell? ⟨w.heap.size, 1, none⟩ = some (.int .i64 room) ∧ w'.cell? ⟨w.heap.size, 2, none⟩ = some (.int .i64 fuse) ∧ w'.cell? ⟨w.heap.size, 3, none⟩ = some (.bool off))
      (first
        | go_keep
        | (go_split_ands
           (repeat' apply And.intro) <;> exact box_ ‹Q _ _› (by assumption)))
      (first
        | (go_at_call 13
           (with_reducible refine (KN.out _ (HT.out.q (Y.out.q.trans (Q.refl _).drew))).mono ?_)
           rintro e w4 ⟨rfl, q4⟩)
        | (go_at_call 32
           (with_reducible refine (KS.out _ (HD.out.q (Y.out.q.trans ((Q.refl _).drew.trans q4)))).mono ?_)
           rintro e w5 ⟨A5, n5, c5, rfl, ho, q5⟩
           obtain ⟨⟨s0, s1, s2, s3⟩, h0, h1, h2, h3⟩ := ((Y.out.step ((Q.refl _).drew.trans q4)).step q5).getR))
    have hn5 : n5 * 48 ≤ 140737488355328 := by have h1 := ho.len; have h2 := HD.out.len; have h3 := HD.out.few; omega
    have Z := Lib.hid (And.intro ho (And.intro q5 hn5))
    have Y4 := Lib.hid (Y.out.step ((Q.refl _).drew.trans q4))
    clear ho q4 q5 hn5 e0 e1 e2 e3 f0 f1 f2' f3 Y
    go_wp2
    refine bodyPost_ret (v := .tuple #[dkv A5 n5 c5 r.1.room r.1.fuse r.1.off, .int .i64 r.2]) (by simp [results, Tryz.results16, go_sem, s0, s1, s2, s3]) rfl ?_
    exact Y4.out.endW Z.out.2.1 (d := r.1) Z.out.1 Z.out.2.2 [.int .i64 r.2] _ _ _ _
end Go.Proofs.YtggbdhnjogalgaaGreatDoor

/- Contracts: the document's Rename. -/
namespace Go.Proofs.YtggbdhnjogalgaaGreatDoor
set_option maxRecDepth 100000
open Go.RowKit Dkm
set_option linter.unusedVariables false

end Go.Proofs.YtggbdhnjogalgaaGreatDoor

/- Contracts: the document's Sync; its Append, where it is refused. -/
namespace Go.Proofs.YtggbdhnjogalgaaGreatDoor
set_option maxRecDepth 100000
open Go.RowKit Dkm
set_option linter.unusedVariables false

end Go.Proofs.YtggbdhnjogalgaaGreatDoor

/- Contracts: the document's Append, where the file would be too big. -/
namespace Go.Proofs.YtggbdhnjogalgaaGreatDoor
set_option maxRecDepth 100000
open Go.RowKit Dkm
set_option linter.unusedVariables false

end Go.Proofs.YtggbdhnjogalgaaGreatDoor

/- A region that draws its order: the condition on the world may be made stronger on the way. -/
namespace Go
set_option maxRecDepth 100000
section
variable {P : Program} {ops : Array Oper} {Q : Exit → Act → World → Prop} {md : Region.Mode} {S S' : World → Prop}
end
end Go

/- A region that draws its order and stores, as its operation k, into a cell that it loads: what is known of the world is asked only till k comes up; a load may be taken first if k waits for it. -/
namespace Go.Proofs.YtggbdhnjogalgaaGreatDoor
set_option maxRecDepth 100000
section
variable {P : Program} {ops : Array Oper} {Q : Exit → Act → World → Prop} {md : Region.Mode} {k : Nat}

/-- The pair of what is owed behind a step: S, as long as k has not come up; and what follows. -/
def Till (k : Nat) (S : World → Prop) (T : Array Bool → Act → World → Prop) (l : Array Bool) : Act → World → Prop := fun a w => (l.getD k true = false → S w) ∧ T l a w
/-- In whatever order the rest comes up: Q at the end; S till k. -/
def wpAnyL (P : Program) (md : Region.Mode) (ops : Array Oper) (Q : Exit → Act → World → Prop) (k : Nat) (S : World → Prop) (fuel : Nat) : Array Bool → Act → World → Prop :=
  Nat.rec (fun l a w => Region.ready md ops l = [] ∧ Q .normal a w)
    (fun _ T l a w => (Region.ready md ops l = [] → Q .normal a w) ∧ ∀ j, j ∈ Region.ready md ops l → wpOp P ops Q j (Till k S T (l.setIfInBounds j true)) a w) fuel

variable {S S' : World → Prop}
theorem wpAnyL_zero {l : Array Bool} {a : Act} {w : World} : wpAnyL P md ops Q k S 0 l a w ↔ Region.ready md ops l = [] ∧ Q .normal a w := Iff.rfl
theorem wpAnyL_succ {n : Nat} {l : Array Bool} {a : Act} {w : World} : wpAnyL P md ops Q k S (n + 1) l a w ↔
    (Region.ready md ops l = [] → Q .normal a w) ∧ ∀ j, j ∈ Region.ready md ops l → wpOp P ops Q j (Till k S (wpAnyL P md ops Q k S n) (l.setIfInBounds j true)) a w := Iff.rfl

/-- S dropped altogether. -/
theorem wpAnyL_plain (n : Nat) : ∀ (l : Array Bool) (a : Act) (w : World), wpAnyL P md ops Q k S n l a w → wpAny P md ops Q n l a w := by
  induction n with
  | zero => exact fun l a w h => h
  | succ n ih => exact fun l a w h => ⟨(wpAnyL_succ.1 h).1, fun j hj => wpOp_mono (fun a' w' h' => ih _ a' w' h'.2) ((wpAnyL_succ.1 h).2 j hj)⟩
theorem getD_set_up {l : Array Bool} {j : Nat} (h : l.getD k true = true) : (l.setIfInBounds j true).getD k true = true := by
  rcases Nat.decEq j k with e | rfl
  · rw [getD_set_ne true e]; exact h
  · simp [Array.getElem?_setIfInBounds]; split <;> simp
/-- Behind k nothing is asked. -/
theorem wpAnyL_free (n : Nat) : ∀ (l : Array Bool) (a : Act) (w : World), l.getD k true = true → wpAnyH P md ops Q (fun _ => True) n l a w → wpAnyL P md ops Q k S n l a w := by
  induction n with
  | zero => exact fun l a w _ h => h
  | succ n ih =>
    intro l a w hl h
    refine wpAnyL_succ.2 ⟨h.1, fun j hj => wpOp_mono (fun a' w' h' => ⟨fun e => ?_, ih _ a' w' (getD_set_up hl) h'.2⟩) (h.2 j hj)⟩
    rw [getD_set_up hl] at e
    cases e

/-- k waits for i. -/
def waitsFor (md : Region.Mode) (ops : Array Oper) (k i : Nat) : Bool := match ops[k]? with | some o => o.after.any (fun e => Region.binds md e && e.on == i) | none => false
/-- Of two that may come up now none waits for the other one. -/
theorem ready_free {l : Array Bool} {i j : Nat} {o : Oper} (hi : i ∈ Region.ready md ops l) (hj : j ∈ Region.ready md ops l) (ho : ops[j]? = some o) : ∀ e ∈ o.after, Region.binds md e = true → e.on ≠ i := by
  obtain ⟨hi0, _⟩ := mem_ready.1 hi
  obtain ⟨_, o', ho', hall⟩ := mem_ready.1 hj
  obtain rfl : o = o' := by rw [ho] at ho'; injection ho'
  intro e he hb heq
  have hl := hall e he hb
  rw [heq] at hl
  cases hg : l[i]? with
  | none => simp [hg] at hl
  | some b => simp [hg] at hi0 hl; rw [hi0] at hl; cases hl
theorem not_waits {l : Array Bool} {i : Nat} (hi : i ∈ Region.ready md ops l) (hk : waitsFor md ops k i = true) : ¬ k ∈ Region.ready md ops l := fun hj => by
  unfold waitsFor at hk
  split at hk
  · rename_i o ho
    obtain ⟨e, he, h2⟩ := Array.any_eq_true'.1 hk
    rw [Bool.and_eq_true, beq_iff_eq] at h2
    exact ready_free hi hj ho e he h2.1 h2.2
  · cases hk

/-- Number i first: nobody who could come ahead of it makes a difference, and k waits for it. -/
theorem wpAnyL_take {i : Nat} {oi : Oper} {v : Value} {fuel : Nat} {listed : Array Bool} {a : Act} {w : World} (hi : ops[i]? = some oi)
    (hs : Region.noSelect ops = true) (hf : Region.free md ops listed i = true) (hr : (Region.ready md ops listed).contains i = true)
    (hk : (listed.getD k true == false && waitsFor md ops k i && i != k) = true)
    (hQ : ∀ c a w, Q (.panic c) (a.put oi.dst v) w → Q (.panic c) a w) (hy : YieldsIf P ops S oi v a) (hS : S w)
    (h : wpAnyL P md ops Q k S fuel (listed.setIfInBounds i true) (a.put oi.dst v) w) : wpAnyL P md ops Q k S (fuel + 1) listed a w := by
  simp only [Bool.and_eq_true, beq_iff_eq, bne_iff_ne, ne_eq] at hk
  obtain ⟨⟨hku, hkw⟩, hik⟩ := hk
  have hap := Region.free_spec hi hf
  have hr' : i ∈ Region.ready md ops listed := by simpa using hr
  have hno := Region.noSelect_spec hs
  clear hf hr
  -- the same for every state: by the number of those that are left
  induction fuel generalizing listed a w with
  | zero =>
    refine wpAnyL_succ.2 ⟨fun e => absurd hr' (by rw [e]; exact List.not_mem_nil), fun j hj => ?_⟩
    rcases Nat.decEq j i with e | rfl
    · exact absurd (ready_mono hj e) (by rw [(wpAnyL_zero.1 h).1]; exact List.not_mem_nil)
    · exact hy.wpOp hi hS ⟨fun _ => hS, h⟩
  | succ n ih =>
    refine wpAnyL_succ.2 ⟨fun e => absurd hr' (by rw [e]; exact List.not_mem_nil), fun j hj => ?_⟩
    rcases Nat.decEq j i with e | rfl
    case isTrue => exact hy.wpOp hi hS ⟨fun _ => hS, h⟩
    have hjk : j ≠ k := by rintro rfl; exact not_waits hr' hkw hj
    obtain ⟨hun, oj, hoj, _⟩ := mem_ready.1 hj
    have other := wpOp_putIf hoj (hap j oj hoj e hun (ready_free hr' hj hoj)) (fun cs b => hno i oi cs b hi) (fun cs b => hno j oj cs b hoj) hQ hy ((wpAnyL_succ.1 h).2 j (ready_mono hj e))
    have hku' : (listed.setIfInBounds j true).getD k true = false := (getD_set_ne true hjk).trans hku
    refine wpOp_mono (fun a' w' ⟨hy', hS', hT⟩ => ?_) other
    have hSw : S w' := hS' (by rw [getD_set_ne true hjk, getD_set_ne true hik]; exact hku)
    rw [Array.setIfInBounds_comm _ _ (Ne.symm e)] at hT
    refine ⟨fun _ => hSw, ih hy' hSw hT hku' (fun m om hm hmi hmu hme => hap m om hm hmi ?_ hme) (ready_mono hr' (Ne.symm e))⟩
    rcases Nat.decEq j m with e2 | rfl
    · rwa [getD_set_ne true e2] at hmu
    · exact hun

def AllReadyL (P : Program) (md : Region.Mode) (ops : Array Oper) (Q : Exit → Act → World → Prop) (k : Nat) (S : World → Prop) (fuel : Nat) (listed : Array Bool) (a : Act) (w : World) (rs : List Nat) : Prop :=
  ∀ j, j ∈ rs → wpOp P ops Q j (Till k S (wpAnyL P md ops Q k S fuel) (listed.setIfInBounds j true)) a w
theorem AllReadyL.nil {fuel : Nat} {listed : Array Bool} {a : Act} {w : World} : AllReadyL P md ops Q k S fuel listed a w [] := fun _ h => absurd h List.not_mem_nil
/-- a step ahead of k: S is shown anew, and handed on. -/
theorem AllReadyL.cons {fuel : Nat} {listed : Array Bool} {a : Act} {w : World} {i : Nat} {o : Oper} {rs : List Nat} (ho : ops[i]? = some o)
    (h : ∀ K : Act → World → Prop, Shut (∀ a w, S w → (S w → wpAnyL P md ops Q k S fuel (listed.setIfInBounds i true) a w) → K a w) → if Region.wanted o (yielded ops a.tmps) = true then Oper.wp P o a w K Q else K (a.put o.dst undef) w)
    (hs : AllReadyL P md ops Q k S fuel listed a w rs) : AllReadyL P md ops Q k S fuel listed a w (i :: rs) :=
  List.forall_mem_cons.2 ⟨wpOp_step ho fun K hK => h K fun a w h1 h2 => hK a w ⟨fun _ => h1, h2 h1⟩, hs⟩
/-- the step k itself: nothing is to be shown anew. -/
theorem AllReadyL.consK {fuel : Nat} {listed : Array Bool} {a : Act} {w : World} {o : Oper} {rs : List Nat} (ho : ops[k]? = some o) (hl : (listed.setIfInBounds k true).getD k true = true)
    (h : ∀ K : Act → World → Prop, Shut (∀ a w, wpAnyH P md ops Q (fun _ => True) fuel (listed.setIfInBounds k true) a w → K a w) → if Region.wanted o (yielded ops a.tmps) = true then Oper.wp P o a w K Q else K (a.put o.dst undef) w)
    (hs : AllReadyL P md ops Q k S fuel listed a w rs) : AllReadyL P md ops Q k S fuel listed a w (k :: rs) :=
  List.forall_mem_cons.2 ⟨wpOp_step ho fun K hK => h K fun a w h2 => hK a w ⟨(fun e => by rw [hl] at e; cases e), wpAnyL_free fuel _ a w hl h2⟩, hs⟩
theorem wpAnyL_ready {rs : List Nat} {fuel : Nat} {listed : Array Bool} {a : Act} {w : World} (hr : Region.ready md ops listed = rs) (hne : rs ≠ [])
    (h : AllReadyL P md ops Q k S fuel listed a w rs) : wpAnyL P md ops Q k S (fuel + 1) listed a w :=
  wpAnyL_succ.2 ⟨fun e => absurd (hr.symm.trans e) hne, fun j hj => h j (by rwa [hr] at hj)⟩
/-- the beginning. -/
theorem wp_region_heldL (k : Nat) (S : World → Prop) {id : Nat} {a : Act} {w : World} (hm : P.follows .mixedOrders = true) (hS : S w.drew)
    (h : S w.drew → wpAnyL P .any ops Q k S ops.size (Array.replicate ops.size false) a w.drew) : (Code.region id ops true).wp P Q a w :=
  wp_region_any hm (wpAnyL_plain _ _ _ _ (h hS))
end
end Go.Proofs.YtggbdhnjogalgaaGreatDoor

/- 'append(own, more...)' for rows of any kind of element: the source nil or not; only the own block has turned. -/
namespace Go.Proofs.YtggbdhnjogalgaaGreatDoor
set_option maxRecDepth 100000
open Go.RowKit
set_option linter.unusedVariables false

theorem run_appG {P : Program} {w : World} (base : Nat) (t ty e : TypeId) (z : Value) (size bytes : Nat) (ht : P.underlying t = some (.slice e)) (hinfo : (P.info? e).map (fun i => (i.zero, i.size, i.bytes)) = some (some z, size, bytes))
    (hzs : z.cells.size = size) (hsz : 0 < size) (A : Option Addr) (n c : Nat) (xs : List Value) (h : w.ownsRow base e size (.slice A n c) n xs)
    (A2 : Option Addr) (m c2 : Nat) (news : List Value) (hl : news.length = m * size) (hnews : ∀ j u, news[j]? = some u → ∃ a, A2 = some a ∧ w.cell? (a.add j) = some u) (h1 : ∀ u ∈ news, u.oneCell' = true)
    (hnil : A2 = none → m = 0 ∧ c2 = 0) (hmax : n + m ≤ maxLen) (hb : (n + m) * bytes ≤ 140737488355328) (hbase : base ≤ w.heap.size) :
    ∃ A' c' w', (Builtin.append_ #[t, t] ty #[.slice A n c, .slice A2 m c2]).run P w = .ok (.slice A' (n + m) c') w' ∧ w'.ownsRow base e size (.slice A' (n + m) c') (n + m) (xs ++ news) ∧
      w.grownBy w' (Value.slice A n c).ownBlock ∧ ((Value.slice A' (n + m) c').ownBlock = (Value.slice A n c).ownBlock ∨ (Value.slice A' (n + m) c').ownBlock = some w.heap.size) := by
  obtain ⟨i, hi, hz, hs, hy⟩ := info_parts hinfo
  cases A2 with
  | none =>
    obtain ⟨rfl, rfl⟩ := hnil rfl
    have e2 : news = [] := List.eq_nil_of_length_eq_zero (by omega)
    subst e2
    exact ⟨A, c, w, run_append_owned_none (P := P) (w := w) base _ ty e i size ht hi _ n xs h, by simpa using h, World.grownBy.refl _ _, .inl rfl⟩
  | some ad =>
    obtain ⟨v', w', hr, ho, hg, hn, hat⟩ := run_append_own_at (P := P) (w := w) base t ty e i z size bytes ht hi hz hs hy hzs hsz (.slice A n c) n xs h ad m c2 news hl
      (fun j u hu => by obtain ⟨a', e, hc⟩ := hnews j u hu; injection e with e; subst e; exact hc) h1 hmax hb hbase
    rcases ho.2 with ⟨e, h0⟩ | ⟨g, cap, cur, e, _⟩
    · have h00 : Value.slice none 0 0 = .slice none (n + m) 0 := by rw [h0]
      rw [h00] at e
      subst e
      exact ⟨none, 0, w', hr, ho, hg, hat⟩
    · subst e
      exact ⟨_, cap, w', hr, ho, hg, hat⟩

theorem wanted_plain {ops : Array Oper} {o : Oper} {a : Act} (hgd : o.guard = none) : Region.wanted o (yielded ops a.tmps) = true := by simp [Region.wanted, hgd]
theorem below_grown {B : Nat} {w w' : World} {row : Option Nat} (hg : w.grownBy w' row) (hB : B ≤ w.heap.size) (hr : ∀ k, row = some k → B ≤ k) : Below B w w' := (Below.refl _ _).grown hg hB hr
end Go.Proofs.YtggbdhnjogalgaaGreatDoor

/- Contracts: the document's Append, where it is done. -/
namespace Go.Proofs.YtggbdhnjogalgaaGreatDoor
set_option maxRecDepth 100000
open Go.RowKit Dkm
set_option linter.unusedVariables false

theorem Files.grown {w w' : World} {A : Option Addr} {n : Nat} {l : List Fil} {row : Option Nat} (h : Files w A n l) (hg : w.grownBy w' row) (hne : ∀ ad, A = some ad → some ad.block ≠ row) : Files w' A n l := by
  refine ⟨h.1, fun j u hu => ?_⟩
  obtain ⟨a, e, hb, hc⟩ := h.2 j u hu
  have hblk : (a.add j).block = a.block := by unfold Addr.add; split <;> rfl
  exact ⟨a, e, Nat.lt_of_lt_of_le hb hg.size, hg.cell hc (by rw [hblk]; exact hne a e)⟩

section
variable {w wr : World} {A : Option Addr} {n c : Nat} {room fuse : Int} {off : Bool}
theorem Sb.setRoom (h : Sb w A n c room fuse off wr) (x : Int) : Sb w A n c x fuse off (wr.setCell ⟨w.heap.size, 1, none⟩ (.int .i64 x)) :=
  ⟨h.box.set (k := 1) (by simp) _, h.res.far (p := ⟨w.heap.size, 1, none⟩) (by simp) _, h.q.setCell (p := ⟨w.heap.size, 1, none⟩) (Nat.le_refl _) _⟩
/-- the boxes, and the list, behind 'with'. -/
structure Sd (w : World) (A : Option Addr) (n c : Nat) (room fuse : Int) (off : Bool) (L : List Fil) (wr : World) : Prop where
  sb : Sb w A n c room fuse off wr
  own : Own wr (w.heap.size + 2) A n c L
variable {L : List Fil}
theorem Sd.setRoom (h : Sd w A n c room fuse off L wr) (x : Int) : Sd w A n c x fuse off L (wr.setCell ⟨w.heap.size, 1, none⟩ (.int .i64 x)) := ⟨h.sb.setRoom x, h.own.setCell (p := ⟨w.heap.size, 1, none⟩) (by simp) _⟩
theorem Sd.new {w5 : World} {A0 : Option Addr} {n0 c0 : Nat} (h : Sb w A0 n0 c0 room fuse off wr) (q : Q wr w5) (ho : Own w5 wr.heap.size A n c L) :
    Sd w A n c room fuse off L ((((w5.setCell ⟨w.heap.size, 0, none⟩ (.slice A n c)).setCell ⟨w.heap.size, 1, none⟩ (.int .i64 room)).setCell ⟨w.heap.size, 2, none⟩ (.int .i64 fuse)).setCell ⟨w.heap.size, 3, none⟩ (.bool off)) :=
  ⟨(h.step q).put4 A n c room fuse off, (ho.lower (by have := h.res.lt; omega)).set4 (b := w.heap.size) (by omega) _ _ _ _⟩
end

end Go.Proofs.YtggbdhnjogalgaaGreatDoor

/- Contracts: the document's Append, Sync, all cases together. -/
namespace Go.Proofs.YtggbdhnjogalgaaGreatDoor
set_option maxRecDepth 100000
open Go.RowKit Dkm
set_option linter.unusedVariables false

end Go.Proofs.YtggbdhnjogalgaaGreatDoor

/- The contract of wal.Put. -/
namespace Go.Proofs.YtggbdhnjogalgaaGreatDoor
set_option maxRecDepth 100000
open Go.RowKit Dkm Wm
set_option linter.unusedVariables false

theorem Sd.endW {w wr : World} {A : Option Addr} {n c : Nat} {room fuse : Int} {off : Bool} {L : List Fil} (h : Sd w A n c room fuse off L wr) (hn : n * 48 ≤ 140737488355328) (vs : List Value) (x y z u : Value) :
    RetW w ⟨L, room, fuse, off⟩ vs (.returned (.tuple (dkv A n c room fuse off :: vs).toArray)) ((((wr.setCell ⟨w.heap.size + 1, 0, none⟩ x).setCell ⟨w.heap.size + 1, 1, none⟩ y).setCell ⟨w.heap.size + 1, 2, none⟩ z).setCell ⟨w.heap.size + 1, 3, none⟩ u) :=
  ⟨A, n, c, rfl, (h.own.set4 (b := w.heap.size + 1) (by omega) _ _ _ _).dsk hn, fun ad e => by have h1 := h.own.far_ ad e; omega, h.sb.q.set4 (b := w.heap.size + 1) (by omega) _ _ _ _⟩

theorem Sd.new2 {w wr w5 : World} {A A0 : Option Addr} {n c n0 c0 : Nat} {room fuse room0 fuse0 : Int} {off off0 : Bool} {L : List Fil} (h : Sb w A0 n0 c0 room0 fuse0 off0 wr) (q : Q wr w5) (ho : Own w5 wr.heap.size A n c L) :
    Sd w A n c room fuse off L ((((w5.setCell ⟨w.heap.size, 0, none⟩ (.slice A n c)).setCell ⟨w.heap.size, 1, none⟩ (.int .i64 room)).setCell ⟨w.heap.size, 2, none⟩ (.int .i64 fuse)).setCell ⟨w.heap.size, 3, none⟩ (.bool off)) :=
  ⟨(h.step q).put4 A n c room fuse off, (ho.lower (by have := h.res.lt; omega)).set4 (b := w.heap.size) (by omega) _ _ _ _⟩

set_option maxHeartbeats 4000000 in
theorem put_fit (seg : Int) (rec : ByteArray) (A : Option Addr) (n c : Nat) (d : Dk) (w : World) (hT : Tab w) (hd : Dsk w A n c d.fs) (hB : Bnd 2305843009213693952 d) (h1 : segOk seg) (h2 : rec.size ≤ 2048) (h3 : (redd (namB seg) d.fs).1.size < 256) :
    Calls Tryz.prog 15 #[dkv A n c d.room d.fuse d.off, .int .i64 seg, .string rec] w fun e w' => RetW w (putA d seg rec).1 [.int .i64 seg, .int .i64 (putA d seg rec).2.2] e w' := by
  obtain ⟨l, room, fuse, off⟩ := d
  have HT := Lib.hid hT
  have HD := Lib.hid hd
  have HN := Lib.hid hd.max
  have HB := Lib.hid hB
  have hmx : ∀ f ∈ l, f.sf.size + f.wt.size ≤ maxLen := fun f hf => Nat.le_trans (hB.sum f hf) (by unfold maxLen; omega)
  have hal := appd_few ⟨l, room, fuse, off⟩ (namB seg) (sealB rec)
  have hsb : (sealB rec).size ≤ 2305843009213693952 := by rw [sealB_size]; have := sld_length rec.data.toList (by rw [size_list]; omega); rw [size_list] at this; omega
  have KA := Lib.hid (fun w hd => append_any (namB seg) (sealB rec) A n c ⟨l, room, fuse, off⟩ w hd HB.out.sum hsb HB.out.room.2 HB.out.fuse.2)
  have KL := Lib.hid (fun w => seal_any rec w (by omega))
  have KR := Lib.hid (fun w hf => read_any (namB seg) A n c room fuse off l w hf HN.out hmx)
  have KN := Lib.hid (name_any seg)
  have KU := Lib.hid (numbered_yes seg h1)
  unfold putA
  generalize appd ⟨l, room, fuse, off⟩ (namB seg) (sealB rec) = r at hal KA ⊢
  have h3' : (redd (namB seg) l).1.size < 256 := h3
  generalize redd (namB seg) l = b at KR h3'
  obtain ⟨b, be⟩ := b
  have t3 : ¬ 256 ≤ b.size := by have : b.size < 256 := h3'; omega
  clear hT hd hB hmx h1 h3 h3' hsb
  change Hid (∀ w, Calls _ _ _ w fun e w' => e = .returned (.string (sealB rec)) ∧ Q w w') at KL
  generalize sealB rec = sr at KA KL
  go_enter Tryz.func15, Tryz.ntmps15
  go_wp2_with fail
  refine (KU.out _).mono ?_
  rintro e w1 ⟨rfl, q1⟩
  have X := Lib.hid ((Sb.new w A n c room fuse off).step q1)
  clear q1
  go_upto_region 5 with (fail)
  obtain ⟨⟨e0, e1, e2, e3⟩, f0, f1, f2', f3⟩ := X.out.get
  go_region_held3 (fun w' => w'.cell? ⟨w.heap.size, 0, none⟩ = some (.slice A n c) ∧ w'.cell? ⟨w.heap.size, 1, none⟩ = some (.int .i64 room) ∧ w'.cell? ⟨w.heap.size, 2, none⟩ = some (.int .i64 fuse) ∧ w'.cell? ⟨w.heap.size, 3, none⟩ = some (.bool off))
    (first
      | go_keep
      | (go_split_ands
         (repeat' apply And.intro) <;> exact box_ ‹Q _ _› (by assumption)))
    (first
      | (go_at_call 13
         (with_reducible refine (KN.out _ (HT.out.q (X.out.q.trans (Q.refl w1).drew))).mono ?_)
         rintro e w2 ⟨rfl, q2⟩)
      | (go_at_call 20
         (with_reducible refine (KR.out _ (HD.out.files.q (X.out.q.trans ((Q.refl w1).drew.trans q2)))).mono ?_)
         rintro e w3 ⟨rfl, q3⟩))
  have Y := Lib.hid (X.out.step (((Q.refl w1).drew.trans q2).trans q3))
  clear X q2 q3 e0 e1 e2 e3 f0 f1 f2' f3
  have DW := Lib.hid (HD.out.q Y.out.q)
  obtain ⟨⟨e0, e1, e2, e3⟩, f0, f1, f2', f3⟩ := Y.out.get
  go_upto_region 14 with (fail)
  generalize w3 = W at Y DW e0 e1 e2 e3 f0 f1 f2' f3 ⊢
  have QW := Lib.hid (Q.refl W)
  refine wp_region_heldL 9 (Q W) (by kernel_rfl) ?szz0 (fun hHeld => ?rzz0)
  case szz0 =>
    exact (Q.refl W).drew
  case' rzz0 => skip
  refine wpAnyL_take (i := 0) (oi := ?ozz1) (v := ?vzz1) ?hzz1 ?azz1 ?bzz1 ?czz1 ?kzz1 ?qzz1 ?yzz1 ?szz1 ?rzz1
  case hzz1 => simp only [List.getElem?_toArray, List.getElem?_cons_zero]; rfl
  case azz1 => kernel_rfl
  case bzz1 => kernel_rfl
  case czz1 => kernel_rfl
  case kzz1 => kernel_rfl
  case yzz1 =>
    refine Or.inl ⟨by rfl, ?_⟩
    intro w hSw
    have x0 := box_ hSw e0; have x1 := box_ hSw e1; have x2 := box_ hSw e2; have x3 := box_ hSw e3; clear hSw
    go_simp
    try with_reducible rfl
  case qzz1 => exact fun _ _ _ h => h
  case szz1 => first | assumption | trivial
  case' rzz1 => simp only [Act.put, List.setIfInBounds_toArray, List.set_cons_zero, List.set_cons_succ]
  refine wpAnyL_take (i := 1) (oi := ?ozz2) (v := ?vzz2) ?hzz2 ?azz2 ?bzz2 ?czz2 ?kzz2 ?qzz2 ?yzz2 ?szz2 ?rzz2
  case hzz2 => simp only [List.getElem?_toArray, List.getElem?_cons_zero, List.getElem?_cons_succ]; rfl
  case azz2 => kernel_rfl
  case bzz2 => kernel_rfl
  case czz2 => kernel_rfl
  case kzz2 => kernel_rfl
  case yzz2 =>
    refine Or.inl ⟨by rfl, ?_⟩
    intro w hSw
    skip
    go_simp
    try with_reducible rfl
  case qzz2 => exact fun _ _ _ h => h
  case szz2 => first | assumption | trivial
  case' rzz2 => simp only [Act.put, List.setIfInBounds_toArray, List.set_cons_zero, List.set_cons_succ]
  refine wpAnyL_take (i := 3) (oi := ?ozz3) (v := ?vzz3) ?hzz3 ?azz3 ?bzz3 ?czz3 ?kzz3 ?qzz3 ?yzz3 ?szz3 ?rzz3
  case hzz3 => simp only [List.getElem?_toArray, List.getElem?_cons_zero, List.getElem?_cons_succ]; rfl
  case azz3 => kernel_rfl
  case bzz3 => kernel_rfl
  case czz3 => kernel_rfl
  case kzz3 => kernel_rfl
  case yzz3 =>
    refine Or.inl ⟨by rfl, ?_⟩
    intro w hSw
    skip
    go_simp
    try with_reducible rfl
  case qzz3 => exact fun _ _ _ h => h
  case szz3 => first | assumption | trivial
  case' rzz3 => simp only [Act.put, List.setIfInBounds_toArray, List.set_cons_zero, List.set_cons_succ]
  refine wpAnyL_ready (rs := [2]) (by kernel_rfl) (by simp) ?_
  refine AllReadyL.cons (o := ?ozz14) ?hzz14 (fun K hK => ?kzz14) ?mzz14
  case hzz14 => simp only [List.getElem?_toArray, List.getElem?_cons_zero, List.getElem?_cons_succ]; rfl
  case kzz14 =>
    go_simp
    refine (KN.out _ (HT.out.q (Y.out.q.trans hHeld))).mono ?_
    rintro e w3 ⟨rfl, q3⟩
    go_wp2_with fail
    refine hK.out _ _ ?Szz14 (fun hHeld => ?Rzz14)
    case Szz14 =>
      exact hHeld.trans q3
    case Rzz14 =>
      clear hK K
      try simp only [Act.put, List.setIfInBounds_toArray, List.set_cons_zero, List.set_cons_succ]
      refine wpAnyL_ready (rs := [4]) (by kernel_rfl) (by simp) ?_
      refine AllReadyL.cons (o := ?ozz13) ?hzz13 (fun K hK => ?kzz13) ?mzz13
      case hzz13 => simp only [List.getElem?_toArray, List.getElem?_cons_zero, List.getElem?_cons_succ]; rfl
      case kzz13 =>
        go_simp
        refine (KL.out _).mono ?_
        rintro e w4 ⟨rfl, q4⟩
        go_wp2_with fail
        refine hK.out _ _ ?Szz13 (fun hHeld => ?Rzz13)
        case Szz13 =>
          exact hHeld.trans q4
        case Rzz13 =>
          clear hK K
          try simp only [Act.put, List.setIfInBounds_toArray, List.set_cons_zero, List.set_cons_succ]
          refine wpAnyL_ready (rs := [5]) (by kernel_rfl) (by simp) ?_
          refine AllReadyL.cons (o := ?ozz12) ?hzz12 (fun K hK => ?kzz12) ?mzz12
          case hzz12 => simp only [List.getElem?_toArray, List.getElem?_cons_zero, List.getElem?_cons_succ]; rfl
          case kzz12 =>
            go_simp
            refine (KA.out _ (DW.out.q hHeld)).mono ?_
            rintro e w5 ⟨A5, n5, c5, rfl, ho, q5⟩
            obtain ⟨⟨x0, x1, x2, x3⟩, y0, y1, y2, y3⟩ := ((Y.out.step hHeld).step q5).get
            have Z5 := Lib.hid (And.intro ho (And.intro hHeld q5))
            go_wp2_with fail
            refine hK.out _ _ ?Szz12 (fun hHeld => ?Rzz12)
            case Szz12 =>
              exact hHeld.trans q5
            case Rzz12 =>
              clear hK K
              try simp only [Act.put, List.setIfInBounds_toArray, List.set_cons_zero, List.set_cons_succ]
              refine wpAnyL_take (i := 6) (oi := ?ozz4) (v := ?vzz4) ?hzz4 ?azz4 ?bzz4 ?czz4 ?kzz4 ?qzz4 ?yzz4 ?szz4 ?rzz4
              case hzz4 => simp only [List.getElem?_toArray, List.getElem?_cons_zero, List.getElem?_cons_succ]; rfl
              case azz4 => kernel_rfl
              case bzz4 => kernel_rfl
              case czz4 => kernel_rfl
              case kzz4 => kernel_rfl
              case yzz4 =>
                refine Or.inl ⟨by rfl, ?_⟩
                intro w hSw
                skip
                go_simp
                try with_reducible rfl
              case qzz4 => exact fun _ _ _ h => h
              case szz4 => first | assumption | trivial
              case' rzz4 => simp only [Act.put, List.setIfInBounds_toArray, List.set_cons_zero, List.set_cons_succ]
              refine wpAnyL_take (i := 7) (oi := ?ozz5) (v := ?vzz5) ?hzz5 ?azz5 ?bzz5 ?czz5 ?kzz5 ?qzz5 ?yzz5 ?szz5 ?rzz5
              case hzz5 => simp only [List.getElem?_toArray, List.getElem?_cons_zero, List.getElem?_cons_succ]; rfl
              case azz5 => kernel_rfl
              case bzz5 => kernel_rfl
              case czz5 => kernel_rfl
              case kzz5 => kernel_rfl
              case yzz5 =>
                refine Or.inl ⟨by rfl, ?_⟩
                intro w hSw
                skip
                go_simp
                try with_reducible rfl
              case qzz5 => exact fun _ _ _ h => h
              case szz5 => first | assumption | trivial
              case' rzz5 => simp only [Act.put, List.setIfInBounds_toArray, List.set_cons_zero, List.set_cons_succ]
              refine wpAnyL_ready (rs := [8, 9]) (by kernel_rfl) (by simp) ?_
              refine AllReadyL.cons (o := ?ozz10) ?hzz10 (fun K hK => ?kzz10) ?mzz10
              case hzz10 => simp only [List.getElem?_toArray, List.getElem?_cons_zero, List.getElem?_cons_succ]; rfl
              case kzz10 =>
                go_simp
                refine hK.out _ _ ?Szz10 (fun hHeld => ?Rzz10)
                case Szz10 =>
                  exact hHeld
                case Rzz10 =>
                  clear hK K
                  try simp only [Act.put, List.setIfInBounds_toArray, List.set_cons_zero, List.set_cons_succ]
                  refine wpAnyL_ready (rs := [9]) (by kernel_rfl) (by simp) ?_
                  refine AllReadyL.consK (o := ?ozz7) ?hzz7 ?lzz7 (fun K hK => ?kzz7) ?mzz7
                  case hzz7 => simp only [List.getElem?_toArray, List.getElem?_cons_zero, List.getElem?_cons_succ]; rfl
                  case lzz7 => kernel_rfl
                  case kzz7 =>
                    go_simp
                    refine hK.out _ _ ?Rzz7
                    case Rzz7 =>
                      clear hK K
                      try simp only [Act.put, List.setIfInBounds_toArray, List.set_cons_zero, List.set_cons_succ]
                      refine wpAnyH_take (i := 10) (oi := ?ozz6) (v := ?vzz6) ?hzz6 ?azz6 ?bzz6 ?czz6 ?qzz6 ?yzz6 ?szz6 ?rzz6
                      case hzz6 => simp only [List.getElem?_toArray, List.getElem?_cons_zero, List.getElem?_cons_succ]; rfl
                      case azz6 => kernel_rfl
                      case bzz6 => kernel_rfl
                      case czz6 => kernel_rfl
                      case yzz6 =>
                        refine Or.inl ⟨by rfl, ?_⟩
                        intro w hSw
                        skip
                        go_simp
                        try with_reducible rfl
                      case qzz6 => exact fun _ _ _ h => h
                      case szz6 => first | assumption | trivial
                      case' rzz6 => simp only [Act.put, List.setIfInBounds_toArray, List.set_cons_zero, List.set_cons_succ]
                      refine wpAnyH_done (by kernel_rfl) ?_ _
                      have hn5 : n5 * 48 ≤ 140737488355328 := by have h1 := Z5.out.1.len; have h2 := HD.out.len; have h3 := HD.out.few; omega
                      have D1 := Lib.hid (Sd.new2 (room := r.1.room) (fuse := r.1.fuse) (off := r.1.off) (Y.out.step Z5.out.2.1) Z5.out.2.2 Z5.out.1)
                      clear e0 e1 e2 e3 f0 f1 f2' f3 x0 x1 x2 x3 y0 y1 y2 y3
                      generalize ((((w5.setCell ⟨w.heap.size, 0, none⟩ (.slice A5 n5 c5)).setCell ⟨w.heap.size, 1, none⟩ (.int .i64 r.1.room)).setCell ⟨w.heap.size, 2, none⟩ (.int .i64 r.1.fuse)).setCell ⟨w.heap.size, 3, none⟩ (.bool r.1.off)) = V at D1 ⊢
                      obtain ⟨⟨e0, e1, e2, e3⟩, f0, f1, f2', f3⟩ := D1.out.sb.get
                      obtain ⟨⟨s0, s1, s2, s3⟩, h0, h1, h2, h3⟩ := D1.out.sb.getR
                      go_wp2
                      refine bodyPost_ret (v := .tuple #[dkv A5 n5 c5 r.1.room r.1.fuse r.1.off, .int .i64 seg, .int .i64 r.2]) (by simp [results, Tryz.results15, go_sem, s0, s1, s2, s3]) rfl ?_
                      exact D1.out.endW hn5 [.int .i64 seg, .int .i64 r.2] _ _ _ _
                  case' mzz7 => skip
                  exact AllReadyL.nil
              case' mzz10 => skip
              refine AllReadyL.consK (o := ?ozz11) ?hzz11 ?lzz11 (fun K hK => ?kzz11) ?mzz11
              case hzz11 => simp only [List.getElem?_toArray, List.getElem?_cons_zero, List.getElem?_cons_succ]; rfl
              case lzz11 => kernel_rfl
              case kzz11 =>
                go_simp
                refine hK.out _ _ ?Rzz11
                case Rzz11 =>
                  clear hK K
                  try simp only [Act.put, List.setIfInBounds_toArray, List.set_cons_zero, List.set_cons_succ]
                  refine wpAnyH_take (i := 8) (oi := ?ozz8) (v := ?vzz8) ?hzz8 ?azz8 ?bzz8 ?czz8 ?qzz8 ?yzz8 ?szz8 ?rzz8
                  case hzz8 => simp only [List.getElem?_toArray, List.getElem?_cons_zero, List.getElem?_cons_succ]; rfl
                  case azz8 => kernel_rfl
                  case bzz8 => kernel_rfl
                  case czz8 => kernel_rfl
                  case yzz8 =>
                    refine Or.inl ⟨by rfl, ?_⟩
                    intro w hSw
                    skip
                    go_simp
                    try with_reducible rfl
                  case qzz8 => exact fun _ _ _ h => h
                  case szz8 => first | assumption | trivial
                  case' rzz8 => simp only [Act.put, List.setIfInBounds_toArray, List.set_cons_zero, List.set_cons_succ]
                  refine wpAnyH_take (i := 10) (oi := ?ozz9) (v := ?vzz9) ?hzz9 ?azz9 ?bzz9 ?czz9 ?qzz9 ?yzz9 ?szz9 ?rzz9
                  case hzz9 => simp only [List.getElem?_toArray, List.getElem?_cons_zero, List.getElem?_cons_succ]; rfl
                  case azz9 => kernel_rfl
                  case bzz9 => kernel_rfl
                  case czz9 => kernel_rfl
                  case yzz9 =>
                    refine Or.inl ⟨by rfl, ?_⟩
                    intro w hSw
                    skip
                    go_simp
                    try with_reducible rfl
                  case qzz9 => exact fun _ _ _ h => h
                  case szz9 => first | assumption | trivial
                  case' rzz9 => simp only [Act.put, List.setIfInBounds_toArray, List.set_cons_zero, List.set_cons_succ]
                  refine wpAnyH_done (by kernel_rfl) ?_ _
                  have hn5 : n5 * 48 ≤ 140737488355328 := by have h1 := Z5.out.1.len; have h2 := HD.out.len; have h3 := HD.out.few; omega
                  have D1 := Lib.hid (Sd.new2 (room := r.1.room) (fuse := r.1.fuse) (off := r.1.off) (Y.out.step Z5.out.2.1) Z5.out.2.2 Z5.out.1)
                  clear e0 e1 e2 e3 f0 f1 f2' f3 x0 x1 x2 x3 y0 y1 y2 y3
                  generalize ((((w5.setCell ⟨w.heap.size, 0, none⟩ (.slice A5 n5 c5)).setCell ⟨w.heap.size, 1, none⟩ (.int .i64 r.1.room)).setCell ⟨w.heap.size, 2, none⟩ (.int .i64 r.1.fuse)).setCell ⟨w.heap.size, 3, none⟩ (.bool r.1.off)) = V at D1 ⊢
                  obtain ⟨⟨e0, e1, e2, e3⟩, f0, f1, f2', f3⟩ := D1.out.sb.get
                  obtain ⟨⟨s0, s1, s2, s3⟩, h0, h1, h2, h3⟩ := D1.out.sb.getR
                  go_wp2
                  refine bodyPost_ret (v := .tuple #[dkv A5 n5 c5 r.1.room r.1.fuse r.1.off, .int .i64 seg, .int .i64 r.2]) (by simp [results, Tryz.results15, go_sem, s0, s1, s2, s3]) rfl ?_
                  exact D1.out.endW hn5 [.int .i64 seg, .int .i64 r.2] _ _ _ _
              case' mzz11 => skip
              exact AllReadyL.nil
          case' mzz12 => skip
          exact AllReadyL.nil
      case' mzz13 => skip
      exact AllReadyL.nil
  case' mzz14 => skip
  exact AllReadyL.nil
end Go.Proofs.YtggbdhnjogalgaaGreatDoor
