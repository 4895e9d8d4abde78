/- Contract: Append. -/
import Derived.Test.YtpjadjbniddmgaaDiskSync
namespace Go.Proofs.Ytpjadjbniddmgaa
open Go.RowKit Dkm
set_option linter.unusedVariables false

theorem Own.setNew {w0 w : World} {base : Nat} {A : Option Addr} {n c : Nat} {l0 l : List Fil} (h0 : Own w0 base A n c l0) (h : Own w base A n c l) {p : Addr} (hp : w0.heap.size ≤ p.block) (u : Value) : Own (w.setCell p u) base A n c l := by
  refine ⟨h.1, ?_⟩
  rcases h.2 with ⟨e, hz⟩ | ⟨g, cap, cur, e, hg, hh, r⟩
  · exact .inl ⟨e, hz⟩
  · refine .inr ⟨g, cap, cur, e, hg, (heap_setCell_other w p g u ?_).trans hh, r⟩
    rcases h0.parts with ⟨rfl, _⟩ | ⟨g', cur', rfl, hb, hh', _⟩
    · injection e with e; cases e
    · injection e with e; injection e with e; injection e with e
      subst e
      have : g' < w0.heap.size := by
        rcases Nat.lt_or_ge g' w0.heap.size with hlt | hge
        · exact hlt
        · rw [Array.getElem?_eq_none hge] at hh'; cases hh'
      omega

set_option maxHeartbeats 1000000 in
set_option maxRecDepth 100000 in
theorem append_off (nm s : ByteArray) (A : Option Addr) (n c : Nat) (room fuse : Int) (l : List Fil) (w : World) (hd : Dsk w A n c l) (f : Fil) (k : Nat) (hop : opn nm l = (f, k)) (hk : k ≤ n) (hf : f.sf.size + f.wt.size ≤ 2305843009213693952) (hs : s.size ≤ 2305843009213693952) :
    Calls Try.prog 12 #[dkv A n c room fuse true, .string nm, .string s] w fun e w' => RetDE w ⟨l, room, fuse, true⟩ 6 e w' := by
  have HD := Lib.hid hd
  have HN := Lib.hid hd.max
  have hlen := Lib.hid hd.len
  have hnm := hd.max
  unfold maxLen at hnm
  have HOP := Lib.hid hop
  clear hd hop
  obtain ⟨fa, fb, fc⟩ := f
  simp only at hf
  go_enter Try.func12, Try.ntmps12
  go_wp2_with fail
  have B0 := two_new w (.slice A n c) (.int .i64 room) (.int .i64 fuse) (.bool true) (.slice none 0 0) (.int .i64 0) (.int .i64 0) (.bool false) 24
  refine (own_any A n c room fuse true l _ (HD.out.q (((Q.refl _).alloc _).alloc _))).mono ?_
  rintro e w1 ⟨A1, c1, rfl, ho, q1⟩
  rw [size_two] at ho
  have HO := Lib.hid (ho.set4 (b := w.heap.size) (by omega) (.slice A1 n c1) (.int .i64 room) (.int .i64 fuse) (.bool true))
  have D1 := Lib.hid ((B0.1.q q1).put4 (.slice A1 n c1) (.int .i64 room) (.int .i64 fuse) (.bool true))
  have R1 := Lib.hid ((B0.2.q q1).far4 (c := w.heap.size) (by omega) (.slice A1 n c1) (.int .i64 room) (.int .i64 fuse) (.bool true))
  have Q1 := Lib.hid ((((((Q.refl w).alloc _).alloc _).trans q1)).set4 (b := w.heap.size) (Nat.le_refl _) (.slice A1 n c1) (.int .i64 room) (.int .i64 fuse) (.bool true))
  obtain ⟨⟨e0, e1, e2, e3⟩, f0, f1, f2, f3⟩ := (B0.1.q q1).get4
  clear B0 q1 ho
  go_wp2_with fail
  refine (open_any nm A1 n c1 room fuse true l _ HO.out.files HN.out).mono ?_
  rintro e w2 ⟨rfl, q2⟩
  rw [HOP.out]
  have HO2 := Lib.hid (HO.out.q q2)
  have Q2 := Lib.hid (Q1.out.trans q2)
  have z0 : w.heap.size < w2.heap.size := (D1.out.q q2).lt
  have z1 : w.heap.size + 1 < w2.heap.size := (R1.out.q q2).lt
  have z2 : w.heap.size ≠ w2.heap.size := by omega
  have z3 : w.heap.size + 1 ≠ w2.heap.size := by omega
  have D2 := Lib.hid (D1.out.q q2)
  have R2 := Lib.hid (R1.out.q q2)
  obtain ⟨⟨d0, d1, d2, d3⟩, g0, g1, g2, g3⟩ := (D1.out.q q2).get4
  obtain ⟨⟨s0, s1, s2, s3⟩, h0, h1, h2, h3⟩ := (R1.out.q q2).get4
  clear q2 e0 e1 e2 e3 f0 f1 f2 f3
  go_wp2
  refine bodyPost_ret (v := .tuple #[dkv A1 n c1 room fuse true, .int .i64 6]) (by simp [results, Try.results12, go_sem, s0, s1, s2, s3, z1]) rfl ⟨A1, n, c1, rfl, (((HO2.out).set4 (b := w.heap.size + 1) (by omega) _ _ _ _).alloc _).lower (by omega), ((Q2.out).set4 (b := w.heap.size + 1) (by omega) _ _ _ _).alloc _⟩

set_option maxHeartbeats 1000000 in
set_option maxRecDepth 100000 in
theorem append_arg (nm s : ByteArray) (A : Option Addr) (n c : Nat) (room fuse : Int) (l : List Fil) (w : World) (hd : Dsk w A n c l) (f : Fil) (k : Nat) (hop : opn nm l = (f, k)) (hk : k ≤ n) (hf : f.sf.size + f.wt.size ≤ 2305843009213693952) (hs : s.size ≤ 2305843009213693952) (hn : nmOk nm = false) :
    Calls Try.prog 12 #[dkv A n c room fuse false, .string nm, .string s] w fun e w' => RetDE w ⟨l, room, fuse, false⟩ 1 e w' := by
  have HNM := Lib.hid hn
  clear hn
  have HD := Lib.hid hd
  have HN := Lib.hid hd.max
  have hlen := Lib.hid hd.len
  have hnm := hd.max
  unfold maxLen at hnm
  have HOP := Lib.hid hop
  clear hd hop
  obtain ⟨fa, fb, fc⟩ := f
  simp only at hf
  go_enter Try.func12, Try.ntmps12
  go_wp2_with fail
  have B0 := two_new w (.slice A n c) (.int .i64 room) (.int .i64 fuse) (.bool false) (.slice none 0 0) (.int .i64 0) (.int .i64 0) (.bool false) 24
  refine (own_any A n c room fuse false l _ (HD.out.q (((Q.refl _).alloc _).alloc _))).mono ?_
  rintro e w1 ⟨A1, c1, rfl, ho, q1⟩
  rw [size_two] at ho
  have HO := Lib.hid (ho.set4 (b := w.heap.size) (by omega) (.slice A1 n c1) (.int .i64 room) (.int .i64 fuse) (.bool false))
  have D1 := Lib.hid ((B0.1.q q1).put4 (.slice A1 n c1) (.int .i64 room) (.int .i64 fuse) (.bool false))
  have R1 := Lib.hid ((B0.2.q q1).far4 (c := w.heap.size) (by omega) (.slice A1 n c1) (.int .i64 room) (.int .i64 fuse) (.bool false))
  have Q1 := Lib.hid ((((((Q.refl w).alloc _).alloc _).trans q1)).set4 (b := w.heap.size) (Nat.le_refl _) (.slice A1 n c1) (.int .i64 room) (.int .i64 fuse) (.bool false))
  obtain ⟨⟨e0, e1, e2, e3⟩, f0, f1, f2, f3⟩ := (B0.1.q q1).get4
  clear B0 q1 ho
  go_wp2_with fail
  refine (open_any nm A1 n c1 room fuse false l _ HO.out.files HN.out).mono ?_
  rintro e w2 ⟨rfl, q2⟩
  rw [HOP.out]
  have HO2 := Lib.hid (HO.out.q q2)
  have Q2 := Lib.hid (Q1.out.trans q2)
  have z0 : w.heap.size < w2.heap.size := (D1.out.q q2).lt
  have z1 : w.heap.size + 1 < w2.heap.size := (R1.out.q q2).lt
  have z2 : w.heap.size ≠ w2.heap.size := by omega
  have z3 : w.heap.size + 1 ≠ w2.heap.size := by omega
  have D2 := Lib.hid (D1.out.q q2)
  have R2 := Lib.hid (R1.out.q q2)
  obtain ⟨⟨d0, d1, d2, d3⟩, g0, g1, g2, g3⟩ := (D1.out.q q2).get4
  obtain ⟨⟨s0, s1, s2, s3⟩, h0, h1, h2, h3⟩ := (R1.out.q q2).get4
  clear q2 e0 e1 e2 e3 f0 f1 f2 f3
  go_wp2_with fail
  refine (named_any nm _).mono ?_
  rintro e w' ⟨rfl, rfl⟩
  rw [HNM.out]
  go_wp2
  refine bodyPost_ret (v := .tuple #[dkv A1 n c1 room fuse false, .int .i64 1]) (by simp [results, Try.results12, go_sem, s0, s1, s2, s3, z1]) rfl ⟨A1, n, c1, rfl, (((HO2.out).set4 (b := w.heap.size + 1) (by omega) _ _ _ _).alloc _).lower (by omega), ((Q2.out).set4 (b := w.heap.size + 1) (by omega) _ _ _ _).alloc _⟩

set_option maxHeartbeats 1000000 in
set_option maxRecDepth 100000 in
theorem append_full1 (nm s : ByteArray) (A : Option Addr) (n c : Nat) (room fuse : Int) (l : List Fil) (w : World) (hd : Dsk w A n c l) (f : Fil) (k : Nat) (hop : opn nm l = (f, k)) (hk : k ≤ n) (hf : f.sf.size + f.wt.size ≤ 2305843009213693952) (hs : s.size ≤ 2305843009213693952) (hn : nmOk nm = true) (hkn : k = n) (h64 : 64 ≤ n) :
    Calls Try.prog 12 #[dkv A n c room fuse false, .string nm, .string s] w fun e w' => RetDE w ⟨l, room, fuse, false⟩ 5 e w' := by
  have hkn2 : n = k := hkn.symm
  subst hkn2
  clear hkn
  have HNM := Lib.hid hn
  clear hn
  have HD := Lib.hid hd
  have HN := Lib.hid hd.max
  have hlen := Lib.hid hd.len
  have hnm := hd.max
  unfold maxLen at hnm
  have HOP := Lib.hid hop
  clear hd hop
  obtain ⟨fa, fb, fc⟩ := f
  simp only at hf
  go_enter Try.func12, Try.ntmps12
  go_wp2_with fail
  have B0 := two_new w (.slice A n c) (.int .i64 room) (.int .i64 fuse) (.bool false) (.slice none 0 0) (.int .i64 0) (.int .i64 0) (.bool false) 24
  refine (own_any A n c room fuse false l _ (HD.out.q (((Q.refl _).alloc _).alloc _))).mono ?_
  rintro e w1 ⟨A1, c1, rfl, ho, q1⟩
  rw [size_two] at ho
  have HO := Lib.hid (ho.set4 (b := w.heap.size) (by omega) (.slice A1 n c1) (.int .i64 room) (.int .i64 fuse) (.bool false))
  have D1 := Lib.hid ((B0.1.q q1).put4 (.slice A1 n c1) (.int .i64 room) (.int .i64 fuse) (.bool false))
  have R1 := Lib.hid ((B0.2.q q1).far4 (c := w.heap.size) (by omega) (.slice A1 n c1) (.int .i64 room) (.int .i64 fuse) (.bool false))
  have Q1 := Lib.hid ((((((Q.refl w).alloc _).alloc _).trans q1)).set4 (b := w.heap.size) (Nat.le_refl _) (.slice A1 n c1) (.int .i64 room) (.int .i64 fuse) (.bool false))
  obtain ⟨⟨e0, e1, e2, e3⟩, f0, f1, f2, f3⟩ := (B0.1.q q1).get4
  clear B0 q1 ho
  go_wp2_with fail
  refine (open_any nm A1 n c1 room fuse false l _ HO.out.files HN.out).mono ?_
  rintro e w2 ⟨rfl, q2⟩
  rw [HOP.out]
  have HO2 := Lib.hid (HO.out.q q2)
  have Q2 := Lib.hid (Q1.out.trans q2)
  have z0 : w.heap.size < w2.heap.size := (D1.out.q q2).lt
  have z1 : w.heap.size + 1 < w2.heap.size := (R1.out.q q2).lt
  have z2 : w.heap.size ≠ w2.heap.size := by omega
  have z3 : w.heap.size + 1 ≠ w2.heap.size := by omega
  have D2 := Lib.hid (D1.out.q q2)
  have R2 := Lib.hid (R1.out.q q2)
  obtain ⟨⟨d0, d1, d2, d3⟩, g0, g1, g2, g3⟩ := (D1.out.q q2).get4
  obtain ⟨⟨s0, s1, s2, s3⟩, h0, h1, h2, h3⟩ := (R1.out.q q2).get4
  clear q2 e0 e1 e2 e3 f0 f1 f2 f3
  go_wp2_with fail
  refine (named_any nm _).mono ?_
  rintro e w' ⟨rfl, rfl⟩
  rw [HNM.out]
  go_wp2
  refine bodyPost_ret (v := .tuple #[dkv A1 n c1 room fuse false, .int .i64 5]) (by simp [results, Try.results12, go_sem, s0, s1, s2, s3, z1]) rfl ⟨A1, n, c1, rfl, (((HO2.out).set4 (b := w.heap.size + 1) (by omega) _ _ _ _).alloc _).lower (by omega), ((Q2.out).set4 (b := w.heap.size + 1) (by omega) _ _ _ _).alloc _⟩

end Go.Proofs.Ytpjadjbniddmgaa
