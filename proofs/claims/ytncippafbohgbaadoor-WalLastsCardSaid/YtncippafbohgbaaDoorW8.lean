/- WalDoes2, AppK, WalDoes3, WalDoesAny, WalOdd, WalSame, WalBegins, DiskRef5: merged. -/
import Derived.Test.YtncippafbohgbaaDoorW7
import Derived.Test.YtncippafbohgbaaDoorW5
import Derived.Test.YtncippafbohgbaaDoorW3
import Derived.Test.YtncippafbohgbaaDoorW4
/- The contract of an act of a log's law: a put. -/
namespace Go.Proofs.YtncippafbohgbaaDoor
set_option maxRecDepth 100000
open Go.RowKit Dkm Wm Wl
set_option linter.unusedVariables false
set_option linter.unusedSimpArgs false

set_option maxHeartbeats 8000000 in
theorem does_put_dead (num : Int) (s : ByteArray) (A : Option Addr) (n c : Nat) (P : Option Addr) (pn pc : Nat) (d : Dk) (seg : Int) (put : List Rec) (safe : Nat) (r : Dk) (sg er : Int) (w : World) (hT : Tab w) (hd : Dsk w A n c d.fs) (hB : Bnd 2305843009213693952 d) (hp : Strs w P pn put) (hnil : Nl P pn pc) (hs : s.size ≤ maxLen)
    (hr : putM d seg s = (r, sg, er))  :
    Calls Tryd.prog 6 #[.agg #[.slice A n c, .int .i64 d.room, .int .i64 d.fuse, .bool d.off, .int .i64 seg, .slice P pn pc, .int .i64 (safe : Int), .bool true], .agg #[.int .i64 1, .int .i64 num, .string s]] w fun e w' => RetLw w ⟨d, seg, put, safe, true⟩ e w' := by
  have HT := Lib.hid hT
  have HD := Lib.hid hd
  have HP := Lib.hid hp
  have HN := Lib.hid hnil
  have HPn := Lib.hid (show put.length = pn by have := hp.1; simpa using this)
  have K := Lib.hid (fun W (h1 : Tab W) (h2 : Dsk W A n c d.fs) => put_any seg s A n c d W h1 h2 hB hs)
  rw [hr] at K
  clear hT hd hp hnil hr hB hs
  go_enter Tryd.func6, Tryd.ntmps6
  go_upto_region 1 with (fail)
  have B0 : Hid (Db w [.slice A n c, .int .i64 d.room, .int .i64 d.fuse, .bool d.off, .int .i64 seg, .slice P pn pc, .int .i64 (safe : Int), .bool true] ⟨1, num, s⟩ (((w.alloc (.cells #[.slice A n c, .int .i64 d.room, .int .i64 d.fuse, .bool d.off, .int .i64 seg, .slice P pn pc, .int .i64 (safe : Int), .bool true] 31)).alloc (.cells #[.int .i64 1, .int .i64 num, .string s] 33)).alloc (.cells #[.slice none 0 0, .int .i64 0, .int .i64 0, .bool false, .int .i64 0, .slice none 0 0, .int .i64 0, .bool false] 31))) := Lib.hid (Db.new w [.slice A n c, .int .i64 d.room, .int .i64 d.fuse, .bool d.off, .int .i64 seg, .slice P pn pc, .int .i64 (safe : Int), .bool true] ⟨1, num, s⟩ 31 33)
  generalize (((w.alloc (.cells #[.slice A n c, .int .i64 d.room, .int .i64 d.fuse, .bool d.off, .int .i64 seg, .slice P pn pc, .int .i64 (safe : Int), .bool true] 31)).alloc (.cells #[.int .i64 1, .int .i64 num, .string s] 33)).alloc (.cells #[.slice none 0 0, .int .i64 0, .int .i64 0, .bool false, .int .i64 0, .slice none 0 0, .int .i64 0, .bool false] 31)) = W at B0 ⊢
  obtain ⟨⟨k0, k1, k2⟩, _⟩ := B0.out.ba.get3
  obtain ⟨⟨w0, w1, w2, w3, w4, w5, w6, w7⟩, f0, f1, f2, f3, f4, f5, f6, f7⟩ := B0.out.bw.get8
  obtain ⟨⟨r0, r1, r2, r3, r4, r5, r6, r7⟩, g0, g1, g2, g3, g4, g5, g6, g7⟩ := B0.out.br.get8
  go_wp2
  refine bodyPost_ret (v := .agg #[.slice A n c, .int .i64 d.room, .int .i64 d.fuse, .bool d.off, .int .i64 seg, .slice P pn pc, .int .i64 (safe : Int), .bool true]) (by simp [results, Tryd.results6, go_sem, r0, r1, r2, r3, r4, r5, r6, r7]) rfl ?_
  exact Dp.ends (lw := ⟨d, seg, put, safe, true⟩) (Dp.new (lw := ⟨d, seg, put, safe, true⟩) HD.out HP.out HN.out B0.out.q) B0.out.q _ _ _ _ _ _ _ _

set_option maxHeartbeats 8000000 in
theorem does_put_six (num : Int) (s : ByteArray) (A : Option Addr) (n c : Nat) (P : Option Addr) (pn pc : Nat) (d : Dk) (seg : Int) (put : List Rec) (safe : Nat) (r : Dk) (sg er : Int) (w : World) (hT : Tab w) (hd : Dsk w A n c d.fs) (hB : Bnd 2305843009213693952 d) (hp : Strs w P pn put) (hnil : Nl P pn pc) (hs : s.size ≤ maxLen)
    (hr : putM d seg s = (r, sg, er)) (he : er = 6) (hsg : seg = sg) :
    Calls Tryd.prog 6 #[.agg #[.slice A n c, .int .i64 d.room, .int .i64 d.fuse, .bool d.off, .int .i64 seg, .slice P pn pc, .int .i64 (safe : Int), .bool false], .agg #[.int .i64 1, .int .i64 num, .string s]] w fun e w' => RetLw w ⟨r, sg, put, safe, true⟩ e w' := by
  have HT := Lib.hid hT
  have HD := Lib.hid hd
  have HP := Lib.hid hp
  have HN := Lib.hid hnil
  have HPn := Lib.hid (show put.length = pn by have := hp.1; simpa using this)
  have K := Lib.hid (fun W (h1 : Tab W) (h2 : Dsk W A n c d.fs) => put_any seg s A n c d W h1 h2 hB hs)
  rw [hr] at K
  clear hT hd hp hnil hr hB hs
  subst he
  subst hsg
  go_enter Tryd.func6, Tryd.ntmps6
  go_upto_region 1 with (fail)
  have B0 : Hid (Db w [.slice A n c, .int .i64 d.room, .int .i64 d.fuse, .bool d.off, .int .i64 seg, .slice P pn pc, .int .i64 (safe : Int), .bool false] ⟨1, num, s⟩ (((w.alloc (.cells #[.slice A n c, .int .i64 d.room, .int .i64 d.fuse, .bool d.off, .int .i64 seg, .slice P pn pc, .int .i64 (safe : Int), .bool false] 31)).alloc (.cells #[.int .i64 1, .int .i64 num, .string s] 33)).alloc (.cells #[.slice none 0 0, .int .i64 0, .int .i64 0, .bool false, .int .i64 0, .slice none 0 0, .int .i64 0, .bool false] 31))) := Lib.hid (Db.new w [.slice A n c, .int .i64 d.room, .int .i64 d.fuse, .bool d.off, .int .i64 seg, .slice P pn pc, .int .i64 (safe : Int), .bool false] ⟨1, num, s⟩ 31 33)
  generalize (((w.alloc (.cells #[.slice A n c, .int .i64 d.room, .int .i64 d.fuse, .bool d.off, .int .i64 seg, .slice P pn pc, .int .i64 (safe : Int), .bool false] 31)).alloc (.cells #[.int .i64 1, .int .i64 num, .string s] 33)).alloc (.cells #[.slice none 0 0, .int .i64 0, .int .i64 0, .bool false, .int .i64 0, .slice none 0 0, .int .i64 0, .bool false] 31)) = W at B0 ⊢
  obtain ⟨⟨k0, k1, k2⟩, _⟩ := B0.out.ba.get3
  obtain ⟨⟨w0, w1, w2, w3, w4, w5, w6, w7⟩, f0, f1, f2, f3, f4, f5, f6, f7⟩ := B0.out.bw.get8
  go_wp2_with fail
  refine (K.out W (HT.out.q B0.out.q) (HD.out.q B0.out.q)).mono ?_
  rintro e W1 ⟨A2, n2, c2, rfl, hd2, hf2, q1⟩
  have hlt := B0.out.br.lt
  have HD2 := Lib.hid (hd2.q ((Q.refl _).alloc (.cells #[.slice A2 n2 c2, .int .i64 r.room, .int .i64 r.fuse, .bool r.off] 26)))
  have HP2 := Lib.hid (((HP.out.q B0.out.q).q q1).q ((Q.refl _).alloc (.cells #[.slice A2 n2 c2, .int .i64 r.room, .int .i64 r.fuse, .bool r.off] 26)))
  have B1 := Lib.hid (B0.out.step (q1.alloc (.cells #[.slice A2 n2 c2, .int .i64 r.room, .int .i64 r.fuse, .bool r.off] 26)))
  have ha2 := Lib.hid (show 0 < n2 → ∀ ad, A2 = some ad → ad.block ≠ w.heap.size ∧ ad.block ≠ w.heap.size + 1 + 1 from fun _ ad e => by have := hf2 ad e; omega)
  have hp2 := Lib.hid (show 0 < pn → ∀ ad, P = some ad → ad.block ≠ w.heap.size ∧ ad.block ≠ w.heap.size + 1 + 1 from fun hn ad e => by have := strs_blk HP.out hn ad e; omega)
  clear k0 k1 k2 w0 w1 w2 w3 w4 w5 w6 w7 f0 f1 f2 f3 f4 f5 f6 f7
  have QW1 := Lib.hid q1
  clear B0 q1 hd2 hf2
  have XB := Lib.hid (Bx.new W1 [.slice A2 n2 c2, .int .i64 r.room, .int .i64 r.fuse, .bool r.off] 26)
  have hg : w.heap.size + 1 + 1 < W1.heap.size := by have := QW1.out.size; omega
  go_upto_region 6 with (fail)
  clear QW1
  have XB : Hid (Bx (W1.alloc (.cells #[.slice A2 n2 c2, .int .i64 r.room, .int .i64 r.fuse, .bool r.off] 26)) W1.heap.size [.slice A2 n2 c2, .int .i64 r.room, .int .i64 r.fuse, .bool r.off]) := Lib.hid XB.out
  generalize W1.alloc (.cells #[.slice A2 n2 c2, .int .i64 r.room, .int .i64 r.fuse, .bool r.off] 26) = W2 at HD2 HP2 B1 XB ⊢
  generalize W1.heap.size = g at hg XB ⊢
  obtain ⟨⟨w0, w1, w2, w3, w4, w5, w6, w7⟩, f0, f1, f2, f3, f4, f5, f6, f7⟩ := B1.out.bw.get8
  obtain ⟨⟨x0, x1, x2, x3⟩, _⟩ := XB.out.get4
  go_upto_region 9 with (fail)
  have B2 := Lib.hid (B1.out.setD (.slice A2 n2 c2) (.int .i64 r.room) (.int .i64 r.fuse) (.bool r.off))
  have D2 := Lib.hid (dp_setD (w := w) (lw := ⟨r, seg, put, safe, true⟩) (n := n2) (c := c2) (pc := pc) HD2.out HP2.out HN.out ha2.out hp2.out (.slice A2 n2 c2) (.int .i64 r.room) (.int .i64 r.fuse) (.bool r.off))
  clear w0 w1 w2 w3 w4 w5 w6 w7 f0 f1 f2 f3 f4 f5 f6 f7 x0 x1 x2 x3 B1 XB HD2 HP2
  generalize ((((W2.setCell ⟨w.heap.size, 0, none⟩ (.slice A2 n2 c2)).setCell ⟨w.heap.size, 1, none⟩ (.int .i64 r.room)).setCell ⟨w.heap.size, 2, none⟩ (.int .i64 r.fuse)).setCell ⟨w.heap.size, 3, none⟩ (.bool r.off)) = W3 at B2 D2 ⊢
  obtain ⟨⟨w0, w1, w2, w3, w4, w5, w6, w7⟩, f0, f1, f2, f3, f4, f5, f6, f7⟩ := B2.out.bw.get8
  go_upto_region 20 with (fail)
  have B3 : Hid (Db w [.slice A2 n2 c2, .int .i64 r.room, .int .i64 r.fuse, .bool r.off, .int .i64 seg, .slice P pn pc, .int .i64 (safe : Int), .bool true] ⟨1, num, s⟩ ((W3.setCell ⟨w.heap.size, 4, none⟩ (.int .i64 seg)).setCell ⟨w.heap.size, 7, none⟩ (.bool true))) := Lib.hid ((B2.out.set1 (k := 4) (by simp) (.int .i64 seg)).set1 (k := 7) (by simp) (.bool true))
  have D3 := Lib.hid ((D2.out.set1 4 (.int .i64 seg)).set1 7 (.bool true))
  clear w0 w1 w2 w3 w4 w5 w6 w7 f0 f1 f2 f3 f4 f5 f6 f7 B2 D2
  generalize (W3.setCell ⟨w.heap.size, 4, none⟩ (.int .i64 seg)).setCell ⟨w.heap.size, 7, none⟩ (.bool true) = W4 at B3 D3 ⊢
  obtain ⟨⟨w0, w1, w2, w3, w4, w5, w6, w7⟩, _⟩ := B3.out.bw.get8
  obtain ⟨⟨r0, r1, r2, r3, r4, r5, r6, r7⟩, g0, g1, g2, g3, g4, g5, g6, g7⟩ := B3.out.br.get8
  go_wp2
  refine bodyPost_ret (v := .agg #[.slice A2 n2 c2, .int .i64 r.room, .int .i64 r.fuse, .bool r.off, .int .i64 seg, .slice P pn pc, .int .i64 (safe : Int), .bool true]) (by simp [results, Tryd.results6, go_sem, r0, r1, r2, r3, r4, r5, r6, r7]) rfl ?_
  have hE := Dp.ends D3.out B3.out.q (.slice A2 n2 c2) (.int .i64 r.room) (.int .i64 r.fuse) (.bool r.off) (.int .i64 seg) (.slice P pn pc) (.int .i64 (safe : Int)) (.bool true)
  (try simp only [HPn.out] at hE)
  (try rw [HPn.out])
  exact hE

set_option maxHeartbeats 8000000 in
theorem does_put_six_on (num : Int) (s : ByteArray) (A : Option Addr) (n c : Nat) (P : Option Addr) (pn pc : Nat) (d : Dk) (seg : Int) (put : List Rec) (safe : Nat) (r : Dk) (sg er : Int) (w : World) (hT : Tab w) (hd : Dsk w A n c d.fs) (hB : Bnd 2305843009213693952 d) (hp : Strs w P pn put) (hnil : Nl P pn pc) (hs : s.size ≤ maxLen)
    (hr : putM d seg s = (r, sg, er)) (he : er = 6) (hsg : sg ≠ seg) :
    Calls Tryd.prog 6 #[.agg #[.slice A n c, .int .i64 d.room, .int .i64 d.fuse, .bool d.off, .int .i64 seg, .slice P pn pc, .int .i64 (safe : Int), .bool false], .agg #[.int .i64 1, .int .i64 num, .string s]] w fun e w' => RetLw w ⟨r, sg, put, put.length, true⟩ e w' := by
  have HT := Lib.hid hT
  have HD := Lib.hid hd
  have HP := Lib.hid hp
  have HN := Lib.hid hnil
  have HPn := Lib.hid (show put.length = pn by have := hp.1; simpa using this)
  have K := Lib.hid (fun W (h1 : Tab W) (h2 : Dsk W A n c d.fs) => put_any seg s A n c d W h1 h2 hB hs)
  rw [hr] at K
  clear hT hd hp hnil hr hB hs
  subst he
  have hs1 : (sg == seg) = false := by simpa using hsg
  go_enter Tryd.func6, Tryd.ntmps6
  go_upto_region 1 with (fail)
  have B0 : Hid (Db w [.slice A n c, .int .i64 d.room, .int .i64 d.fuse, .bool d.off, .int .i64 seg, .slice P pn pc, .int .i64 (safe : Int), .bool false] ⟨1, num, s⟩ (((w.alloc (.cells #[.slice A n c, .int .i64 d.room, .int .i64 d.fuse, .bool d.off, .int .i64 seg, .slice P pn pc, .int .i64 (safe : Int), .bool false] 31)).alloc (.cells #[.int .i64 1, .int .i64 num, .string s] 33)).alloc (.cells #[.slice none 0 0, .int .i64 0, .int .i64 0, .bool false, .int .i64 0, .slice none 0 0, .int .i64 0, .bool false] 31))) := Lib.hid (Db.new w [.slice A n c, .int .i64 d.room, .int .i64 d.fuse, .bool d.off, .int .i64 seg, .slice P pn pc, .int .i64 (safe : Int), .bool false] ⟨1, num, s⟩ 31 33)
  generalize (((w.alloc (.cells #[.slice A n c, .int .i64 d.room, .int .i64 d.fuse, .bool d.off, .int .i64 seg, .slice P pn pc, .int .i64 (safe : Int), .bool false] 31)).alloc (.cells #[.int .i64 1, .int .i64 num, .string s] 33)).alloc (.cells #[.slice none 0 0, .int .i64 0, .int .i64 0, .bool false, .int .i64 0, .slice none 0 0, .int .i64 0, .bool false] 31)) = W at B0 ⊢
  obtain ⟨⟨k0, k1, k2⟩, _⟩ := B0.out.ba.get3
  obtain ⟨⟨w0, w1, w2, w3, w4, w5, w6, w7⟩, f0, f1, f2, f3, f4, f5, f6, f7⟩ := B0.out.bw.get8
  go_wp2_with fail
  refine (K.out W (HT.out.q B0.out.q) (HD.out.q B0.out.q)).mono ?_
  rintro e W1 ⟨A2, n2, c2, rfl, hd2, hf2, q1⟩
  have hlt := B0.out.br.lt
  have HD2 := Lib.hid (hd2.q ((Q.refl _).alloc (.cells #[.slice A2 n2 c2, .int .i64 r.room, .int .i64 r.fuse, .bool r.off] 26)))
  have HP2 := Lib.hid (((HP.out.q B0.out.q).q q1).q ((Q.refl _).alloc (.cells #[.slice A2 n2 c2, .int .i64 r.room, .int .i64 r.fuse, .bool r.off] 26)))
  have B1 := Lib.hid (B0.out.step (q1.alloc (.cells #[.slice A2 n2 c2, .int .i64 r.room, .int .i64 r.fuse, .bool r.off] 26)))
  have ha2 := Lib.hid (show 0 < n2 → ∀ ad, A2 = some ad → ad.block ≠ w.heap.size ∧ ad.block ≠ w.heap.size + 1 + 1 from fun _ ad e => by have := hf2 ad e; omega)
  have hp2 := Lib.hid (show 0 < pn → ∀ ad, P = some ad → ad.block ≠ w.heap.size ∧ ad.block ≠ w.heap.size + 1 + 1 from fun hn ad e => by have := strs_blk HP.out hn ad e; omega)
  clear k0 k1 k2 w0 w1 w2 w3 w4 w5 w6 w7 f0 f1 f2 f3 f4 f5 f6 f7
  have QW1 := Lib.hid q1
  clear B0 q1 hd2 hf2
  have XB := Lib.hid (Bx.new W1 [.slice A2 n2 c2, .int .i64 r.room, .int .i64 r.fuse, .bool r.off] 26)
  have hg : w.heap.size + 1 + 1 < W1.heap.size := by have := QW1.out.size; omega
  go_upto_region 6 with (fail)
  clear QW1
  have XB : Hid (Bx (W1.alloc (.cells #[.slice A2 n2 c2, .int .i64 r.room, .int .i64 r.fuse, .bool r.off] 26)) W1.heap.size [.slice A2 n2 c2, .int .i64 r.room, .int .i64 r.fuse, .bool r.off]) := Lib.hid XB.out
  generalize W1.alloc (.cells #[.slice A2 n2 c2, .int .i64 r.room, .int .i64 r.fuse, .bool r.off] 26) = W2 at HD2 HP2 B1 XB ⊢
  generalize W1.heap.size = g at hg XB ⊢
  obtain ⟨⟨w0, w1, w2, w3, w4, w5, w6, w7⟩, f0, f1, f2, f3, f4, f5, f6, f7⟩ := B1.out.bw.get8
  obtain ⟨⟨x0, x1, x2, x3⟩, _⟩ := XB.out.get4
  go_upto_region 8 with (fail)
  have B15 := Lib.hid (B1.out.set1 (k := 6) (by simp) (.int .i64 (pn : Int)))
  have B1 : Hid (Db w [.slice A n c, .int .i64 d.room, .int .i64 d.fuse, .bool d.off, .int .i64 seg, .slice P pn pc, .int .i64 (pn : Int), .bool false] ⟨1, num, s⟩ (W2.setCell ⟨w.heap.size, 6, none⟩ (.int .i64 (pn : Int)))) := Lib.hid B15.out
  have HD2 := Lib.hid (HD2.out.away1 (fun hn ad e => (ha2.out hn ad e).1) 6 (.int .i64 (pn : Int)))
  have HP2 := Lib.hid (HP2.out.away1 (fun hn ad e => (hp2.out hn ad e).1) 6 (.int .i64 (pn : Int)))
  have XB := Lib.hid (XB.out.far (p := ⟨w.heap.size, 6, none⟩) (by show w.heap.size ≠ g; omega) (.int .i64 (pn : Int)))
  clear w0 w1 w2 w3 w4 w5 w6 w7 f0 f1 f2 f3 f4 f5 f6 f7 x0 x1 x2 x3 B15
  generalize W2.setCell ⟨w.heap.size, 6, none⟩ (.int .i64 (pn : Int)) = W25 at B1 HD2 HP2 XB ⊢
  obtain ⟨⟨w0, w1, w2, w3, w4, w5, w6, w7⟩, f0, f1, f2, f3, f4, f5, f6, f7⟩ := B1.out.bw.get8
  obtain ⟨⟨x0, x1, x2, x3⟩, _⟩ := XB.out.get4
  go_upto_region 9 with (fail)
  have B2 := Lib.hid (B1.out.setD (.slice A2 n2 c2) (.int .i64 r.room) (.int .i64 r.fuse) (.bool r.off))
  have D2 := Lib.hid (dp_setD (w := w) (lw := ⟨r, sg, put, put.length, true⟩) (n := n2) (c := c2) (pc := pc) HD2.out HP2.out HN.out ha2.out hp2.out (.slice A2 n2 c2) (.int .i64 r.room) (.int .i64 r.fuse) (.bool r.off))
  clear w0 w1 w2 w3 w4 w5 w6 w7 f0 f1 f2 f3 f4 f5 f6 f7 x0 x1 x2 x3 B1 XB HD2 HP2
  generalize ((((W25.setCell ⟨w.heap.size, 0, none⟩ (.slice A2 n2 c2)).setCell ⟨w.heap.size, 1, none⟩ (.int .i64 r.room)).setCell ⟨w.heap.size, 2, none⟩ (.int .i64 r.fuse)).setCell ⟨w.heap.size, 3, none⟩ (.bool r.off)) = W3 at B2 D2 ⊢
  obtain ⟨⟨w0, w1, w2, w3, w4, w5, w6, w7⟩, f0, f1, f2, f3, f4, f5, f6, f7⟩ := B2.out.bw.get8
  go_upto_region 20 with (fail)
  have B3 : Hid (Db w [.slice A2 n2 c2, .int .i64 r.room, .int .i64 r.fuse, .bool r.off, .int .i64 sg, .slice P pn pc, .int .i64 (pn : Int), .bool true] ⟨1, num, s⟩ ((W3.setCell ⟨w.heap.size, 4, none⟩ (.int .i64 sg)).setCell ⟨w.heap.size, 7, none⟩ (.bool true))) := Lib.hid ((B2.out.set1 (k := 4) (by simp) (.int .i64 sg)).set1 (k := 7) (by simp) (.bool true))
  have D3 := Lib.hid ((D2.out.set1 4 (.int .i64 sg)).set1 7 (.bool true))
  clear w0 w1 w2 w3 w4 w5 w6 w7 f0 f1 f2 f3 f4 f5 f6 f7 B2 D2
  generalize (W3.setCell ⟨w.heap.size, 4, none⟩ (.int .i64 sg)).setCell ⟨w.heap.size, 7, none⟩ (.bool true) = W4 at B3 D3 ⊢
  obtain ⟨⟨w0, w1, w2, w3, w4, w5, w6, w7⟩, _⟩ := B3.out.bw.get8
  obtain ⟨⟨r0, r1, r2, r3, r4, r5, r6, r7⟩, g0, g1, g2, g3, g4, g5, g6, g7⟩ := B3.out.br.get8
  go_wp2
  refine bodyPost_ret (v := .agg #[.slice A2 n2 c2, .int .i64 r.room, .int .i64 r.fuse, .bool r.off, .int .i64 sg, .slice P pn pc, .int .i64 (pn : Int), .bool true]) (by simp [results, Tryd.results6, go_sem, r0, r1, r2, r3, r4, r5, r6, r7]) rfl ?_
  have hE := Dp.ends D3.out B3.out.q (.slice A2 n2 c2) (.int .i64 r.room) (.int .i64 r.fuse) (.bool r.off) (.int .i64 sg) (.slice P pn pc) (.int .i64 (pn : Int)) (.bool true)
  (try simp only [HPn.out] at hE)
  (try rw [HPn.out])
  exact hE

set_option maxHeartbeats 8000000 in
theorem does_put_bad (num : Int) (s : ByteArray) (A : Option Addr) (n c : Nat) (P : Option Addr) (pn pc : Nat) (d : Dk) (seg : Int) (put : List Rec) (safe : Nat) (r : Dk) (sg er : Int) (w : World) (hT : Tab w) (hd : Dsk w A n c d.fs) (hB : Bnd 2305843009213693952 d) (hp : Strs w P pn put) (hnil : Nl P pn pc) (hs : s.size ≤ maxLen)
    (hr : putM d seg s = (r, sg, er)) (he : er ≠ 0 ∧ er ≠ 6) (hsg : seg = sg) :
    Calls Tryd.prog 6 #[.agg #[.slice A n c, .int .i64 d.room, .int .i64 d.fuse, .bool d.off, .int .i64 seg, .slice P pn pc, .int .i64 (safe : Int), .bool false], .agg #[.int .i64 1, .int .i64 num, .string s]] w fun e w' => RetLw w ⟨r, sg, put, safe, false⟩ e w' := by
  have HT := Lib.hid hT
  have HD := Lib.hid hd
  have HP := Lib.hid hp
  have HN := Lib.hid hnil
  have HPn := Lib.hid (show put.length = pn by have := hp.1; simpa using this)
  have K := Lib.hid (fun W (h1 : Tab W) (h2 : Dsk W A n c d.fs) => put_any seg s A n c d W h1 h2 hB hs)
  rw [hr] at K
  clear hT hd hp hnil hr hB hs
  obtain ⟨he0, he6⟩ := he
  have he1 : (er == 0) = false := by simpa using he0
  have he2 : (er == 6) = false := by simpa using he6
  subst hsg
  go_enter Tryd.func6, Tryd.ntmps6
  go_upto_region 1 with (fail)
  have B0 : Hid (Db w [.slice A n c, .int .i64 d.room, .int .i64 d.fuse, .bool d.off, .int .i64 seg, .slice P pn pc, .int .i64 (safe : Int), .bool false] ⟨1, num, s⟩ (((w.alloc (.cells #[.slice A n c, .int .i64 d.room, .int .i64 d.fuse, .bool d.off, .int .i64 seg, .slice P pn pc, .int .i64 (safe : Int), .bool false] 31)).alloc (.cells #[.int .i64 1, .int .i64 num, .string s] 33)).alloc (.cells #[.slice none 0 0, .int .i64 0, .int .i64 0, .bool false, .int .i64 0, .slice none 0 0, .int .i64 0, .bool false] 31))) := Lib.hid (Db.new w [.slice A n c, .int .i64 d.room, .int .i64 d.fuse, .bool d.off, .int .i64 seg, .slice P pn pc, .int .i64 (safe : Int), .bool false] ⟨1, num, s⟩ 31 33)
  generalize (((w.alloc (.cells #[.slice A n c, .int .i64 d.room, .int .i64 d.fuse, .bool d.off, .int .i64 seg, .slice P pn pc, .int .i64 (safe : Int), .bool false] 31)).alloc (.cells #[.int .i64 1, .int .i64 num, .string s] 33)).alloc (.cells #[.slice none 0 0, .int .i64 0, .int .i64 0, .bool false, .int .i64 0, .slice none 0 0, .int .i64 0, .bool false] 31)) = W at B0 ⊢
  obtain ⟨⟨k0, k1, k2⟩, _⟩ := B0.out.ba.get3
  obtain ⟨⟨w0, w1, w2, w3, w4, w5, w6, w7⟩, f0, f1, f2, f3, f4, f5, f6, f7⟩ := B0.out.bw.get8
  go_wp2_with fail
  refine (K.out W (HT.out.q B0.out.q) (HD.out.q B0.out.q)).mono ?_
  rintro e W1 ⟨A2, n2, c2, rfl, hd2, hf2, q1⟩
  have hlt := B0.out.br.lt
  have HD2 := Lib.hid (hd2.q ((Q.refl _).alloc (.cells #[.slice A2 n2 c2, .int .i64 r.room, .int .i64 r.fuse, .bool r.off] 26)))
  have HP2 := Lib.hid (((HP.out.q B0.out.q).q q1).q ((Q.refl _).alloc (.cells #[.slice A2 n2 c2, .int .i64 r.room, .int .i64 r.fuse, .bool r.off] 26)))
  have B1 := Lib.hid (B0.out.step (q1.alloc (.cells #[.slice A2 n2 c2, .int .i64 r.room, .int .i64 r.fuse, .bool r.off] 26)))
  have ha2 := Lib.hid (show 0 < n2 → ∀ ad, A2 = some ad → ad.block ≠ w.heap.size ∧ ad.block ≠ w.heap.size + 1 + 1 from fun _ ad e => by have := hf2 ad e; omega)
  have hp2 := Lib.hid (show 0 < pn → ∀ ad, P = some ad → ad.block ≠ w.heap.size ∧ ad.block ≠ w.heap.size + 1 + 1 from fun hn ad e => by have := strs_blk HP.out hn ad e; omega)
  clear k0 k1 k2 w0 w1 w2 w3 w4 w5 w6 w7 f0 f1 f2 f3 f4 f5 f6 f7
  have QW1 := Lib.hid q1
  clear B0 q1 hd2 hf2
  have XB := Lib.hid (Bx.new W1 [.slice A2 n2 c2, .int .i64 r.room, .int .i64 r.fuse, .bool r.off] 26)
  have hg : w.heap.size + 1 + 1 < W1.heap.size := by have := QW1.out.size; omega
  go_upto_region 6 with (fail)
  clear QW1
  have XB : Hid (Bx (W1.alloc (.cells #[.slice A2 n2 c2, .int .i64 r.room, .int .i64 r.fuse, .bool r.off] 26)) W1.heap.size [.slice A2 n2 c2, .int .i64 r.room, .int .i64 r.fuse, .bool r.off]) := Lib.hid XB.out
  generalize W1.alloc (.cells #[.slice A2 n2 c2, .int .i64 r.room, .int .i64 r.fuse, .bool r.off] 26) = W2 at HD2 HP2 B1 XB ⊢
  generalize W1.heap.size = g at hg XB ⊢
  obtain ⟨⟨w0, w1, w2, w3, w4, w5, w6, w7⟩, f0, f1, f2, f3, f4, f5, f6, f7⟩ := B1.out.bw.get8
  obtain ⟨⟨x0, x1, x2, x3⟩, _⟩ := XB.out.get4
  go_upto_region 9 with (fail)
  have B2 := Lib.hid (B1.out.setD (.slice A2 n2 c2) (.int .i64 r.room) (.int .i64 r.fuse) (.bool r.off))
  have D2 := Lib.hid (dp_setD (w := w) (lw := ⟨r, seg, put, safe, false⟩) (n := n2) (c := c2) (pc := pc) HD2.out HP2.out HN.out ha2.out hp2.out (.slice A2 n2 c2) (.int .i64 r.room) (.int .i64 r.fuse) (.bool r.off))
  clear w0 w1 w2 w3 w4 w5 w6 w7 f0 f1 f2 f3 f4 f5 f6 f7 x0 x1 x2 x3 B1 XB HD2 HP2
  generalize ((((W2.setCell ⟨w.heap.size, 0, none⟩ (.slice A2 n2 c2)).setCell ⟨w.heap.size, 1, none⟩ (.int .i64 r.room)).setCell ⟨w.heap.size, 2, none⟩ (.int .i64 r.fuse)).setCell ⟨w.heap.size, 3, none⟩ (.bool r.off)) = W3 at B2 D2 ⊢
  obtain ⟨⟨w0, w1, w2, w3, w4, w5, w6, w7⟩, f0, f1, f2, f3, f4, f5, f6, f7⟩ := B2.out.bw.get8
  go_upto_region 20 with (fail)
  have B3 : Hid (Db w [.slice A2 n2 c2, .int .i64 r.room, .int .i64 r.fuse, .bool r.off, .int .i64 seg, .slice P pn pc, .int .i64 (safe : Int), .bool false] ⟨1, num, s⟩ ((W3.setCell ⟨w.heap.size, 4, none⟩ (.int .i64 seg)).setCell ⟨w.heap.size, 7, none⟩ (.bool false))) := Lib.hid ((B2.out.set1 (k := 4) (by simp) (.int .i64 seg)).set1 (k := 7) (by simp) (.bool false))
  have D3 := Lib.hid ((D2.out.set1 4 (.int .i64 seg)).set1 7 (.bool false))
  clear w0 w1 w2 w3 w4 w5 w6 w7 f0 f1 f2 f3 f4 f5 f6 f7 B2 D2
  generalize (W3.setCell ⟨w.heap.size, 4, none⟩ (.int .i64 seg)).setCell ⟨w.heap.size, 7, none⟩ (.bool false) = W4 at B3 D3 ⊢
  obtain ⟨⟨w0, w1, w2, w3, w4, w5, w6, w7⟩, _⟩ := B3.out.bw.get8
  obtain ⟨⟨r0, r1, r2, r3, r4, r5, r6, r7⟩, g0, g1, g2, g3, g4, g5, g6, g7⟩ := B3.out.br.get8
  go_wp2
  refine bodyPost_ret (v := .agg #[.slice A2 n2 c2, .int .i64 r.room, .int .i64 r.fuse, .bool r.off, .int .i64 seg, .slice P pn pc, .int .i64 (safe : Int), .bool false]) (by simp [results, Tryd.results6, go_sem, r0, r1, r2, r3, r4, r5, r6, r7]) rfl ?_
  have hE := Dp.ends D3.out B3.out.q (.slice A2 n2 c2) (.int .i64 r.room) (.int .i64 r.fuse) (.bool r.off) (.int .i64 seg) (.slice P pn pc) (.int .i64 (safe : Int)) (.bool false)
  (try simp only [HPn.out] at hE)
  (try rw [HPn.out])
  exact hE

set_option maxHeartbeats 8000000 in
theorem does_put_bad_on (num : Int) (s : ByteArray) (A : Option Addr) (n c : Nat) (P : Option Addr) (pn pc : Nat) (d : Dk) (seg : Int) (put : List Rec) (safe : Nat) (r : Dk) (sg er : Int) (w : World) (hT : Tab w) (hd : Dsk w A n c d.fs) (hB : Bnd 2305843009213693952 d) (hp : Strs w P pn put) (hnil : Nl P pn pc) (hs : s.size ≤ maxLen)
    (hr : putM d seg s = (r, sg, er)) (he : er ≠ 0 ∧ er ≠ 6) (hsg : sg ≠ seg) :
    Calls Tryd.prog 6 #[.agg #[.slice A n c, .int .i64 d.room, .int .i64 d.fuse, .bool d.off, .int .i64 seg, .slice P pn pc, .int .i64 (safe : Int), .bool false], .agg #[.int .i64 1, .int .i64 num, .string s]] w fun e w' => RetLw w ⟨r, sg, put, put.length, false⟩ e w' := by
  have HT := Lib.hid hT
  have HD := Lib.hid hd
  have HP := Lib.hid hp
  have HN := Lib.hid hnil
  have HPn := Lib.hid (show put.length = pn by have := hp.1; simpa using this)
  have K := Lib.hid (fun W (h1 : Tab W) (h2 : Dsk W A n c d.fs) => put_any seg s A n c d W h1 h2 hB hs)
  rw [hr] at K
  clear hT hd hp hnil hr hB hs
  obtain ⟨he0, he6⟩ := he
  have he1 : (er == 0) = false := by simpa using he0
  have he2 : (er == 6) = false := by simpa using he6
  have hs1 : (sg == seg) = false := by simpa using hsg
  go_enter Tryd.func6, Tryd.ntmps6
  go_upto_region 1 with (fail)
  have B0 : Hid (Db w [.slice A n c, .int .i64 d.room, .int .i64 d.fuse, .bool d.off, .int .i64 seg, .slice P pn pc, .int .i64 (safe : Int), .bool false] ⟨1, num, s⟩ (((w.alloc (.cells #[.slice A n c, .int .i64 d.room, .int .i64 d.fuse, .bool d.off, .int .i64 seg, .slice P pn pc, .int .i64 (safe : Int), .bool false] 31)).alloc (.cells #[.int .i64 1, .int .i64 num, .string s] 33)).alloc (.cells #[.slice none 0 0, .int .i64 0, .int .i64 0, .bool false, .int .i64 0, .slice none 0 0, .int .i64 0, .bool false] 31))) := Lib.hid (Db.new w [.slice A n c, .int .i64 d.room, .int .i64 d.fuse, .bool d.off, .int .i64 seg, .slice P pn pc, .int .i64 (safe : Int), .bool false] ⟨1, num, s⟩ 31 33)
  generalize (((w.alloc (.cells #[.slice A n c, .int .i64 d.room, .int .i64 d.fuse, .bool d.off, .int .i64 seg, .slice P pn pc, .int .i64 (safe : Int), .bool false] 31)).alloc (.cells #[.int .i64 1, .int .i64 num, .string s] 33)).alloc (.cells #[.slice none 0 0, .int .i64 0, .int .i64 0, .bool false, .int .i64 0, .slice none 0 0, .int .i64 0, .bool false] 31)) = W at B0 ⊢
  obtain ⟨⟨k0, k1, k2⟩, _⟩ := B0.out.ba.get3
  obtain ⟨⟨w0, w1, w2, w3, w4, w5, w6, w7⟩, f0, f1, f2, f3, f4, f5, f6, f7⟩ := B0.out.bw.get8
  go_wp2_with fail
  refine (K.out W (HT.out.q B0.out.q) (HD.out.q B0.out.q)).mono ?_
  rintro e W1 ⟨A2, n2, c2, rfl, hd2, hf2, q1⟩
  have hlt := B0.out.br.lt
  have HD2 := Lib.hid (hd2.q ((Q.refl _).alloc (.cells #[.slice A2 n2 c2, .int .i64 r.room, .int .i64 r.fuse, .bool r.off] 26)))
  have HP2 := Lib.hid (((HP.out.q B0.out.q).q q1).q ((Q.refl _).alloc (.cells #[.slice A2 n2 c2, .int .i64 r.room, .int .i64 r.fuse, .bool r.off] 26)))
  have B1 := Lib.hid (B0.out.step (q1.alloc (.cells #[.slice A2 n2 c2, .int .i64 r.room, .int .i64 r.fuse, .bool r.off] 26)))
  have ha2 := Lib.hid (show 0 < n2 → ∀ ad, A2 = some ad → ad.block ≠ w.heap.size ∧ ad.block ≠ w.heap.size + 1 + 1 from fun _ ad e => by have := hf2 ad e; omega)
  have hp2 := Lib.hid (show 0 < pn → ∀ ad, P = some ad → ad.block ≠ w.heap.size ∧ ad.block ≠ w.heap.size + 1 + 1 from fun hn ad e => by have := strs_blk HP.out hn ad e; omega)
  clear k0 k1 k2 w0 w1 w2 w3 w4 w5 w6 w7 f0 f1 f2 f3 f4 f5 f6 f7
  have QW1 := Lib.hid q1
  clear B0 q1 hd2 hf2
  have XB := Lib.hid (Bx.new W1 [.slice A2 n2 c2, .int .i64 r.room, .int .i64 r.fuse, .bool r.off] 26)
  have hg : w.heap.size + 1 + 1 < W1.heap.size := by have := QW1.out.size; omega
  go_upto_region 6 with (fail)
  clear QW1
  have XB : Hid (Bx (W1.alloc (.cells #[.slice A2 n2 c2, .int .i64 r.room, .int .i64 r.fuse, .bool r.off] 26)) W1.heap.size [.slice A2 n2 c2, .int .i64 r.room, .int .i64 r.fuse, .bool r.off]) := Lib.hid XB.out
  generalize W1.alloc (.cells #[.slice A2 n2 c2, .int .i64 r.room, .int .i64 r.fuse, .bool r.off] 26) = W2 at HD2 HP2 B1 XB ⊢
  generalize W1.heap.size = g at hg XB ⊢
  obtain ⟨⟨w0, w1, w2, w3, w4, w5, w6, w7⟩, f0, f1, f2, f3, f4, f5, f6, f7⟩ := B1.out.bw.get8
  obtain ⟨⟨x0, x1, x2, x3⟩, _⟩ := XB.out.get4
  go_upto_region 8 with (fail)
  have B15 := Lib.hid (B1.out.set1 (k := 6) (by simp) (.int .i64 (pn : Int)))
  have B1 : Hid (Db w [.slice A n c, .int .i64 d.room, .int .i64 d.fuse, .bool d.off, .int .i64 seg, .slice P pn pc, .int .i64 (pn : Int), .bool false] ⟨1, num, s⟩ (W2.setCell ⟨w.heap.size, 6, none⟩ (.int .i64 (pn : Int)))) := Lib.hid B15.out
  have HD2 := Lib.hid (HD2.out.away1 (fun hn ad e => (ha2.out hn ad e).1) 6 (.int .i64 (pn : Int)))
  have HP2 := Lib.hid (HP2.out.away1 (fun hn ad e => (hp2.out hn ad e).1) 6 (.int .i64 (pn : Int)))
  have XB := Lib.hid (XB.out.far (p := ⟨w.heap.size, 6, none⟩) (by show w.heap.size ≠ g; omega) (.int .i64 (pn : Int)))
  clear w0 w1 w2 w3 w4 w5 w6 w7 f0 f1 f2 f3 f4 f5 f6 f7 x0 x1 x2 x3 B15
  generalize W2.setCell ⟨w.heap.size, 6, none⟩ (.int .i64 (pn : Int)) = W25 at B1 HD2 HP2 XB ⊢
  obtain ⟨⟨w0, w1, w2, w3, w4, w5, w6, w7⟩, f0, f1, f2, f3, f4, f5, f6, f7⟩ := B1.out.bw.get8
  obtain ⟨⟨x0, x1, x2, x3⟩, _⟩ := XB.out.get4
  go_upto_region 9 with (fail)
  have B2 := Lib.hid (B1.out.setD (.slice A2 n2 c2) (.int .i64 r.room) (.int .i64 r.fuse) (.bool r.off))
  have D2 := Lib.hid (dp_setD (w := w) (lw := ⟨r, sg, put, put.length, false⟩) (n := n2) (c := c2) (pc := pc) HD2.out HP2.out HN.out ha2.out hp2.out (.slice A2 n2 c2) (.int .i64 r.room) (.int .i64 r.fuse) (.bool r.off))
  clear w0 w1 w2 w3 w4 w5 w6 w7 f0 f1 f2 f3 f4 f5 f6 f7 x0 x1 x2 x3 B1 XB HD2 HP2
  generalize ((((W25.setCell ⟨w.heap.size, 0, none⟩ (.slice A2 n2 c2)).setCell ⟨w.heap.size, 1, none⟩ (.int .i64 r.room)).setCell ⟨w.heap.size, 2, none⟩ (.int .i64 r.fuse)).setCell ⟨w.heap.size, 3, none⟩ (.bool r.off)) = W3 at B2 D2 ⊢
  obtain ⟨⟨w0, w1, w2, w3, w4, w5, w6, w7⟩, f0, f1, f2, f3, f4, f5, f6, f7⟩ := B2.out.bw.get8
  go_upto_region 20 with (fail)
  have B3 : Hid (Db w [.slice A2 n2 c2, .int .i64 r.room, .int .i64 r.fuse, .bool r.off, .int .i64 sg, .slice P pn pc, .int .i64 (pn : Int), .bool false] ⟨1, num, s⟩ ((W3.setCell ⟨w.heap.size, 4, none⟩ (.int .i64 sg)).setCell ⟨w.heap.size, 7, none⟩ (.bool false))) := Lib.hid ((B2.out.set1 (k := 4) (by simp) (.int .i64 sg)).set1 (k := 7) (by simp) (.bool false))
  have D3 := Lib.hid ((D2.out.set1 4 (.int .i64 sg)).set1 7 (.bool false))
  clear w0 w1 w2 w3 w4 w5 w6 w7 f0 f1 f2 f3 f4 f5 f6 f7 B2 D2
  generalize (W3.setCell ⟨w.heap.size, 4, none⟩ (.int .i64 sg)).setCell ⟨w.heap.size, 7, none⟩ (.bool false) = W4 at B3 D3 ⊢
  obtain ⟨⟨w0, w1, w2, w3, w4, w5, w6, w7⟩, _⟩ := B3.out.bw.get8
  obtain ⟨⟨r0, r1, r2, r3, r4, r5, r6, r7⟩, g0, g1, g2, g3, g4, g5, g6, g7⟩ := B3.out.br.get8
  go_wp2
  refine bodyPost_ret (v := .agg #[.slice A2 n2 c2, .int .i64 r.room, .int .i64 r.fuse, .bool r.off, .int .i64 sg, .slice P pn pc, .int .i64 (pn : Int), .bool false]) (by simp [results, Tryd.results6, go_sem, r0, r1, r2, r3, r4, r5, r6, r7]) rfl ?_
  have hE := Dp.ends D3.out B3.out.q (.slice A2 n2 c2) (.int .i64 r.room) (.int .i64 r.fuse) (.bool r.off) (.int .i64 sg) (.slice P pn pc) (.int .i64 (pn : Int)) (.bool false)
  (try simp only [HPn.out] at hE)
  (try rw [HPn.out])
  exact hE
end Go.Proofs.YtncippafbohgbaaDoor

/- 'append(own, more...)' for a kind of elements; only the own block has turned. -/
namespace Go.Proofs.YtncippafbohgbaaDoor
set_option maxRecDepth 100000
open Go.RowKit
set_option linter.unusedVariables false
variable {α : Type}

theorem run_appKG (K : Kind α) (w : World) (base : Nat) (A : Option Addr) (n c : Nat) (l : List α) (h : OwnK K w base A n c l) (A2 : Option Addr) (m c2 : Nat) (l2 : List α) (h2 : Lst K w A2 m l2) (hnil : A2 = none → m = 0 ∧ c2 = 0)
    (hb : (n + m) * K.bs ≤ 140737488355328) (hbase : base ≤ w.heap.size) (ty : TypeId) :
    ∃ A' c' w', (Builtin.append_ #[K.S, K.S] ty #[.slice A n c, .slice A2 m c2]).run Tryd.prog w = .ok (.slice A' (n + m) c') w' ∧ OwnK K w' base A' (n + m) c' (l ++ l2) ∧ w.grownBy w' (Value.slice A n c).ownBlock ∧
      ((Value.slice A' (n + m) c').ownBlock = (Value.slice A n c).ownBlock ∨ (Value.slice A' (n + m) c').ownBlock = some w.heap.size) := by
  have hmax : n + m ≤ maxLen := by
    have : (n + m) * 1 ≤ (n + m) * K.bs := Nat.mul_le_mul_left _ K.bpos
    unfold maxLen; omega
  obtain ⟨A', c', w', h1, h3, h4, h5⟩ := run_appG (P := Tryd.prog) (w := w) base K.S ty K.T K.z K.k K.bs K.und K.info K.zc K.pos A n c (K.rows l) h A2 m c2 (K.rows l2) h2.1
    (fun j u hu => by obtain ⟨a, e, _, hc⟩ := h2.2 j u hu; exact ⟨a, e, hc⟩) (K.rows_one l2) hnil hmax hb hbase
  rw [← K.rows_app] at h3
  exact ⟨A', c', w', h1, h3, h4, h5⟩
theorem grown_below {K : Kind α} {w w' : World} {base : Nat} {A : Option Addr} {n c : Nat} {l : List α} (h : OwnK K w base A n c l) (hg : w.grownBy w' (Value.slice A n c).ownBlock) (hbase : base ≤ w.heap.size) : Below base w w' :=
  below_grown hg hbase fun k hk => by
    rcases h.parts with ⟨rfl, _⟩ | ⟨g, cur, rfl, hb, _⟩
    · cases hk
    · simp only [Value.ownBlock, Option.some.injEq] at hk; omega

theorem step_appKG (K : Kind α) {ops : Array Oper} {o : Oper} {a : Act} {w : World} {X : Act → World → Prop} {R : Exit → Act → World → Prop} {E : Prop} (hgd : o.guard = none) (s x : Operand) (t : TypeId) (ht : t = K.S)
    (ho : o.op = .call { callee := .builtin .append, args := #[s, x], argTypes := #[t, t] }) (base : Nat) (A : Option Addr) (n c : Nat) (l : List α) (hs : a.eval s = .slice A n c) (h : OwnK K w base A n c l) (A2 : Option Addr) (m c2 : Nat) (l2 : List α) (hx : a.eval x = .slice A2 m c2) (h2 : Lst K w A2 m l2) (hnil : A2 = none → m = 0 ∧ c2 = 0)
    (hb : (n + m) * K.bs ≤ 140737488355328) (hbase : base ≤ w.heap.size)
    (hk : ∀ A' c' w', OwnK K w' base A' (n + m) c' (l ++ l2) → w.grownBy w' (Value.slice A n c).ownBlock →
      ((Value.slice A' (n + m) c').ownBlock = (Value.slice A n c).ownBlock ∨ (Value.slice A' (n + m) c').ownBlock = some w.heap.size) → X (a.put o.dst (.slice A' (n + m) c')) w') : if Region.wanted o (yielded ops a.tmps) = true then Oper.wp Tryd.prog o a w X R else E := by
  subst ht
  rw [if_pos (wanted_plain hgd)]
  obtain ⟨A', c', w', hr, h3, h4, h5⟩ := run_appKG K w base A n c l h A2 m c2 l2 h2 hnil hb hbase o.type
  unfold Oper.wp execOp
  simp only [ho, resolve, invoke, builtin, Sem.run_bind, Sem.run_pure, Result.andThen_ok, List.map_toArray, List.map_cons, List.map_nil, hs, hx, hr]
  exact hk A' c' w' h3 h4 h5

/-- two lists of the call's own, in blocks of their own. -/
def Apt (A B : Option Addr) : Prop := ∀ a b, A = some a → B = some b → a.block ≠ b.block
theorem OwnK.away {K : Kind α} {w w' : World} {base : Nat} {A B : Option Addr} {n c m d : Nat} {l : List α} (h : OwnK K w base B m d l) (hg : w.grownBy w' (Value.slice A n c).ownBlock) (hap : Apt A B) (hA : A = none → True) : OwnK K w' base B m d l := by
  refine ⟨h.1, ?_⟩
  rcases h.2 with ⟨e, h0⟩ | ⟨g, cap, cur, e, hg2, hh, r⟩
  · exact .inl ⟨e, h0⟩
  · refine .inr ⟨g, cap, cur, e, hg2, (hg.block g (Array.getElem?_eq_some_iff.1 hh).1 ?_).trans hh, r⟩
    intro e2
    injection e with e
    cases A with
    | none => cases e2
    | some a =>
      simp only [Value.ownBlock, Option.some.injEq] at e2
      exact hap a ⟨g, 0, none⟩ rfl e e2.symm
theorem Apt.symm {A B : Option Addr} (h : Apt A B) : Apt B A := fun a b ea eb e => h b a eb ea e.symm
end Go.Proofs.YtncippafbohgbaaDoor

/- The contract of an act of a log's law: a put that is OK. -/
namespace Go.Proofs.YtncippafbohgbaaDoor
set_option maxRecDepth 100000
open Go.RowKit Dkm Wm Wl
set_option linter.unusedVariables false
set_option linter.unusedSimpArgs false

/-- texts as a kind of elements. -/
def strsK : Kind Rec where
  T := 9
  S := 29
  k := 1
  bs := 16
  z := .string ⟨#[]⟩
  row := fun r => [.string (bs r)]
  pos := by omega
  bpos := by omega
  len := fun _ => rfl
  one := fun _ u hu => by simp at hu; rcases hu with rfl; rfl
  und := Tryd.underlying29
  info := by kernel_rfl
  zc := rfl
theorem strsK_rows (l : List Rec) : strsK.rows l = l.map fun r => Value.string (bs r) := by
  induction l with
  | nil => rfl
  | cons a l ih => rw [Kind.rows, ih]; rfl
theorem Strs.lst {w : World} {A : Option Addr} {n : Nat} {l : List Rec} (h : Strs w A n l) : Lst strsK w A n l := by
  unfold Lst; rw [strsK_rows]; exact h
theorem Lst.strs {w : World} {A : Option Addr} {n : Nat} {l : List Rec} (h : Lst strsK w A n l) : Strs w A n l := by
  unfold Lst at h; rw [strsK_rows] at h; exact h
theorem bs_self (s : ByteArray) : bs s.data.toList = s := by cases s; simp [bs]
theorem lit_str (w : World) (base : Nat) (hb : base ≤ w.heap.size) (s : ByteArray) : OwnK strsK (w.alloc (.cells #[.string s] 9)) base (some ⟨w.heap.size, 0, none⟩) 1 1 [s.data.toList] := by
  have h := OwnK.lit1 strsK w base hb s.data.toList
  rw [show (strsK.row s.data.toList).toArray = #[Value.string s] by rw [show strsK.row s.data.toList = [Value.string s] from congrArg (fun x => [Value.string x]) (bs_self s)]] at h
  exact h
/-- 'append(own, more...)' as one step of a region that draws; how many, and what, named anew. -/
theorem step_appKN {α : Type} (K : Kind α) {ops : Array Oper} {o : Oper} {a : Act} {w : World} {X : Act → World → Prop} {R : Exit → Act → World → Prop} {E : Prop} (hgd : o.guard = none) (s x : Operand) (t : TypeId) (ht : t = K.S)
    (ho : o.op = .call { callee := .builtin .append, args := #[s, x], argTypes := #[t, t] }) (base : Nat) (A : Option Addr) (n c : Nat) (l : List α) (hs : a.eval s = .slice A n c) (h : OwnK K w base A n c l) (A2 : Option Addr) (m c2 : Nat) (l2 : List α) (hx : a.eval x = .slice A2 m c2) (h2 : Lst K w A2 m l2) (hnil : A2 = none → m = 0 ∧ c2 = 0)
    (N : Nat) (hN : n + m = N) (l3 : List α) (hl : l ++ l2 = l3) (hb : N * K.bs ≤ 140737488355328) (hbase : base ≤ w.heap.size)
    (hk : ∀ A' c' w', OwnK K w' base A' N c' l3 → Below base w w' → w.grownBy w' (Value.slice A n c).ownBlock → X (a.put o.dst (.slice A' N c')) w') : if Region.wanted o (yielded ops a.tmps) = true then Oper.wp Tryd.prog o a w X R else E := by
  subst hN hl
  exact step_appKG K hgd s x t ht ho base A n c l hs h A2 m c2 l2 hx h2 hnil hb hbase fun A' c' w' h3 h4 _ => hk A' c' w' h3 (grown_below h h4 hbase) h4
/-- the texts that were put have one more. -/
theorem Dp.more {w wr w2 : World} {A : Option Addr} {n c : Nat} {P : Option Addr} {pn pc : Nat} {lw : Lw} (h : Dp w A n c P pn pc lw wr) (hsz : w.heap.size + 1 + 1 < wr.heap.size) (q : Q wr w2) {A' : Option Addr} {m c' : Nat} {l : List Rec} (o : OwnK strsK w2 wr.heap.size A' m c' l) (v : Value) :
    Dp w A n c A' m c' { lw with put := l } (w2.setCell ⟨w.heap.size, 5, none⟩ v) := by
  have hA : ∀ ad, A' = some ad → ad.block ≠ w.heap.size ∧ ad.block ≠ w.heap.size + 1 + 1 := fun ad e => by
    rcases o.parts with ⟨e0, _⟩ | ⟨g, cur, e0, hb, _⟩
    · rw [e0] at e; cases e
    · rw [e0] at e; injection e with e; subst e; simp only; omega
  have hN : A' = none → m = 0 ∧ c' = 0 := fun e => by
    rcases o.parts with ⟨e0, e1, e2, _⟩ | ⟨g, cur, e0, hb, _⟩
    · exact ⟨e1, e2⟩
    · rw [e0] at e; cases e
  exact ⟨(h.dsk.q q).away1 (fun hn ad e => (h.ad hn ad e).1) 5 v, (Lst.strs o.lst).away1 (fun _ ad e => (hA ad e).1) 5 v, ⟨hN, o.le, o.cap⟩, h.ad, fun _ ad e => hA ad e⟩

set_option maxHeartbeats 8000000 in
theorem does_put_ok (num : Int) (s : ByteArray) (A : Option Addr) (n c : Nat) (P : Option Addr) (pn pc : Nat) (d : Dk) (seg : Int) (put : List Rec) (safe : Nat) (r : Dk) (sg er : Int) (w : World) (hT : Tab w) (hd : Dsk w A n c d.fs) (hB : Bnd 2305843009213693952 d) (hp : Strs w P pn put) (hnil : Nl P pn pc) (hs : s.size ≤ maxLen)
    (hr : putM d seg s = (r, sg, er)) (hpn : (pn + 1) * 16 ≤ 140737488355328) (he : er = 0) (hsg : seg = sg) :
    Calls Tryd.prog 6 #[.agg #[.slice A n c, .int .i64 d.room, .int .i64 d.fuse, .bool d.off, .int .i64 seg, .slice P pn pc, .int .i64 (safe : Int), .bool false], .agg #[.int .i64 1, .int .i64 num, .string s]] w fun e w' => RetLw w ⟨r, sg, put ++ [s.data.toList], safe, false⟩ e w' := by
  have HT := Lib.hid hT
  have HD := Lib.hid hd
  have HP := Lib.hid hp
  have HN := Lib.hid hnil
  have HPn := Lib.hid (show put.length = pn by have := hp.1; simpa using this)
  have K := Lib.hid (fun W (h1 : Tab W) (h2 : Dsk W A n c d.fs) => put_any seg s A n c d W h1 h2 hB hs)
  rw [hr] at K
  clear hT hd hp hnil hr hB hs
  subst he
  have HB := Lib.hid hpn
  clear hpn
  subst hsg
  go_enter Tryd.func6, Tryd.ntmps6
  go_upto_region 1 with (fail)
  have B0 : Hid (Db w [.slice A n c, .int .i64 d.room, .int .i64 d.fuse, .bool d.off, .int .i64 seg, .slice P pn pc, .int .i64 (safe : Int), .bool false] ⟨1, num, s⟩ (((w.alloc (.cells #[.slice A n c, .int .i64 d.room, .int .i64 d.fuse, .bool d.off, .int .i64 seg, .slice P pn pc, .int .i64 (safe : Int), .bool false] 31)).alloc (.cells #[.int .i64 1, .int .i64 num, .string s] 33)).alloc (.cells #[.slice none 0 0, .int .i64 0, .int .i64 0, .bool false, .int .i64 0, .slice none 0 0, .int .i64 0, .bool false] 31))) := Lib.hid (Db.new w [.slice A n c, .int .i64 d.room, .int .i64 d.fuse, .bool d.off, .int .i64 seg, .slice P pn pc, .int .i64 (safe : Int), .bool false] ⟨1, num, s⟩ 31 33)
  generalize (((w.alloc (.cells #[.slice A n c, .int .i64 d.room, .int .i64 d.fuse, .bool d.off, .int .i64 seg, .slice P pn pc, .int .i64 (safe : Int), .bool false] 31)).alloc (.cells #[.int .i64 1, .int .i64 num, .string s] 33)).alloc (.cells #[.slice none 0 0, .int .i64 0, .int .i64 0, .bool false, .int .i64 0, .slice none 0 0, .int .i64 0, .bool false] 31)) = W at B0 ⊢
  obtain ⟨⟨k0, k1, k2⟩, _⟩ := B0.out.ba.get3
  obtain ⟨⟨w0, w1, w2, w3, w4, w5, w6, w7⟩, f0, f1, f2, f3, f4, f5, f6, f7⟩ := B0.out.bw.get8
  go_wp2_with fail
  refine (K.out W (HT.out.q B0.out.q) (HD.out.q B0.out.q)).mono ?_
  rintro e W1 ⟨A2, n2, c2, rfl, hd2, hf2, q1⟩
  have hlt := B0.out.br.lt
  have HD2 := Lib.hid (hd2.q ((Q.refl _).alloc (.cells #[.slice A2 n2 c2, .int .i64 r.room, .int .i64 r.fuse, .bool r.off] 26)))
  have HP2 := Lib.hid (((HP.out.q B0.out.q).q q1).q ((Q.refl _).alloc (.cells #[.slice A2 n2 c2, .int .i64 r.room, .int .i64 r.fuse, .bool r.off] 26)))
  have B1 := Lib.hid (B0.out.step (q1.alloc (.cells #[.slice A2 n2 c2, .int .i64 r.room, .int .i64 r.fuse, .bool r.off] 26)))
  have ha2 := Lib.hid (show 0 < n2 → ∀ ad, A2 = some ad → ad.block ≠ w.heap.size ∧ ad.block ≠ w.heap.size + 1 + 1 from fun _ ad e => by have := hf2 ad e; omega)
  have hp2 := Lib.hid (show 0 < pn → ∀ ad, P = some ad → ad.block ≠ w.heap.size ∧ ad.block ≠ w.heap.size + 1 + 1 from fun hn ad e => by have := strs_blk HP.out hn ad e; omega)
  clear k0 k1 k2 w0 w1 w2 w3 w4 w5 w6 w7 f0 f1 f2 f3 f4 f5 f6 f7
  have QW1 := Lib.hid q1
  clear B0 q1 hd2 hf2
  have XB := Lib.hid (Bx.new W1 [.slice A2 n2 c2, .int .i64 r.room, .int .i64 r.fuse, .bool r.off] 26)
  have hg : w.heap.size + 1 + 1 < W1.heap.size := by have := QW1.out.size; omega
  go_upto_region 6 with (fail)
  clear QW1
  have XB : Hid (Bx (W1.alloc (.cells #[.slice A2 n2 c2, .int .i64 r.room, .int .i64 r.fuse, .bool r.off] 26)) W1.heap.size [.slice A2 n2 c2, .int .i64 r.room, .int .i64 r.fuse, .bool r.off]) := Lib.hid XB.out
  generalize W1.alloc (.cells #[.slice A2 n2 c2, .int .i64 r.room, .int .i64 r.fuse, .bool r.off] 26) = W2 at HD2 HP2 B1 XB ⊢
  generalize W1.heap.size = g at hg XB ⊢
  obtain ⟨⟨w0, w1, w2, w3, w4, w5, w6, w7⟩, f0, f1, f2, f3, f4, f5, f6, f7⟩ := B1.out.bw.get8
  obtain ⟨⟨x0, x1, x2, x3⟩, _⟩ := XB.out.get4
  go_upto_region 9 with (fail)
  have B2 := Lib.hid (B1.out.setD (.slice A2 n2 c2) (.int .i64 r.room) (.int .i64 r.fuse) (.bool r.off))
  have D2 := Lib.hid (dp_setD (w := w) (lw := ⟨r, seg, put, safe, false⟩) (n := n2) (c := c2) (pc := pc) HD2.out HP2.out HN.out ha2.out hp2.out (.slice A2 n2 c2) (.int .i64 r.room) (.int .i64 r.fuse) (.bool r.off))
  clear w0 w1 w2 w3 w4 w5 w6 w7 f0 f1 f2 f3 f4 f5 f6 f7 x0 x1 x2 x3 B1 XB HD2 HP2
  generalize ((((W2.setCell ⟨w.heap.size, 0, none⟩ (.slice A2 n2 c2)).setCell ⟨w.heap.size, 1, none⟩ (.int .i64 r.room)).setCell ⟨w.heap.size, 2, none⟩ (.int .i64 r.fuse)).setCell ⟨w.heap.size, 3, none⟩ (.bool r.off)) = W3 at B2 D2 ⊢
  obtain ⟨⟨w0, w1, w2, w3, w4, w5, w6, w7⟩, f0, f1, f2, f3, f4, f5, f6, f7⟩ := B2.out.bw.get8
  go_upto_region 11 with (fail)
  have B4 : Hid (Db w [.slice A2 n2 c2, .int .i64 r.room, .int .i64 r.fuse, .bool r.off, .int .i64 seg, .slice P pn pc, .int .i64 (safe : Int), .bool false] ⟨1, num, s⟩ (W3.setCell ⟨w.heap.size, 4, none⟩ (.int .i64 seg))) := Lib.hid (B2.out.set1 (k := 4) (by simp) (.int .i64 seg))
  have D4 := Lib.hid (D2.out.set1 4 (.int .i64 seg))
  clear w0 w1 w2 w3 w4 w5 w6 w7 f0 f1 f2 f3 f4 f5 f6 f7 B2 D2
  generalize W3.setCell ⟨w.heap.size, 4, none⟩ (.int .i64 seg) = W4 at B4 D4 ⊢
  have HZ := Lib.hid B4.out.br.lt
  have SS := Lib.hid (fun W' (q : Q W4 W') => (⟨(B4.out.bw.q q).get8.1.2.2.2.2.2.1, (B4.out.ba.q q).get3.1.2.2⟩ : W'.cell? ⟨w.heap.size, 5, none⟩ = some (.slice P pn pc) ∧ W'.cell? ⟨w.heap.size + 1, 2, none⟩ = some (.string s)))
  obtain ⟨⟨w0, w1, w2, w3, w4, w5, w6, w7⟩, f0, f1, f2, f3, f4, f5, f6, f7⟩ := B4.out.bw.get8
  obtain ⟨⟨k0, k1, k2⟩, _⟩ := B4.out.ba.get3
  refine wp_region_heldL 9 (fun w' => w'.cell? ⟨w.heap.size, 5, none⟩ = some (.slice P pn pc) ∧ w'.cell? ⟨w.heap.size + 1, 2, none⟩ = some (.string s)) (by kernel_rfl) ?szz0 (fun hHeld => ?rzz0)
  case szz0 =>
    exact ⟨w5, k2⟩
  case' rzz0 => skip
  refine wpAnyL_take (i := 1) (oi := ?ozz1) (v := ?vzz1) ?hzz1 ?azz1 ?bzz1 ?czz1 ?kzz1 ?qzz1 ?yzz1 ?szz1 ?rzz1
  case hzz1 => simp only [List.getElem?_toArray, List.getElem?_cons_zero, List.getElem?_cons_succ]; rfl
  case azz1 => kernel_rfl
  case bzz1 => kernel_rfl
  case czz1 => kernel_rfl
  case kzz1 => kernel_rfl
  case yzz1 =>
    refine Or.inl ⟨by rfl, ?_⟩
    intro w hSw
    obtain ⟨s0, s1⟩ := hSw
    go_simp
    try with_reducible rfl
  case qzz1 => exact fun _ _ _ h => h
  case szz1 => first | assumption | trivial
  case' rzz1 => simp only [Act.put, List.setIfInBounds_toArray, List.set_cons_zero, List.set_cons_succ]
  refine wpAnyL_take (i := 2) (oi := ?ozz2) (v := ?vzz2) ?hzz2 ?azz2 ?bzz2 ?czz2 ?kzz2 ?qzz2 ?yzz2 ?szz2 ?rzz2
  case hzz2 => simp only [List.getElem?_toArray, List.getElem?_cons_zero, List.getElem?_cons_succ]; rfl
  case azz2 => kernel_rfl
  case bzz2 => kernel_rfl
  case czz2 => kernel_rfl
  case kzz2 => kernel_rfl
  case yzz2 =>
    refine Or.inl ⟨by rfl, ?_⟩
    intro w hSw
    obtain ⟨s0, s1⟩ := hSw
    go_simp
    try with_reducible rfl
  case qzz2 => exact fun _ _ _ h => h
  case szz2 => first | assumption | trivial
  case' rzz2 => simp only [Act.put, List.setIfInBounds_toArray, List.set_cons_zero, List.set_cons_succ]
  refine wpAnyL_take (i := 4) (oi := ?ozz3) (v := ?vzz3) ?hzz3 ?azz3 ?bzz3 ?czz3 ?kzz3 ?qzz3 ?yzz3 ?szz3 ?rzz3
  case hzz3 => simp only [List.getElem?_toArray, List.getElem?_cons_zero, List.getElem?_cons_succ]; rfl
  case azz3 => kernel_rfl
  case bzz3 => kernel_rfl
  case czz3 => kernel_rfl
  case kzz3 => kernel_rfl
  case yzz3 =>
    refine Or.inl ⟨by rfl, ?_⟩
    intro w hSw
    obtain ⟨s0, s1⟩ := hSw
    go_simp
    try with_reducible rfl
  case qzz3 => exact fun _ _ _ h => h
  case szz3 => first | assumption | trivial
  case' rzz3 => simp only [Act.put, List.setIfInBounds_toArray, List.set_cons_zero, List.set_cons_succ]
  refine wpAnyL_take (i := 5) (oi := ?ozz4) (v := ?vzz4) ?hzz4 ?azz4 ?bzz4 ?czz4 ?kzz4 ?qzz4 ?yzz4 ?szz4 ?rzz4
  case hzz4 => simp only [List.getElem?_toArray, List.getElem?_cons_zero, List.getElem?_cons_succ]; rfl
  case azz4 => kernel_rfl
  case bzz4 => kernel_rfl
  case czz4 => kernel_rfl
  case kzz4 => kernel_rfl
  case yzz4 =>
    refine Or.inl ⟨by rfl, ?_⟩
    intro w hSw
    obtain ⟨s0, s1⟩ := hSw
    go_simp
    try with_reducible rfl
  case qzz4 => exact fun _ _ _ h => h
  case szz4 => first | assumption | trivial
  case' rzz4 => simp only [Act.put, List.setIfInBounds_toArray, List.set_cons_zero, List.set_cons_succ]
  refine wpAnyL_ready (rs := [0, 6]) (by kernel_rfl) (by simp) ?_
  refine AllReadyL.cons (o := ?ozz20) ?hzz20 (fun K hK => ?kzz20) ?mzz20
  case hzz20 => simp only [List.getElem?_toArray, List.getElem?_cons_zero]; rfl
  case kzz20 =>
    go_simp
    refine hK.out _ _ ?Szz20 (fun hHeld => ?Rzz20)
    case Szz20 =>
      exact SS.out _ (((Q.refl W4).drew).alloc (.cells #[] 9))
    case Rzz20 =>
      clear hK K
      try simp only [Act.put, List.setIfInBounds_toArray, List.set_cons_zero, List.set_cons_succ]
      refine wpAnyL_ready (rs := [3, 6]) (by kernel_rfl) (by simp) ?_
      refine AllReadyL.cons (o := ?ozz13) ?hzz13 (fun K hK => ?kzz13) ?mzz13
      case hzz13 => simp only [List.getElem?_toArray, List.getElem?_cons_zero, List.getElem?_cons_succ]; rfl
      case kzz13 =>
        refine step_appKN strsK (by rfl) _ _ _ rfl (by rfl) W4.heap.size _ 0 0 [] (by rfl) (OwnK.lit0 strsK W4.drew W4.heap.size (Nat.le_refl _)) P pn pc put (by rfl) (Strs.lst (D4.out.put.q (((Q.refl W4).drew).alloc (.cells #[] 9)))) D4.out.nil.1 pn (by omega) put (by simp) (by show pn * 16 ≤ _; have := HB.out; omega) (by first | (simp; done) | (simp; omega)) ?_
        intro A6 c6 w6 o6 b6 g6
        have q6 : Q W4 w6 := (((Q.refl W4).drew).alloc (.cells #[] 9)).below.trans b6
        refine hK.out _ _ ?Szz13 (fun hHeld => ?Rzz13)
        case Szz13 =>
          exact SS.out _ q6
        case Rzz13 =>
          clear hK K
          try simp only [Act.put, List.setIfInBounds_toArray, List.set_cons_zero, List.set_cons_succ]
          refine wpAnyL_ready (rs := [6]) (by kernel_rfl) (by simp) ?_
          refine AllReadyL.cons (o := ?ozz8) ?hzz8 (fun K hK => ?kzz8) ?mzz8
          case hzz8 => simp only [List.getElem?_toArray, List.getElem?_cons_zero, List.getElem?_cons_succ]; rfl
          case kzz8 =>
            go_simp
            refine hK.out _ _ ?Szz8 (fun hHeld => ?Rzz8)
            case Szz8 =>
              exact SS.out _ (q6.alloc (.cells #[.string s] 9))
            case Rzz8 =>
              clear hK K
              try simp only [Act.put, List.setIfInBounds_toArray, List.set_cons_zero, List.set_cons_succ]
              refine wpAnyL_ready (rs := [7]) (by kernel_rfl) (by simp) ?_
              refine AllReadyL.cons (o := ?ozz7) ?hzz7 (fun K hK => ?kzz7) ?mzz7
              case hzz7 => simp only [List.getElem?_toArray, List.getElem?_cons_zero, List.getElem?_cons_succ]; rfl
              case kzz7 =>
                refine step_appKN strsK (by rfl) _ _ _ rfl (by rfl) W4.heap.size A6 pn c6 put (by rfl) (o6.alloc (.cells #[.string s] 9)) _ 1 1 [s.data.toList] (by rfl) (OwnK.lst (lit_str w6 W4.heap.size (by have := q6.size; omega) s)) (fun e => by cases e) (pn + 1) rfl (put ++ [s.data.toList]) rfl (by show (pn + 1) * 16 ≤ _; exact HB.out) (by have := q6.size; first | omega | (simp; omega)) ?_
                intro A7 c7 w7 o7 b7 g7
                have q7 : Q W4 w7 := (q6.alloc (.cells #[.string s] 9)).below.trans b7
                refine hK.out _ _ ?Szz7 (fun hHeld => ?Rzz7)
                case Szz7 =>
                  exact SS.out _ q7
                case Rzz7 =>
                  clear hK K
                  try simp only [Act.put, List.setIfInBounds_toArray, List.set_cons_zero, List.set_cons_succ]
                  refine wpAnyL_take (i := 8) (oi := ?ozz5) (v := ?vzz5) ?hzz5 ?azz5 ?bzz5 ?czz5 ?kzz5 ?qzz5 ?yzz5 ?szz5 ?rzz5
                  case hzz5 => simp only [List.getElem?_toArray, List.getElem?_cons_zero, List.getElem?_cons_succ]; rfl
                  case azz5 => kernel_rfl
                  case bzz5 => kernel_rfl
                  case czz5 => kernel_rfl
                  case kzz5 => kernel_rfl
                  case yzz5 =>
                    refine Or.inl ⟨by rfl, ?_⟩
                    intro w hSw
                    obtain ⟨s0, s1⟩ := hSw
                    go_simp
                    try with_reducible rfl
                  case qzz5 => exact fun _ _ _ h => h
                  case szz5 => first | assumption | trivial
                  case' rzz5 => simp only [Act.put, List.setIfInBounds_toArray, List.set_cons_zero, List.set_cons_succ]
                  refine wpAnyL_ready (rs := [9]) (by kernel_rfl) (by simp) ?_
                  refine AllReadyL.consK (o := ?ozz6) ?hzz6 ?lzz6 (fun K hK => ?kzz6) ?mzz6
                  case hzz6 => simp only [List.getElem?_toArray, List.getElem?_cons_zero, List.getElem?_cons_succ]; rfl
                  case lzz6 => kernel_rfl
                  case kzz6 =>
                    obtain ⟨⟨p0, p1, p2, p3, p4, p5, p6, p7⟩, f0, f1, f2, f3, f4, f5, f6, f7⟩ := (B4.out.step q7).bw.get8
                    go_simp
                    refine hK.out _ _ ?Rzz6
                    case Rzz6 =>
                      clear hK K
                      try simp only [Act.put, List.setIfInBounds_toArray, List.set_cons_zero, List.set_cons_succ]
                      refine wpAnyH_done (by kernel_rfl) ?_ _
                      have B9 := Lib.hid ((B4.out.step q7).set1 (k := 5) (by simp) (.slice A7 (pn + 1) c7))
                      have D9 := Lib.hid (D4.out.more HZ.out q7 o7 (.slice A7 (pn + 1) c7))
                      have B9 : Hid (Db w [.slice A2 n2 c2, .int .i64 r.room, .int .i64 r.fuse, .bool r.off, .int .i64 seg, .slice A7 (pn + 1) c7, .int .i64 (safe : Int), .bool false] ⟨1, num, s⟩ (w7.setCell ⟨w.heap.size, 5, none⟩ (.slice A7 (pn + 1) c7))) := Lib.hid B9.out
                      clear B4 D4 p0 p1 p2 p3 p4 p5 p6 p7 f0 f1 f2 f3 f4 f5 f6 f7 q7 o7
                      generalize w7.setCell ⟨w.heap.size, 5, none⟩ (.slice A7 (pn + 1) c7) = W9 at B9 D9 ⊢
                      obtain ⟨⟨w0, w1, w2, w3, w4, w5, w6, w7⟩, f0, f1, f2, f3, f4, f5, f6, f7⟩ := B9.out.bw.get8
                      go_upto_region 20 with (fail)
                      have BA := Lib.hid (B9.out.set1 (k := 7) (by simp) (.bool false))
                      have BA : Hid (Db w [.slice A2 n2 c2, .int .i64 r.room, .int .i64 r.fuse, .bool r.off, .int .i64 seg, .slice A7 (pn + 1) c7, .int .i64 (safe : Int), .bool false] ⟨1, num, s⟩ (W9.setCell ⟨w.heap.size, 7, none⟩ (.bool false))) := Lib.hid BA.out
                      have DA := Lib.hid (D9.out.set1 7 (.bool false))
                      clear w0 w1 w2 w3 w4 w5 w6 w7 f0 f1 f2 f3 f4 f5 f6 f7 B9 D9
                      generalize W9.setCell ⟨w.heap.size, 7, none⟩ (.bool false) = WA at BA DA ⊢
                      obtain ⟨⟨w0, w1, w2, w3, w4, w5, w6, w7⟩, _⟩ := BA.out.bw.get8
                      obtain ⟨⟨r0, r1, r2, r3, r4, r5, r6, r7⟩, g0, g1, g2, g3, g4, g5, g6, g7⟩ := BA.out.br.get8
                      go_wp2
                      refine bodyPost_ret (v := .agg #[.slice A2 n2 c2, .int .i64 r.room, .int .i64 r.fuse, .bool r.off, .int .i64 seg, .slice A7 (pn + 1) c7, .int .i64 (safe : Int), .bool false]) (by simp [results, Tryd.results6, go_sem, r0, r1, r2, r3, r4, r5, r6, r7]) rfl ?_
                      have hE := Dp.ends DA.out BA.out.q (.slice A2 n2 c2) (.int .i64 r.room) (.int .i64 r.fuse) (.bool r.off) (.int .i64 seg) (.slice A7 (pn + 1) c7) (.int .i64 (safe : Int)) (.bool false)
                      (try simp only [HPn.out] at hE)
                      (try rw [HPn.out])
                      exact hE
                  case' mzz6 => skip
                  exact AllReadyL.nil
              case' mzz7 => skip
              exact AllReadyL.nil
          case' mzz8 => skip
          exact AllReadyL.nil
      case' mzz13 => skip
      refine AllReadyL.cons (o := ?ozz14) ?hzz14 (fun K hK => ?kzz14) ?mzz14
      case hzz14 => simp only [List.getElem?_toArray, List.getElem?_cons_zero, List.getElem?_cons_succ]; rfl
      case kzz14 =>
        go_simp
        refine hK.out _ _ ?Szz14 (fun hHeld => ?Rzz14)
        case Szz14 =>
          exact SS.out _ ((((Q.refl W4).drew).alloc (.cells #[] 9)).alloc (.cells #[.string s] 9))
        case Rzz14 =>
          clear hK K
          try simp only [Act.put, List.setIfInBounds_toArray, List.set_cons_zero, List.set_cons_succ]
          refine wpAnyL_ready (rs := [3]) (by kernel_rfl) (by simp) ?_
          refine AllReadyL.cons (o := ?ozz12) ?hzz12 (fun K hK => ?kzz12) ?mzz12
          case hzz12 => simp only [List.getElem?_toArray, List.getElem?_cons_zero, List.getElem?_cons_succ]; rfl
          case kzz12 =>
            refine step_appKN strsK (by rfl) _ _ _ rfl (by rfl) W4.heap.size _ 0 0 [] (by rfl) ((OwnK.lit0 strsK W4.drew W4.heap.size (Nat.le_refl _)).alloc (.cells #[.string s] 9)) P pn pc put (by rfl) (Strs.lst (D4.out.put.q ((((Q.refl W4).drew).alloc (.cells #[] 9)).alloc (.cells #[.string s] 9)))) D4.out.nil.1 pn (by omega) put (by simp) (by show pn * 16 ≤ _; have := HB.out; omega) (by first | (simp; done) | (simp; omega)) ?_
            intro A6 c6 w6 o6 b6 g6
            have q6 : Q W4 w6 := ((((Q.refl W4).drew).alloc (.cells #[] 9)).alloc (.cells #[.string s] 9)).below.trans b6
            refine hK.out _ _ ?Szz12 (fun hHeld => ?Rzz12)
            case Szz12 =>
              exact SS.out _ q6
            case Rzz12 =>
              clear hK K
              try simp only [Act.put, List.setIfInBounds_toArray, List.set_cons_zero, List.set_cons_succ]
              refine wpAnyL_ready (rs := [7]) (by kernel_rfl) (by simp) ?_
              refine AllReadyL.cons (o := ?ozz11) ?hzz11 (fun K hK => ?kzz11) ?mzz11
              case hzz11 => simp only [List.getElem?_toArray, List.getElem?_cons_zero, List.getElem?_cons_succ]; rfl
              case kzz11 =>
                refine step_appKN strsK (by rfl) _ _ _ rfl (by rfl) W4.heap.size A6 pn c6 put (by rfl) o6 _ 1 1 [s.data.toList] (by rfl) (OwnK.lst (OwnK.away (show OwnK strsK ((W4.drew.alloc (.cells #[] 9)).alloc (.cells #[.string s] 9)) W4.heap.size (some ⟨W4.heap.size + 1, 0, none⟩) 1 1 [s.data.toList] from by have h := lit_str (W4.drew.alloc (.cells #[] 9)) W4.heap.size (by simp) s; rw [show (W4.drew.alloc (.cells #[] 9)).heap.size = W4.heap.size + 1 by simp] at h; exact h) g6 (by intro a b e1 e2; injection e1 with e1; injection e2 with e2; subst e1 e2; first | (simp; done) | (simp; omega)) (fun _ => trivial))) (fun e => by cases e) (pn + 1) rfl (put ++ [s.data.toList]) rfl (by show (pn + 1) * 16 ≤ _; exact HB.out) (by have := q6.size; first | omega | (simp; omega)) ?_
                intro A7 c7 w7 o7 b7 g7
                have q7 : Q W4 w7 := q6.below.trans b7
                refine hK.out _ _ ?Szz11 (fun hHeld => ?Rzz11)
                case Szz11 =>
                  exact SS.out _ q7
                case Rzz11 =>
                  clear hK K
                  try simp only [Act.put, List.setIfInBounds_toArray, List.set_cons_zero, List.set_cons_succ]
                  refine wpAnyL_take (i := 8) (oi := ?ozz9) (v := ?vzz9) ?hzz9 ?azz9 ?bzz9 ?czz9 ?kzz9 ?qzz9 ?yzz9 ?szz9 ?rzz9
                  case hzz9 => simp only [List.getElem?_toArray, List.getElem?_cons_zero, List.getElem?_cons_succ]; rfl
                  case azz9 => kernel_rfl
                  case bzz9 => kernel_rfl
                  case czz9 => kernel_rfl
                  case kzz9 => kernel_rfl
                  case yzz9 =>
                    refine Or.inl ⟨by rfl, ?_⟩
                    intro w hSw
                    obtain ⟨s0, s1⟩ := hSw
                    go_simp
                    try with_reducible rfl
                  case qzz9 => exact fun _ _ _ h => h
                  case szz9 => first | assumption | trivial
                  case' rzz9 => simp only [Act.put, List.setIfInBounds_toArray, List.set_cons_zero, List.set_cons_succ]
                  refine wpAnyL_ready (rs := [9]) (by kernel_rfl) (by simp) ?_
                  refine AllReadyL.consK (o := ?ozz10) ?hzz10 ?lzz10 (fun K hK => ?kzz10) ?mzz10
                  case hzz10 => simp only [List.getElem?_toArray, List.getElem?_cons_zero, List.getElem?_cons_succ]; rfl
                  case lzz10 => kernel_rfl
                  case kzz10 =>
                    obtain ⟨⟨p0, p1, p2, p3, p4, p5, p6, p7⟩, f0, f1, f2, f3, f4, f5, f6, f7⟩ := (B4.out.step q7).bw.get8
                    go_simp
                    refine hK.out _ _ ?Rzz10
                    case Rzz10 =>
                      clear hK K
                      try simp only [Act.put, List.setIfInBounds_toArray, List.set_cons_zero, List.set_cons_succ]
                      refine wpAnyH_done (by kernel_rfl) ?_ _
                      have B9 := Lib.hid ((B4.out.step q7).set1 (k := 5) (by simp) (.slice A7 (pn + 1) c7))
                      have D9 := Lib.hid (D4.out.more HZ.out q7 o7 (.slice A7 (pn + 1) c7))
                      have B9 : Hid (Db w [.slice A2 n2 c2, .int .i64 r.room, .int .i64 r.fuse, .bool r.off, .int .i64 seg, .slice A7 (pn + 1) c7, .int .i64 (safe : Int), .bool false] ⟨1, num, s⟩ (w7.setCell ⟨w.heap.size, 5, none⟩ (.slice A7 (pn + 1) c7))) := Lib.hid B9.out
                      clear B4 D4 p0 p1 p2 p3 p4 p5 p6 p7 f0 f1 f2 f3 f4 f5 f6 f7 q7 o7
                      generalize w7.setCell ⟨w.heap.size, 5, none⟩ (.slice A7 (pn + 1) c7) = W9 at B9 D9 ⊢
                      obtain ⟨⟨w0, w1, w2, w3, w4, w5, w6, w7⟩, f0, f1, f2, f3, f4, f5, f6, f7⟩ := B9.out.bw.get8
                      go_upto_region 20 with (fail)
                      have BA := Lib.hid (B9.out.set1 (k := 7) (by simp) (.bool false))
                      have BA : Hid (Db w [.slice A2 n2 c2, .int .i64 r.room, .int .i64 r.fuse, .bool r.off, .int .i64 seg, .slice A7 (pn + 1) c7, .int .i64 (safe : Int), .bool false] ⟨1, num, s⟩ (W9.setCell ⟨w.heap.size, 7, none⟩ (.bool false))) := Lib.hid BA.out
                      have DA := Lib.hid (D9.out.set1 7 (.bool false))
                      clear w0 w1 w2 w3 w4 w5 w6 w7 f0 f1 f2 f3 f4 f5 f6 f7 B9 D9
                      generalize W9.setCell ⟨w.heap.size, 7, none⟩ (.bool false) = WA at BA DA ⊢
                      obtain ⟨⟨w0, w1, w2, w3, w4, w5, w6, w7⟩, _⟩ := BA.out.bw.get8
                      obtain ⟨⟨r0, r1, r2, r3, r4, r5, r6, r7⟩, g0, g1, g2, g3, g4, g5, g6, g7⟩ := BA.out.br.get8
                      go_wp2
                      refine bodyPost_ret (v := .agg #[.slice A2 n2 c2, .int .i64 r.room, .int .i64 r.fuse, .bool r.off, .int .i64 seg, .slice A7 (pn + 1) c7, .int .i64 (safe : Int), .bool false]) (by simp [results, Tryd.results6, go_sem, r0, r1, r2, r3, r4, r5, r6, r7]) rfl ?_
                      have hE := Dp.ends DA.out BA.out.q (.slice A2 n2 c2) (.int .i64 r.room) (.int .i64 r.fuse) (.bool r.off) (.int .i64 seg) (.slice A7 (pn + 1) c7) (.int .i64 (safe : Int)) (.bool false)
                      (try simp only [HPn.out] at hE)
                      (try rw [HPn.out])
                      exact hE
                  case' mzz10 => skip
                  exact AllReadyL.nil
              case' mzz11 => skip
              exact AllReadyL.nil
          case' mzz12 => skip
          exact AllReadyL.nil
      case' mzz14 => skip
      exact AllReadyL.nil
  case' mzz20 => skip
  refine AllReadyL.cons (o := ?ozz21) ?hzz21 (fun K hK => ?kzz21) ?mzz21
  case hzz21 => simp only [List.getElem?_toArray, List.getElem?_cons_zero, List.getElem?_cons_succ]; rfl
  case kzz21 =>
    go_simp
    refine hK.out _ _ ?Szz21 (fun hHeld => ?Rzz21)
    case Szz21 =>
      exact SS.out _ (((Q.refl W4).drew).alloc (.cells #[.string s] 9))
    case Rzz21 =>
      clear hK K
      try simp only [Act.put, List.setIfInBounds_toArray, List.set_cons_zero, List.set_cons_succ]
      refine wpAnyL_ready (rs := [0]) (by kernel_rfl) (by simp) ?_
      refine AllReadyL.cons (o := ?ozz19) ?hzz19 (fun K hK => ?kzz19) ?mzz19
      case hzz19 => simp only [List.getElem?_toArray, List.getElem?_cons_zero]; rfl
      case kzz19 =>
        go_simp
        refine hK.out _ _ ?Szz19 (fun hHeld => ?Rzz19)
        case Szz19 =>
          exact SS.out _ ((((Q.refl W4).drew).alloc (.cells #[.string s] 9)).alloc (.cells #[] 9))
        case Rzz19 =>
          clear hK K
          try simp only [Act.put, List.setIfInBounds_toArray, List.set_cons_zero, List.set_cons_succ]
          refine wpAnyL_ready (rs := [3]) (by kernel_rfl) (by simp) ?_
          refine AllReadyL.cons (o := ?ozz18) ?hzz18 (fun K hK => ?kzz18) ?mzz18
          case hzz18 => simp only [List.getElem?_toArray, List.getElem?_cons_zero, List.getElem?_cons_succ]; rfl
          case kzz18 =>
            refine step_appKN strsK (by rfl) _ _ _ rfl (by rfl) W4.heap.size _ 0 0 [] (by rfl) (show OwnK strsK ((W4.drew.alloc (.cells #[.string s] 9)).alloc (.cells #[] 9)) W4.heap.size (some ⟨W4.heap.size + 1, 0, none⟩) 0 0 [] from by have h := OwnK.lit0 strsK (W4.drew.alloc (.cells #[.string s] 9)) W4.heap.size (by simp); rw [show (W4.drew.alloc (.cells #[.string s] 9)).heap.size = W4.heap.size + 1 by simp] at h; exact h) P pn pc put (by rfl) (Strs.lst (D4.out.put.q ((((Q.refl W4).drew).alloc (.cells #[.string s] 9)).alloc (.cells #[] 9)))) D4.out.nil.1 pn (by omega) put (by simp) (by show pn * 16 ≤ _; have := HB.out; omega) (by first | (simp; done) | (simp; omega)) ?_
            intro A6 c6 w6 o6 b6 g6
            have q6 : Q W4 w6 := ((((Q.refl W4).drew).alloc (.cells #[.string s] 9)).alloc (.cells #[] 9)).below.trans b6
            refine hK.out _ _ ?Szz18 (fun hHeld => ?Rzz18)
            case Szz18 =>
              exact SS.out _ q6
            case Rzz18 =>
              clear hK K
              try simp only [Act.put, List.setIfInBounds_toArray, List.set_cons_zero, List.set_cons_succ]
              refine wpAnyL_ready (rs := [7]) (by kernel_rfl) (by simp) ?_
              refine AllReadyL.cons (o := ?ozz17) ?hzz17 (fun K hK => ?kzz17) ?mzz17
              case hzz17 => simp only [List.getElem?_toArray, List.getElem?_cons_zero, List.getElem?_cons_succ]; rfl
              case kzz17 =>
                refine step_appKN strsK (by rfl) _ _ _ rfl (by rfl) W4.heap.size A6 pn c6 put (by rfl) o6 _ 1 1 [s.data.toList] (by rfl) (OwnK.lst (OwnK.away ((lit_str W4.drew W4.heap.size (Nat.le_refl _) s).alloc (.cells #[] 9)) g6 (by intro a b e1 e2; injection e1 with e1; injection e2 with e2; subst e1 e2; first | (simp; done) | (simp; omega)) (fun _ => trivial))) (fun e => by cases e) (pn + 1) rfl (put ++ [s.data.toList]) rfl (by show (pn + 1) * 16 ≤ _; exact HB.out) (by have := q6.size; first | omega | (simp; omega)) ?_
                intro A7 c7 w7 o7 b7 g7
                have q7 : Q W4 w7 := q6.below.trans b7
                refine hK.out _ _ ?Szz17 (fun hHeld => ?Rzz17)
                case Szz17 =>
                  exact SS.out _ q7
                case Rzz17 =>
                  clear hK K
                  try simp only [Act.put, List.setIfInBounds_toArray, List.set_cons_zero, List.set_cons_succ]
                  refine wpAnyL_take (i := 8) (oi := ?ozz15) (v := ?vzz15) ?hzz15 ?azz15 ?bzz15 ?czz15 ?kzz15 ?qzz15 ?yzz15 ?szz15 ?rzz15
                  case hzz15 => simp only [List.getElem?_toArray, List.getElem?_cons_zero, List.getElem?_cons_succ]; rfl
                  case azz15 => kernel_rfl
                  case bzz15 => kernel_rfl
                  case czz15 => kernel_rfl
                  case kzz15 => kernel_rfl
                  case yzz15 =>
                    refine Or.inl ⟨by rfl, ?_⟩
                    intro w hSw
                    obtain ⟨s0, s1⟩ := hSw
                    go_simp
                    try with_reducible rfl
                  case qzz15 => exact fun _ _ _ h => h
                  case szz15 => first | assumption | trivial
                  case' rzz15 => simp only [Act.put, List.setIfInBounds_toArray, List.set_cons_zero, List.set_cons_succ]
                  refine wpAnyL_ready (rs := [9]) (by kernel_rfl) (by simp) ?_
                  refine AllReadyL.consK (o := ?ozz16) ?hzz16 ?lzz16 (fun K hK => ?kzz16) ?mzz16
                  case hzz16 => simp only [List.getElem?_toArray, List.getElem?_cons_zero, List.getElem?_cons_succ]; rfl
                  case lzz16 => kernel_rfl
                  case kzz16 =>
                    obtain ⟨⟨p0, p1, p2, p3, p4, p5, p6, p7⟩, f0, f1, f2, f3, f4, f5, f6, f7⟩ := (B4.out.step q7).bw.get8
                    go_simp
                    refine hK.out _ _ ?Rzz16
                    case Rzz16 =>
                      clear hK K
                      try simp only [Act.put, List.setIfInBounds_toArray, List.set_cons_zero, List.set_cons_succ]
                      refine wpAnyH_done (by kernel_rfl) ?_ _
                      have B9 := Lib.hid ((B4.out.step q7).set1 (k := 5) (by simp) (.slice A7 (pn + 1) c7))
                      have D9 := Lib.hid (D4.out.more HZ.out q7 o7 (.slice A7 (pn + 1) c7))
                      have B9 : Hid (Db w [.slice A2 n2 c2, .int .i64 r.room, .int .i64 r.fuse, .bool r.off, .int .i64 seg, .slice A7 (pn + 1) c7, .int .i64 (safe : Int), .bool false] ⟨1, num, s⟩ (w7.setCell ⟨w.heap.size, 5, none⟩ (.slice A7 (pn + 1) c7))) := Lib.hid B9.out
                      clear B4 D4 p0 p1 p2 p3 p4 p5 p6 p7 f0 f1 f2 f3 f4 f5 f6 f7 q7 o7
                      generalize w7.setCell ⟨w.heap.size, 5, none⟩ (.slice A7 (pn + 1) c7) = W9 at B9 D9 ⊢
                      obtain ⟨⟨w0, w1, w2, w3, w4, w5, w6, w7⟩, f0, f1, f2, f3, f4, f5, f6, f7⟩ := B9.out.bw.get8
                      go_upto_region 20 with (fail)
                      have BA := Lib.hid (B9.out.set1 (k := 7) (by simp) (.bool false))
                      have BA : Hid (Db w [.slice A2 n2 c2, .int .i64 r.room, .int .i64 r.fuse, .bool r.off, .int .i64 seg, .slice A7 (pn + 1) c7, .int .i64 (safe : Int), .bool false] ⟨1, num, s⟩ (W9.setCell ⟨w.heap.size, 7, none⟩ (.bool false))) := Lib.hid BA.out
                      have DA := Lib.hid (D9.out.set1 7 (.bool false))
                      clear w0 w1 w2 w3 w4 w5 w6 w7 f0 f1 f2 f3 f4 f5 f6 f7 B9 D9
                      generalize W9.setCell ⟨w.heap.size, 7, none⟩ (.bool false) = WA at BA DA ⊢
                      obtain ⟨⟨w0, w1, w2, w3, w4, w5, w6, w7⟩, _⟩ := BA.out.bw.get8
                      obtain ⟨⟨r0, r1, r2, r3, r4, r5, r6, r7⟩, g0, g1, g2, g3, g4, g5, g6, g7⟩ := BA.out.br.get8
                      go_wp2
                      refine bodyPost_ret (v := .agg #[.slice A2 n2 c2, .int .i64 r.room, .int .i64 r.fuse, .bool r.off, .int .i64 seg, .slice A7 (pn + 1) c7, .int .i64 (safe : Int), .bool false]) (by simp [results, Tryd.results6, go_sem, r0, r1, r2, r3, r4, r5, r6, r7]) rfl ?_
                      have hE := Dp.ends DA.out BA.out.q (.slice A2 n2 c2) (.int .i64 r.room) (.int .i64 r.fuse) (.bool r.off) (.int .i64 seg) (.slice A7 (pn + 1) c7) (.int .i64 (safe : Int)) (.bool false)
                      (try simp only [HPn.out] at hE)
                      (try rw [HPn.out])
                      exact hE
                  case' mzz16 => skip
                  exact AllReadyL.nil
              case' mzz17 => skip
              exact AllReadyL.nil
          case' mzz18 => skip
          exact AllReadyL.nil
      case' mzz19 => skip
      exact AllReadyL.nil
  case' mzz21 => skip
  exact AllReadyL.nil

set_option maxHeartbeats 8000000 in
theorem does_put_ok_on (num : Int) (s : ByteArray) (A : Option Addr) (n c : Nat) (P : Option Addr) (pn pc : Nat) (d : Dk) (seg : Int) (put : List Rec) (safe : Nat) (r : Dk) (sg er : Int) (w : World) (hT : Tab w) (hd : Dsk w A n c d.fs) (hB : Bnd 2305843009213693952 d) (hp : Strs w P pn put) (hnil : Nl P pn pc) (hs : s.size ≤ maxLen)
    (hr : putM d seg s = (r, sg, er)) (hpn : (pn + 1) * 16 ≤ 140737488355328) (he : er = 0) (hsg : sg ≠ seg) :
    Calls Tryd.prog 6 #[.agg #[.slice A n c, .int .i64 d.room, .int .i64 d.fuse, .bool d.off, .int .i64 seg, .slice P pn pc, .int .i64 (safe : Int), .bool false], .agg #[.int .i64 1, .int .i64 num, .string s]] w fun e w' => RetLw w ⟨r, sg, put ++ [s.data.toList], put.length, false⟩ e w' := by
  have HT := Lib.hid hT
  have HD := Lib.hid hd
  have HP := Lib.hid hp
  have HN := Lib.hid hnil
  have HPn := Lib.hid (show put.length = pn by have := hp.1; simpa using this)
  have K := Lib.hid (fun W (h1 : Tab W) (h2 : Dsk W A n c d.fs) => put_any seg s A n c d W h1 h2 hB hs)
  rw [hr] at K
  clear hT hd hp hnil hr hB hs
  subst he
  have HB := Lib.hid hpn
  clear hpn
  have hs1 : (sg == seg) = false := by simpa using hsg
  go_enter Tryd.func6, Tryd.ntmps6
  go_upto_region 1 with (fail)
  have B0 : Hid (Db w [.slice A n c, .int .i64 d.room, .int .i64 d.fuse, .bool d.off, .int .i64 seg, .slice P pn pc, .int .i64 (safe : Int), .bool false] ⟨1, num, s⟩ (((w.alloc (.cells #[.slice A n c, .int .i64 d.room, .int .i64 d.fuse, .bool d.off, .int .i64 seg, .slice P pn pc, .int .i64 (safe : Int), .bool false] 31)).alloc (.cells #[.int .i64 1, .int .i64 num, .string s] 33)).alloc (.cells #[.slice none 0 0, .int .i64 0, .int .i64 0, .bool false, .int .i64 0, .slice none 0 0, .int .i64 0, .bool false] 31))) := Lib.hid (Db.new w [.slice A n c, .int .i64 d.room, .int .i64 d.fuse, .bool d.off, .int .i64 seg, .slice P pn pc, .int .i64 (safe : Int), .bool false] ⟨1, num, s⟩ 31 33)
  generalize (((w.alloc (.cells #[.slice A n c, .int .i64 d.room, .int .i64 d.fuse, .bool d.off, .int .i64 seg, .slice P pn pc, .int .i64 (safe : Int), .bool false] 31)).alloc (.cells #[.int .i64 1, .int .i64 num, .string s] 33)).alloc (.cells #[.slice none 0 0, .int .i64 0, .int .i64 0, .bool false, .int .i64 0, .slice none 0 0, .int .i64 0, .bool false] 31)) = W at B0 ⊢
  obtain ⟨⟨k0, k1, k2⟩, _⟩ := B0.out.ba.get3
  obtain ⟨⟨w0, w1, w2, w3, w4, w5, w6, w7⟩, f0, f1, f2, f3, f4, f5, f6, f7⟩ := B0.out.bw.get8
  go_wp2_with fail
  refine (K.out W (HT.out.q B0.out.q) (HD.out.q B0.out.q)).mono ?_
  rintro e W1 ⟨A2, n2, c2, rfl, hd2, hf2, q1⟩
  have hlt := B0.out.br.lt
  have HD2 := Lib.hid (hd2.q ((Q.refl _).alloc (.cells #[.slice A2 n2 c2, .int .i64 r.room, .int .i64 r.fuse, .bool r.off] 26)))
  have HP2 := Lib.hid (((HP.out.q B0.out.q).q q1).q ((Q.refl _).alloc (.cells #[.slice A2 n2 c2, .int .i64 r.room, .int .i64 r.fuse, .bool r.off] 26)))
  have B1 := Lib.hid (B0.out.step (q1.alloc (.cells #[.slice A2 n2 c2, .int .i64 r.room, .int .i64 r.fuse, .bool r.off] 26)))
  have ha2 := Lib.hid (show 0 < n2 → ∀ ad, A2 = some ad → ad.block ≠ w.heap.size ∧ ad.block ≠ w.heap.size + 1 + 1 from fun _ ad e => by have := hf2 ad e; omega)
  have hp2 := Lib.hid (show 0 < pn → ∀ ad, P = some ad → ad.block ≠ w.heap.size ∧ ad.block ≠ w.heap.size + 1 + 1 from fun hn ad e => by have := strs_blk HP.out hn ad e; omega)
  clear k0 k1 k2 w0 w1 w2 w3 w4 w5 w6 w7 f0 f1 f2 f3 f4 f5 f6 f7
  have QW1 := Lib.hid q1
  clear B0 q1 hd2 hf2
  have XB := Lib.hid (Bx.new W1 [.slice A2 n2 c2, .int .i64 r.room, .int .i64 r.fuse, .bool r.off] 26)
  have hg : w.heap.size + 1 + 1 < W1.heap.size := by have := QW1.out.size; omega
  go_upto_region 6 with (fail)
  clear QW1
  have XB : Hid (Bx (W1.alloc (.cells #[.slice A2 n2 c2, .int .i64 r.room, .int .i64 r.fuse, .bool r.off] 26)) W1.heap.size [.slice A2 n2 c2, .int .i64 r.room, .int .i64 r.fuse, .bool r.off]) := Lib.hid XB.out
  generalize W1.alloc (.cells #[.slice A2 n2 c2, .int .i64 r.room, .int .i64 r.fuse, .bool r.off] 26) = W2 at HD2 HP2 B1 XB ⊢
  generalize W1.heap.size = g at hg XB ⊢
  obtain ⟨⟨w0, w1, w2, w3, w4, w5, w6, w7⟩, f0, f1, f2, f3, f4, f5, f6, f7⟩ := B1.out.bw.get8
  obtain ⟨⟨x0, x1, x2, x3⟩, _⟩ := XB.out.get4
  go_upto_region 8 with (fail)
  have B15 := Lib.hid (B1.out.set1 (k := 6) (by simp) (.int .i64 (pn : Int)))
  have B1 : Hid (Db w [.slice A n c, .int .i64 d.room, .int .i64 d.fuse, .bool d.off, .int .i64 seg, .slice P pn pc, .int .i64 (pn : Int), .bool false] ⟨1, num, s⟩ (W2.setCell ⟨w.heap.size, 6, none⟩ (.int .i64 (pn : Int)))) := Lib.hid B15.out
  have HD2 := Lib.hid (HD2.out.away1 (fun hn ad e => (ha2.out hn ad e).1) 6 (.int .i64 (pn : Int)))
  have HP2 := Lib.hid (HP2.out.away1 (fun hn ad e => (hp2.out hn ad e).1) 6 (.int .i64 (pn : Int)))
  have XB := Lib.hid (XB.out.far (p := ⟨w.heap.size, 6, none⟩) (by show w.heap.size ≠ g; omega) (.int .i64 (pn : Int)))
  clear w0 w1 w2 w3 w4 w5 w6 w7 f0 f1 f2 f3 f4 f5 f6 f7 x0 x1 x2 x3 B15
  generalize W2.setCell ⟨w.heap.size, 6, none⟩ (.int .i64 (pn : Int)) = W25 at B1 HD2 HP2 XB ⊢
  obtain ⟨⟨w0, w1, w2, w3, w4, w5, w6, w7⟩, f0, f1, f2, f3, f4, f5, f6, f7⟩ := B1.out.bw.get8
  obtain ⟨⟨x0, x1, x2, x3⟩, _⟩ := XB.out.get4
  go_upto_region 9 with (fail)
  have B2 := Lib.hid (B1.out.setD (.slice A2 n2 c2) (.int .i64 r.room) (.int .i64 r.fuse) (.bool r.off))
  have D2 := Lib.hid (dp_setD (w := w) (lw := ⟨r, sg, put, put.length, false⟩) (n := n2) (c := c2) (pc := pc) HD2.out HP2.out HN.out ha2.out hp2.out (.slice A2 n2 c2) (.int .i64 r.room) (.int .i64 r.fuse) (.bool r.off))
  clear w0 w1 w2 w3 w4 w5 w6 w7 f0 f1 f2 f3 f4 f5 f6 f7 x0 x1 x2 x3 B1 XB HD2 HP2
  generalize ((((W25.setCell ⟨w.heap.size, 0, none⟩ (.slice A2 n2 c2)).setCell ⟨w.heap.size, 1, none⟩ (.int .i64 r.room)).setCell ⟨w.heap.size, 2, none⟩ (.int .i64 r.fuse)).setCell ⟨w.heap.size, 3, none⟩ (.bool r.off)) = W3 at B2 D2 ⊢
  obtain ⟨⟨w0, w1, w2, w3, w4, w5, w6, w7⟩, f0, f1, f2, f3, f4, f5, f6, f7⟩ := B2.out.bw.get8
  go_upto_region 11 with (fail)
  have B4 : Hid (Db w [.slice A2 n2 c2, .int .i64 r.room, .int .i64 r.fuse, .bool r.off, .int .i64 sg, .slice P pn pc, .int .i64 (pn : Int), .bool false] ⟨1, num, s⟩ (W3.setCell ⟨w.heap.size, 4, none⟩ (.int .i64 sg))) := Lib.hid (B2.out.set1 (k := 4) (by simp) (.int .i64 sg))
  have D4 := Lib.hid (D2.out.set1 4 (.int .i64 sg))
  clear w0 w1 w2 w3 w4 w5 w6 w7 f0 f1 f2 f3 f4 f5 f6 f7 B2 D2
  generalize W3.setCell ⟨w.heap.size, 4, none⟩ (.int .i64 sg) = W4 at B4 D4 ⊢
  have HZ := Lib.hid B4.out.br.lt
  have SS := Lib.hid (fun W' (q : Q W4 W') => (⟨(B4.out.bw.q q).get8.1.2.2.2.2.2.1, (B4.out.ba.q q).get3.1.2.2⟩ : W'.cell? ⟨w.heap.size, 5, none⟩ = some (.slice P pn pc) ∧ W'.cell? ⟨w.heap.size + 1, 2, none⟩ = some (.string s)))
  obtain ⟨⟨w0, w1, w2, w3, w4, w5, w6, w7⟩, f0, f1, f2, f3, f4, f5, f6, f7⟩ := B4.out.bw.get8
  obtain ⟨⟨k0, k1, k2⟩, _⟩ := B4.out.ba.get3
  refine wp_region_heldL 9 (fun w' => w'.cell? ⟨w.heap.size, 5, none⟩ = some (.slice P pn pc) ∧ w'.cell? ⟨w.heap.size + 1, 2, none⟩ = some (.string s)) (by kernel_rfl) ?szz22 (fun hHeld => ?rzz22)
  case szz22 =>
    exact ⟨w5, k2⟩
  case' rzz22 => skip
  refine wpAnyL_take (i := 1) (oi := ?ozz23) (v := ?vzz23) ?hzz23 ?azz23 ?bzz23 ?czz23 ?kzz23 ?qzz23 ?yzz23 ?szz23 ?rzz23
  case hzz23 => simp only [List.getElem?_toArray, List.getElem?_cons_zero, List.getElem?_cons_succ]; rfl
  case azz23 => kernel_rfl
  case bzz23 => kernel_rfl
  case czz23 => kernel_rfl
  case kzz23 => kernel_rfl
  case yzz23 =>
    refine Or.inl ⟨by rfl, ?_⟩
    intro w hSw
    obtain ⟨s0, s1⟩ := hSw
    go_simp
    try with_reducible rfl
  case qzz23 => exact fun _ _ _ h => h
  case szz23 => first | assumption | trivial
  case' rzz23 => simp only [Act.put, List.setIfInBounds_toArray, List.set_cons_zero, List.set_cons_succ]
  refine wpAnyL_take (i := 2) (oi := ?ozz24) (v := ?vzz24) ?hzz24 ?azz24 ?bzz24 ?czz24 ?kzz24 ?qzz24 ?yzz24 ?szz24 ?rzz24
  case hzz24 => simp only [List.getElem?_toArray, List.getElem?_cons_zero, List.getElem?_cons_succ]; rfl
  case azz24 => kernel_rfl
  case bzz24 => kernel_rfl
  case czz24 => kernel_rfl
  case kzz24 => kernel_rfl
  case yzz24 =>
    refine Or.inl ⟨by rfl, ?_⟩
    intro w hSw
    obtain ⟨s0, s1⟩ := hSw
    go_simp
    try with_reducible rfl
  case qzz24 => exact fun _ _ _ h => h
  case szz24 => first | assumption | trivial
  case' rzz24 => simp only [Act.put, List.setIfInBounds_toArray, List.set_cons_zero, List.set_cons_succ]
  refine wpAnyL_take (i := 4) (oi := ?ozz25) (v := ?vzz25) ?hzz25 ?azz25 ?bzz25 ?czz25 ?kzz25 ?qzz25 ?yzz25 ?szz25 ?rzz25
  case hzz25 => simp only [List.getElem?_toArray, List.getElem?_cons_zero, List.getElem?_cons_succ]; rfl
  case azz25 => kernel_rfl
  case bzz25 => kernel_rfl
  case czz25 => kernel_rfl
  case kzz25 => kernel_rfl
  case yzz25 =>
    refine Or.inl ⟨by rfl, ?_⟩
    intro w hSw
    obtain ⟨s0, s1⟩ := hSw
    go_simp
    try with_reducible rfl
  case qzz25 => exact fun _ _ _ h => h
  case szz25 => first | assumption | trivial
  case' rzz25 => simp only [Act.put, List.setIfInBounds_toArray, List.set_cons_zero, List.set_cons_succ]
  refine wpAnyL_take (i := 5) (oi := ?ozz26) (v := ?vzz26) ?hzz26 ?azz26 ?bzz26 ?czz26 ?kzz26 ?qzz26 ?yzz26 ?szz26 ?rzz26
  case hzz26 => simp only [List.getElem?_toArray, List.getElem?_cons_zero, List.getElem?_cons_succ]; rfl
  case azz26 => kernel_rfl
  case bzz26 => kernel_rfl
  case czz26 => kernel_rfl
  case kzz26 => kernel_rfl
  case yzz26 =>
    refine Or.inl ⟨by rfl, ?_⟩
    intro w hSw
    obtain ⟨s0, s1⟩ := hSw
    go_simp
    try with_reducible rfl
  case qzz26 => exact fun _ _ _ h => h
  case szz26 => first | assumption | trivial
  case' rzz26 => simp only [Act.put, List.setIfInBounds_toArray, List.set_cons_zero, List.set_cons_succ]
  refine wpAnyL_ready (rs := [0, 6]) (by kernel_rfl) (by simp) ?_
  refine AllReadyL.cons (o := ?ozz42) ?hzz42 (fun K hK => ?kzz42) ?mzz42
  case hzz42 => simp only [List.getElem?_toArray, List.getElem?_cons_zero]; rfl
  case kzz42 =>
    go_simp
    refine hK.out _ _ ?Szz42 (fun hHeld => ?Rzz42)
    case Szz42 =>
      exact SS.out _ (((Q.refl W4).drew).alloc (.cells #[] 9))
    case Rzz42 =>
      clear hK K
      try simp only [Act.put, List.setIfInBounds_toArray, List.set_cons_zero, List.set_cons_succ]
      refine wpAnyL_ready (rs := [3, 6]) (by kernel_rfl) (by simp) ?_
      refine AllReadyL.cons (o := ?ozz35) ?hzz35 (fun K hK => ?kzz35) ?mzz35
      case hzz35 => simp only [List.getElem?_toArray, List.getElem?_cons_zero, List.getElem?_cons_succ]; rfl
      case kzz35 =>
        refine step_appKN strsK (by rfl) _ _ _ rfl (by rfl) W4.heap.size _ 0 0 [] (by rfl) (OwnK.lit0 strsK W4.drew W4.heap.size (Nat.le_refl _)) P pn pc put (by rfl) (Strs.lst (D4.out.put.q (((Q.refl W4).drew).alloc (.cells #[] 9)))) D4.out.nil.1 pn (by omega) put (by simp) (by show pn * 16 ≤ _; have := HB.out; omega) (by first | (simp; done) | (simp; omega)) ?_
        intro A6 c6 w6 o6 b6 g6
        have q6 : Q W4 w6 := (((Q.refl W4).drew).alloc (.cells #[] 9)).below.trans b6
        refine hK.out _ _ ?Szz35 (fun hHeld => ?Rzz35)
        case Szz35 =>
          exact SS.out _ q6
        case Rzz35 =>
          clear hK K
          try simp only [Act.put, List.setIfInBounds_toArray, List.set_cons_zero, List.set_cons_succ]
          refine wpAnyL_ready (rs := [6]) (by kernel_rfl) (by simp) ?_
          refine AllReadyL.cons (o := ?ozz30) ?hzz30 (fun K hK => ?kzz30) ?mzz30
          case hzz30 => simp only [List.getElem?_toArray, List.getElem?_cons_zero, List.getElem?_cons_succ]; rfl
          case kzz30 =>
            go_simp
            refine hK.out _ _ ?Szz30 (fun hHeld => ?Rzz30)
            case Szz30 =>
              exact SS.out _ (q6.alloc (.cells #[.string s] 9))
            case Rzz30 =>
              clear hK K
              try simp only [Act.put, List.setIfInBounds_toArray, List.set_cons_zero, List.set_cons_succ]
              refine wpAnyL_ready (rs := [7]) (by kernel_rfl) (by simp) ?_
              refine AllReadyL.cons (o := ?ozz29) ?hzz29 (fun K hK => ?kzz29) ?mzz29
              case hzz29 => simp only [List.getElem?_toArray, List.getElem?_cons_zero, List.getElem?_cons_succ]; rfl
              case kzz29 =>
                refine step_appKN strsK (by rfl) _ _ _ rfl (by rfl) W4.heap.size A6 pn c6 put (by rfl) (o6.alloc (.cells #[.string s] 9)) _ 1 1 [s.data.toList] (by rfl) (OwnK.lst (lit_str w6 W4.heap.size (by have := q6.size; omega) s)) (fun e => by cases e) (pn + 1) rfl (put ++ [s.data.toList]) rfl (by show (pn + 1) * 16 ≤ _; exact HB.out) (by have := q6.size; first | omega | (simp; omega)) ?_
                intro A7 c7 w7 o7 b7 g7
                have q7 : Q W4 w7 := (q6.alloc (.cells #[.string s] 9)).below.trans b7
                refine hK.out _ _ ?Szz29 (fun hHeld => ?Rzz29)
                case Szz29 =>
                  exact SS.out _ q7
                case Rzz29 =>
                  clear hK K
                  try simp only [Act.put, List.setIfInBounds_toArray, List.set_cons_zero, List.set_cons_succ]
                  refine wpAnyL_take (i := 8) (oi := ?ozz27) (v := ?vzz27) ?hzz27 ?azz27 ?bzz27 ?czz27 ?kzz27 ?qzz27 ?yzz27 ?szz27 ?rzz27
                  case hzz27 => simp only [List.getElem?_toArray, List.getElem?_cons_zero, List.getElem?_cons_succ]; rfl
                  case azz27 => kernel_rfl
                  case bzz27 => kernel_rfl
                  case czz27 => kernel_rfl
                  case kzz27 => kernel_rfl
                  case yzz27 =>
                    refine Or.inl ⟨by rfl, ?_⟩
                    intro w hSw
                    obtain ⟨s0, s1⟩ := hSw
                    go_simp
                    try with_reducible rfl
                  case qzz27 => exact fun _ _ _ h => h
                  case szz27 => first | assumption | trivial
                  case' rzz27 => simp only [Act.put, List.setIfInBounds_toArray, List.set_cons_zero, List.set_cons_succ]
                  refine wpAnyL_ready (rs := [9]) (by kernel_rfl) (by simp) ?_
                  refine AllReadyL.consK (o := ?ozz28) ?hzz28 ?lzz28 (fun K hK => ?kzz28) ?mzz28
                  case hzz28 => simp only [List.getElem?_toArray, List.getElem?_cons_zero, List.getElem?_cons_succ]; rfl
                  case lzz28 => kernel_rfl
                  case kzz28 =>
                    obtain ⟨⟨p0, p1, p2, p3, p4, p5, p6, p7⟩, f0, f1, f2, f3, f4, f5, f6, f7⟩ := (B4.out.step q7).bw.get8
                    go_simp
                    refine hK.out _ _ ?Rzz28
                    case Rzz28 =>
                      clear hK K
                      try simp only [Act.put, List.setIfInBounds_toArray, List.set_cons_zero, List.set_cons_succ]
                      refine wpAnyH_done (by kernel_rfl) ?_ _
                      have B9 := Lib.hid ((B4.out.step q7).set1 (k := 5) (by simp) (.slice A7 (pn + 1) c7))
                      have D9 := Lib.hid (D4.out.more HZ.out q7 o7 (.slice A7 (pn + 1) c7))
                      have B9 : Hid (Db w [.slice A2 n2 c2, .int .i64 r.room, .int .i64 r.fuse, .bool r.off, .int .i64 sg, .slice A7 (pn + 1) c7, .int .i64 (pn : Int), .bool false] ⟨1, num, s⟩ (w7.setCell ⟨w.heap.size, 5, none⟩ (.slice A7 (pn + 1) c7))) := Lib.hid B9.out
                      clear B4 D4 p0 p1 p2 p3 p4 p5 p6 p7 f0 f1 f2 f3 f4 f5 f6 f7 q7 o7
                      generalize w7.setCell ⟨w.heap.size, 5, none⟩ (.slice A7 (pn + 1) c7) = W9 at B9 D9 ⊢
                      obtain ⟨⟨w0, w1, w2, w3, w4, w5, w6, w7⟩, f0, f1, f2, f3, f4, f5, f6, f7⟩ := B9.out.bw.get8
                      go_upto_region 20 with (fail)
                      have BA := Lib.hid (B9.out.set1 (k := 7) (by simp) (.bool false))
                      have BA : Hid (Db w [.slice A2 n2 c2, .int .i64 r.room, .int .i64 r.fuse, .bool r.off, .int .i64 sg, .slice A7 (pn + 1) c7, .int .i64 (pn : Int), .bool false] ⟨1, num, s⟩ (W9.setCell ⟨w.heap.size, 7, none⟩ (.bool false))) := Lib.hid BA.out
                      have DA := Lib.hid (D9.out.set1 7 (.bool false))
                      clear w0 w1 w2 w3 w4 w5 w6 w7 f0 f1 f2 f3 f4 f5 f6 f7 B9 D9
                      generalize W9.setCell ⟨w.heap.size, 7, none⟩ (.bool false) = WA at BA DA ⊢
                      obtain ⟨⟨w0, w1, w2, w3, w4, w5, w6, w7⟩, _⟩ := BA.out.bw.get8
                      obtain ⟨⟨r0, r1, r2, r3, r4, r5, r6, r7⟩, g0, g1, g2, g3, g4, g5, g6, g7⟩ := BA.out.br.get8
                      go_wp2
                      refine bodyPost_ret (v := .agg #[.slice A2 n2 c2, .int .i64 r.room, .int .i64 r.fuse, .bool r.off, .int .i64 sg, .slice A7 (pn + 1) c7, .int .i64 (pn : Int), .bool false]) (by simp [results, Tryd.results6, go_sem, r0, r1, r2, r3, r4, r5, r6, r7]) rfl ?_
                      have hE := Dp.ends DA.out BA.out.q (.slice A2 n2 c2) (.int .i64 r.room) (.int .i64 r.fuse) (.bool r.off) (.int .i64 sg) (.slice A7 (pn + 1) c7) (.int .i64 (pn : Int)) (.bool false)
                      (try simp only [HPn.out] at hE)
                      (try rw [HPn.out])
                      exact hE
                  case' mzz28 => skip
                  exact AllReadyL.nil
              case' mzz29 => skip
              exact AllReadyL.nil
          case' mzz30 => skip
          exact AllReadyL.nil
      case' mzz35 => skip
      refine AllReadyL.cons (o := ?ozz36) ?hzz36 (fun K hK => ?kzz36) ?mzz36
      case hzz36 => simp only [List.getElem?_toArray, List.getElem?_cons_zero, List.getElem?_cons_succ]; rfl
      case kzz36 =>
        go_simp
        refine hK.out _ _ ?Szz36 (fun hHeld => ?Rzz36)
        case Szz36 =>
          exact SS.out _ ((((Q.refl W4).drew).alloc (.cells #[] 9)).alloc (.cells #[.string s] 9))
        case Rzz36 =>
          clear hK K
          try simp only [Act.put, List.setIfInBounds_toArray, List.set_cons_zero, List.set_cons_succ]
          refine wpAnyL_ready (rs := [3]) (by kernel_rfl) (by simp) ?_
          refine AllReadyL.cons (o := ?ozz34) ?hzz34 (fun K hK => ?kzz34) ?mzz34
          case hzz34 => simp only [List.getElem?_toArray, List.getElem?_cons_zero, List.getElem?_cons_succ]; rfl
          case kzz34 =>
            refine step_appKN strsK (by rfl) _ _ _ rfl (by rfl) W4.heap.size _ 0 0 [] (by rfl) ((OwnK.lit0 strsK W4.drew W4.heap.size (Nat.le_refl _)).alloc (.cells #[.string s] 9)) P pn pc put (by rfl) (Strs.lst (D4.out.put.q ((((Q.refl W4).drew).alloc (.cells #[] 9)).alloc (.cells #[.string s] 9)))) D4.out.nil.1 pn (by omega) put (by simp) (by show pn * 16 ≤ _; have := HB.out; omega) (by first | (simp; done) | (simp; omega)) ?_
            intro A6 c6 w6 o6 b6 g6
            have q6 : Q W4 w6 := ((((Q.refl W4).drew).alloc (.cells #[] 9)).alloc (.cells #[.string s] 9)).below.trans b6
            refine hK.out _ _ ?Szz34 (fun hHeld => ?Rzz34)
            case Szz34 =>
              exact SS.out _ q6
            case Rzz34 =>
              clear hK K
              try simp only [Act.put, List.setIfInBounds_toArray, List.set_cons_zero, List.set_cons_succ]
              refine wpAnyL_ready (rs := [7]) (by kernel_rfl) (by simp) ?_
              refine AllReadyL.cons (o := ?ozz33) ?hzz33 (fun K hK => ?kzz33) ?mzz33
              case hzz33 => simp only [List.getElem?_toArray, List.getElem?_cons_zero, List.getElem?_cons_succ]; rfl
              case kzz33 =>
                refine step_appKN strsK (by rfl) _ _ _ rfl (by rfl) W4.heap.size A6 pn c6 put (by rfl) o6 _ 1 1 [s.data.toList] (by rfl) (OwnK.lst (OwnK.away (show OwnK strsK ((W4.drew.alloc (.cells #[] 9)).alloc (.cells #[.string s] 9)) W4.heap.size (some ⟨W4.heap.size + 1, 0, none⟩) 1 1 [s.data.toList] from by have h := lit_str (W4.drew.alloc (.cells #[] 9)) W4.heap.size (by simp) s; rw [show (W4.drew.alloc (.cells #[] 9)).heap.size = W4.heap.size + 1 by simp] at h; exact h) g6 (by intro a b e1 e2; injection e1 with e1; injection e2 with e2; subst e1 e2; first | (simp; done) | (simp; omega)) (fun _ => trivial))) (fun e => by cases e) (pn + 1) rfl (put ++ [s.data.toList]) rfl (by show (pn + 1) * 16 ≤ _; exact HB.out) (by have := q6.size; first | omega | (simp; omega)) ?_
                intro A7 c7 w7 o7 b7 g7
                have q7 : Q W4 w7 := q6.below.trans b7
                refine hK.out _ _ ?Szz33 (fun hHeld => ?Rzz33)
                case Szz33 =>
                  exact SS.out _ q7
                case Rzz33 =>
                  clear hK K
                  try simp only [Act.put, List.setIfInBounds_toArray, List.set_cons_zero, List.set_cons_succ]
                  refine wpAnyL_take (i := 8) (oi := ?ozz31) (v := ?vzz31) ?hzz31 ?azz31 ?bzz31 ?czz31 ?kzz31 ?qzz31 ?yzz31 ?szz31 ?rzz31
                  case hzz31 => simp only [List.getElem?_toArray, List.getElem?_cons_zero, List.getElem?_cons_succ]; rfl
                  case azz31 => kernel_rfl
                  case bzz31 => kernel_rfl
                  case czz31 => kernel_rfl
                  case kzz31 => kernel_rfl
                  case yzz31 =>
                    refine Or.inl ⟨by rfl, ?_⟩
                    intro w hSw
                    obtain ⟨s0, s1⟩ := hSw
                    go_simp
                    try with_reducible rfl
                  case qzz31 => exact fun _ _ _ h => h
                  case szz31 => first | assumption | trivial
                  case' rzz31 => simp only [Act.put, List.setIfInBounds_toArray, List.set_cons_zero, List.set_cons_succ]
                  refine wpAnyL_ready (rs := [9]) (by kernel_rfl) (by simp) ?_
                  refine AllReadyL.consK (o := ?ozz32) ?hzz32 ?lzz32 (fun K hK => ?kzz32) ?mzz32
                  case hzz32 => simp only [List.getElem?_toArray, List.getElem?_cons_zero, List.getElem?_cons_succ]; rfl
                  case lzz32 => kernel_rfl
                  case kzz32 =>
                    obtain ⟨⟨p0, p1, p2, p3, p4, p5, p6, p7⟩, f0, f1, f2, f3, f4, f5, f6, f7⟩ := (B4.out.step q7).bw.get8
                    go_simp
                    refine hK.out _ _ ?Rzz32
                    case Rzz32 =>
                      clear hK K
                      try simp only [Act.put, List.setIfInBounds_toArray, List.set_cons_zero, List.set_cons_succ]
                      refine wpAnyH_done (by kernel_rfl) ?_ _
                      have B9 := Lib.hid ((B4.out.step q7).set1 (k := 5) (by simp) (.slice A7 (pn + 1) c7))
                      have D9 := Lib.hid (D4.out.more HZ.out q7 o7 (.slice A7 (pn + 1) c7))
                      have B9 : Hid (Db w [.slice A2 n2 c2, .int .i64 r.room, .int .i64 r.fuse, .bool r.off, .int .i64 sg, .slice A7 (pn + 1) c7, .int .i64 (pn : Int), .bool false] ⟨1, num, s⟩ (w7.setCell ⟨w.heap.size, 5, none⟩ (.slice A7 (pn + 1) c7))) := Lib.hid B9.out
                      clear B4 D4 p0 p1 p2 p3 p4 p5 p6 p7 f0 f1 f2 f3 f4 f5 f6 f7 q7 o7
                      generalize w7.setCell ⟨w.heap.size, 5, none⟩ (.slice A7 (pn + 1) c7) = W9 at B9 D9 ⊢
                      obtain ⟨⟨w0, w1, w2, w3, w4, w5, w6, w7⟩, f0, f1, f2, f3, f4, f5, f6, f7⟩ := B9.out.bw.get8
                      go_upto_region 20 with (fail)
                      have BA := Lib.hid (B9.out.set1 (k := 7) (by simp) (.bool false))
                      have BA : Hid (Db w [.slice A2 n2 c2, .int .i64 r.room, .int .i64 r.fuse, .bool r.off, .int .i64 sg, .slice A7 (pn + 1) c7, .int .i64 (pn : Int), .bool false] ⟨1, num, s⟩ (W9.setCell ⟨w.heap.size, 7, none⟩ (.bool false))) := Lib.hid BA.out
                      have DA := Lib.hid (D9.out.set1 7 (.bool false))
                      clear w0 w1 w2 w3 w4 w5 w6 w7 f0 f1 f2 f3 f4 f5 f6 f7 B9 D9
                      generalize W9.setCell ⟨w.heap.size, 7, none⟩ (.bool false) = WA at BA DA ⊢
                      obtain ⟨⟨w0, w1, w2, w3, w4, w5, w6, w7⟩, _⟩ := BA.out.bw.get8
                      obtain ⟨⟨r0, r1, r2, r3, r4, r5, r6, r7⟩, g0, g1, g2, g3, g4, g5, g6, g7⟩ := BA.out.br.get8
                      go_wp2
                      refine bodyPost_ret (v := .agg #[.slice A2 n2 c2, .int .i64 r.room, .int .i64 r.fuse, .bool r.off, .int .i64 sg, .slice A7 (pn + 1) c7, .int .i64 (pn : Int), .bool false]) (by simp [results, Tryd.results6, go_sem, r0, r1, r2, r3, r4, r5, r6, r7]) rfl ?_
                      have hE := Dp.ends DA.out BA.out.q (.slice A2 n2 c2) (.int .i64 r.room) (.int .i64 r.fuse) (.bool r.off) (.int .i64 sg) (.slice A7 (pn + 1) c7) (.int .i64 (pn : Int)) (.bool false)
                      (try simp only [HPn.out] at hE)
                      (try rw [HPn.out])
                      exact hE
                  case' mzz32 => skip
                  exact AllReadyL.nil
              case' mzz33 => skip
              exact AllReadyL.nil
          case' mzz34 => skip
          exact AllReadyL.nil
      case' mzz36 => skip
      exact AllReadyL.nil
  case' mzz42 => skip
  refine AllReadyL.cons (o := ?ozz43) ?hzz43 (fun K hK => ?kzz43) ?mzz43
  case hzz43 => simp only [List.getElem?_toArray, List.getElem?_cons_zero, List.getElem?_cons_succ]; rfl
  case kzz43 =>
    go_simp
    refine hK.out _ _ ?Szz43 (fun hHeld => ?Rzz43)
    case Szz43 =>
      exact SS.out _ (((Q.refl W4).drew).alloc (.cells #[.string s] 9))
    case Rzz43 =>
      clear hK K
      try simp only [Act.put, List.setIfInBounds_toArray, List.set_cons_zero, List.set_cons_succ]
      refine wpAnyL_ready (rs := [0]) (by kernel_rfl) (by simp) ?_
      refine AllReadyL.cons (o := ?ozz41) ?hzz41 (fun K hK => ?kzz41) ?mzz41
      case hzz41 => simp only [List.getElem?_toArray, List.getElem?_cons_zero]; rfl
      case kzz41 =>
        go_simp
        refine hK.out _ _ ?Szz41 (fun hHeld => ?Rzz41)
        case Szz41 =>
          exact SS.out _ ((((Q.refl W4).drew).alloc (.cells #[.string s] 9)).alloc (.cells #[] 9))
        case Rzz41 =>
          clear hK K
          try simp only [Act.put, List.setIfInBounds_toArray, List.set_cons_zero, List.set_cons_succ]
          refine wpAnyL_ready (rs := [3]) (by kernel_rfl) (by simp) ?_
          refine AllReadyL.cons (o := ?ozz40) ?hzz40 (fun K hK => ?kzz40) ?mzz40
          case hzz40 => simp only [List.getElem?_toArray, List.getElem?_cons_zero, List.getElem?_cons_succ]; rfl
          case kzz40 =>
            refine step_appKN strsK (by rfl) _ _ _ rfl (by rfl) W4.heap.size _ 0 0 [] (by rfl) (show OwnK strsK ((W4.drew.alloc (.cells #[.string s] 9)).alloc (.cells #[] 9)) W4.heap.size (some ⟨W4.heap.size + 1, 0, none⟩) 0 0 [] from by have h := OwnK.lit0 strsK (W4.drew.alloc (.cells #[.string s] 9)) W4.heap.size (by simp); rw [show (W4.drew.alloc (.cells #[.string s] 9)).heap.size = W4.heap.size + 1 by simp] at h; exact h) P pn pc put (by rfl) (Strs.lst (D4.out.put.q ((((Q.refl W4).drew).alloc (.cells #[.string s] 9)).alloc (.cells #[] 9)))) D4.out.nil.1 pn (by omega) put (by simp) (by show pn * 16 ≤ _; have := HB.out; omega) (by first | (simp; done) | (simp; omega)) ?_
            intro A6 c6 w6 o6 b6 g6
            have q6 : Q W4 w6 := ((((Q.refl W4).drew).alloc (.cells #[.string s] 9)).alloc (.cells #[] 9)).below.trans b6
            refine hK.out _ _ ?Szz40 (fun hHeld => ?Rzz40)
            case Szz40 =>
              exact SS.out _ q6
            case Rzz40 =>
              clear hK K
              try simp only [Act.put, List.setIfInBounds_toArray, List.set_cons_zero, List.set_cons_succ]
              refine wpAnyL_ready (rs := [7]) (by kernel_rfl) (by simp) ?_
              refine AllReadyL.cons (o := ?ozz39) ?hzz39 (fun K hK => ?kzz39) ?mzz39
              case hzz39 => simp only [List.getElem?_toArray, List.getElem?_cons_zero, List.getElem?_cons_succ]; rfl
              case kzz39 =>
                refine step_appKN strsK (by rfl) _ _ _ rfl (by rfl) W4.heap.size A6 pn c6 put (by rfl) o6 _ 1 1 [s.data.toList] (by rfl) (OwnK.lst (OwnK.away ((lit_str W4.drew W4.heap.size (Nat.le_refl _) s).alloc (.cells #[] 9)) g6 (by intro a b e1 e2; injection e1 with e1; injection e2 with e2; subst e1 e2; first | (simp; done) | (simp; omega)) (fun _ => trivial))) (fun e => by cases e) (pn + 1) rfl (put ++ [s.data.toList]) rfl (by show (pn + 1) * 16 ≤ _; exact HB.out) (by have := q6.size; first | omega | (simp; omega)) ?_
                intro A7 c7 w7 o7 b7 g7
                have q7 : Q W4 w7 := q6.below.trans b7
                refine hK.out _ _ ?Szz39 (fun hHeld => ?Rzz39)
                case Szz39 =>
                  exact SS.out _ q7
                case Rzz39 =>
                  clear hK K
                  try simp only [Act.put, List.setIfInBounds_toArray, List.set_cons_zero, List.set_cons_succ]
                  refine wpAnyL_take (i := 8) (oi := ?ozz37) (v := ?vzz37) ?hzz37 ?azz37 ?bzz37 ?czz37 ?kzz37 ?qzz37 ?yzz37 ?szz37 ?rzz37
                  case hzz37 => simp only [List.getElem?_toArray, List.getElem?_cons_zero, List.getElem?_cons_succ]; rfl
                  case azz37 => kernel_rfl
                  case bzz37 => kernel_rfl
                  case czz37 => kernel_rfl
                  case kzz37 => kernel_rfl
                  case yzz37 =>
                    refine Or.inl ⟨by rfl, ?_⟩
                    intro w hSw
                    obtain ⟨s0, s1⟩ := hSw
                    go_simp
                    try with_reducible rfl
                  case qzz37 => exact fun _ _ _ h => h
                  case szz37 => first | assumption | trivial
                  case' rzz37 => simp only [Act.put, List.setIfInBounds_toArray, List.set_cons_zero, List.set_cons_succ]
                  refine wpAnyL_ready (rs := [9]) (by kernel_rfl) (by simp) ?_
                  refine AllReadyL.consK (o := ?ozz38) ?hzz38 ?lzz38 (fun K hK => ?kzz38) ?mzz38
                  case hzz38 => simp only [List.getElem?_toArray, List.getElem?_cons_zero, List.getElem?_cons_succ]; rfl
                  case lzz38 => kernel_rfl
                  case kzz38 =>
                    obtain ⟨⟨p0, p1, p2, p3, p4, p5, p6, p7⟩, f0, f1, f2, f3, f4, f5, f6, f7⟩ := (B4.out.step q7).bw.get8
                    go_simp
                    refine hK.out _ _ ?Rzz38
                    case Rzz38 =>
                      clear hK K
                      try simp only [Act.put, List.setIfInBounds_toArray, List.set_cons_zero, List.set_cons_succ]
                      refine wpAnyH_done (by kernel_rfl) ?_ _
                      have B9 := Lib.hid ((B4.out.step q7).set1 (k := 5) (by simp) (.slice A7 (pn + 1) c7))
                      have D9 := Lib.hid (D4.out.more HZ.out q7 o7 (.slice A7 (pn + 1) c7))
                      have B9 : Hid (Db w [.slice A2 n2 c2, .int .i64 r.room, .int .i64 r.fuse, .bool r.off, .int .i64 sg, .slice A7 (pn + 1) c7, .int .i64 (pn : Int), .bool false] ⟨1, num, s⟩ (w7.setCell ⟨w.heap.size, 5, none⟩ (.slice A7 (pn + 1) c7))) := Lib.hid B9.out
                      clear B4 D4 p0 p1 p2 p3 p4 p5 p6 p7 f0 f1 f2 f3 f4 f5 f6 f7 q7 o7
                      generalize w7.setCell ⟨w.heap.size, 5, none⟩ (.slice A7 (pn + 1) c7) = W9 at B9 D9 ⊢
                      obtain ⟨⟨w0, w1, w2, w3, w4, w5, w6, w7⟩, f0, f1, f2, f3, f4, f5, f6, f7⟩ := B9.out.bw.get8
                      go_upto_region 20 with (fail)
                      have BA := Lib.hid (B9.out.set1 (k := 7) (by simp) (.bool false))
                      have BA : Hid (Db w [.slice A2 n2 c2, .int .i64 r.room, .int .i64 r.fuse, .bool r.off, .int .i64 sg, .slice A7 (pn + 1) c7, .int .i64 (pn : Int), .bool false] ⟨1, num, s⟩ (W9.setCell ⟨w.heap.size, 7, none⟩ (.bool false))) := Lib.hid BA.out
                      have DA := Lib.hid (D9.out.set1 7 (.bool false))
                      clear w0 w1 w2 w3 w4 w5 w6 w7 f0 f1 f2 f3 f4 f5 f6 f7 B9 D9
                      generalize W9.setCell ⟨w.heap.size, 7, none⟩ (.bool false) = WA at BA DA ⊢
                      obtain ⟨⟨w0, w1, w2, w3, w4, w5, w6, w7⟩, _⟩ := BA.out.bw.get8
                      obtain ⟨⟨r0, r1, r2, r3, r4, r5, r6, r7⟩, g0, g1, g2, g3, g4, g5, g6, g7⟩ := BA.out.br.get8
                      go_wp2
                      refine bodyPost_ret (v := .agg #[.slice A2 n2 c2, .int .i64 r.room, .int .i64 r.fuse, .bool r.off, .int .i64 sg, .slice A7 (pn + 1) c7, .int .i64 (pn : Int), .bool false]) (by simp [results, Tryd.results6, go_sem, r0, r1, r2, r3, r4, r5, r6, r7]) rfl ?_
                      have hE := Dp.ends DA.out BA.out.q (.slice A2 n2 c2) (.int .i64 r.room) (.int .i64 r.fuse) (.bool r.off) (.int .i64 sg) (.slice A7 (pn + 1) c7) (.int .i64 (pn : Int)) (.bool false)
                      (try simp only [HPn.out] at hE)
                      (try rw [HPn.out])
                      exact hE
                  case' mzz38 => skip
                  exact AllReadyL.nil
              case' mzz39 => skip
              exact AllReadyL.nil
          case' mzz40 => skip
          exact AllReadyL.nil
      case' mzz41 => skip
      exact AllReadyL.nil
  case' mzz43 => skip
  exact AllReadyL.nil
end Go.Proofs.YtncippafbohgbaaDoor

/- The contract of any act of a log's law. -/
namespace Go.Proofs.YtncippafbohgbaaDoor
set_option maxRecDepth 100000
open Go.RowKit Dkm Wm Wl
set_option linter.unusedVariables false

/-- what an act makes of the law's world. -/
def Wl.Lw.acts (lw : Lw) (a : WAct) : Lw :=
  if a.kind = 1 then lw.puts a.s else if a.kind = 2 then lw.syncs else if a.kind = 3 then { lw with d := { lw.d with fuse := max a.num (-1) } } else lw

theorem wdoes_any (a : WAct) (A : Option Addr) (n c : Nat) (P : Option Addr) (pn pc : Nat) (lw : Lw) (w : World) (hT : Tab w) (hd : Dsk w A n c lw.d.fs) (hB : Bnd 2305843009213693952 lw.d) (hp : Strs w P pn lw.put) (hnil : Nl P pn pc) (hs : a.s.size ≤ maxLen) (hpn : (pn + 1) * 16 ≤ 140737488355328) :
    Calls Tryd.prog 6 #[.agg #[.slice A n c, .int .i64 lw.d.room, .int .i64 lw.d.fuse, .bool lw.d.off, .int .i64 lw.seg, .slice P pn pc, .int .i64 (lw.safe : Int), .bool lw.dead], a.v] w fun e w' => RetLw w (lw.acts a) e w' := by
  by_cases h1 : a.kind = 1
  · rw [show lw.acts a = lw.puts a.s by unfold Wl.Lw.acts; rw [if_pos h1]]
    obtain ⟨kind, num, s⟩ := a
    obtain ⟨d, seg, put, safe, dead⟩ := lw
    simp only at h1 hd hB hp hs
    subst h1
    rcases hr : putM d seg s with ⟨r, sg, er⟩
    cases dead
    case true =>
      rw [show Lw.puts ⟨d, seg, put, safe, true⟩ s = ⟨d, seg, put, safe, true⟩ from rfl]
      exact does_put_dead num s A n c P pn pc d seg put safe r sg er w hT hd hB hp hnil hs hr
    case false =>
      have e0 : Lw.puts ⟨d, seg, put, safe, false⟩ s = ⟨r, sg, if er = 0 then put ++ [s.data.toList] else put, if sg ≠ seg then put.length else safe, decide (er = 6)⟩ := by
        unfold Lw.puts; rw [if_neg (fun h => by cases h)]; simp only [hr]
      show Calls _ _ _ w fun e w' => RetLw w (Lw.puts ⟨d, seg, put, safe, false⟩ s) e w'
      rw [e0]
      by_cases hsg : sg = seg
      · rw [show (if sg ≠ seg then put.length else safe) = safe from if_neg (fun h => h hsg)]
        by_cases he : er = 0
        · rw [if_pos he, show decide (er = 6) = false by subst he; rfl]
          exact does_put_ok num s A n c P pn pc d seg put safe r sg er w hT hd hB hp hnil hs hr hpn he hsg.symm
        · rw [if_neg he]
          by_cases h6 : er = 6
          · rw [show decide (er = 6) = true by subst h6; rfl]
            exact does_put_six num s A n c P pn pc d seg put safe r sg er w hT hd hB hp hnil hs hr h6 hsg.symm
          · rw [show decide (er = 6) = false by simpa using h6]
            exact does_put_bad num s A n c P pn pc d seg put safe r sg er w hT hd hB hp hnil hs hr ⟨he, h6⟩ hsg.symm
      · rw [show (if sg ≠ seg then put.length else safe) = put.length from if_pos hsg]
        by_cases he : er = 0
        · rw [if_pos he, show decide (er = 6) = false by subst he; rfl]
          exact does_put_ok_on num s A n c P pn pc d seg put safe r sg er w hT hd hB hp hnil hs hr hpn he hsg
        · rw [if_neg he]
          by_cases h6 : er = 6
          · rw [show decide (er = 6) = true by subst h6; rfl]
            exact does_put_six_on num s A n c P pn pc d seg put safe r sg er w hT hd hB hp hnil hs hr h6 hsg
          · rw [show decide (er = 6) = false by simpa using h6]
            exact does_put_bad_on num s A n c P pn pc d seg put safe r sg er w hT hd hB hp hnil hs hr ⟨he, h6⟩ hsg
  by_cases h2 : a.kind = 2
  · rw [show lw.acts a = lw.syncs by unfold Wl.Lw.acts; rw [if_neg h1, if_pos h2]]
    obtain ⟨kind, num, s⟩ := a
    obtain ⟨d, seg, put, safe, dead⟩ := lw
    simp only at h2 hd hB hp hs
    subst h2
    rcases hr : syncM d seg with ⟨r, er⟩
    have e0 : Lw.syncs ⟨d, seg, put, safe, dead⟩ = ⟨r, seg, put, if er = 0 ∧ dead = false then put.length else safe, dead⟩ := by
      unfold Lw.syncs; simp only [hr]
    show Calls _ _ _ w fun e w' => RetLw w (Lw.syncs ⟨d, seg, put, safe, dead⟩) e w'
    rw [e0]
    by_cases he : er = 0
    · cases dead
      · rw [if_pos ⟨he, rfl⟩]
        exact does_sync_safe num s A n c P pn pc d seg put safe r er w hT hd hB hp hnil hr he
      · rw [if_neg (fun h => by cases h.2)]
        exact does_sync_dead num s A n c P pn pc d seg put safe r er w hT hd hB hp hnil hr he
    · rw [if_neg (fun h => he h.1)]
      exact does_sync_no num s A n c P pn pc d seg put safe dead r er w hT hd hB hp hnil hr he
  by_cases h3 : a.kind = 3
  · rw [show lw.acts a = { lw with d := { lw.d with fuse := max a.num (-1) } } by unfold Wl.Lw.acts; rw [if_neg h1, if_neg h2, if_pos h3]]
    exact does_arm a A n c P pn pc lw w hd hp hnil h3
  · rw [show lw.acts a = lw by unfold Wl.Lw.acts; rw [if_neg h1, if_neg h2, if_neg h3]]
    exact does_none a A n c P pn pc lw w hd hp hnil h1 h2 h3
theorem acts_in {lw : Lw} (h : In lw) (a : WAct) : In (lw.acts a) := by
  unfold Wl.Lw.acts
  split
  · exact put_in h _
  split
  · exact sync_in h
  split
  · exact arm_in h _ rfl
  · exact h
theorem acts_bnd {B : Nat} {lw : Lw} (h : Bnd B lw.d) (hB : 65536 ≤ B) (a : WAct) (hn : -9223372036854775808 ≤ a.num ∧ a.num ≤ 9223372036854775807) : Bnd B (lw.acts a).d := by
  unfold Wl.Lw.acts
  split
  · unfold Wl.Lw.puts
    split
    · exact h
    · exact h.putM hB _ _
  split
  · exact h.syncM _
  split
  · obtain ⟨h1, h2, h3, h4⟩ := h
    exact ⟨h1, h2, h3, by show In64 (max a.num (-1)); unfold In64; omega⟩
  · exact h
/-- an act puts one record at most. -/
theorem acts_len (lw : Lw) (a : WAct) : (lw.acts a).put.length ≤ lw.put.length + 1 := by
  unfold Wl.Lw.acts
  split
  · unfold Wl.Lw.puts
    split
    · exact Nat.le_succ _
    · simp only
      split
      · simp
      · exact Nat.le_succ _
  split
  · exact Nat.le_succ _
  split
  · exact Nat.le_succ _
  · exact Nat.le_succ _
end Go.Proofs.YtncippafbohgbaaDoor

/- A store into a cell that holds no text leaves every list of texts, and every disk, wherever they lie. -/
namespace Go.Proofs.YtncippafbohgbaaDoor
set_option maxRecDepth 100000
open Go.RowKit Dkm Wm Wl
set_option linter.unusedVariables false

/-- the cell holds something, and no text. -/
def NoTx (w : World) (p : Addr) : Prop := ∃ u, w.cell? p = some u ∧ ∀ s, u ≠ .string s
theorem NoTx.set {w : World} {p q : Addr} (h : NoTx w p) (hne : q ≠ p) (v : Value) : NoTx (w.setCell q v) p := by
  obtain ⟨u, h1, h2⟩ := h
  exact ⟨u, (World.cell?_setCell_other _ _ _ _ hne).trans h1, h2⟩
theorem Holds.odd {w : World} {B k : Nat} {A : Option Addr} {n : Nat} {xs : List Value} (h : Holds w B k A n xs) (hx : ∀ u ∈ xs, ∃ s, u = .string s) {p : Addr} (hp : NoTx w p) (v : Value) : Holds (w.setCell p v) B k A n xs :=
  ⟨h.1, fun j u hj => by
    obtain ⟨ad, e, hb, hc⟩ := h.2 j u hj
    refine ⟨ad, e, hb, ?_⟩
    have hne : p ≠ ad.add j := by
      intro e2
      obtain ⟨u2, h1, h2⟩ := hp
      rw [e2, hc] at h1
      injection h1 with h1
      obtain ⟨s, rfl⟩ := hx u (List.mem_of_getElem? hj)
      exact h2 s h1.symm
    rw [World.cell?_setCell_other _ _ _ _ hne]
    exact hc⟩
theorem Strs.odd {w : World} {A : Option Addr} {n : Nat} {l : List (List UInt8)} (h : Strs w A n l) {p : Addr} (hp : NoTx w p) (v : Value) : Strs (w.setCell p v) A n l := by
  have := Holds.odd h (fun u hu => by obtain ⟨r, _, e⟩ := List.mem_map.1 hu; exact ⟨_, e.symm⟩) hp v
  rw [show w.heap.size = (w.setCell p v).heap.size by simp [World.setCell]] at this
  exact this
theorem rows_tx (l : List Fil) : ∀ u ∈ rows l, ∃ s, u = Value.string s := by
  induction l with
  | nil => intro u hu; cases hu
  | cons f l ih =>
    intro u hu
    rcases List.mem_append.1 hu with hu | hu
    · rcases List.mem_cons.1 hu with rfl | hu
      · exact ⟨_, rfl⟩
      rcases List.mem_cons.1 hu with rfl | hu
      · exact ⟨_, rfl⟩
      rcases List.mem_cons.1 hu with rfl | hu
      · exact ⟨_, rfl⟩
      · cases hu
    · exact ih u hu
theorem Dsk.odd {w : World} {A : Option Addr} {n c : Nat} {l : List Fil} (h : Dsk w A n c l) {p : Addr} (hp : NoTx w p) (v : Value) : Dsk (w.setCell p v) A n c l := by
  refine ⟨?_, h.nil, h.le, h.cap, h.few⟩
  have := Holds.odd h.files (rows_tx l) hp v
  rw [show w.heap.size = (w.setCell p v).heap.size by simp [World.setCell]] at this
  exact this
/-- a box of eight, none of them a text. -/
structure Odd8 (w : World) (g : Nat) : Prop where
  all : ∀ k, k < 8 → NoTx w ⟨g, k, none⟩
theorem Odd8.of {w : World} {g : Nat} {x0 x1 x2 x3 x4 x5 x6 x7 : Value} (h : Bx w g [x0, x1, x2, x3, x4, x5, x6, x7]) (hx : ∀ u ∈ [x0, x1, x2, x3, x4, x5, x6, x7], ∀ s, u ≠ Value.string s) : Odd8 w g :=
  ⟨fun k hk => ⟨[x0, x1, x2, x3, x4, x5, x6, x7][k], (h k _ (List.getElem?_eq_getElem hk)).1, hx _ (List.getElem_mem _)⟩⟩
theorem Strs.odd8 {w : World} {A : Option Addr} {n : Nat} {l : List (List UInt8)} (h : Strs w A n l) {g : Nat} (ho : Odd8 w g) (y0 y1 y2 y3 y4 y5 y6 y7 : Value) : Strs (Go.Proofs.YtncippafbohgbaaDoor.set8 w g y0 y1 y2 y3 y4 y5 y6 y7) A n l := by
  have n0 := ho.all 0 (by omega)
  have n1 := (ho.all 1 (by omega)).set (q := ⟨g, 0, none⟩) (by simp) y0
  have n2 := ((ho.all 2 (by omega)).set (q := ⟨g, 0, none⟩) (by simp) y0).set (q := ⟨g, 1, none⟩) (by simp) y1
  have n3 := (((ho.all 3 (by omega)).set (q := ⟨g, 0, none⟩) (by simp) y0).set (q := ⟨g, 1, none⟩) (by simp) y1).set (q := ⟨g, 2, none⟩) (by simp) y2
  have n4 := ((((ho.all 4 (by omega)).set (q := ⟨g, 0, none⟩) (by simp) y0).set (q := ⟨g, 1, none⟩) (by simp) y1).set (q := ⟨g, 2, none⟩) (by simp) y2).set (q := ⟨g, 3, none⟩) (by simp) y3
  have n5 := (((((ho.all 5 (by omega)).set (q := ⟨g, 0, none⟩) (by simp) y0).set (q := ⟨g, 1, none⟩) (by simp) y1).set (q := ⟨g, 2, none⟩) (by simp) y2).set (q := ⟨g, 3, none⟩) (by simp) y3).set (q := ⟨g, 4, none⟩) (by simp) y4
  have n6 := ((((((ho.all 6 (by omega)).set (q := ⟨g, 0, none⟩) (by simp) y0).set (q := ⟨g, 1, none⟩) (by simp) y1).set (q := ⟨g, 2, none⟩) (by simp) y2).set (q := ⟨g, 3, none⟩) (by simp) y3).set (q := ⟨g, 4, none⟩) (by simp) y4).set (q := ⟨g, 5, none⟩) (by simp) y5
  have n7 := (((((((ho.all 7 (by omega)).set (q := ⟨g, 0, none⟩) (by simp) y0).set (q := ⟨g, 1, none⟩) (by simp) y1).set (q := ⟨g, 2, none⟩) (by simp) y2).set (q := ⟨g, 3, none⟩) (by simp) y3).set (q := ⟨g, 4, none⟩) (by simp) y4).set (q := ⟨g, 5, none⟩) (by simp) y5).set (q := ⟨g, 6, none⟩) (by simp) y6
  exact (((((((h.odd n0 y0).odd n1 y1).odd n2 y2).odd n3 y3).odd n4 y4).odd n5 y5).odd n6 y6).odd n7 y7
theorem Dsk.odd8 {w : World} {A : Option Addr} {n c : Nat} {l : List Fil} (h : Dsk w A n c l) {g : Nat} (ho : Odd8 w g) (y0 y1 y2 y3 y4 y5 y6 y7 : Value) : Dsk (Go.Proofs.YtncippafbohgbaaDoor.set8 w g y0 y1 y2 y3 y4 y5 y6 y7) A n c l := by
  have n0 := ho.all 0 (by omega)
  have n1 := (ho.all 1 (by omega)).set (q := ⟨g, 0, none⟩) (by simp) y0
  have n2 := ((ho.all 2 (by omega)).set (q := ⟨g, 0, none⟩) (by simp) y0).set (q := ⟨g, 1, none⟩) (by simp) y1
  have n3 := (((ho.all 3 (by omega)).set (q := ⟨g, 0, none⟩) (by simp) y0).set (q := ⟨g, 1, none⟩) (by simp) y1).set (q := ⟨g, 2, none⟩) (by simp) y2
  have n4 := ((((ho.all 4 (by omega)).set (q := ⟨g, 0, none⟩) (by simp) y0).set (q := ⟨g, 1, none⟩) (by simp) y1).set (q := ⟨g, 2, none⟩) (by simp) y2).set (q := ⟨g, 3, none⟩) (by simp) y3
  have n5 := (((((ho.all 5 (by omega)).set (q := ⟨g, 0, none⟩) (by simp) y0).set (q := ⟨g, 1, none⟩) (by simp) y1).set (q := ⟨g, 2, none⟩) (by simp) y2).set (q := ⟨g, 3, none⟩) (by simp) y3).set (q := ⟨g, 4, none⟩) (by simp) y4
  have n6 := ((((((ho.all 6 (by omega)).set (q := ⟨g, 0, none⟩) (by simp) y0).set (q := ⟨g, 1, none⟩) (by simp) y1).set (q := ⟨g, 2, none⟩) (by simp) y2).set (q := ⟨g, 3, none⟩) (by simp) y3).set (q := ⟨g, 4, none⟩) (by simp) y4).set (q := ⟨g, 5, none⟩) (by simp) y5
  have n7 := (((((((ho.all 7 (by omega)).set (q := ⟨g, 0, none⟩) (by simp) y0).set (q := ⟨g, 1, none⟩) (by simp) y1).set (q := ⟨g, 2, none⟩) (by simp) y2).set (q := ⟨g, 3, none⟩) (by simp) y3).set (q := ⟨g, 4, none⟩) (by simp) y4).set (q := ⟨g, 5, none⟩) (by simp) y5).set (q := ⟨g, 6, none⟩) (by simp) y6
  exact (((((((h.odd n0 y0).odd n1 y1).odd n2 y2).odd n3 y3).odd n4 y4).odd n5 y5).odd n6 y6).odd n7 y7
theorem bx_set8 {w : World} {g : Nat} {x0 x1 x2 x3 x4 x5 x6 x7 : Value} (h : Bx w g [x0, x1, x2, x3, x4, x5, x6, x7]) (y0 y1 y2 y3 y4 y5 y6 y7 : Value) : Bx (Go.Proofs.YtncippafbohgbaaDoor.set8 w g y0 y1 y2 y3 y4 y5 y6 y7) g [y0, y1, y2, y3, y4, y5, y6, y7] :=
  (((((((h.set (k := 0) (by simp) y0).set (k := 1) (by simp) y1).set (k := 2) (by simp) y2).set (k := 3) (by simp) y3).set (k := 4) (by simp) y4).set (k := 5) (by simp) y5).set (k := 6) (by simp) y6).set (k := 7) (by simp) y7
/-- a world's cells hold no text. -/
theorem odd_wvals {w : World} {g : Nat} {A : Option Addr} {n c : Nat} {d : Dk} {seg : Int} {P : Option Addr} {pn pc safe : Nat} {dead : Bool} (h : Bx w g (wvals A n c d seg P pn pc safe dead)) : Odd8 w g :=
  Odd8.of h (by intro u hu s e; subst e; simp at hu)
end Go.Proofs.YtncippafbohgbaaDoor

/- The contract of the document's Same over lists of texts. -/
namespace Go.Proofs.YtncippafbohgbaaDoor
set_option maxRecDepth 100000
open Go.RowKit
set_option linter.unusedVariables false

theorem Strs.len {w : World} {A : Option Addr} {n : Nat} {l : List (List UInt8)} (h : Strs w A n l) : l.length = n := by have := h.1; simpa using this
theorem Strs.load {w : World} {A : Option Addr} {n : Nat} {l : List (List UInt8)} (h : Strs w A n l) {k : Nat} (hl : k < l.length) :
    ∃ ad, A = some ad ∧ ad.block < w.heap.size ∧ w.cell? (ad.add k) = some (.string (bs l[k])) := by
  obtain ⟨ad, e, hb, hc⟩ := h.2 k (.string (bs l[k])) (by simp [hl])
  exact ⟨ad, e, hb, hc⟩
theorem bs_inj {a b : List UInt8} (h : bs a = bs b) : a = b := by rw [← list_bs a, h, list_bs]

set_option maxHeartbeats 2000000 in
theorem same_strs (A B : Option Addr) (n c m d : Nat) (a b : List (List UInt8)) (w : World) (h1 : Strs w A n a) (h2 : Strs w B m b) (hn : n ≤ maxLen) :
    Calls Tryd.prog 10 #[.slice A n c, .slice B m d] w fun e w' => e = .returned (.bool (decide (a = b))) ∧ Q w w' := by
  unfold maxLen at hn
  by_cases hnm : n = m
  case neg =>
    have hf : decide (a = b) = false := decide_eq_false fun e => hnm (by rw [← h1.len, ← h2.len, e])
    have HF := Lib.hid hf
    have hi : ¬ (n : Int) = (m : Int) := by omega
    clear hf h1 h2 hnm
    go_enter Tryd.func10, Tryd.ntmps10
    go_wp2
    go_ret
    exact ⟨by rw [HF.out]; rfl, Q.refl _⟩
  subst hnm
  have H1 := Lib.hid h1
  have H2 := Lib.hid h2
  have L1 := Lib.hid h1.len
  have L2 := Lib.hid h2.len
  clear h1 h2
  go_enter Tryd.func10, Tryd.ntmps10
  go_wp2
  go_loopw [5] (fun i wr => ∃ k : Nat, k ≤ n ∧ i = .int .i64 (k : Nat) ∧ a.take k = b.take k ∧ Q w wr) (fun i _ => n - (intOf i).toNat)
  case atStart => exact ⟨0, Nat.zero_le _, rfl, rfl, Q.refl _⟩
  case round =>
    obtain ⟨k, hk, rfl, htk, hq⟩ := hrel
    have HT := Lib.hid htk
    have HQ := Lib.hid hq
    clear htk hq
    by_cases hlt : k < n
    case neg =>
      have e : n = k := by omega
      have hf : decide (a = b) = true := decide_eq_true (by
        have h := HT.out
        rw [List.take_of_length_le (by have := L1.out; omega), List.take_of_length_le (by have := L2.out; omega)] at h
        exact h)
      have HF := Lib.hid hf
      clear hf e
      go_wp2
      go_ret
      exact ⟨by rw [HF.out]; rfl, HQ.out⟩
    have ha : k < a.length := by have := L1.out; omega
    have hb : k < b.length := by have := L2.out; omega
    obtain ⟨x, hxA, hxb, hxc⟩ := (H1.out.q HQ.out).load ha
    obtain ⟨y, hyB, hyb, hyc⟩ := (H2.out.q HQ.out).load hb
    have HA := Lib.hid hxA
    have HB := Lib.hid hyB
    have hk2 : (k : Int) < (n : Int) := by omega
    by_cases he : bs a[k] = bs b[k]
    · have hnx : a.take (k + 1) = b.take (k + 1) := by
        rw [List.take_add_one, List.take_add_one, HT.out, List.getElem?_eq_getElem ha, List.getElem?_eq_getElem hb, bs_inj he]
      have HN := Lib.hid hnx
      rw [← he] at hyc
      clear he hnx
      generalize bs a[k] = s at hxc hyc
      have he2 : (s.toList == s.toList) = true := by simp
      subst hxA hyB
      clear HA HB ha hb
      go_wp2
      go_quiet (fail)
      all_goals
        go_wp2
        go_roundw
        case rel => exact ⟨k + 1, by omega, by first | rfl | simp | go_num, HN.out, by first | exact HQ.out | exact HQ.out.drew | exact HQ.out.drewN _⟩
        case measure => simp [intOf]; omega
    · have hf : decide (a = b) = false := decide_eq_false fun e => he (by subst e; rfl)
      have HF := Lib.hid hf
      generalize bs a[k] = s at hxc he
      generalize bs b[k] = t at hyc he
      have hne : (s.toList == t.toList) = false := by
        rw [same_str]; simpa using he
      subst hxA hyB
      clear HA HB ha hb hf
      go_wp2
      go_quiet (fail)
      all_goals
        go_wp2
        go_ret
        exact ⟨by rw [HF.out]; rfl, by first | exact HQ.out | exact HQ.out.drew | exact HQ.out.drewN _⟩
end Go.Proofs.YtncippafbohgbaaDoor

/- The contract of the log's law's 'begins': is one row of texts the beginning of another one. -/
namespace Go.Proofs.YtncippafbohgbaaDoor
set_option maxRecDepth 100000
open Go.RowKit
set_option linter.unusedVariables false

theorem Strs.take {w : World} {A : Option Addr} {n : Nat} {l : List (List UInt8)} (h : Strs w A n l) {k : Nat} (hk : k ≤ n) : Strs w A k (l.take k) := by
  have hl := h.len
  refine ⟨by simp; omega, fun j u hu => h.2 j u ?_⟩
  rw [List.map_take, List.getElem?_take] at hu
  split at hu
  · exact hu
  · cases hu
theorem begins_eq {a b : List (List UInt8)} : decide (a = b.take a.length) = decide (a <+: b) := decide_eq_decide.2 List.prefix_iff_eq_take.symm

set_option maxHeartbeats 2000000 in
theorem begins_any (A B : Option Addr) (n c m d : Nat) (a b : List (List UInt8)) (w : World) (h1 : Strs w A n a) (h2 : Strs w B m b) (hmd : m ≤ d) (hnil : B = none → m = 0 ∧ d = 0) (hd : d ≤ maxLen) (hn : n ≤ maxLen) :
    Calls Tryd.prog 9 #[.slice A n c, .slice B m d] w fun e w' => e = .returned (.bool (decide (a <+: b))) ∧ Q w w' := by
  unfold maxLen at hn hd
  by_cases hnm : n ≤ m
  · have hE := Lib.hid (begins_eq (a := a) (b := b))
    have hi : (n : Int) ≤ (m : Int) := by omega
    cases B with
    | none =>
      obtain ⟨rfl, rfl⟩ := hnil rfl
      have hn0 : n = 0 := Nat.le_zero.1 hnm
      subst hn0
      have K := Lib.hid (fun W (q : Q w W) => same_strs A none 0 c 0 0 a (b.take 0) W (h1.q q) ((h2.q q).take (Nat.le_refl _)) (Nat.zero_le _))
      have e0 : a.length = 0 := h1.len
      rw [e0] at hE
      clear h1 h2 hnil hi hnm e0
      go_enter Tryd.func9, Tryd.ntmps9
      go_wp2_with fail
      refine (K.out _ (Q.refl _)).mono ?_
      rintro e w1 ⟨rfl, q1⟩
      go_wp2
      go_ret
      exact ⟨ret_bool hE.out, q1⟩
    | some ad =>
      have K := Lib.hid (fun W (q : Q w W) => same_strs A (some ad) n c n d a (b.take n) W (h1.q q) ((h2.q q).take hnm) (by unfold maxLen; omega))
      have e0 : a.length = n := h1.len
      rw [e0] at hE
      have hnd : n ≤ d := by omega
      clear h1 h2 hnil hnm e0
      go_enter Tryd.func9, Tryd.ntmps9
      go_wp2_with fail
      refine (K.out _ (Q.refl _)).mono ?_
      rintro e w1 ⟨rfl, q1⟩
      go_wp2
      go_ret
      exact ⟨ret_bool hE.out, q1⟩
  · have hi : ¬ (n : Int) ≤ (m : Int) := by omega
    have hF := Lib.hid (show decide (a <+: b) = false from decide_eq_false fun h => by have := h.length_le; rw [h1.len, h2.len] at this; omega)
    clear h1 h2 hnil hnm
    go_enter Tryd.func9, Tryd.ntmps9
    go_wp2
    go_ret
    exact ⟨by rw [hF.out]; rfl, Q.refl _⟩
end Go.Proofs.YtncippafbohgbaaDoor

/- Contracts: the document's Rename over a file that is there; Rename and Delete whole. -/
namespace Go.Proofs.YtncippafbohgbaaDoor
set_option maxRecDepth 100000
open Go.RowKit Dkm
set_option linter.unusedVariables false

end Go.Proofs.YtncippafbohgbaaDoor
