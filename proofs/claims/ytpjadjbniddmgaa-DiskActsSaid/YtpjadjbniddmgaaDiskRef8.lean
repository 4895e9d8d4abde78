/- Contracts: the document's Append, where the file would be too big. -/
import Derived.Test.YtpjadjbniddmgaaDiskRef7
import Derived.Outline
namespace Go.Proofs.Ytpjadjbniddmgaa
open Go.RowKit Dkm
set_option linter.unusedVariables false

theorem Bx.put3 {w : World} {b : Nat} {x y z : Value} (h : Bx w b [x, y, z]) (x' y' z' : Value) : Bx (((w.setCell ⟨b, 0, none⟩ x').setCell ⟨b, 1, none⟩ y').setCell ⟨b, 2, none⟩ z') b [x', y', z'] :=
  ((h.set (k := 0) (by simp) x').set (k := 1) (by simp) y').set (k := 2) (by simp) z'
theorem Sb.far3 {w wr : World} {A : Option Addr} {n c : Nat} {room fuse : Int} {off : Bool} (h : Sb w A n c room fuse off wr) {g : Nat} (hg : w.heap.size + 1 < g) (x y z : Value) :
    Sb w A n c room fuse off (((wr.setCell ⟨g, 0, none⟩ x).setCell ⟨g, 1, none⟩ y).setCell ⟨g, 2, none⟩ z) :=
  ⟨((h.box.far (p := ⟨g, 0, none⟩) (by simp only; omega) _).far (p := ⟨g, 1, none⟩) (by simp only; omega) _).far (p := ⟨g, 2, none⟩) (by simp only; omega) _,
   ((h.res.far (p := ⟨g, 0, none⟩) (by simp only; omega) _).far (p := ⟨g, 1, none⟩) (by simp only; omega) _).far (p := ⟨g, 2, none⟩) (by simp only; omega) _, h.q.set3 (b := g) (by omega) _ _ _⟩

set_option maxHeartbeats 4000000 in
theorem ref_app_big_none (nm s : ByteArray) (A : Option Addr) (n c : Nat) (room fuse : Int) (l : List Fil) (w : World) (hd : Dsk w A n c l) (hk : nmOk nm = true) (p : Int) (hp : plc nm l 0 = p) (h0 : p < 0) (hn64 : n < 64) (hr : (s.size : Int) ≤ room) (hs : s.size ≤ 2305843009213693952) (hbig : 65536 < s.size) :
    Calls Try.prog 13 #[dkv A n c room fuse false, .string nm, .string s] w fun e w' => RetDK w ⟨l, room, fuse, false⟩ 4 e w' := by
  have hnm := hd.max
  unfold maxLen at hnm
  have hfew := hd.few
  have HD := Lib.hid hd
  have HP := Lib.hid hp
  clear hd hp
  obtain ⟨o1, o2⟩ := nmOk_yes hk
  have o3 : ¬ (nm.size : Int) < 1 := by omega
  have o4 : ¬ room < (s.size : Int) := by omega
  clear hk
  have S0 := Lib.hid (Sb.new w A n c room fuse false)
  have q4 : ¬ (64 : Int) ≤ (n : Int) := by omega
  go_enter Try.func13, Try.ntmps13
  go_wp2_with fail
  refine (ref_at nm A n c room fuse false l _ (HD.out.files.q S0.out.q) HD.out.max).mono ?_
  rw [HP.out]
  rintro e w1 ⟨rfl, q1⟩
  have S1 := Lib.hid (S0.out.step q1)
  clear S0 q1
  obtain ⟨⟨e0, e1, e2, e3⟩, f0, f1, f2, f3⟩ := S1.out.get
  have z0 : w.heap.size + 1 < w1.heap.size := S1.out.res.lt
  go_upto_region 11 with (fail)
  have B1 := Lib.hid (And.intro (Bx.new w1 [.string nm, .string ⟨#[]⟩, .string ⟨#[]⟩] 29) (S1.out.step ((Q.refl _).alloc (.cells #[.string nm, .string ⟨#[]⟩, .string ⟨#[]⟩] 29))))
  generalize (w1.alloc (.cells #[.string nm, .string ⟨#[]⟩, .string ⟨#[]⟩] 29)) = W at B1 ⊢
  generalize w1.heap.size = g at B1 z0 ⊢
  clear e0 e1 e2 e3 f0 f1 f2 f3
  obtain ⟨⟨b0, b1, b2⟩, _⟩ := B1.out.1.get3
  obtain ⟨⟨e0, e1, e2, e3⟩, f0, f1, f2, f3⟩ := B1.out.2.get
  obtain ⟨⟨s0, s1, s2, s3⟩, h0', h1, h2, h3⟩ := B1.out.2.getR
  go_wp2
  go_outline
  refine bodyPost_ret (v := .tuple #[dkv A n c room fuse false, .int .i64 4]) (by simp [results, Try.results13, go_sem, s0, s1, s2, s3]) rfl ?_
  exact B1.out.2.endK HD.out 4 _ _ _ _

set_option maxHeartbeats 4000000 in
theorem ref_app_big_at (nm s : ByteArray) (A : Option Addr) (n c : Nat) (room fuse : Int) (l : List Fil) (w : World) (hd : Dsk w A n c l) (hk : nmOk nm = true) (k : Nat) (hkl : k < l.length) (hkn : k < n) (hp : plc nm l 0 = k) (hr : (s.size : Int) ≤ room) (hs : s.size ≤ 2305843009213693952) (hz : l[k].sf.size + l[k].wt.size ≤ 2305843009213693952) (hbig : 65536 < l[k].sf.size + l[k].wt.size + s.size) :
    Calls Try.prog 13 #[dkv A n c room fuse false, .string nm, .string s] w fun e w' => RetDK w ⟨l, room, fuse, false⟩ 4 e w' := by
  have hb2 : (65536 : Int) < (l[k].sf.size : Int) + (l[k].wt.size : Int) + (s.size : Int) := by omega
  have hnm := hd.max
  unfold maxLen at hnm
  have hfew := hd.few
  have HD := Lib.hid hd
  have HP := Lib.hid hp
  clear hd hp
  obtain ⟨o1, o2⟩ := nmOk_yes hk
  have o3 : ¬ (nm.size : Int) < 1 := by omega
  have o4 : ¬ room < (s.size : Int) := by omega
  clear hk
  have S0 := Lib.hid (Sb.new w A n c room fuse false)
  have z8 : (l[k].sf.size : Int) + (l[k].wt.size : Int) ≤ 2305843009213693952 := by omega
  have q4 : (k : Int) < (n : Int) := by omega
  have q5 : 0 ≤ (k : Int) := by omega
  go_enter Try.func13, Try.ntmps13
  go_wp2_with fail
  refine (ref_at nm A n c room fuse false l _ (HD.out.files.q S0.out.q) HD.out.max).mono ?_
  rw [HP.out]
  rintro e w1 ⟨rfl, q1⟩
  have S1 := Lib.hid (S0.out.step q1)
  obtain ⟨ad, rfl, _, _⟩ := (HD.out.files.q S1.out.q).load hkn hkl
  clear S0 q1
  obtain ⟨⟨e0, e1, e2, e3⟩, f0, f1, f2, f3⟩ := S1.out.get
  have z0 : w.heap.size + 1 < w1.heap.size := S1.out.res.lt
  go_upto_region 10 with (fail)
  have B1 := Lib.hid (And.intro (Bx.new w1 [.string nm, .string ⟨#[]⟩, .string ⟨#[]⟩] 29) (S1.out.step ((Q.refl _).alloc (.cells #[.string nm, .string ⟨#[]⟩, .string ⟨#[]⟩] 29))))
  generalize (w1.alloc (.cells #[.string nm, .string ⟨#[]⟩, .string ⟨#[]⟩] 29)) = W at B1 ⊢
  generalize w1.heap.size = g at B1 z0 ⊢
  clear e0 e1 e2 e3 f0 f1 f2 f3
  obtain ⟨ad', hadd, hb, c0, c1, c3⟩ := (HD.out.files.q B1.out.2.q).load hkn hkl
  obtain rfl : ad = ad' := by injection hadd
  clear hadd
  obtain ⟨⟨e0, e1, e2, e3⟩, f0, f1, f2, f3⟩ := B1.out.2.get
  obtain ⟨⟨b0, b1, b2⟩, y0, y1, y2⟩ := B1.out.1.get3
  go_upto_region 11 with (fail)
  have B2 := Lib.hid (And.intro (B1.out.1.put3 (.string l[k].nm) (.string l[k].sf) (.string l[k].wt)) (B1.out.2.far3 z0 (.string l[k].nm) (.string l[k].sf) (.string l[k].wt)))
  clear e0 e1 e2 e3 f0 f1 f2 f3 b0 b1 b2 y0 y1 y2 c0 c1 c3 hb B1
  generalize (((W.setCell ⟨g, 0, none⟩ (.string l[k].nm)).setCell ⟨g, 1, none⟩ (.string l[k].sf)).setCell ⟨g, 2, none⟩ (.string l[k].wt)) = W1 at B2 ⊢
  have B1 := B2
  clear B2
  obtain ⟨⟨b0, b1, b2⟩, _⟩ := B1.out.1.get3
  obtain ⟨⟨e0, e1, e2, e3⟩, f0, f1, f2, f3⟩ := B1.out.2.get
  obtain ⟨⟨s0, s1, s2, s3⟩, h0', h1, h2, h3⟩ := B1.out.2.getR
  go_wp2
  go_outline
  refine bodyPost_ret (v := .tuple #[dkv (some ad) n c room fuse false, .int .i64 4]) (by simp [results, Try.results13, go_sem, s0, s1, s2, s3]) rfl ?_
  exact B1.out.2.endK HD.out 4 _ _ _ _
end Go.Proofs.Ytpjadjbniddmgaa
