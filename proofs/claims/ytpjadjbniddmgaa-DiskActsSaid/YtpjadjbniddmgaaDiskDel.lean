/- Contracts: Delete. -/
import Derived.Test.YtpjadjbniddmgaaDiskDrop
namespace Go.Proofs.Ytpjadjbniddmgaa
open Go.RowKit Dkm
set_option linter.unusedVariables false

theorem St.put4 {w wr : World} {A1 : Option Addr} {n c1 : Nat} {room fuse : Int} {off : Bool} {l : List Fil} (h : St w A1 n c1 room fuse off l wr) {A2 : Option Addr} {n2 c2 : Nat} {room2 fuse2 : Int} {off2 : Bool} {l2 : List Fil} (ho : Own wr (w.heap.size + 2) A2 n2 c2 l2) :
    St w A2 n2 c2 room2 fuse2 off2 l2 ((((wr.setCell ⟨w.heap.size, 0, none⟩ (.slice A2 n2 c2)).setCell ⟨w.heap.size, 1, none⟩ (.int .i64 room2)).setCell ⟨w.heap.size, 2, none⟩ (.int .i64 fuse2)).setCell ⟨w.heap.size, 3, none⟩ (.bool off2)) :=
  ⟨ho.set4 (b := w.heap.size) (by omega) _ _ _ _, h.box.put4 _ _ _ _, h.res.far4 (c := w.heap.size) (by omega) _ _ _ _, h.q.set4 (b := w.heap.size) (Nat.le_refl _) _ _ _ _⟩

set_option maxHeartbeats 2000000 in
theorem delete_no (nm : ByteArray) (A : Option Addr) (n c : Nat) (room fuse : Int) (off : Bool) (l : List Fil) (w : World) (hd : Dsk w A n c l) (hfu : fuse ≤ 9223372036854775807) (p : Int) (hp : plc nm l 0 = p) (f2 er : Int) (o2 : Bool) (hc : chg p fuse off = (f2, o2, er)) (hne : er ≠ 0) :
    Calls Try.prog 25 #[dkv A n c room fuse off, .string nm] w fun e w' => RetDE w ⟨l, room, f2, o2⟩ er e w' := by
  have HD := Lib.hid hd
  have HN := Lib.hid hd.max
  have HP := Lib.hid hp
  have HC := Lib.hid hc
  have b1 : (er == 0) = false := by simpa using hne
  have b2 : (er != 0) = true := by simpa using hne
  clear hd hp hc hne
  go_enter Try.func25, Try.ntmps25
  go_wp2_with fail
  refine (own_any A n c room fuse off l _ (HD.out.q (((Q.refl _).alloc _).alloc _))).mono ?_
  rintro e w1 ⟨A1, c1, rfl, ho, q1⟩
  have X := Lib.hid (St.new (room1 := room) (fuse1 := fuse) (off1 := off) ho q1)
  obtain ⟨⟨e0, e1, e2, e3⟩, f0, f1, f2', f3⟩ := St.get0 q1
  clear q1 ho
  go_wp2_with fail
  refine (place nm A1 n c1 room fuse off l _ X.out.own.files HN.out).mono ?_
  rintro e w2 ⟨rfl, q2⟩
  rw [HP.out]
  have Y := Lib.hid (X.out.step q2)
  clear X q2 e0 e1 e2 e3 f0 f1 f2' f3
  obtain ⟨⟨e0, e1, e2, e3⟩, f0, f1, f2', f3⟩ := Y.out.get
  go_wp2_with fail
  have k3 := change_any A1 n c1 room fuse off p w2 hfu
  rw [HC.out] at k3
  refine k3.mono ?_
  clear k3
  rintro e w3 ⟨rfl, q3⟩
  have Z := Lib.hid ((Y.out.step q3).put4 (room2 := room) (fuse2 := f2) (off2 := o2) (Y.out.step q3).own)
  have Z0 := Y.out.step q3
  clear Y q3 e0 e1 e2 e3 f0 f1 f2' f3
  obtain ⟨⟨e0, e1, e2, e3⟩, f0, f1, f2', f3⟩ := Z0.get
  obtain ⟨⟨s0, s1, s2, s3⟩, h0, h1, h2, h3⟩ := Z0.getR
  clear Z0
  go_upto_region 4 with (fail)
  generalize ((((w3.setCell ⟨w.heap.size, 0, none⟩ (.slice A1 n c1)).setCell ⟨w.heap.size, 1, none⟩ (.int .i64 room)).setCell ⟨w.heap.size, 2, none⟩ (.int .i64 f2)).setCell ⟨w.heap.size, 3, none⟩ (.bool o2)) = w4 at Z ⊢
  clear e0 e1 e2 e3 f0 f1 f2' f3 s0 s1 s2 s3 h0 h1 h2 h3
  obtain ⟨⟨e0, e1, e2, e3⟩, f0, f1, f2', f3⟩ := Z.out.get
  obtain ⟨⟨s0, s1, s2, s3⟩, h0, h1, h2, h3⟩ := Z.out.getR
  go_wp2
  refine bodyPost_ret (v := .tuple #[dkv A1 n c1 room f2 o2, .int .i64 er]) (by simp [results, Try.results25, go_sem, s0, s1, s2, s3]) rfl ?_
  exact Z.out.endDE er _ _ _ _

set_option maxHeartbeats 2000000 in
theorem delete_yes (nm : ByteArray) (A : Option Addr) (n c : Nat) (room fuse : Int) (l : List Fil) (w : World) (hd : Dsk w A n c l) (hfu : fuse ≤ 9223372036854775807) (k : Nat) (hk : k < l.length) (hp : plc nm l 0 = k) (f2 : Int) (hc : chg k fuse false = (f2, false, 0)) (hs : l[k].sf.size + l[k].wt.size ≤ maxLen) :
    Calls Try.prog 25 #[dkv A n c room fuse false, .string nm] w fun e w' => RetDE w ⟨l.eraseIdx k, wrap64 (room + ((l[k].sf.size + l[k].wt.size : Nat) : Int)), f2, false⟩ 0 e w' := by
  have hkn : k < n := by have := hd.len; omega
  obtain ⟨m, rfl⟩ : ∃ m, n = m + 1 := ⟨n - 1, by omega⟩
  have HD := Lib.hid hd
  have HN := Lib.hid hd.max
  have HP := Lib.hid hp
  have HC := Lib.hid hc
  have HS := Lib.hid hs
  clear hd hp hc hs
  go_enter Try.func25, Try.ntmps25
  go_wp2_with fail
  refine (own_any A (m + 1) c room fuse false l _ (HD.out.q (((Q.refl _).alloc _).alloc _))).mono ?_
  rintro e w1 ⟨A1, c1, rfl, ho, q1⟩
  obtain ⟨g, rfl, hg⟩ : ∃ g, A1 = some ⟨g, 0, none⟩ ∧ w.heap.size + 2 ≤ g := by
    rcases ho.parts with ⟨_, e, _⟩ | ⟨g, cur, rfl, hb, _⟩
    · cases e
    · rw [size_two] at hb; exact ⟨g, rfl, hb⟩
  have X := Lib.hid (St.new (room1 := room) (fuse1 := fuse) (off1 := false) ho q1)
  obtain ⟨⟨e0, e1, e2, e3⟩, f0, f1, f2', f3⟩ := St.get0 q1
  clear q1 ho
  go_wp2_with fail
  refine (place nm (some ⟨g, 0, none⟩) (m + 1) c1 room fuse false l _ X.out.own.files HN.out).mono ?_
  rintro e w2 ⟨rfl, q2⟩
  rw [HP.out]
  have Y := Lib.hid (X.out.step q2)
  clear X q2 e0 e1 e2 e3 f0 f1 f2' f3
  obtain ⟨⟨e0, e1, e2, e3⟩, f0, f1, f2', f3⟩ := Y.out.get
  go_wp2_with fail
  have k3 := change_any (some ⟨g, 0, none⟩) (m + 1) c1 room fuse false k w2 hfu
  rw [HC.out] at k3
  refine k3.mono ?_
  clear k3
  rintro e w3 ⟨rfl, q3⟩
  have Z := Lib.hid ((Y.out.step q3).put4 (room2 := room) (fuse2 := f2) (off2 := false) (Y.out.step q3).own)
  have Z0 := Y.out.step q3
  clear Y q3 e0 e1 e2 e3 f0 f1 f2' f3
  obtain ⟨⟨e0, e1, e2, e3⟩, f0, f1, f2', f3⟩ := Z0.get
  clear Z0
  go_upto_region 4 with (fail)
  generalize ((((w3.setCell ⟨w.heap.size, 0, none⟩ (.slice (some ⟨g, 0, none⟩) (m + 1) c1)).setCell ⟨w.heap.size, 1, none⟩ (.int .i64 room)).setCell ⟨w.heap.size, 2, none⟩ (.int .i64 f2)).setCell ⟨w.heap.size, 3, none⟩ (.bool false)) = w4 at Z ⊢
  clear e0 e1 e2 e3 f0 f1 f2' f3
  obtain ⟨⟨e0, e1, e2, e3⟩, f0, f1, f2', f3⟩ := Z.out.get
  go_wp2_with fail
  refine (drop_at (w.heap.size + 2) g m c1 k room f2 false l w4 Z.out.own hkn hk HS.out HN.out).mono ?_
  rintro e w5 ⟨rfl, o5, g5⟩
  have R5 := Z.out.res.only g5 (by omega)
  have Q5 := Lib.hid (show Q w w5 from Z.out.q.below.trans (only_below g5 (by omega) Z.out.q.size))
  have O5 := Lib.hid o5
  clear o5 g5 e0 e1 e2 e3 f0 f1 f2' f3
  obtain ⟨⟨s0, s1, s2, s3⟩, h0, h1, h2, h3⟩ := R5.get4
  clear R5
  go_wp2
  refine bodyPost_ret (v := .tuple #[dkv (some ⟨g, 0, none⟩) m c1 (wrap64 (room + ((l[k].sf.size + l[k].wt.size : Nat) : Int))) f2 false, .int .i64 0]) (by simp [results, Try.results25, go_sem, s0, s1, s2, s3]) rfl ?_
  exact ⟨some ⟨g, 0, none⟩, m, c1, rfl, (O5.out.set4 (b := w.heap.size + 1) (by omega) _ _ _ _).lower (by omega), Q5.out.set4 (b := w.heap.size + 1) (by omega) _ _ _ _⟩
end Go.Proofs.Ytpjadjbniddmgaa
