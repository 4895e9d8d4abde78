/- Contracts: Rename. -/
import Derived.Test.YtpjadjbniddmgaaDiskDel
namespace Go.Proofs.Ytpjadjbniddmgaa
open Go.RowKit Dkm
set_option linter.unusedVariables false

theorem str_eq {a b : ByteArray} (h : a = b) : (a.toList == b.toList) = true := by rw [same_str]; simpa using h
theorem str_ne {a b : ByteArray} (h : a ≠ b) : (a.toList == b.toList) = false := by rw [same_str]; simpa using h

set_option maxHeartbeats 2000000 in
theorem ren_off (fr to : ByteArray) (A : Option Addr) (n c : Nat) (room fuse : Int) (l : List Fil) (w : World) (hd : Dsk w A n c l) (p o : Int) (hp : plc fr l 0 = p) (ht : plc to l 0 = o) :
    Calls Try.prog 23 #[dkv A n c room fuse true, .string fr, .string to] w fun e w' => RetDE w ⟨l, room, fuse, true⟩ 6 e w' := by
  have HD := Lib.hid hd
  have HN := Lib.hid hd.max
  have HP := Lib.hid hp
  have HT := Lib.hid ht
  clear hd hp ht
  go_enter Try.func23, Try.ntmps23
  go_wp2_with fail
  refine (own_any A n c room fuse true l _ (HD.out.q (((Q.refl _).alloc _).alloc _))).mono ?_
  rintro e w1 ⟨A1, c1, rfl, ho, q1⟩
  have X := Lib.hid (St.new (room1 := room) (fuse1 := fuse) (off1 := true) ho q1)
  obtain ⟨⟨e0, e1, e2, e3⟩, f0, f1, f2', f3⟩ := St.get0 q1
  clear q1 ho
  go_upto_region 2 with (fail)
  generalize ((((w1.setCell ⟨w.heap.size, 0, none⟩ (.slice A1 n c1)).setCell ⟨w.heap.size, 1, none⟩ (.int .i64 room)).setCell ⟨w.heap.size, 2, none⟩ (.int .i64 fuse)).setCell ⟨w.heap.size, 3, none⟩ (.bool true)) = W at X ⊢
  clear e0 e1 e2 e3 f0 f1 f2' f3
  obtain ⟨⟨e0, e1, e2, e3⟩, f0, f1, f2', f3⟩ := X.out.get
  go_region_held3 (fun w' => w'.cell? ⟨w.heap.size, 0, none⟩ = some (.slice A1 n c1) ∧ w'.cell? ⟨w.heap.size, 1, none⟩ = some (.int .i64 room) ∧ w'.cell? ⟨w.heap.size, 2, none⟩ = some (.int .i64 fuse) ∧ w'.cell? ⟨w.heap.size, 3, none⟩ = some (.bool true))
    (first
      | go_keep
      | (go_split_ands
         (repeat' apply And.intro) <;> exact box_ ‹Q _ _› (by assumption)))
    (first
      | (go_at_call 40
         (with_reducible refine (place fr A1 n c1 room fuse true l _ (X.out.own.files.q (Q.refl W).drew) HN.out).mono ?_)
         rw [HP.out]
         rintro e w2 ⟨rfl, q2⟩)
      | (go_at_call 40
         (with_reducible refine (place to A1 n c1 room fuse true l _ (X.out.own.files.q ((Q.refl W).drew.trans q2)) HN.out).mono ?_)
         rw [HT.out]
         rintro e w3 ⟨rfl, q3⟩))
  have Y := Lib.hid (X.out.step (((Q.refl W).drew.trans q2).trans q3))
  clear X q2 q3 e0 e1 e2 e3 f0 f1 f2' f3
  obtain ⟨⟨e0, e1, e2, e3⟩, f0, f1, f2', f3⟩ := Y.out.get
  obtain ⟨⟨s0, s1, s2, s3⟩, h0, h1, h2, h3⟩ := Y.out.getR
  go_wp2
  refine bodyPost_ret (v := .tuple #[dkv A1 n c1 room fuse true, .int .i64 6]) (by simp [results, Try.results23, go_sem, s0, s1, s2, s3]) rfl ?_
  exact Y.out.endDE 6 _ _ _ _

set_option maxHeartbeats 2000000 in
theorem ren_arg (fr to : ByteArray) (A : Option Addr) (n c : Nat) (room fuse : Int) (l : List Fil) (w : World) (hd : Dsk w A n c l) (p o : Int) (hp : plc fr l 0 = p) (ht : plc to l 0 = o) (hk : nmOk to = false) :
    Calls Try.prog 23 #[dkv A n c room fuse false, .string fr, .string to] w fun e w' => RetDE w ⟨l, room, fuse, false⟩ 1 e w' := by
  have HD := Lib.hid hd
  have HN := Lib.hid hd.max
  have HP := Lib.hid hp
  have HT := Lib.hid ht
  clear hd hp ht
  have HK := Lib.hid hk
  clear hk
  go_enter Try.func23, Try.ntmps23
  go_wp2_with fail
  refine (own_any A n c room fuse false l _ (HD.out.q (((Q.refl _).alloc _).alloc _))).mono ?_
  rintro e w1 ⟨A1, c1, rfl, ho, q1⟩
  have X := Lib.hid (St.new (room1 := room) (fuse1 := fuse) (off1 := false) ho q1)
  obtain ⟨⟨e0, e1, e2, e3⟩, f0, f1, f2', f3⟩ := St.get0 q1
  clear q1 ho
  go_upto_region 2 with (fail)
  generalize ((((w1.setCell ⟨w.heap.size, 0, none⟩ (.slice A1 n c1)).setCell ⟨w.heap.size, 1, none⟩ (.int .i64 room)).setCell ⟨w.heap.size, 2, none⟩ (.int .i64 fuse)).setCell ⟨w.heap.size, 3, none⟩ (.bool false)) = W at X ⊢
  clear e0 e1 e2 e3 f0 f1 f2' f3
  obtain ⟨⟨e0, e1, e2, e3⟩, f0, f1, f2', f3⟩ := X.out.get
  go_region_held3 (fun w' => w'.cell? ⟨w.heap.size, 0, none⟩ = some (.slice A1 n c1) ∧ w'.cell? ⟨w.heap.size, 1, none⟩ = some (.int .i64 room) ∧ w'.cell? ⟨w.heap.size, 2, none⟩ = some (.int .i64 fuse) ∧ w'.cell? ⟨w.heap.size, 3, none⟩ = some (.bool false))
    (first
      | go_keep
      | (go_split_ands
         (repeat' apply And.intro) <;> exact box_ ‹Q _ _› (by assumption)))
    (first
      | (go_at_call 40
         (with_reducible refine (place fr A1 n c1 room fuse false l _ (X.out.own.files.q (Q.refl W).drew) HN.out).mono ?_)
         rw [HP.out]
         rintro e w2 ⟨rfl, q2⟩)
      | (go_at_call 40
         (with_reducible refine (place to A1 n c1 room fuse false l _ (X.out.own.files.q ((Q.refl W).drew.trans q2)) HN.out).mono ?_)
         rw [HT.out]
         rintro e w3 ⟨rfl, q3⟩))
  have Y := Lib.hid (X.out.step (((Q.refl W).drew.trans q2).trans q3))
  clear X q2 q3 e0 e1 e2 e3 f0 f1 f2' f3
  obtain ⟨⟨e0, e1, e2, e3⟩, f0, f1, f2', f3⟩ := Y.out.get
  go_wp2_with fail
  refine (named_any to _).mono ?_
  rintro e w4 ⟨rfl, rfl⟩
  rw [HK.out]
  obtain ⟨⟨s0, s1, s2, s3⟩, h0, h1, h2, h3⟩ := Y.out.getR
  go_wp2
  refine bodyPost_ret (v := .tuple #[dkv A1 n c1 room fuse false, .int .i64 1]) (by simp [results, Try.results23, go_sem, s0, s1, s2, s3]) rfl ?_
  exact Y.out.endDE 1 _ _ _ _

set_option maxHeartbeats 2000000 in
theorem ren_same (fr to : ByteArray) (A : Option Addr) (n c : Nat) (room fuse : Int) (l : List Fil) (w : World) (hd : Dsk w A n c l) (p o : Int) (hp : plc fr l 0 = p) (ht : plc to l 0 = o) (hk : nmOk to = true) (h0 : 0 ≤ p) (he : fr = to) :
    Calls Try.prog 23 #[dkv A n c room fuse false, .string fr, .string to] w fun e w' => RetDE w ⟨l, room, fuse, false⟩ 0 e w' := by
  have HD := Lib.hid hd
  have HN := Lib.hid hd.max
  have HP := Lib.hid hp
  have HT := Lib.hid ht
  clear hd hp ht
  have HK := Lib.hid hk
  have hb := str_eq he
  clear hk he
  go_enter Try.func23, Try.ntmps23
  go_wp2_with fail
  refine (own_any A n c room fuse false l _ (HD.out.q (((Q.refl _).alloc _).alloc _))).mono ?_
  rintro e w1 ⟨A1, c1, rfl, ho, q1⟩
  have X := Lib.hid (St.new (room1 := room) (fuse1 := fuse) (off1 := false) ho q1)
  obtain ⟨⟨e0, e1, e2, e3⟩, f0, f1, f2', f3⟩ := St.get0 q1
  clear q1 ho
  go_upto_region 2 with (fail)
  generalize ((((w1.setCell ⟨w.heap.size, 0, none⟩ (.slice A1 n c1)).setCell ⟨w.heap.size, 1, none⟩ (.int .i64 room)).setCell ⟨w.heap.size, 2, none⟩ (.int .i64 fuse)).setCell ⟨w.heap.size, 3, none⟩ (.bool false)) = W at X ⊢
  clear e0 e1 e2 e3 f0 f1 f2' f3
  obtain ⟨⟨e0, e1, e2, e3⟩, f0, f1, f2', f3⟩ := X.out.get
  go_region_held3 (fun w' => w'.cell? ⟨w.heap.size, 0, none⟩ = some (.slice A1 n c1) ∧ w'.cell? ⟨w.heap.size, 1, none⟩ = some (.int .i64 room) ∧ w'.cell? ⟨w.heap.size, 2, none⟩ = some (.int .i64 fuse) ∧ w'.cell? ⟨w.heap.size, 3, none⟩ = some (.bool false))
    (first
      | go_keep
      | (go_split_ands
         (repeat' apply And.intro) <;> exact box_ ‹Q _ _› (by assumption)))
    (first
      | (go_at_call 40
         (with_reducible refine (place fr A1 n c1 room fuse false l _ (X.out.own.files.q (Q.refl W).drew) HN.out).mono ?_)
         rw [HP.out]
         rintro e w2 ⟨rfl, q2⟩)
      | (go_at_call 40
         (with_reducible refine (place to A1 n c1 room fuse false l _ (X.out.own.files.q ((Q.refl W).drew.trans q2)) HN.out).mono ?_)
         rw [HT.out]
         rintro e w3 ⟨rfl, q3⟩))
  have Y := Lib.hid (X.out.step (((Q.refl W).drew.trans q2).trans q3))
  clear X q2 q3 e0 e1 e2 e3 f0 f1 f2' f3
  obtain ⟨⟨e0, e1, e2, e3⟩, f0, f1, f2', f3⟩ := Y.out.get
  go_wp2_with fail
  refine (named_any to _).mono ?_
  rintro e w4 ⟨rfl, rfl⟩
  rw [HK.out]
  obtain ⟨⟨s0, s1, s2, s3⟩, h0, h1, h2, h3⟩ := Y.out.getR
  go_wp2
  refine bodyPost_ret (v := .tuple #[dkv A1 n c1 room fuse false, .int .i64 0]) (by simp [results, Try.results23, go_sem, s0, s1, s2, s3]) rfl ?_
  exact Y.out.endDE 0 _ _ _ _

set_option maxHeartbeats 2000000 in
theorem ren_no1 (fr to : ByteArray) (A : Option Addr) (n c : Nat) (room fuse : Int) (l : List Fil) (w : World) (hd : Dsk w A n c l) (p o : Int) (hp : plc fr l 0 = p) (ht : plc to l 0 = o) (hk : nmOk to = true) (h0 : p < 0) (hfu : fuse ≤ 9223372036854775807) (f2 er : Int) (o2 : Bool) (hc : chg p fuse false = (f2, o2, er)) (hne : er ≠ 0) :
    Calls Try.prog 23 #[dkv A n c room fuse false, .string fr, .string to] w fun e w' => RetDE w ⟨l, room, f2, o2⟩ er e w' := by
  have HD := Lib.hid hd
  have HN := Lib.hid hd.max
  have HP := Lib.hid hp
  have HT := Lib.hid ht
  clear hd hp ht
  have HK := Lib.hid hk
  clear hk
  have HC := Lib.hid hc
  have b1 : (er == 0) = false := by simpa using hne
  have b2 : (er != 0) = true := by simpa using hne
  clear hc hne
  go_enter Try.func23, Try.ntmps23
  go_wp2_with fail
  refine (own_any A n c room fuse false l _ (HD.out.q (((Q.refl _).alloc _).alloc _))).mono ?_
  rintro e w1 ⟨A1, c1, rfl, ho, q1⟩
  have X := Lib.hid (St.new (room1 := room) (fuse1 := fuse) (off1 := false) ho q1)
  obtain ⟨⟨e0, e1, e2, e3⟩, f0, f1, f2', f3⟩ := St.get0 q1
  clear q1 ho
  go_upto_region 2 with (fail)
  generalize ((((w1.setCell ⟨w.heap.size, 0, none⟩ (.slice A1 n c1)).setCell ⟨w.heap.size, 1, none⟩ (.int .i64 room)).setCell ⟨w.heap.size, 2, none⟩ (.int .i64 fuse)).setCell ⟨w.heap.size, 3, none⟩ (.bool false)) = W at X ⊢
  clear e0 e1 e2 e3 f0 f1 f2' f3
  obtain ⟨⟨e0, e1, e2, e3⟩, f0, f1, f2', f3⟩ := X.out.get
  go_region_held3 (fun w' => w'.cell? ⟨w.heap.size, 0, none⟩ = some (.slice A1 n c1) ∧ w'.cell? ⟨w.heap.size, 1, none⟩ = some (.int .i64 room) ∧ w'.cell? ⟨w.heap.size, 2, none⟩ = some (.int .i64 fuse) ∧ w'.cell? ⟨w.heap.size, 3, none⟩ = some (.bool false))
    (first
      | go_keep
      | (go_split_ands
         (repeat' apply And.intro) <;> exact box_ ‹Q _ _› (by assumption)))
    (first
      | (go_at_call 40
         (with_reducible refine (place fr A1 n c1 room fuse false l _ (X.out.own.files.q (Q.refl W).drew) HN.out).mono ?_)
         rw [HP.out]
         rintro e w2 ⟨rfl, q2⟩)
      | (go_at_call 40
         (with_reducible refine (place to A1 n c1 room fuse false l _ (X.out.own.files.q ((Q.refl W).drew.trans q2)) HN.out).mono ?_)
         rw [HT.out]
         rintro e w3 ⟨rfl, q3⟩))
  have Y := Lib.hid (X.out.step (((Q.refl W).drew.trans q2).trans q3))
  clear X q2 q3 e0 e1 e2 e3 f0 f1 f2' f3
  obtain ⟨⟨e0, e1, e2, e3⟩, f0, f1, f2', f3⟩ := Y.out.get
  go_wp2_with fail
  refine (named_any to _).mono ?_
  rintro e w4 ⟨rfl, rfl⟩
  rw [HK.out]
  go_wp2_with fail
  have k3 := change_any A1 n c1 room fuse false p w3 hfu
  rw [HC.out] at k3
  refine k3.mono ?_
  clear k3
  rintro e w5 ⟨rfl, q5⟩
  have Z := Lib.hid ((Y.out.step q5).put4 (room2 := room) (fuse2 := f2) (off2 := o2) (Y.out.step q5).own)
  have Z0 := Y.out.step q5
  clear Y q5 e0 e1 e2 e3 f0 f1 f2' f3
  obtain ⟨⟨e0, e1, e2, e3⟩, f0, f1, f2', f3⟩ := Z0.get
  clear Z0
  go_upto_region 10 with (fail)
  generalize ((((w5.setCell ⟨w.heap.size, 0, none⟩ (.slice A1 n c1)).setCell ⟨w.heap.size, 1, none⟩ (.int .i64 room)).setCell ⟨w.heap.size, 2, none⟩ (.int .i64 f2)).setCell ⟨w.heap.size, 3, none⟩ (.bool o2)) = w6 at Z ⊢
  clear e0 e1 e2 e3 f0 f1 f2' f3
  obtain ⟨⟨e0, e1, e2, e3⟩, f0, f1, f2', f3⟩ := Z.out.get
  obtain ⟨⟨s0, s1, s2, s3⟩, h0', h1, h2, h3⟩ := Z.out.getR
  go_wp2
  refine bodyPost_ret (v := .tuple #[dkv A1 n c1 room f2 o2, .int .i64 er]) (by simp [results, Try.results23, go_sem, s0, s1, s2, s3]) rfl ?_
  exact Z.out.endDE er _ _ _ _

set_option maxHeartbeats 2000000 in
theorem ren_no2 (fr to : ByteArray) (A : Option Addr) (n c : Nat) (room fuse : Int) (l : List Fil) (w : World) (hd : Dsk w A n c l) (p o : Int) (hp : plc fr l 0 = p) (ht : plc to l 0 = o) (hk : nmOk to = true) (h0 : 0 ≤ p) (he : fr ≠ to) (hfu : fuse ≤ 9223372036854775807) (f2 er : Int) (o2 : Bool) (hc : chg p fuse false = (f2, o2, er)) (hne : er ≠ 0) :
    Calls Try.prog 23 #[dkv A n c room fuse false, .string fr, .string to] w fun e w' => RetDE w ⟨l, room, f2, o2⟩ er e w' := by
  have HD := Lib.hid hd
  have HN := Lib.hid hd.max
  have HP := Lib.hid hp
  have HT := Lib.hid ht
  clear hd hp ht
  have HK := Lib.hid hk
  clear hk
  have HC := Lib.hid hc
  have b1 : (er == 0) = false := by simpa using hne
  have b2 : (er != 0) = true := by simpa using hne
  clear hc hne
  have hb := str_ne he
  clear he
  go_enter Try.func23, Try.ntmps23
  go_wp2_with fail
  refine (own_any A n c room fuse false l _ (HD.out.q (((Q.refl _).alloc _).alloc _))).mono ?_
  rintro e w1 ⟨A1, c1, rfl, ho, q1⟩
  have X := Lib.hid (St.new (room1 := room) (fuse1 := fuse) (off1 := false) ho q1)
  obtain ⟨⟨e0, e1, e2, e3⟩, f0, f1, f2', f3⟩ := St.get0 q1
  clear q1 ho
  go_upto_region 2 with (fail)
  generalize ((((w1.setCell ⟨w.heap.size, 0, none⟩ (.slice A1 n c1)).setCell ⟨w.heap.size, 1, none⟩ (.int .i64 room)).setCell ⟨w.heap.size, 2, none⟩ (.int .i64 fuse)).setCell ⟨w.heap.size, 3, none⟩ (.bool false)) = W at X ⊢
  clear e0 e1 e2 e3 f0 f1 f2' f3
  obtain ⟨⟨e0, e1, e2, e3⟩, f0, f1, f2', f3⟩ := X.out.get
  go_region_held3 (fun w' => w'.cell? ⟨w.heap.size, 0, none⟩ = some (.slice A1 n c1) ∧ w'.cell? ⟨w.heap.size, 1, none⟩ = some (.int .i64 room) ∧ w'.cell? ⟨w.heap.size, 2, none⟩ = some (.int .i64 fuse) ∧ w'.cell? ⟨w.heap.size, 3, none⟩ = some (.bool false))
    (first
      | go_keep
      | (go_split_ands
         (repeat' apply And.intro) <;> exact box_ ‹Q _ _› (by assumption)))
    (first
      | (go_at_call 40
         (with_reducible refine (place fr A1 n c1 room fuse false l _ (X.out.own.files.q (Q.refl W).drew) HN.out).mono ?_)
         rw [HP.out]
         rintro e w2 ⟨rfl, q2⟩)
      | (go_at_call 40
         (with_reducible refine (place to A1 n c1 room fuse false l _ (X.out.own.files.q ((Q.refl W).drew.trans q2)) HN.out).mono ?_)
         rw [HT.out]
         rintro e w3 ⟨rfl, q3⟩))
  have Y := Lib.hid (X.out.step (((Q.refl W).drew.trans q2).trans q3))
  clear X q2 q3 e0 e1 e2 e3 f0 f1 f2' f3
  obtain ⟨⟨e0, e1, e2, e3⟩, f0, f1, f2', f3⟩ := Y.out.get
  go_wp2_with fail
  refine (named_any to _).mono ?_
  rintro e w4 ⟨rfl, rfl⟩
  rw [HK.out]
  go_wp2_with fail
  have k3 := change_any A1 n c1 room fuse false p w3 hfu
  rw [HC.out] at k3
  refine k3.mono ?_
  clear k3
  rintro e w5 ⟨rfl, q5⟩
  have Z := Lib.hid ((Y.out.step q5).put4 (room2 := room) (fuse2 := f2) (off2 := o2) (Y.out.step q5).own)
  have Z0 := Y.out.step q5
  clear Y q5 e0 e1 e2 e3 f0 f1 f2' f3
  obtain ⟨⟨e0, e1, e2, e3⟩, f0, f1, f2', f3⟩ := Z0.get
  clear Z0
  go_upto_region 10 with (fail)
  generalize ((((w5.setCell ⟨w.heap.size, 0, none⟩ (.slice A1 n c1)).setCell ⟨w.heap.size, 1, none⟩ (.int .i64 room)).setCell ⟨w.heap.size, 2, none⟩ (.int .i64 f2)).setCell ⟨w.heap.size, 3, none⟩ (.bool o2)) = w6 at Z ⊢
  clear e0 e1 e2 e3 f0 f1 f2' f3
  obtain ⟨⟨e0, e1, e2, e3⟩, f0, f1, f2', f3⟩ := Z.out.get
  obtain ⟨⟨s0, s1, s2, s3⟩, h0', h1, h2, h3⟩ := Z.out.getR
  go_wp2
  refine bodyPost_ret (v := .tuple #[dkv A1 n c1 room f2 o2, .int .i64 er]) (by simp [results, Try.results23, go_sem, s0, s1, s2, s3]) rfl ?_
  exact Z.out.endDE er _ _ _ _

set_option maxHeartbeats 2000000 in
theorem ren_plain (fr to : ByteArray) (A : Option Addr) (n c : Nat) (room fuse : Int) (l : List Fil) (w : World) (hd : Dsk w A n c l) (o : Int) (k : Nat) (hk : k < l.length) (hp : plc fr l 0 = k) (ht : plc to l 0 = o) (hok : nmOk to = true) (he : fr ≠ to) (hfu : fuse ≤ 9223372036854775807) (f2 : Int) (hc : chg k fuse false = (f2, false, 0)) (h0 : o < 0) :
    Calls Try.prog 23 #[dkv A n c room fuse false, .string fr, .string to] w fun e w' => RetDE w ⟨l.set k ⟨to, l[k].sf, l[k].wt⟩, room, f2, false⟩ 0 e w' := by
  have hkn : k < n := by have := hd.len; omega
  obtain ⟨m, rfl⟩ : ∃ m, n = m + 1 := ⟨n - 1, by omega⟩
  have HD := Lib.hid hd
  have HN := Lib.hid hd.max
  have HP := Lib.hid hp
  have HT := Lib.hid ht
  clear hd hp ht
  have HK := Lib.hid hok
  clear hok
  have HC := Lib.hid hc
  clear hc
  have hb := str_ne he
  clear he
  go_enter Try.func23, Try.ntmps23
  go_wp2_with fail
  refine (own_any A (m + 1) c room fuse false l _ (HD.out.q (((Q.refl _).alloc _).alloc _))).mono ?_
  rintro e w1 ⟨A1, c1, rfl, ho, q1⟩
  have X := Lib.hid (St.new (room1 := room) (fuse1 := fuse) (off1 := false) ho q1)
  obtain ⟨⟨e0, e1, e2, e3⟩, f0, f1, f2', f3⟩ := St.get0 q1
  clear q1 ho
  go_upto_region 2 with (fail)
  generalize ((((w1.setCell ⟨w.heap.size, 0, none⟩ (.slice A1 (m + 1) c1)).setCell ⟨w.heap.size, 1, none⟩ (.int .i64 room)).setCell ⟨w.heap.size, 2, none⟩ (.int .i64 fuse)).setCell ⟨w.heap.size, 3, none⟩ (.bool false)) = W at X ⊢
  clear e0 e1 e2 e3 f0 f1 f2' f3
  obtain ⟨⟨e0, e1, e2, e3⟩, f0, f1, f2', f3⟩ := X.out.get
  go_region_held3 (fun w' => w'.cell? ⟨w.heap.size, 0, none⟩ = some (.slice A1 (m + 1) c1) ∧ w'.cell? ⟨w.heap.size, 1, none⟩ = some (.int .i64 room) ∧ w'.cell? ⟨w.heap.size, 2, none⟩ = some (.int .i64 fuse) ∧ w'.cell? ⟨w.heap.size, 3, none⟩ = some (.bool false))
    (first
      | go_keep
      | (go_split_ands
         (repeat' apply And.intro) <;> exact box_ ‹Q _ _› (by assumption)))
    (first
      | (go_at_call 40
         (with_reducible refine (place fr A1 (m + 1) c1 room fuse false l _ (X.out.own.files.q (Q.refl W).drew) HN.out).mono ?_)
         rw [HP.out]
         rintro e w2 ⟨rfl, q2⟩)
      | (go_at_call 40
         (with_reducible refine (place to A1 (m + 1) c1 room fuse false l _ (X.out.own.files.q ((Q.refl W).drew.trans q2)) HN.out).mono ?_)
         rw [HT.out]
         rintro e w3 ⟨rfl, q3⟩))
  have Y := Lib.hid (X.out.step (((Q.refl W).drew.trans q2).trans q3))
  clear X q2 q3 e0 e1 e2 e3 f0 f1 f2' f3
  obtain ⟨⟨e0, e1, e2, e3⟩, f0, f1, f2', f3⟩ := Y.out.get
  go_wp2_with fail
  refine (named_any to _).mono ?_
  rintro e w4 ⟨rfl, rfl⟩
  rw [HK.out]
  go_wp2_with fail
  have k3 := change_any A1 (m + 1) c1 room fuse false k w3 hfu
  rw [HC.out] at k3
  refine k3.mono ?_
  clear k3
  rintro e w5 ⟨rfl, q5⟩
  have Z := Lib.hid ((Y.out.step q5).put4 (room2 := room) (fuse2 := f2) (off2 := false) (Y.out.step q5).own)
  have Z0 := Y.out.step q5
  clear Y q5 e0 e1 e2 e3 f0 f1 f2' f3
  obtain ⟨⟨e0, e1, e2, e3⟩, f0, f1, f2', f3⟩ := Z0.get
  clear Z0
  go_upto_region 10 with (fail)
  generalize ((((w5.setCell ⟨w.heap.size, 0, none⟩ (.slice A1 (m + 1) c1)).setCell ⟨w.heap.size, 1, none⟩ (.int .i64 room)).setCell ⟨w.heap.size, 2, none⟩ (.int .i64 f2)).setCell ⟨w.heap.size, 3, none⟩ (.bool false)) = w6 at Z ⊢
  clear e0 e1 e2 e3 f0 f1 f2' f3
  obtain ⟨⟨e0, e1, e2, e3⟩, f0, f1, f2', f3⟩ := Z.out.get
  have hkl : k < l.length := hk
  obtain ⟨g, rfl, hg⟩ : ∃ g, A1 = some ⟨g, 0, none⟩ ∧ w.heap.size + 2 ≤ g := by
    rcases Z.out.own.parts with ⟨_, e, _⟩ | ⟨g, cur, rfl, hb, _⟩
    · cases e
    · exact ⟨g, rfl, hb⟩
  obtain ⟨c0, c1', c2, gw⟩ := own_file Z.out.own hkl
  obtain ⟨z0, z1, z2, z3⟩ := Z.out.lt
  go_wp2_with fail
  refine (set_mid (w.heap.size + 2) (some ⟨g, 0, none⟩) (m + 1) c1 k ⟨to, l[k].sf, l[k].wt⟩ l _ (Z.out.own.alloc _) hkn).mono ?_
  rintro e w7 ⟨rfl, o7, b7⟩
  have V := Lib.hid ((Z.out.alloc (.cells #[.string to, .string l[k].sf, .string l[k].wt] 29)).wrote o7 b7)
  have V0 := (Z.out.alloc (.cells #[.string to, .string l[k].sf, .string l[k].wt] 29)).box.below b7 (by omega)
  clear Z o7 b7 e0 e1 e2 e3 f0 f1 f2' f3 c0 c1' c2
  obtain ⟨⟨e0, e1, e2, e3⟩, f0, f1, f2', f3⟩ := V0.get4
  clear V0
  go_upto_region 15 with (fail)
  generalize w7.setCell ⟨w.heap.size, 0, none⟩ (.slice (some ⟨g, 0, none⟩) (m + 1) c1) = w8 at V ⊢
  clear e0 e1 e2 e3 f0 f1 f2' f3
  obtain ⟨⟨e0, e1, e2, e3⟩, f0, f1, f2', f3⟩ := V.out.get
  obtain ⟨⟨s0, s1, s2, s3⟩, h0', h1, h2, h3⟩ := V.out.getR
  go_wp2
  refine bodyPost_ret (v := .tuple #[dkv (some ⟨g, 0, none⟩) (m + 1) c1 room f2 false, .int .i64 0]) (by simp [results, Try.results23, go_sem, s0, s1, s2, s3]) rfl ?_
  exact V.out.endDE 0 _ _ _ _

set_option maxHeartbeats 2000000 in
theorem ren_over (fr to : ByteArray) (A : Option Addr) (n c : Nat) (room fuse : Int) (l : List Fil) (w : World) (hd : Dsk w A n c l) (o k : Nat) (hk : k < l.length) (ho : o < l.length) (hp : plc fr l 0 = k) (ht : plc to l 0 = o) (hok : nmOk to = true) (he : fr ≠ to) (hfu : fuse ≤ 9223372036854775807) (f2 : Int) (hc : chg k fuse false = (f2, false, 0)) (hs : l[o].sf.size + l[o].wt.size ≤ maxLen) (hok2 : o ≠ k) (room2 : Int) (hR : wrap64 (room + ((l[o].sf.size + l[o].wt.size : Nat) : Int)) = room2) :
    Calls Try.prog 23 #[dkv A n c room fuse false, .string fr, .string to] w fun e w' => RetDE w ⟨(l.set k ⟨to, l[k].sf, l[k].wt⟩).eraseIdx o, room2, f2, false⟩ 0 e w' := by
  have hkn : k < n := by have := hd.len; omega
  obtain ⟨m, rfl⟩ : ∃ m, n = m + 1 := ⟨n - 1, by omega⟩
  have hon : o < m + 1 := by have := hd.len; omega
  have HD := Lib.hid hd
  have HN := Lib.hid hd.max
  have HP := Lib.hid hp
  have HT := Lib.hid ht
  clear hd hp ht
  have HK := Lib.hid hok
  clear hok
  have HC := Lib.hid hc
  clear hc
  have hb := str_ne he
  clear he
  have ho2 : o < (l.set k ⟨to, l[k].sf, l[k].wt⟩).length := by simpa using ho
  have hge : (l.set k ⟨to, l[k].sf, l[k].wt⟩)[o] = l[o] := List.getElem_set_ne (by omega) _
  have HG := Lib.hid hge
  have HS := Lib.hid hs
  have HR := Lib.hid hR
  clear hge hs hR
  go_enter Try.func23, Try.ntmps23
  go_wp2_with fail
  refine (own_any A (m + 1) c room fuse false l _ (HD.out.q (((Q.refl _).alloc _).alloc _))).mono ?_
  rintro e w1 ⟨A1, c1, rfl, ho, q1⟩
  have X := Lib.hid (St.new (room1 := room) (fuse1 := fuse) (off1 := false) ho q1)
  obtain ⟨⟨e0, e1, e2, e3⟩, f0, f1, f2', f3⟩ := St.get0 q1
  clear q1 ho
  go_upto_region 2 with (fail)
  generalize ((((w1.setCell ⟨w.heap.size, 0, none⟩ (.slice A1 (m + 1) c1)).setCell ⟨w.heap.size, 1, none⟩ (.int .i64 room)).setCell ⟨w.heap.size, 2, none⟩ (.int .i64 fuse)).setCell ⟨w.heap.size, 3, none⟩ (.bool false)) = W at X ⊢
  clear e0 e1 e2 e3 f0 f1 f2' f3
  obtain ⟨⟨e0, e1, e2, e3⟩, f0, f1, f2', f3⟩ := X.out.get
  go_region_held3 (fun w' => w'.cell? ⟨w.heap.size, 0, none⟩ = some (.slice A1 (m + 1) c1) ∧ w'.cell? ⟨w.heap.size, 1, none⟩ = some (.int .i64 room) ∧ w'.cell? ⟨w.heap.size, 2, none⟩ = some (.int .i64 fuse) ∧ w'.cell? ⟨w.heap.size, 3, none⟩ = some (.bool false))
    (first
      | go_keep
      | (go_split_ands
         (repeat' apply And.intro) <;> exact box_ ‹Q _ _› (by assumption)))
    (first
      | (go_at_call 40
         (with_reducible refine (place fr A1 (m + 1) c1 room fuse false l _ (X.out.own.files.q (Q.refl W).drew) HN.out).mono ?_)
         rw [HP.out]
         rintro e w2 ⟨rfl, q2⟩)
      | (go_at_call 40
         (with_reducible refine (place to A1 (m + 1) c1 room fuse false l _ (X.out.own.files.q ((Q.refl W).drew.trans q2)) HN.out).mono ?_)
         rw [HT.out]
         rintro e w3 ⟨rfl, q3⟩))
  have Y := Lib.hid (X.out.step (((Q.refl W).drew.trans q2).trans q3))
  clear X q2 q3 e0 e1 e2 e3 f0 f1 f2' f3
  obtain ⟨⟨e0, e1, e2, e3⟩, f0, f1, f2', f3⟩ := Y.out.get
  go_wp2_with fail
  refine (named_any to _).mono ?_
  rintro e w4 ⟨rfl, rfl⟩
  rw [HK.out]
  go_wp2_with fail
  have k3 := change_any A1 (m + 1) c1 room fuse false k w3 hfu
  rw [HC.out] at k3
  refine k3.mono ?_
  clear k3
  rintro e w5 ⟨rfl, q5⟩
  have Z := Lib.hid ((Y.out.step q5).put4 (room2 := room) (fuse2 := f2) (off2 := false) (Y.out.step q5).own)
  have Z0 := Y.out.step q5
  clear Y q5 e0 e1 e2 e3 f0 f1 f2' f3
  obtain ⟨⟨e0, e1, e2, e3⟩, f0, f1, f2', f3⟩ := Z0.get
  clear Z0
  go_upto_region 10 with (fail)
  generalize ((((w5.setCell ⟨w.heap.size, 0, none⟩ (.slice A1 (m + 1) c1)).setCell ⟨w.heap.size, 1, none⟩ (.int .i64 room)).setCell ⟨w.heap.size, 2, none⟩ (.int .i64 f2)).setCell ⟨w.heap.size, 3, none⟩ (.bool false)) = w6 at Z ⊢
  clear e0 e1 e2 e3 f0 f1 f2' f3
  obtain ⟨⟨e0, e1, e2, e3⟩, f0, f1, f2', f3⟩ := Z.out.get
  have hkl : k < l.length := hk
  obtain ⟨g, rfl, hg⟩ : ∃ g, A1 = some ⟨g, 0, none⟩ ∧ w.heap.size + 2 ≤ g := by
    rcases Z.out.own.parts with ⟨_, e, _⟩ | ⟨g, cur, rfl, hb, _⟩
    · cases e
    · exact ⟨g, rfl, hb⟩
  obtain ⟨c0, c1', c2, gw⟩ := own_file Z.out.own hkl
  obtain ⟨z0, z1, z2, z3⟩ := Z.out.lt
  go_wp2_with fail
  refine (set_mid (w.heap.size + 2) (some ⟨g, 0, none⟩) (m + 1) c1 k ⟨to, l[k].sf, l[k].wt⟩ l _ (Z.out.own.alloc _) hkn).mono ?_
  rintro e w7 ⟨rfl, o7, b7⟩
  have V := Lib.hid ((Z.out.alloc (.cells #[.string to, .string l[k].sf, .string l[k].wt] 29)).wrote o7 b7)
  have V0 := (Z.out.alloc (.cells #[.string to, .string l[k].sf, .string l[k].wt] 29)).box.below b7 (by omega)
  clear Z o7 b7 e0 e1 e2 e3 f0 f1 f2' f3 c0 c1' c2
  obtain ⟨⟨e0, e1, e2, e3⟩, f0, f1, f2', f3⟩ := V0.get4
  clear V0
  go_upto_region 15 with (fail)
  generalize w7.setCell ⟨w.heap.size, 0, none⟩ (.slice (some ⟨g, 0, none⟩) (m + 1) c1) = w8 at V ⊢
  clear e0 e1 e2 e3 f0 f1 f2' f3
  obtain ⟨⟨e0, e1, e2, e3⟩, f0, f1, f2', f3⟩ := V.out.get
  go_wp2_with fail
  have k9 := drop_at (w.heap.size + 2) g m c1 o room f2 false (l.set k ⟨to, l[k].sf, l[k].wt⟩) w8 V.out.own hon ho2 (by rw [HG.out]; exact HS.out) HN.out
  rw [HG.out, HR.out] at k9
  refine k9.mono ?_
  clear k9
  rintro e w9 ⟨rfl, o9, g9⟩
  have B9 := V.out.box.only g9 (by omega)
  have R9 := V.out.res.only g9 (by omega)
  have Q9 : Q w w9 := V.out.q.below.trans (only_below g9 (by omega) V.out.q.size)
  have U := Lib.hid (And.intro (o9.set4 (b := w.heap.size) (by omega) (.slice (some ⟨g, 0, none⟩) m c1) (.int .i64 room2) (.int .i64 f2) (.bool false)) (And.intro (B9.put4 (.slice (some ⟨g, 0, none⟩) m c1) (.int .i64 room2) (.int .i64 f2) (.bool false)) (And.intro (R9.far4 (c := w.heap.size) (by omega) (.slice (some ⟨g, 0, none⟩) m c1) (.int .i64 room2) (.int .i64 f2) (.bool false)) (Q9.set4 (b := w.heap.size) (Nat.le_refl _) (.slice (some ⟨g, 0, none⟩) m c1) (.int .i64 room2) (.int .i64 f2) (.bool false)))))
  clear R9 Q9 o9 g9 e0 e1 e2 e3 f0 f1 f2' f3
  obtain ⟨⟨e0, e1, e2, e3⟩, f0, f1, f2', f3⟩ := B9.get4
  clear B9
  go_upto_region 17 with (fail)
  generalize ((((w9.setCell ⟨w.heap.size, 0, none⟩ (.slice (some ⟨g, 0, none⟩) m c1)).setCell ⟨w.heap.size, 1, none⟩ (.int .i64 room2)).setCell ⟨w.heap.size, 2, none⟩ (.int .i64 f2)).setCell ⟨w.heap.size, 3, none⟩ (.bool false)) = w10 at U ⊢
  clear e0 e1 e2 e3 f0 f1 f2' f3
  have S : Hid (St w (some ⟨g, 0, none⟩) m c1 room2 f2 false ((l.set k ⟨to, l[k].sf, l[k].wt⟩).eraseIdx o) w10) := Lib.hid ⟨U.out.1, U.out.2.1, U.out.2.2.1, U.out.2.2.2⟩
  clear U
  obtain ⟨⟨e0, e1, e2, e3⟩, f0, f1, f2', f3⟩ := S.out.get
  obtain ⟨⟨s0, s1, s2, s3⟩, h0', h1, h2, h3⟩ := S.out.getR
  go_wp2
  refine bodyPost_ret (v := .tuple #[dkv (some ⟨g, 0, none⟩) m c1 room2 f2 false, .int .i64 0]) (by simp [results, Try.results23, go_sem, s0, s1, s2, s3]) rfl ?_
  exact S.out.endDE 0 _ _ _ _
end Go.Proofs.Ytpjadjbniddmgaa
