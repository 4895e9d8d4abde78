/- Contracts: the document's Rename. -/
import Derived.Test.YtpjadjbniddmgaaDiskRef3
namespace Go.Proofs.Ytpjadjbniddmgaa
open Go.RowKit Dkm
set_option linter.unusedVariables false

theorem nmOk_yes {nm : ByteArray} (h : nmOk nm = true) : 1 ≤ nm.size ∧ nm.size ≤ 16 := by simpa [nmOk] using h
theorem nmOk_no {nm : ByteArray} (h : nmOk nm = false) : nm.size < 1 ∨ 16 < nm.size := by
  have : ¬ (1 ≤ nm.size ∧ nm.size ≤ 16) := by simpa [nmOk] using h
  omega

set_option maxHeartbeats 2000000 in
theorem ref_ren_off (fr to : ByteArray) (A : Option Addr) (n c : Nat) (room fuse : Int) (l : List Fil) (w : World) (hd : Dsk w A n c l) :
    Calls Try.prog 24 #[dkv A n c room fuse true, .string fr, .string to] w fun e w' => RetDK w ⟨l, room, fuse, true⟩ 6 e w' := by
  have HD := Lib.hid hd
  have hfew := hd.few
  clear hd
  go_enter Try.func24, Try.ntmps24
  go_wp2
  refine bodyPost_ret (v := .tuple #[dkv A n c room fuse true, .int .i64 6]) (by simp [results, Try.results24, go_sem]) rfl ?_
  exact ⟨A, n, c, rfl, HD.out.q (((Q.refl _).alloc _).alloc _), ((Q.refl _).alloc _).alloc _⟩

set_option maxHeartbeats 2000000 in
theorem ref_ren_arg (fr to : ByteArray) (A : Option Addr) (n c : Nat) (room fuse : Int) (l : List Fil) (w : World) (hd : Dsk w A n c l) (hk : nmOk to = false) :
    Calls Try.prog 24 #[dkv A n c room fuse false, .string fr, .string to] w fun e w' => RetDK w ⟨l, room, fuse, false⟩ 1 e w' := by
  have HD := Lib.hid hd
  have hfew := hd.few
  clear hd
  rcases nmOk_no hk with h | h
  case' inl => have h' : (to.size : Int) < 1 := by omega
  case' inr => have h' : ¬ (to.size : Int) < 1 := by omega
  all_goals
    clear hk
    go_enter Try.func24, Try.ntmps24
    go_wp2
    refine bodyPost_ret (v := .tuple #[dkv A n c room fuse false, .int .i64 1]) (by simp [results, Try.results24, go_sem]) rfl ?_
    exact ⟨A, n, c, rfl, HD.out.q (((Q.refl _).alloc _).alloc _), ((Q.refl _).alloc _).alloc _⟩

set_option maxHeartbeats 2000000 in
theorem ref_ren_none (fr to : ByteArray) (A : Option Addr) (n c : Nat) (room fuse : Int) (l : List Fil) (w : World) (hd : Dsk w A n c l) (p : Int) (hp : plc fr l 0 = p) (hk : nmOk to = true) (h0 : p < 0) :
    Calls Try.prog 24 #[dkv A n c room fuse false, .string fr, .string to] w fun e w' => RetDK w ⟨l, room, fuse, false⟩ 7 e w' := by
  have HD := Lib.hid hd
  have hfew := hd.few
  clear hd
  obtain ⟨o1, o2⟩ := nmOk_yes hk
  have o3 : ¬ (to.size : Int) < 1 := by omega
  clear hk
  have HP := Lib.hid hp
  clear hp
  have S0 := Lib.hid (Sb.new w A n c room fuse false)
  go_enter Try.func24, Try.ntmps24
  go_wp2_with fail
  refine (ref_at fr A n c room fuse false l _ (HD.out.files.q S0.out.q) HD.out.max).mono ?_
  rw [HP.out]
  rintro e w1 ⟨rfl, q1⟩
  have S1 := Lib.hid (S0.out.step q1)
  clear S0 q1
  obtain ⟨⟨e0, e1, e2, e3⟩, f0, f1, f2', f3⟩ := S1.out.get
  obtain ⟨⟨s0, s1, s2, s3⟩, h0', h1, h2, h3⟩ := S1.out.getR
  go_wp2
  refine bodyPost_ret (v := .tuple #[dkv A n c room fuse false, .int .i64 7]) (by simp [results, Try.results24, go_sem, s0, s1, s2, s3]) rfl ?_
  exact S1.out.endK HD.out 7 _ _ _ _

set_option maxHeartbeats 2000000 in
theorem ref_ren_same (fr to : ByteArray) (A : Option Addr) (n c : Nat) (room fuse : Int) (l : List Fil) (w : World) (hd : Dsk w A n c l) (k : Nat) (hp : plc fr l 0 = k) (hk : nmOk to = true) (he : fr = to) :
    Calls Try.prog 24 #[dkv A n c room fuse false, .string fr, .string to] w fun e w' => RetDK w ⟨l, room, fuse, false⟩ 0 e w' := by
  have HD := Lib.hid hd
  have hfew := hd.few
  clear hd
  obtain ⟨o1, o2⟩ := nmOk_yes hk
  have o3 : ¬ (to.size : Int) < 1 := by omega
  clear hk
  have hb := str_eq he
  clear he
  have HP := Lib.hid hp
  clear hp
  have S0 := Lib.hid (Sb.new w A n c room fuse false)
  go_enter Try.func24, Try.ntmps24
  go_wp2_with fail
  refine (ref_at fr A n c room fuse false l _ (HD.out.files.q S0.out.q) HD.out.max).mono ?_
  rw [HP.out]
  rintro e w1 ⟨rfl, q1⟩
  have S1 := Lib.hid (S0.out.step q1)
  clear S0 q1
  obtain ⟨⟨e0, e1, e2, e3⟩, f0, f1, f2', f3⟩ := S1.out.get
  obtain ⟨⟨s0, s1, s2, s3⟩, h0', h1, h2, h3⟩ := S1.out.getR
  go_wp2
  refine bodyPost_ret (v := .tuple #[dkv A n c room fuse false, .int .i64 0]) (by simp [results, Try.results24, go_sem, s0, s1, s2, s3]) rfl ?_
  exact S1.out.endK HD.out 0 _ _ _ _

set_option maxHeartbeats 2000000 in
theorem ref_ren_dead (fr to : ByteArray) (A : Option Addr) (n c : Nat) (room : Int) (l : List Fil) (w : World) (hd : Dsk w A n c l) (k : Nat) (hp : plc fr l 0 = k) (hk : nmOk to = true) (he : fr ≠ to) :
    Calls Try.prog 24 #[dkv A n c room 0 false, .string fr, .string to] w fun e w' => RetDK w ⟨l, room, 0, true⟩ 6 e w' := by
  have HD := Lib.hid hd
  have hfew := hd.few
  clear hd
  obtain ⟨o1, o2⟩ := nmOk_yes hk
  have o3 : ¬ (to.size : Int) < 1 := by omega
  clear hk
  have hb := str_ne he
  clear he
  have HP := Lib.hid hp
  clear hp
  have S0 := Lib.hid (Sb.new w A n c room 0 false)
  go_enter Try.func24, Try.ntmps24
  go_wp2_with fail
  refine (ref_at fr A n c room 0 false l _ (HD.out.files.q S0.out.q) HD.out.max).mono ?_
  rw [HP.out]
  rintro e w1 ⟨rfl, q1⟩
  have S1 := Lib.hid (S0.out.step q1)
  clear S0 q1
  obtain ⟨⟨e0, e1, e2, e3⟩, f0, f1, f2', f3⟩ := S1.out.get
  have k2 := ref_power A n c ⟨l, room, 0, false⟩ w1 (by simp)
  rw [pow_zero] at k2
  have k2 := Lib.hid k2
  go_wp2_with fail
  refine k2.out.mono ?_
  rintro e w2 ⟨rfl, q2⟩
  have S2 := Lib.hid ((S1.out.step q2).put4 A n c room 0 true)
  have P2 := S1.out.step q2
  clear S1 k2 q2 e0 e1 e2 e3 f0 f1 f2' f3
  obtain ⟨⟨e0, e1, e2, e3⟩, f0, f1, f2', f3⟩ := P2.get
  clear P2
  go_upto_region 10 with (fail)
  generalize ((((w2.setCell ⟨w.heap.size, 0, none⟩ (.slice A n c)).setCell ⟨w.heap.size, 1, none⟩ (.int .i64 room)).setCell ⟨w.heap.size, 2, none⟩ (.int .i64 0)).setCell ⟨w.heap.size, 3, none⟩ (.bool true)) = W at S2 ⊢
  clear e0 e1 e2 e3 f0 f1 f2' f3
  obtain ⟨⟨e0, e1, e2, e3⟩, f0, f1, f2', f3⟩ := S2.out.get
  obtain ⟨⟨s0, s1, s2, s3⟩, h0', h1, h2, h3⟩ := S2.out.getR
  go_wp2
  refine bodyPost_ret (v := .tuple #[dkv A n c room 0 true, .int .i64 6]) (by simp [results, Try.results24, go_sem, s0, s1, s2, s3]) rfl ?_
  exact S2.out.endK HD.out 6 _ _ _ _

set_option maxHeartbeats 2000000 in
theorem ref_ren_plain (fr to : ByteArray) (A : Option Addr) (n c : Nat) (room fuse : Int) (l : List Fil) (w : World) (hd : Dsk w A n c l) (hfu : fuse ≤ 9223372036854775807) (k : Nat) (hkl : k < l.length) (hp : plc fr l 0 = k) (hk : nmOk to = true) (he : fr ≠ to) (f2 : Int) (hpw : pow ⟨l, room, fuse, false⟩ = (⟨l, room, f2, false⟩, true)) (o : Int) (ht : plc to l 0 = o) (h0 : o < 0) :
    Calls Try.prog 24 #[dkv A n c room fuse false, .string fr, .string to] w fun e w' => RetDK w ⟨l.set k ⟨to, l[k].sf, l[k].wt⟩, room, f2, false⟩ 0 e w' := by
  have HD := Lib.hid hd
  have hfew := hd.few
  clear hd
  obtain ⟨o1, o2⟩ := nmOk_yes hk
  have o3 : ¬ (to.size : Int) < 1 := by omega
  clear hk
  have hb := str_ne he
  clear he
  have HL := Lib.hid HD.out.len
  have hkn : k < n := by have := HL.out; omega
  have HW := Lib.hid hpw
  clear hpw
  have HT := Lib.hid ht
  clear ht
  have HP := Lib.hid hp
  clear hp
  have S0 := Lib.hid (Sb.new w A n c room fuse false)
  go_enter Try.func24, Try.ntmps24
  go_wp2_with fail
  refine (ref_at fr A n c room fuse false l _ (HD.out.files.q S0.out.q) HD.out.max).mono ?_
  rw [HP.out]
  rintro e w1 ⟨rfl, q1⟩
  have S1 := Lib.hid (S0.out.step q1)
  clear S0 q1
  obtain ⟨⟨e0, e1, e2, e3⟩, f0, f1, f2', f3⟩ := S1.out.get
  have k2 := ref_power A n c ⟨l, room, fuse, false⟩ w1 hfu
  rw [HW.out] at k2
  have k2 := Lib.hid k2
  go_wp2_with fail
  refine k2.out.mono ?_
  rintro e w2 ⟨rfl, q2⟩
  have S2 := Lib.hid ((S1.out.step q2).put4 A n c room f2 false)
  have P2 := S1.out.step q2
  clear S1 k2 q2 e0 e1 e2 e3 f0 f1 f2' f3
  obtain ⟨⟨e0, e1, e2, e3⟩, f0, f1, f2', f3⟩ := P2.get
  clear P2
  go_upto_region 10 with (fail)
  generalize ((((w2.setCell ⟨w.heap.size, 0, none⟩ (.slice A n c)).setCell ⟨w.heap.size, 1, none⟩ (.int .i64 room)).setCell ⟨w.heap.size, 2, none⟩ (.int .i64 f2)).setCell ⟨w.heap.size, 3, none⟩ (.bool false)) = W at S2 ⊢
  clear e0 e1 e2 e3 f0 f1 f2' f3
  obtain ⟨⟨e0, e1, e2, e3⟩, f0, f1, f2', f3⟩ := S2.out.get
  go_wp2_with fail
  refine (ref_at to A n c room f2 false l _ (HD.out.files.q S2.out.q) HD.out.max).mono ?_
  rw [HT.out]
  rintro e w4 ⟨rfl, q4⟩
  have S4 := Lib.hid (S2.out.step q4)
  clear S2 q4 e0 e1 e2 e3 f0 f1 f2' f3
  obtain ⟨⟨e0, e1, e2, e3⟩, f0, f1, f2', f3⟩ := S4.out.get
  go_wp2_with fail
  refine (ref_at fr A n c room f2 false l _ (HD.out.files.q S4.out.q) HD.out.max).mono ?_
  rw [HP.out]
  rintro e w5 ⟨rfl, q5⟩
  have S5 := Lib.hid (S4.out.step q5)
  clear S4 q5 e0 e1 e2 e3 f0 f1 f2' f3
  obtain ⟨⟨e0, e1, e2, e3⟩, f0, f1, f2', f3⟩ := S5.out.get
  obtain ⟨ad, rfl, hbk, c0, c1, c2⟩ := (HD.out.files.q S5.out.q).load hkn hkl
  have z0 : w.heap.size < w5.heap.size := S5.out.box.lt
  have z1 : w.heap.size + 1 < w5.heap.size := S5.out.res.lt
  have z2 : w.heap.size ≠ w5.heap.size := by omega
  have z3 : w.heap.size + 1 ≠ w5.heap.size := by omega
  have q6 : (k : Int) < (n : Int) := by omega
  have q7 : 0 ≤ (k : Int) := by omega
  go_wp2_with fail
  refine (ref_with (some ad) n c room f2 false k ⟨to, l[k].sf, l[k].wt⟩ l _ (HD.out.q (S5.out.q.alloc _)) hkn).mono ?_
  rintro e w6 ⟨A6, c6, rfl, ho6, q6'⟩
  have S6 := Lib.hid (S5.out.step ((Q.refl w5).alloc (.cells #[.string to, .string l[k].sf, .string l[k].wt] 29)))
  have HO := Lib.hid ho6
  have HQ := Lib.hid q6'
  clear ho6 q6' S5 e0 e1 e2 e3 f0 f1 f2' f3 c0 c1 c2
  obtain ⟨⟨s0, s1, s2, s3⟩, h0', h1, h2, h3⟩ := (S6.out.step HQ.out).getR
  go_wp2
  refine bodyPost_ret (v := .tuple #[dkv A6 n c6 room f2 false, .int .i64 0]) (by simp [results, Try.results24, go_sem, s0, s1, s2, s3]) rfl ?_
  exact S6.out.endO (d := ⟨l.set k ⟨to, l[k].sf, l[k].wt⟩, room, f2, false⟩) HQ.out HO.out (by omega) 0 _ _ _ _
end Go.Proofs.Ytpjadjbniddmgaa
