/- Contracts: the document's Sync; its Append, where it is refused. -/
import Derived.Test.YtpjadjbniddmgaaDiskRef4
namespace Go.Proofs.Ytpjadjbniddmgaa
open Go.RowKit Dkm
set_option linter.unusedVariables false

set_option maxHeartbeats 2000000 in
theorem ref_sync_off (nm : ByteArray) (A : Option Addr) (n c : Nat) (room fuse : Int) (l : List Fil) (w : World) (hd : Dsk w A n c l) :
    Calls Try.prog 15 #[dkv A n c room fuse true, .string nm] w fun e w' => RetDK w ⟨l, room, fuse, true⟩ 6 e w' := by
  have HD := Lib.hid hd
  clear hd
  go_enter Try.func15, Try.ntmps15
  go_wp2
  refine bodyPost_ret (v := .tuple #[dkv A n c room fuse true, .int .i64 6]) (by simp [results, Try.results15, go_sem]) rfl ?_
  exact ⟨A, n, c, rfl, HD.out.q (((Q.refl _).alloc _).alloc _), ((Q.refl _).alloc _).alloc _⟩

set_option maxHeartbeats 2000000 in
theorem ref_sync_none (nm : ByteArray) (A : Option Addr) (n c : Nat) (room fuse : Int) (l : List Fil) (w : World) (hd : Dsk w A n c l) (p : Int) (hp : plc nm l 0 = p) (h0 : p < 0) :
    Calls Try.prog 15 #[dkv A n c room fuse false, .string nm] w fun e w' => RetDK w ⟨l, room, fuse, false⟩ 7 e w' := by
  have HD := Lib.hid hd
  have HP := Lib.hid hp
  clear hd hp
  have S0 := Lib.hid (Sb.new w A n c room fuse false)
  go_enter Try.func15, Try.ntmps15
  go_wp2_with fail
  refine (ref_at nm A n c room fuse false l _ (HD.out.files.q S0.out.q) HD.out.max).mono ?_
  rw [HP.out]
  rintro e w1 ⟨rfl, q1⟩
  have S1 := Lib.hid (S0.out.step q1)
  clear S0 q1
  obtain ⟨⟨e0, e1, e2, e3⟩, f0, f1, f2, f3⟩ := S1.out.get
  obtain ⟨⟨s0, s1, s2, s3⟩, h0', h1, h2, h3⟩ := S1.out.getR
  go_wp2
  refine bodyPost_ret (v := .tuple #[dkv A n c room fuse false, .int .i64 7]) (by simp [results, Try.results15, go_sem, s0, s1, s2, s3]) rfl ?_
  exact S1.out.endK HD.out 7 _ _ _ _

set_option maxHeartbeats 2000000 in
theorem ref_sync_yes (nm : ByteArray) (A : Option Addr) (n c : Nat) (room fuse : Int) (l : List Fil) (w : World) (hd : Dsk w A n c l) (k : Nat) (hk : k < l.length) (hp : plc nm l 0 = k) (hs : l[k].sf.size + l[k].wt.size ≤ maxLen) :
    Calls Try.prog 15 #[dkv A n c room fuse false, .string nm] w fun e w' => RetDK w ⟨l.set k ⟨l[k].nm, l[k].sf ++ l[k].wt, ⟨#[]⟩⟩, room, fuse, false⟩ 0 e w' := by
  have hkn : k < n := by have := hd.len; omega
  have hnm := hd.max
  unfold maxLen at hnm hs
  have hfew := hd.few
  have HD := Lib.hid hd
  have HP := Lib.hid hp
  clear hd hp
  have S0 := Lib.hid (Sb.new w A n c room fuse false)
  have q4 : (k : Int) < (n : Int) := by omega
  have q5 : 0 ≤ (k : Int) := by omega
  have q6 : ¬ 9223372036854775807 < l[k].sf.size + l[k].wt.size := by omega
  go_enter Try.func15, Try.ntmps15
  go_wp2_with fail
  refine (ref_at nm A n c room fuse false l _ (HD.out.files.q S0.out.q) HD.out.max).mono ?_
  rw [HP.out]
  rintro e w1 ⟨rfl, q1⟩
  have S1 := Lib.hid (S0.out.step q1)
  obtain ⟨ad, rfl, hb, c0, c1, c3⟩ := (HD.out.files.q S1.out.q).load hkn hk
  clear S0 q1
  obtain ⟨⟨e0, e1, e2, e3⟩, f0, f1, f2, f3⟩ := S1.out.get
  go_upto_region 7 with (fail)
  have B1 := Lib.hid (And.intro (Bx.new w1 [.string l[k].nm, .string l[k].sf, .string l[k].wt] 29) (S1.out.step ((Q.refl _).alloc (.cells #[.string l[k].nm, .string l[k].sf, .string l[k].wt] 29))))
  generalize (w1.alloc (.cells #[.string l[k].nm, .string l[k].sf, .string l[k].wt] 29)) = W at B1 ⊢
  generalize w1.heap.size = g at B1 ⊢
  clear e0 e1 e2 e3 f0 f1 f2 f3 c0 c1 c3 hb
  obtain ⟨⟨b0, b1, b2⟩, _⟩ := B1.out.1.get3
  obtain ⟨⟨e0, e1, e2, e3⟩, f0, f1, f2, f3⟩ := B1.out.2.get
  obtain ⟨⟨s0, s1, s2, s3⟩, h0', h1, h2, h3⟩ := B1.out.2.getR
  go_wp2_with fail
  refine (ref_with (some ad) n c room fuse false k ⟨l[k].nm, l[k].sf ++ l[k].wt, ⟨#[]⟩⟩ l _ (HD.out.q B1.out.2.q) hkn).mono ?_
  rintro e w5 ⟨A5, c5, rfl, ho5, q5'⟩
  clear s0 s1 s2 s3 h0' h1 h2 h3
  obtain ⟨⟨s0, s1, s2, s3⟩, h0', h1, h2, h3⟩ := (B1.out.2.step q5').getR
  go_wp2
  refine bodyPost_ret (v := .tuple #[dkv A5 n c5 room fuse false, .int .i64 0]) (by simp [results, Try.results15, go_sem, s0, s1, s2, s3]) rfl ?_
  exact B1.out.2.endO (d := ⟨l.set k ⟨l[k].nm, l[k].sf ++ l[k].wt, ⟨#[]⟩⟩, room, fuse, false⟩) q5' ho5 (by omega) 0 _ _ _ _

set_option maxHeartbeats 2000000 in
theorem ref_app_off (nm s : ByteArray) (A : Option Addr) (n c : Nat) (room fuse : Int) (l : List Fil) (w : World) (hd : Dsk w A n c l) :
    Calls Try.prog 13 #[dkv A n c room fuse true, .string nm, .string s] w fun e w' => RetDK w ⟨l, room, fuse, true⟩ 6 e w' := by
  have HD := Lib.hid hd
  clear hd
  go_enter Try.func13, Try.ntmps13
  go_wp2
  refine bodyPost_ret (v := .tuple #[dkv A n c room fuse true, .int .i64 6]) (by simp [results, Try.results13, go_sem]) rfl ?_
  exact ⟨A, n, c, rfl, HD.out.q (((Q.refl _).alloc _).alloc _), ((Q.refl _).alloc _).alloc _⟩

set_option maxHeartbeats 2000000 in
theorem ref_app_arg (nm s : ByteArray) (A : Option Addr) (n c : Nat) (room fuse : Int) (l : List Fil) (w : World) (hd : Dsk w A n c l) (hk : nmOk nm = false) :
    Calls Try.prog 13 #[dkv A n c room fuse false, .string nm, .string s] w fun e w' => RetDK w ⟨l, room, fuse, false⟩ 1 e w' := by
  have HD := Lib.hid hd
  have hfew := hd.few
  clear hd
  rcases nmOk_no hk with h | h
  case' inl => have h' : (nm.size : Int) < 1 := by omega
  case' inr => have h' : ¬ (nm.size : Int) < 1 := by omega
  all_goals
    clear hk
    go_enter Try.func13, Try.ntmps13
    go_wp2
    refine bodyPost_ret (v := .tuple #[dkv A n c room fuse false, .int .i64 1]) (by simp [results, Try.results13, go_sem]) rfl ?_
    exact ⟨A, n, c, rfl, HD.out.q (((Q.refl _).alloc _).alloc _), ((Q.refl _).alloc _).alloc _⟩

set_option maxHeartbeats 4000000 in
theorem ref_app_full (nm s : ByteArray) (A : Option Addr) (n c : Nat) (room fuse : Int) (l : List Fil) (w : World) (hd : Dsk w A n c l) (hk : nmOk nm = true) (p : Int) (hp : plc nm l 0 = p) (hfull : (p < 0 ∧ 64 ≤ n) ∨ room < s.size) :
    Calls Try.prog 13 #[dkv A n c room fuse false, .string nm, .string s] w fun e w' => RetDK w ⟨l, room, fuse, false⟩ 5 e w' := by
  have HD := Lib.hid hd
  have HP := Lib.hid hp
  have hfew := hd.few
  clear hd hp
  obtain ⟨o1, o2⟩ := nmOk_yes hk
  have o3 : ¬ (nm.size : Int) < 1 := by omega
  clear hk
  have S0 := Lib.hid (Sb.new w A n c room fuse false)
  have hc : (p < 0 ∧ (64 : Int) ≤ (n : Int)) ∨ (p < 0 ∧ ¬ (64 : Int) ≤ (n : Int) ∧ room < (s.size : Int)) ∨ (¬ p < 0 ∧ room < (s.size : Int)) := by omega
  clear hfull
  rcases hc with ⟨g1, g2⟩ | ⟨g1, g2, g3⟩ | ⟨g1, g3⟩
  all_goals
    go_enter Try.func13, Try.ntmps13
    go_wp2_with fail
    refine (ref_at nm A n c room fuse false l _ (HD.out.files.q S0.out.q) HD.out.max).mono ?_
    rw [HP.out]
    rintro e w1 ⟨rfl, q1⟩
    have S1 := Lib.hid (S0.out.step q1)
    clear S0 q1
    obtain ⟨⟨e0, e1, e2, e3⟩, f0, f1, f2, f3⟩ := S1.out.get
    obtain ⟨⟨s0, s1, s2, s3⟩, h0', h1, h2, h3⟩ := S1.out.getR
    go_wp2
    refine bodyPost_ret (v := .tuple #[dkv A n c room fuse false, .int .i64 5]) (by simp [results, Try.results13, go_sem, s0, s1, s2, s3]) rfl ?_
    exact S1.out.endK HD.out 5 _ _ _ _
end Go.Proofs.Ytpjadjbniddmgaa
