/- Contracts: Crash. -/
import Derived.Test.YtpjadjbniddmgaaDiskSt
namespace Go.Proofs.Ytpjadjbniddmgaa
open Go.RowKit Dkm
set_option linter.unusedVariables false

set_option maxHeartbeats 2000000 in
theorem crash_any (A : Option Addr) (n c : Nat) (room fuse : Int) (off : Bool) (K : Option Addr) (kn kc : Nat) (ks : List Int) (l : List Fil) (w : World) (hd : Dsk w A n c l) (hk : Ints w K kn ks) (hkn : kn ≤ maxLen) (hs : ∀ f ∈ l, f.sf.size + f.wt.size ≤ maxLen) :
    Calls Try.prog 27 #[dkv A n c room fuse off, .slice K kn kc] w fun e w' => RetD w (crs ⟨l, room, fuse, off⟩ ks) e w' := by
  have hnm := hd.max
  unfold maxLen at hnm hkn
  have HD := Lib.hid hd
  have HK := Lib.hid hk
  have HL := Lib.hid hd.len
  have HKL := Lib.hid hk.len
  have HS := Lib.hid hs
  clear hd hk hs
  go_enter Try.func27, Try.ntmps27
  go_wp2_with fail
  refine (own_any A n c room fuse off l _ (HD.out.q (((Q.refl _).alloc _).alloc _))).mono ?_
  rintro e w1 ⟨A1, c1, rfl, ho, q1⟩
  have X := Lib.hid (St.new (room1 := room) (fuse1 := fuse) (off1 := off) ho q1)
  obtain ⟨⟨e0, e1, e2, e3⟩, f0, f1, f2, f3⟩ := St.get0 q1
  clear q1 ho
  go_upto_region 2 with (fail)
  generalize ((((w1.setCell ⟨w.heap.size, 0, none⟩ (.slice A1 n c1)).setCell ⟨w.heap.size, 1, none⟩ (.int .i64 room)).setCell ⟨w.heap.size, 2, none⟩ (.int .i64 fuse)).setCell ⟨w.heap.size, 3, none⟩ (.bool off)) = w2 at X ⊢
  clear e0 e1 e2 e3 f0 f1 f2 f3
  obtain ⟨⟨e0, e1, e2, e3⟩, f0, f1, f2, f3⟩ := X.out.get
  go_wp2
  go_loopw [13] (fun i wr => ∃ k : Nat, k ≤ n ∧ i = .int .i64 k ∧ St w A1 n c1 (croom ks l room k) fuse off (crl ks l k) wr) (fun i _ => n - (intOf i).toNat)
  case atStart => exact ⟨0, Nat.zero_le _, rfl, by rw [crl_zero]; exact X.out⟩
  case round =>
    obtain ⟨k, hk, rfl, hst⟩ := hrel
    have Y := Lib.hid hst
    clear e0 e1 e2 e3 f0 f1 f2 f3 hst
    obtain ⟨⟨d0, d1, d2, d3⟩, g0, g1, g2, g3⟩ := Y.out.get
    obtain ⟨z0, z1, z2, z3⟩ := Y.out.lt
    by_cases hlt : k < n
    · have hkl : k < l.length := by have := HL.out; omega
      obtain ⟨ad, rfl, hb, c0, c1', c2⟩ := Y.out.own.files.load hlt (by rw [crl_len]; exact hkl)
      rw [crl_get ks l k hkl] at c0 c1' c2
      have hsz := HS.out l[k] (List.getElem_mem hkl)
      unfold maxLen at hsz
      have hkp := kp_le ks k l[k]
      by_cases hkk : k < kn
      · have hkk' : k < ks.length := by have := HKL.out; omega
        obtain ⟨ka, rfl, hkb, kc0⟩ := (HK.out.q (Y.out.q.alloc (.cells #[.string l[k].nm, .string l[k].sf, .string l[k].wt] 29))).load hkk'
        have hmin := kp_in l[k] hkk'
        go_wp2
        go_region
        clear hmin kc0
        go_wp2
        go_region
        go_wp2_with fail
        have Z := ((Y.out.setRoom (wrap64 (croom ks l room k + ((l[k].wt.size : Int) - (kp ks k l[k] : Int))))).alloc (.cells #[.string l[k].nm, .string (l[k].sf ++ l[k].wt.extract 0 (kp ks k l[k])), .string ⟨#[]⟩] 29)).drew.drew
        refine (set_mid (w.heap.size + 2) (some ad) n c1 k ⟨l[k].nm, l[k].sf ++ l[k].wt.extract 0 (kp ks k l[k]), ⟨#[]⟩⟩ (crl ks l k) _ Z.own hlt).mono ?_
        rintro e w3 ⟨rfl, ho3, b3⟩
        have V := Lib.hid (Z.wrote ho3 b3)
        clear d0 d1 d2 d3 g0 g1 g2 g3 c0 c1' c2
        obtain ⟨⟨d0, d1, d2, d3⟩, g0, g1, g2, g3⟩ := (Z.box.below b3 (by omega)).get4
        clear Z ho3 b3
        go_wp2
        go_roundw
        case rel => exact ⟨k + 1, by omega, by go_num, by rw [crl_succ ks l k hkl, croom_succ ks l room k hkl]; exact V.out⟩
        case measure => simp [intOf]; omega
      · have hkk' : ¬ k < ks.length := by have := HKL.out; omega
        have HKP := Lib.hid (kp_out l[k] hkk')
        clear hkk'
        go_wp2
        go_region
        go_wp2_with fail
        have Z := ((Y.out.setRoom (wrap64 (croom ks l room k + (l[k].wt.size : Int)))).alloc (.cells #[.string l[k].nm, .string l[k].sf, .string ⟨#[]⟩] 29)).drew
        refine (set_mid (w.heap.size + 2) (some ad) n c1 k ⟨l[k].nm, l[k].sf, ⟨#[]⟩⟩ (crl ks l k) _ Z.own hlt).mono ?_
        rintro e w3 ⟨rfl, ho3, b3⟩
        have V := Lib.hid (Z.wrote ho3 b3)
        clear d0 d1 d2 d3 g0 g1 g2 g3 c0 c1' c2
        obtain ⟨⟨d0, d1, d2, d3⟩, g0, g1, g2, g3⟩ := (Z.box.below b3 (by omega)).get4
        clear Z ho3 b3
        go_wp2
        go_roundw
        case rel => exact ⟨k + 1, by omega, by go_num, by rw [crl_succ ks l k hkl, croom_succ ks l room k hkl, crf_zero HKP.out, HKP.out]; simpa using V.out⟩
        case measure => simp [intOf]; omega
    · have e : n = k := by omega
      subst e
      obtain ⟨⟨s0, s1, s2, s3⟩, h0, h1, h2, h3⟩ := Y.out.getR
      go_wp2
      refine bodyPost_ret (v := dkv A1 n c1 (croom ks l room n) (-1) false) (by simp [results, Try.results27, go_sem, s0, s1, s2, s3]) rfl ?_
      have E := ((Y.out.setFuse (-1)).setOff false).endD (.slice A1 n c1) (.int .i64 (croom ks l room n)) (.int .i64 (-1)) (.bool false)
      rw [show crs ⟨l, room, fuse, off⟩ ks = ⟨crl ks l n, croom ks l room n, -1, false⟩ by unfold crs; rw [HL.out]]
      exact E
end Go.Proofs.Ytpjadjbniddmgaa
