/- Contracts: the document's Rename over a file that is there; Rename and Delete whole. -/
import Derived.Test.YtpjadjbniddmgaaDiskRef4
namespace Go.Proofs.Ytpjadjbniddmgaa
open Go.RowKit Dkm
set_option linter.unusedVariables false

theorem plc_eq {nm : ByteArray} {l : List Fil} {k : Nat} (hk : k < l.length) (hn : l[k].nm = nm) (hf : ∀ j, ∀ h : j < l.length, j < k → l[j].nm ≠ nm) : plc nm l 0 = k := by
  rcases plc_cases nm l with ⟨_, hall⟩ | ⟨k2, hk2, hp, hn2, hf2⟩
  · exact absurd hn (hall _ (List.getElem_mem hk))
  · rcases Nat.lt_trichotomy k2 k with h | h | h
    · exact absurd hn2 (hf k2 hk2 h)
    · rw [hp, h]
    · exact absurd hn (hf2 k hk h)
theorem erase_get {l : List Fil} {o j : Nat} (ho : o < l.length) (hj : j < (l.eraseIdx o).length) : (l.eraseIdx o)[j] = if h : j < o then l[j]'(by omega) else l[j + 1]'(by rw [List.length_eraseIdx, if_pos ho] at hj; omega) := List.getElem_eraseIdx ..
/-- where the file from stands once another one has gone. -/
def kk_ (k o : Nat) : Nat := if k < o then k else k - 1
theorem erase_from {l : List Fil} {o k : Nat} {fr : ByteArray} (ho : o < l.length) (hk : k < l.length) (hne : o ≠ k) (hn : l[k].nm = fr) (hf : ∀ j, ∀ h : j < l.length, j < k → l[j].nm ≠ fr) (hon : l[o].nm ≠ fr) :
    ∃ h : kk_ k o < (l.eraseIdx o).length, (l.eraseIdx o)[kk_ k o] = l[k] ∧ plc fr (l.eraseIdx o) 0 = (kk_ k o : Nat) := by
  have hlen : (l.eraseIdx o).length = l.length - 1 := by rw [List.length_eraseIdx, if_pos ho]
  have hlt : kk_ k o < (l.eraseIdx o).length := by unfold kk_; split <;> omega
  have hg : (l.eraseIdx o)[kk_ k o] = l[k] := by
    rw [erase_get ho hlt]
    unfold kk_
    by_cases h : k < o
    · simp only [if_pos h, dif_pos h]
    · have h2 : ¬ k - 1 < o := by omega
      simp only [if_neg h, dif_neg h2]
      congr 1; omega
  refine ⟨hlt, hg, plc_eq hlt (by rw [hg]; exact hn) fun j hj hjk => ?_⟩
  rw [erase_get ho hj]
  have hjk2 : j < if k < o then k else k - 1 := hjk
  split
  · exact hf j (by omega) (by split at hjk2 <;> omega)
  · by_cases h : k < o
    · rw [if_pos h] at hjk2; omega
    · rw [if_neg h] at hjk2
      exact hf (j + 1) (by omega) (by omega)
theorem erase_set {l : List Fil} {o k : Nat} (hne : o ≠ k) (g : Fil) : (l.eraseIdx o).set (kk_ k o) g = (l.set k g).eraseIdx o := by
  unfold kk_
  by_cases h : k < o
  · rw [if_pos h, List.eraseIdx_set_gt h]
  · rw [if_neg h, List.eraseIdx_set_lt (by omega)]

set_option maxHeartbeats 3000000 in
theorem ref_ren_over (fr to : ByteArray) (ad : Addr) (n c : Nat) (room fuse : Int) (l : List Fil) (w : World) (hd : Dsk w (some ad) n c l) (hfu : fuse ≤ 9223372036854775807) (k : Nat) (hp : plc fr l 0 = k) (hk : nmOk to = true) (he : fr ≠ to) (f2 : Int) (hpw : pow ⟨l, room, fuse, false⟩ = (⟨l, room, f2, false⟩, true))
    (o : Nat) (ho : o < l.length) (ht : plc to l 0 = o) (hs : l[o].sf.size + l[o].wt.size ≤ maxLen) (room2 : Int) (hR : wrap64 (room + ((l[o].sf.size + l[o].wt.size : Nat) : Int)) = room2) (k2 : Nat) (hk2 : k2 < (l.eraseIdx o).length) (hp2 : plc fr (l.eraseIdx o) 0 = k2) :
    Calls Try.prog 24 #[dkv (some ad) n c room fuse false, .string fr, .string to] w fun e w' => RetDK w ⟨(l.eraseIdx o).set k2 ⟨to, (l.eraseIdx o)[k2].sf, (l.eraseIdx o)[k2].wt⟩, room2, f2, false⟩ 0 e w' := by
  have HD := Lib.hid hd
  have hfew := hd.few
  obtain ⟨o1, o2⟩ := nmOk_yes hk
  have o3 : ¬ (to.size : Int) < 1 := by omega
  have hb := str_ne he
  have HL := Lib.hid hd.len
  have hon : o < n := by have := HL.out; omega
  have HE := Lib.hid (show (l.eraseIdx o).length = n - 1 by rw [List.length_eraseIdx, if_pos ho, HL.out])
  have hk2n : k2 < n - 1 := by have := HE.out; omega
  have HW := Lib.hid hpw
  have HT := Lib.hid ht
  have HP := Lib.hid hp
  have HP2 := Lib.hid hp2
  have HS := Lib.hid hs
  have HR := Lib.hid hR
  have S0 := Lib.hid (Sb.new w (some ad) n c room fuse false)
  clear hd hk he hpw ht hp hp2 hs hR
  have LS := Lib.hid (fun (W : World) (hW : Dsk W (some ad) n c l) => ref_less ad n c room f2 false o l W hW hon ho HS.out)
  rw [HR.out] at LS
  generalize l.eraseIdx o = m at LS HE HP2 hk2 ⊢
  go_enter Try.func24, Try.ntmps24
  go_wp2_with fail
  refine (ref_at fr (some ad) n c room fuse false l _ (HD.out.files.q S0.out.q) HD.out.max).mono ?_
  rw [HP.out]
  rintro e w1 ⟨rfl, q1⟩
  have S1 := Lib.hid (S0.out.step q1)
  clear S0 q1
  obtain ⟨⟨e0, e1, e2, e3⟩, f0, f1, f2', f3⟩ := S1.out.get
  have kp := ref_power (some ad) n c ⟨l, room, fuse, false⟩ w1 hfu
  rw [HW.out] at kp
  have kp := Lib.hid kp
  go_wp2_with fail
  refine kp.out.mono ?_
  rintro e w2 ⟨rfl, q2⟩
  have S2 := Lib.hid ((S1.out.step q2).put4 (some ad) n c room f2 false)
  have P2 := S1.out.step q2
  clear S1 kp q2 e0 e1 e2 e3 f0 f1 f2' f3
  obtain ⟨⟨e0, e1, e2, e3⟩, f0, f1, f2', f3⟩ := P2.get
  clear P2
  go_upto_region 10 with (fail)
  generalize ((((w2.setCell ⟨w.heap.size, 0, none⟩ (.slice (some ad) n c)).setCell ⟨w.heap.size, 1, none⟩ (.int .i64 room)).setCell ⟨w.heap.size, 2, none⟩ (.int .i64 f2)).setCell ⟨w.heap.size, 3, none⟩ (.bool false)) = W at S2 ⊢
  clear e0 e1 e2 e3 f0 f1 f2' f3
  obtain ⟨⟨e0, e1, e2, e3⟩, f0, f1, f2', f3⟩ := S2.out.get
  go_wp2_with fail
  refine (ref_at to (some ad) n c room f2 false l _ (HD.out.files.q S2.out.q) HD.out.max).mono ?_
  rw [HT.out]
  rintro e w4 ⟨rfl, q4⟩
  have S4 := Lib.hid (S2.out.step q4)
  clear S2 q4 e0 e1 e2 e3 f0 f1 f2' f3
  obtain ⟨⟨e0, e1, e2, e3⟩, f0, f1, f2', f3⟩ := S4.out.get
  go_wp2_with fail
  refine (LS.out _ (HD.out.q S4.out.q)).mono ?_
  rintro e w5 ⟨A5, c5, rfl, ho5, q5⟩
  have z4 : w.heap.size + 1 < w4.heap.size := S4.out.res.lt
  have P5 := S4.out.step q5
  have S5 := Lib.hid (And.intro (P5.put4 A5 (n - 1) c5 room2 f2 false) (ho5.set4 (b := w.heap.size) (by omega) (.slice A5 (n - 1) c5) (.int .i64 room2) (.int .i64 f2) (.bool false)))
  clear S4 LS q5 ho5 e0 e1 e2 e3 f0 f1 f2' f3
  obtain ⟨⟨e0, e1, e2, e3⟩, f0, f1, f2', f3⟩ := P5.get
  clear P5
  go_upto_region 15 with (fail)
  generalize ((((w5.setCell ⟨w.heap.size, 0, none⟩ (.slice A5 (n - 1) c5)).setCell ⟨w.heap.size, 1, none⟩ (.int .i64 room2)).setCell ⟨w.heap.size, 2, none⟩ (.int .i64 f2)).setCell ⟨w.heap.size, 3, none⟩ (.bool false)) = V at S5 ⊢
  clear e0 e1 e2 e3 f0 f1 f2' f3
  obtain ⟨⟨e0, e1, e2, e3⟩, f0, f1, f2', f3⟩ := S5.out.1.get
  have HK := Lib.hid (S5.out.2.dsk (show (n - 1) * 48 ≤ 140737488355328 by omega))
  go_wp2_with fail
  refine (ref_at fr A5 (n - 1) c5 room2 f2 false m _ HK.out.files HK.out.max).mono ?_
  rw [HP2.out]
  rintro e w6 ⟨rfl, q6⟩
  have S6 := Lib.hid (S5.out.1.step q6)
  have HK6 := Lib.hid (HK.out.q q6)
  clear S5 HK q6 e0 e1 e2 e3 f0 f1 f2' f3
  obtain ⟨⟨e0, e1, e2, e3⟩, f0, f1, f2', f3⟩ := S6.out.get
  obtain ⟨ae, rfl, hbk, c0, c1, c2⟩ := HK6.out.files.load hk2n hk2
  have z0 : w.heap.size < w6.heap.size := S6.out.box.lt
  have z1 : w.heap.size + 1 < w6.heap.size := S6.out.res.lt
  have z2 : w.heap.size ≠ w6.heap.size := by omega
  have z3 : w.heap.size + 1 ≠ w6.heap.size := by omega
  have q7 : (k2 : Int) < ((n - 1 : Nat) : Int) := by omega
  have q8 : 0 ≤ (k2 : Int) := by omega
  have hnm : n - 1 ≤ 9223372036854775807 := by omega
  generalize n - 1 = n1 at *
  go_wp2_with fail
  refine (ref_with (some ae) n1 c5 room2 f2 false k2 ⟨to, m[k2].sf, m[k2].wt⟩ m _ (HK6.out.q ((Q.refl w6).alloc _)) hk2n).mono ?_
  rintro e w7 ⟨A7, c7, rfl, ho7, q7'⟩
  have S7 := Lib.hid (S6.out.step ((Q.refl w6).alloc (.cells #[.string to, .string m[k2].sf, .string m[k2].wt] 29)))
  have HO := Lib.hid ho7
  have HQ := Lib.hid q7'
  clear ho7 q7' S6 e0 e1 e2 e3 f0 f1 f2' f3 c0 c1 c2
  obtain ⟨⟨s0, s1, s2, s3⟩, h0', h1, h2, h3⟩ := (S7.out.step HQ.out).getR
  go_wp2
  refine bodyPost_ret (v := .tuple #[dkv A7 n1 c7 room2 f2 false, .int .i64 0]) (by simp [results, Try.results24, go_sem, s0, s1, s2, s3]) rfl ?_
  exact S7.out.endO (d := ⟨m.set k2 ⟨to, m[k2].sf, m[k2].wt⟩, room2, f2, false⟩) HQ.out HO.out (HK6.out.few) 0 _ _ _ _

theorem ref_del_any (nm : ByteArray) (A : Option Addr) (n c : Nat) (d : Dk) (w : World) (hd : Dsk w A n c d.fs) (hs : ∀ f ∈ d.fs, f.sf.size + f.wt.size ≤ maxLen) (hfu : d.fuse ≤ 9223372036854775807) :
    Calls Try.prog 26 #[dkv A n c d.room d.fuse d.off, .string nm] w fun e w' => RetDK w (del d nm).1 (del d nm).2 e w' := by
  obtain ⟨l, room, fuse, off⟩ := d
  simp only at hd hs hfu ⊢
  cases off
  · rcases plc_cases nm l with ⟨hp, hall⟩ | ⟨k, hk, hp, hkn, hfirst⟩
    · rw [show del ⟨l, room, fuse, false⟩ nm = (⟨l, room, fuse, false⟩, 7) by simp [del, hit_none hall]]
      exact ref_del_none nm A n c room fuse l w hd _ hp (by omega)
    · rcases Int.lt_trichotomy fuse 0 with h2 | h2 | h2
      · rw [show del ⟨l, room, fuse, false⟩ nm = (lss ⟨l, room, fuse, false⟩ k, 0) by simp [del, hit_at hk hkn hfirst, opn_at hk hkn hfirst, pow_neg _ _ _ _ h2], lss_at hk]
        exact ref_del_yes nm A n c room fuse l w hd hfu k hk hp fuse (pow_neg _ _ _ _ h2) (hs _ (List.getElem_mem hk)) _ rfl
      · subst h2
        rw [show del ⟨l, room, 0, false⟩ nm = (⟨l, room, 0, true⟩, 6) by simp [del, hit_at hk hkn hfirst, pow_zero]]
        exact ref_del_dead nm A n c room l w hd k hp
      · rw [show del ⟨l, room, fuse, false⟩ nm = (lss ⟨l, room, fuse - 1, false⟩ k, 0) by simp [del, hit_at hk hkn hfirst, opn_at hk hkn hfirst, pow_pos _ _ _ _ h2], lss_at hk]
        exact ref_del_yes nm A n c room fuse l w hd hfu k hk hp (fuse - 1) (pow_pos _ _ _ _ h2) (hs _ (List.getElem_mem hk)) _ rfl
  · exact ref_del_off nm A n c room fuse l w hd

theorem ref_ren_any (fr to : ByteArray) (A : Option Addr) (n c : Nat) (d : Dk) (w : World) (hd : Dsk w A n c d.fs) (hs : ∀ f ∈ d.fs, f.sf.size + f.wt.size ≤ maxLen) (hfu : d.fuse ≤ 9223372036854775807) :
    Calls Try.prog 24 #[dkv A n c d.room d.fuse d.off, .string fr, .string to] w fun e w' => RetDK w (ren d fr to).1 (ren d fr to).2 e w' := by
  obtain ⟨l, room, fuse, off⟩ := d
  simp only at hd hs hfu ⊢
  cases off
  · cases hok : nmOk to
    · rw [show ren ⟨l, room, fuse, false⟩ fr to = (⟨l, room, fuse, false⟩, 1) by simp [ren, hok]]
      exact ref_ren_arg fr to A n c room fuse l w hd hok
    · rcases plc_cases fr l with ⟨hp, hall⟩ | ⟨k, hk, hp, hkn, hfirst⟩
      · rw [show ren ⟨l, room, fuse, false⟩ fr to = (⟨l, room, fuse, false⟩, 7) by simp [ren, hok, hit_none hall]]
        exact ref_ren_none fr to A n c room fuse l w hd _ hp hok (by omega)
      · by_cases he : fr = to
        · rw [show ren ⟨l, room, fuse, false⟩ fr to = (⟨l, room, fuse, false⟩, 0) by subst he; simp [ren, hok, hit_at hk hkn hfirst]]
          exact ref_ren_same fr to A n c room fuse l w hd k hp hok he
        · by_cases hz : fuse = 0
          · subst hz
            rw [show ren ⟨l, room, 0, false⟩ fr to = (⟨l, room, 0, true⟩, 6) by simp [ren, hok, hit_at hk hkn hfirst, he, pow_zero]]
            exact ref_ren_dead fr to A n c room l w hd k hp hok he
          · obtain ⟨f2, hpw⟩ : ∃ f2, pow ⟨l, room, fuse, false⟩ = (⟨l, room, f2, false⟩, true) := by
              rcases Int.lt_or_gt_of_ne hz with h | h
              · exact ⟨fuse, pow_neg _ _ _ _ h⟩
              · exact ⟨fuse - 1, pow_pos _ _ _ _ h⟩
            rcases plc_cases to l with ⟨hp2, hall2⟩ | ⟨o, ho, hp2, hon, hfirst2⟩
            · rw [show ren ⟨l, room, fuse, false⟩ fr to = (nmd ⟨l, room, f2, false⟩ k to, 0) by simp [ren, hok, hit_at hk hkn hfirst, opn_at hk hkn hfirst, he, hpw, hit_none hall2], nmd_at hk]
              exact ref_ren_plain fr to A n c room fuse l w hd hfu k hk hp hok he f2 hpw _ hp2 (by omega)
            · have hne : o ≠ k := by rintro rfl; exact he (hkn.symm.trans hon)
              have ho2 : o < (l.set k ⟨to, l[k].sf, l[k].wt⟩).length := by simpa using ho
              have hge : (l.set k ⟨to, l[k].sf, l[k].wt⟩)[o] = l[o] := List.getElem_set_ne (by omega) _
              rw [show ren ⟨l, room, fuse, false⟩ fr to = (lss (nmd ⟨l, room, f2, false⟩ k to) o, 0) by simp [ren, hok, hit_at hk hkn hfirst, opn_at hk hkn hfirst, he, hpw, hit_at ho hon hfirst2, opn_at ho hon hfirst2], nmd_at hk, lss_at ho2, hge]
              obtain ⟨ad, rfl⟩ : ∃ ad, A = some ad := by
                cases A with
                | none => have := hd.nil rfl; have := hd.len; omega
                | some ad => exact ⟨ad, rfl⟩
              obtain ⟨hlt, hg, hpk⟩ := erase_from (fr := fr) ho hk hne hkn hfirst (by rw [hon]; exact fun e => he e.symm)
              have h := ref_ren_over fr to ad n c room fuse l w hd hfu k hp hok he f2 hpw o ho hp2 (hs _ (List.getElem_mem ho)) _ rfl (kk_ k o) hlt hpk
              rw [hg, erase_set hne] at h
              exact h
  · exact ref_ren_off fr to A n c room fuse l w hd
end Go.Proofs.Ytpjadjbniddmgaa
