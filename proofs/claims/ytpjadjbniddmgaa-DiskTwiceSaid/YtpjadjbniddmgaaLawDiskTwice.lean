/- For every disk, keeps and name: a crash behind a crash changes nothing; nor does a sync behind a sync. No condition. -/
import Derived.Test.YtpjadjbniddmgaaDiskShown
import Derived.Test.YtpjadjbniddmgaaDiskSame2
import Derived.Test.YtpjadjbniddmgaaDiskIn
import Derived.Test.YtpjadjbniddmgaaDiskMath3
import Derived.Deep.RegionHeld3
namespace Go.Proofs.Ytpjadjbniddmgaa.diskTwice
open Go.ChangeShapes Go.WideShapes Go.ChangeAt Go.RowKit Dkm
set_option linter.unusedVariables false

theorem croom_rng (ks : List Int) (l : List Fil) (room : Int) (h : -9223372036854775808 ≤ room ∧ room ≤ 9223372036854775807) : ∀ k, -9223372036854775808 ≤ croom ks l room k ∧ croom ks l room k ≤ 9223372036854775807
  | 0 => h
  | k + 1 => wrap_rng _
theorem kp_empty (ks : List Int) (i : Nat) {f : Fil} (h : f.wt.size = 0) : kp ks i f = 0 := by have := kp_le ks i f; omega
theorem crl_all (ks : List Int) (l : List Fil) : ∀ k, k ≤ l.length → (∀ f ∈ l, f.wt = ⟨#[]⟩) → crl ks l k = l
  | 0, _, _ => crl_zero ks l
  | k + 1, hk, h => by
    have hkl : k < l.length := by omega
    rw [crl_succ ks l k hkl, crl_all ks l k (by omega) h, crf_zero (kp_empty ks k (by rw [h _ (List.getElem_mem hkl)]; rfl))]
    have e : (⟨l[k].nm, l[k].sf, ⟨#[]⟩⟩ : Fil) = l[k] := Fil.ext_ rfl rfl (h _ (List.getElem_mem hkl)).symm
    rw [e]; exact List.set_getElem_self hkl
theorem croom_all (ks : List Int) (l : List Fil) (room : Int) (hr : -9223372036854775808 ≤ room ∧ room ≤ 9223372036854775807) : ∀ k, k ≤ l.length → (∀ f ∈ l, f.wt = ⟨#[]⟩) → croom ks l room k = room
  | 0, _, _ => rfl
  | k + 1, hk, h => by
    have hkl : k < l.length := by omega
    have e := h _ (List.getElem_mem hkl)
    rw [croom_succ ks l room k hkl, croom_all ks l room hr k (by omega) h, kp_empty ks k (by rw [e]; rfl), e]
    rw [show room + (((⟨#[]⟩ : ByteArray).size : Int) - ((0 : Nat) : Int)) = room by rw [show (⟨#[]⟩ : ByteArray).size = 0 from rfl]; omega]
    exact wrap_in hr
theorem crl_empty (ks : List Int) (l : List Fil) : ∀ k, k ≤ l.length → ∀ f ∈ (crl ks l k).take k, f.wt = ⟨#[]⟩
  | 0, _, f, hf => by simp at hf
  | k + 1, hk, f, hf => by
    have hkl : k < l.length := by omega
    rw [crl_succ ks l k hkl, List.take_succ_eq_append_getElem (by simp [crl_len]; omega)] at hf
    rcases List.mem_append.1 hf with h | h
    · rw [List.take_set_of_le (by omega)] at h
      exact crl_empty ks l k (by omega) f h
    · simp at h
      subst h
      rfl
theorem crs_twice (d : Dk) (ks more : List Int) (hr : -9223372036854775808 ≤ d.room ∧ d.room ≤ 9223372036854775807) : crs (crs d ks) more = crs d ks := by
  have he : ∀ f ∈ crl ks d.fs d.fs.length, f.wt = ⟨#[]⟩ := fun f hf => crl_empty ks d.fs _ (Nat.le_refl _) f (by rw [List.take_of_length_le (by rw [crl_len]; exact Nat.le_refl _)]; exact hf)
  show Dk.mk _ _ _ _ = Dk.mk _ _ _ _
  simp only [crs]
  rw [crl_all more _ _ (Nat.le_refl _) he, croom_all more _ _ (croom_rng ks d.fs d.room hr _) _ (Nat.le_refl _) he]
theorem sameD_refl (d : Dk) : sameD d d = true := by simp [sameD]
theorem syn_twice (d : Dk) (nm : ByteArray) : syn (syn d nm).1 nm = syn d nm := by
  obtain ⟨l, room, fuse, off⟩ := d
  cases off
  · rcases plc_cases nm l with ⟨hp, hall⟩ | ⟨k, hk, hp, hkn, hfirst⟩
    · rw [syn_none hall]; exact syn_none hall
    · rw [syn_at hk hkn hfirst]
      have hk2 : k < (l.set k ⟨l[k].nm, l[k].sf ++ l[k].wt, ⟨#[]⟩⟩).length := by simpa using hk
      have hg : (l.set k ⟨l[k].nm, l[k].sf ++ l[k].wt, ⟨#[]⟩⟩)[k] = ⟨l[k].nm, l[k].sf ++ l[k].wt, ⟨#[]⟩⟩ := by simp
      rw [syn_at hk2 (by rw [hg]; exact hkn) (fun j hj hjk => by rw [List.getElem_set_ne (by omega)]; exact hfirst j (by simpa using hj) hjk)]
      rw [hg, List.set_set]
      have e : l[k].sf ++ l[k].wt ++ (⟨#[]⟩ : ByteArray) = l[k].sf ++ l[k].wt := by ext1; simp
      simp only [e]
  · rfl

set_option maxHeartbeats 2000000 in
theorem walk (A : Option Addr) (n c : Nat) (d : Dk) (K M : Option Addr) (kn kc mn mc : Nat) (ks ms : List Int) (nm : ByteArray) (w : World) (hd : DkIn w A n c d) (hk : Ints w K kn ks) (hm : Ints w M mn ms) (hkn : kn * 8 ≤ 140737488351232) (hmn : mn * 8 ≤ 140737488351232) (hnm : nm.size ≤ 140737488351232) :
    Calls Try.prog 8 #[.agg #[.slice A n c, .int .i64 d.room, .int .i64 d.fuse, .bool d.off, .slice K kn kc, .slice M mn mc, .string nm]] w fun e w' => e = .returned (.bool true) ∧ Q w w' := by
  have HD := Lib.hid hd
  have HK := Lib.hid hk
  have HM := Lib.hid hm
  have HS := Lib.hid (show ∀ f ∈ d.fs, f.sf.size + f.wt.size ≤ maxLen from fun f hf => by have := hd.fil f hf; unfold FilIn at this; unfold maxLen; omega)
  clear hd hk hm
  go_enter Try.func8, Try.ntmps8
  go_wp2_with fail
  refine (shown_any _).mono ?_
  rintro e w1 ⟨rfl, q1⟩
  have V0 : DV ((w.alloc (.cells #[.slice A n c, .int .i64 d.room, .int .i64 d.fuse, .bool d.off, .slice K kn kc, .slice M mn mc, .string nm] 63)).alloc (.cells #[.slice A n c, .int .i64 d.room, .int .i64 d.fuse, .bool d.off] 24)) (w.heap.size + 1) A n c d := by
    have := DV.new (W := w.alloc (.cells #[.slice A n c, .int .i64 d.room, .int .i64 d.fuse, .bool d.off, .slice K kn kc, .slice M mn mc, .string nm] 63)) (d := d) (HD.out.dsk.q ((Q.refl _).alloc _))
    simpa using this
  have V1 := V0.q q1
  have Q1 := Lib.hid ((((Q.refl w).alloc _).alloc _).trans q1)
  clear V0 q1
  obtain ⟨⟨e0, e1, e2, e3⟩, f0, f1, f2, f3⟩ := V1.get
  have HV1 := Lib.hid V1
  clear V1
  go_wp2_with fail
  have k2 := crash_any A n c d.room d.fuse d.off K kn kc ks d.fs _ HV1.out.dsk (HK.out.q Q1.out) (by unfold maxLen; omega) HS.out
  rw [show (⟨d.fs, d.room, d.fuse, d.off⟩ : Dk) = d from rfl] at k2
  have HA := Lib.hid (And.intro (crs_len d ks) (And.intro (crs_sum d ks HS.out) (crs_twice d ks ms HD.out.room)))
  generalize crs d ks = a at k2 HA
  refine k2.mono ?_
  clear k2
  rintro e w2 ⟨A2, n2, c2, rfl, ho2, q2⟩
  have z1 : w.heap.size + 1 < w1.heap.size := HV1.out.box.lt
  have z2 : w1.heap.size ≤ w2.heap.size := q2.size
  have z3 : w.heap.size + 1 ≠ w2.heap.size := by omega
  have z4 : w.heap.size + 1 < w2.heap.size := by omega
  have hlen := HD.out.dsk.len
  have hfew := HD.out.dsk.few
  have n2n : n2 * 48 ≤ 140737488355328 := by have := ho2.len; have := HA.out.1; omega
  have VA := Lib.hid (DV.new (W := w2) (d := a) (ho2.dsk n2n))
  have V2 := HV1.out.q (q2.alloc (.cells #[.slice A2 n2 c2, .int .i64 a.room, .int .i64 a.fuse, .bool a.off] 24))
  have Q2 := Lib.hid ((Q1.out.trans q2).alloc (.cells #[.slice A2 n2 c2, .int .i64 a.room, .int .i64 a.fuse, .bool a.off] 24))
  obtain ⟨⟨x0, x1, x2, x3⟩, _⟩ := (HV1.out.q q2).get
  have HV2 := Lib.hid V2
  clear V2 ho2 q2 HV1 e0 e1 e2 e3 f0 f1 f2 f3 hlen
  go_wp2_with fail
  have k3 := sync_any nm A n c d _ HV2.out.dsk HS.out
  have HB := Lib.hid (And.intro (syn_len d nm) (And.intro (syn_sum d nm HS.out) (syn_twice d nm)))
  generalize syn d nm = b at k3 HB
  obtain ⟨b, eb⟩ := b
  simp only at k3
  refine k3.mono ?_
  clear k3
  rintro e w3 ⟨A3, n3, c3, rfl, ho3, q3⟩
  have hlen := HD.out.dsk.len
  have n3n : n3 * 48 ≤ 140737488355328 := by have := ho3.len; have := HB.out.1; simp only at *; omega
  have VB := Lib.hid (DV.new (W := w3) (d := b) (ho3.dsk n3n))
  have Q3 := Lib.hid ((Q2.out.trans q3).alloc (.cells #[.slice A3 n3 c3, .int .i64 b.room, .int .i64 b.fuse, .bool b.off] 24))
  have VA3 := Lib.hid (VA.out.q (q3.alloc (.cells #[.slice A3 n3 c3, .int .i64 b.room, .int .i64 b.fuse, .bool b.off] 24)))
  clear VA ho3 q3 HV2 x0 x1 x2 x3 hlen
  go_wp2_with fail
  have k4 := sync_any nm A3 n3 c3 b _ VB.out.dsk HB.out.2.1
  rw [show syn b nm = (b, eb) from HB.out.2.2] at k4
  refine k4.mono ?_
  clear k4
  rintro e w4 ⟨A4, n4, c4, rfl, ho4, q4⟩
  have n4n : n4 * 48 ≤ 140737488355328 := by have h1 := ho4.len; have h2 := VB.out.dsk.len; simp only at h1; omega
  have VC := Lib.hid (DV.new (W := w4) (d := b) (ho4.dsk n4n))
  have VB4 := Lib.hid (VB.out.q (q4.alloc (.cells #[.slice A4 n4 c4, .int .i64 b.room, .int .i64 b.fuse, .bool b.off] 24)))
  have VA4 := Lib.hid (VA3.out.q (q4.alloc (.cells #[.slice A4 n4 c4, .int .i64 b.room, .int .i64 b.fuse, .bool b.off] 24)))
  have Q4 := Lib.hid ((Q3.out.trans q4).alloc (.cells #[.slice A4 n4 c4, .int .i64 b.room, .int .i64 b.fuse, .bool b.off] 24))
  clear VA3 VB ho4 q4
  go_wp2
  have hA4 := HM.out.q Q4.out
  generalize (w4.alloc (.cells #[.slice A4 n4 c4, .int .i64 b.room, .int .i64 b.fuse, .bool b.off] 24)) = W at VC VB4 VA4 Q4 hA4 ⊢
  generalize w4.heap.size = g4 at VC ⊢
  generalize w3.heap.size = g3 at VB4 ⊢
  generalize w2.heap.size = g2 at VA4 ⊢
  have HM4 := Lib.hid hA4
  clear hA4
  obtain ⟨⟨a0, a1, a2, a3⟩, _⟩ := VA4.out.get
  obtain ⟨⟨b0, b1, b2, b3⟩, _⟩ := VB4.out.get
  obtain ⟨⟨d0, d1, d2, d3⟩, _⟩ := VC.out.get
  go_region_held3 (fun w' => w'.cell? ⟨g2, 0, none⟩ = some (.slice A2 n2 c2) ∧ w'.cell? ⟨g2, 1, none⟩ = some (.int .i64 a.room) ∧ w'.cell? ⟨g2, 2, none⟩ = some (.int .i64 a.fuse) ∧ w'.cell? ⟨g2, 3, none⟩ = some (.bool a.off) ∧
      w'.cell? ⟨g3, 0, none⟩ = some (.slice A3 n3 c3) ∧ w'.cell? ⟨g3, 1, none⟩ = some (.int .i64 b.room) ∧ w'.cell? ⟨g3, 2, none⟩ = some (.int .i64 b.fuse) ∧ w'.cell? ⟨g3, 3, none⟩ = some (.bool b.off) ∧
      w'.cell? ⟨g4, 0, none⟩ = some (.slice A4 n4 c4) ∧ w'.cell? ⟨g4, 1, none⟩ = some (.int .i64 b.room) ∧ w'.cell? ⟨g4, 2, none⟩ = some (.int .i64 b.fuse) ∧ w'.cell? ⟨g4, 3, none⟩ = some (.bool b.off))
    (first
      | go_keep
      | (go_split_ands
         (repeat' apply And.intro) <;> exact box_ ‹Q _ _› (by assumption)))
    (first
      | (go_at_call 27
         refine (crash_any A2 n2 c2 a.room a.fuse a.off M mn mc ms a.fs _ (VA4.out.dsk.q (Q.refl _).drew) (HM4.out.q (Q.refl _).drew) (by unfold maxLen; omega) HA.out.2.1).mono ?_
         rw [show crs ⟨a.fs, a.room, a.fuse, a.off⟩ ms = a from HA.out.2.2]
         rintro e w5 ⟨A5, n5, c5, rfl, ho5, q5⟩)
      | (go_at_call 31
         (with_reducible refine (same_any A2 A5 n2 c2 n5 c5 a a _ (VA4.out.dsk.files.q ((Q.refl W).drew.trans q5)) ho5.files VA4.out.dsk.max (by have := ho5.len; have := VA4.out.dsk.len; have := VA4.out.dsk.max; omega)).mono ?_)
         rw [sameD_refl]
         rintro e w6 ⟨rfl, q6⟩)
      | (go_at_call 31
         (with_reducible refine (same_any A3 A4 n3 c3 n4 c4 b b _ (VB4.out.dsk.files.q (((Q.refl W).drew.trans q5).trans q6)) (VC.out.dsk.files.q (((Q.refl W).drew.trans q5).trans q6)) VB4.out.dsk.max VC.out.dsk.max).mono ?_)
         rw [sameD_refl]
         rintro e w7 ⟨rfl, q7⟩))
  go_wp2
  go_ret
  exact ⟨rfl, Q4.out.trans (((Q.refl W).drew.trans q5).trans (q6.trans q7))⟩

theorem opened (W : World) (args : Array Value) (hn : args.size = 1) (h : ∀ (j : Nat) t v, Try.f8.params[j]? = some t → args[j]? = some v → RdV W t v) :
    Calls Try.prog 8 args W fun e W' => e = .returned (.bool true) ∧ Q W W' := by
  obtain ⟨v, rfl⟩ := args1 hn
  rw [Try.params8] at h
  obtain ⟨cs, rfl, hr⟩ := (h 0 63 v rfl rfl).struct Try.underlying63
  obtain ⟨hl, _⟩ := hr.struct Try.underlying63
  rw [show Try.prog.cellsOf 63 = 7 by kernel_rfl] at hl
  match cs, hl with
  | [x0, x1, x2, x3, x4, x5, x6], _ =>
    obtain ⟨A, n, c, d, e0, hd⟩ := open_disk (hr.field Try.underlying63 0 (ty := 24) 0 4 rfl (by kernel_rfl))
    obtain ⟨K, kn, kc, ks, e1, hk, hk1, _⟩ := open_ints (hr.field Try.underlying63 1 (ty := 47) 4 1 rfl (by kernel_rfl))
    obtain ⟨M, mn, mc, ms, e2, hm, hm1, _⟩ := open_ints (hr.field Try.underlying63 2 (ty := 47) 5 1 rfl (by kernel_rfl))
    obtain ⟨nm, e3, hnm⟩ := (hr.field Try.underlying63 3 (ty := 9) 6 1 rfl (by kernel_rfl)).string Try.underlying9
    simp at e0 e1 e2 e3
    obtain ⟨rfl, rfl, rfl, rfl⟩ := e0
    subst e1 e2 e3
    exact walk A n c d K M kn kc mn mc ks ms nm W hd hk hm hk1 hm1 hnm

set_option maxRecDepth 100000 in
theorem lifted (os : Os) (started : os.Started) (H : Type) (enc : TypeId × Value → H) :
    ReturnsInHanded {} Try.checked os 8 .any (Rows.diskTwiceSpec.pre6 enc Try.prog Try.f8 Rows.diskTwiceRow.domain false) (Rows.diskTwiceSpec.post enc Try.prog Try.f8 false true false false) :=
  framed 1 Try.func8 (by rw [Try.params8]; rfl) rfl (by kernel_rfl) (by kernel_rfl) (by kernel_rfl)
    (fun H ds h => by match ds, h with | [d0], _ => exact ⟨rfl, rfl, rfl⟩)
    opened os started H enc
    (ChangeSpec.witness6 (enc := enc) (C := Try.checked) false ⟨#[], #[.agg #[.slice none 0 0, .int .i64 0, .int .i64 0, .bool false, .slice none 0 0, .slice none 0 0, .string ByteArray.empty]], []⟩ 8 (by kernel_rfl) (by kernel_rfl) (by kernel_rfl) (by kernel_rfl))

theorem over : Rows.diskTwiceRow.holds Try.pinned (OpenSpec.ofChange Rows.diskTwiceSpec) :=
  OpenClaim.holds_of_wide 8 Try.f8 rfl rfl rfl rfl rfl rfl rfl ⟨rfl, rfl, rfl, rfl, rfl⟩ rfl rfl rfl rfl rfl (by kernel_rfl) Try.func8 (by kernel_rfl)
    (of_decide_eq_true (by kernel_rfl)) (by unfold Func.isWrapper; first | (rw [if_pos (by decide +kernel)]; kernel_rfl) | (rw [if_neg (by decide +kernel)]; exact ⟨rfl, rfl⟩))
    (fun os started H enc _ => lifted os started H enc)

theorem proved : Rows.DiskTwiceSaid := over
end Go.Proofs.Ytpjadjbniddmgaa.diskTwice
