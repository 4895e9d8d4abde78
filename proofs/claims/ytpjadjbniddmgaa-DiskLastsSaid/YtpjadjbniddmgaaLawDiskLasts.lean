/- For every room, acts, name and more acts: what was synced begins its file behind every crash, as long as no file was deleted, and no other one took its name. No condition. -/
import Derived.Test.YtpjadjbniddmgaaDiskVar
import Derived.Test.YtpjadjbniddmgaaDiskLast
namespace Go.Proofs.Ytpjadjbniddmgaa.diskLasts
open Go.ChangeShapes Go.WideShapes Go.ChangeAt Go.RowKit Dkm
set_option linter.unusedVariables false

set_option maxRecDepth 100000 in
set_option maxHeartbeats 1000000 in
theorem walk_neg (room : Int) (L M : Option Addr) (n c mn mc : Nat) (nm : ByteArray) (w : World) (h : room < 0) :
    Calls Try.prog 6 #[.agg #[.int .i64 room, .slice L n c, .string nm, .slice M mn mc]] w fun e w' => e = .returned (.bool true) ∧ Q w w' := by
  go_enter Try.func6, Try.ntmps6
  go_wp2_with fail
  refine (shown_any _).mono ?_
  rintro e w1 ⟨rfl, q1⟩
  go_wp2_with fail
  refine (new_neg room _ h).mono ?_
  rintro e w2 ⟨rfl, q2⟩
  go_wp2
  go_ret
  exact ⟨rfl, ((((Q.refl _).alloc _).trans q1).trans q2).alloc _⟩

def Rl (w : World) (B : Nat) (wr : World) : Prop := ∃ A n c d, DVA wr B A n c d ∧ Inv d ∧ Q w wr
def Rm (nm was : ByteArray) (w : World) (B : Nat) (wr : World) : Prop := ∃ A n c d, DVA wr B A n c d ∧ Inv d ∧ Lst nm was d.fs ∧ Q w wr

set_option maxRecDepth 100000 in
set_option maxHeartbeats 6000000 in
theorem walk_main (room : Int) (L M : Option Addr) (n c mn mc : Nat) (nm : ByteArray) (l ms : List Ac) (w : World) (h0 : 0 ≤ room) (h1 : room ≤ 9223372036854775807) (hl : Acts w L n l) (hn : n ≤ 140737488351232) (hin : ∀ a ∈ l, AcIn a) (hm : Acts w M mn ms) (hmn : mn ≤ 140737488351232) (hmin : ∀ a ∈ ms, AcIn a) :
    Calls Try.prog 6 #[.agg #[.int .i64 room, .slice L n c, .string nm, .slice M mn mc]] w fun e w' => e = .returned (.bool true) ∧ Q w w' := by
  have HL := Lib.hid hl
  have HN := Lib.hid hl.len
  have HI := Lib.hid hin
  have HM := Lib.hid hm
  have HMN := Lib.hid hm.len
  have HMI := Lib.hid hmin
  clear hl hin hm hmin
  go_enter Try.func6, Try.ntmps6
  go_wp2_with fail
  refine (shown_any _).mono ?_
  rintro e w1 ⟨rfl, q1⟩
  go_wp2_with fail
  refine (new_any room _ h0).mono ?_
  rintro e w2 ⟨rfl, q2⟩
  have V := Lib.hid (And.intro (DVA.mk (DV.new (W := w2) (d := ⟨[], room, -1, false⟩) (dsk_nil w2)) (fun ad e => by cases e)) ((((((Q.refl w).alloc _).trans q1).trans q2)).alloc (.cells #[.slice none 0 0, .int .i64 room, .int .i64 (-1), .bool false] 24)))
  have zB : w.heap.size ≤ w2.heap.size := ((((Q.refl w).alloc _).trans q1).trans q2).size
  clear q1 q2
  go_wp2
  generalize (w2.alloc (.cells #[.slice none 0 0, .int .i64 room, .int .i64 (-1), .bool false] 24)) = W at V ⊢
  generalize w2.heap.size = B at V zB ⊢
  go_loopw [10] (fun i wr => ∃ k : Nat, k ≤ n ∧ k ≤ 300 ∧ i = .int .i64 k ∧ Rl w B wr) (fun i _ => n - (intOf i).toNat)
  case atStart => exact ⟨0, Nat.zero_le _, by omega, rfl, none, 0, 0, ⟨[], room, -1, false⟩, V.out.1, Inv.new ⟨by omega, by omega⟩, V.out.2⟩
  case round =>
    obtain ⟨k, hk, hk3, rfl, A, m, cc, d, hv, hi, hq⟩ := hrel
    have HV := Lib.hid hv
    have HJ := Lib.hid (And.intro hi hq)
    clear hv hi hq V
    by_cases hlt : k < n ∧ k < 300
    · obtain ⟨hlt, hlt3⟩ := hlt
      have hkl : k < l.length := by have := HN.out; omega
      obtain ⟨⟨e0, e1, e2, e3⟩, f0, f1, f2, f3⟩ := HV.out.dv.get
      obtain ⟨la, rfl, lb, l0, l1, l2, l3⟩ := (HL.out.q HJ.out.2).load hkl
      have q4 : (k : Int) < (n : Int) := by omega
      have q5 : 0 ≤ (k : Int) := by omega
      obtain ⟨a1, a2, a3⟩ := HI.out l[k] (List.getElem_mem hkl)
      have KK := Lib.hid (fun (W : World) (hW : Dsk W A m cc d.fs) => does_any l[k].kind l[k].num l[k].nm l[k].s A m cc d W hW (fun f hf => by have := HJ.out.1.sum f hf; omega) (by omega) HJ.out.1.room.2 HJ.out.1.fuse.2)
      have HT := Lib.hid (HJ.out.1.does l[k].kind l[k].num l[k].nm l[k].s a1)
      generalize doesM d l[k].kind l[k].num l[k].nm l[k].s = r at KK HT
      obtain ⟨r, er⟩ := r
      clear a1 a2 a3
      go_wp2
      go_region_with ((go_at_call 32
                       refine (KK.out _ (HV.out.dv.dsk.q (Q.refl _).drew)).mono ?_
                       rintro e w3 ⟨A3, n3, c3, rfl, d3, q3, a3⟩
                       obtain ⟨⟨x0, x1, x2, x3⟩, y0, y1, y2, y3⟩ := (HV.out.dv.q ((Q.refl _).drew.trans q3)).get))
      all_goals
        have HV3 := Lib.hid (HV.out.put (d' := r) ((Q.refl wr).drew.trans q3) d3 a3)
        have HQ3 := Lib.hid ((HJ.out.2.trans ((Q.refl wr).drew.trans q3)).set4 zB (.slice A3 n3 c3) (.int .i64 r.room) (.int .i64 r.fuse) (.bool r.off))
        clear d3 q3 a3 e0 e1 e2 e3 f0 f1 f2 f3 l0 l1 l2 l3 KK HV x0 x1 x2 x3 y0 y1 y2 y3
        go_wp2
        go_roundw
        case rel => exact ⟨k + 1, by omega, by omega, by go_num, A3, n3, c3, r, HV3.out, HT.out, HQ3.out⟩
        case measure => simp [intOf]; omega
    · obtain ⟨⟨e0, e1, e2, e3⟩, f0, f1, f2, f3⟩ := HV.out.dv.get
      have KS := Lib.hid (fun (W : World) (hW : Dsk W A m cc d.fs) => sync_any nm A m cc d W hW (fun f hf => by have := HJ.out.1.sum f hf; unfold maxLen; omega))
      have HSI := Lib.hid (HJ.out.1.syn nm)
      have HSL := Lib.hid (syn_lst (nm := nm) d)
      generalize syn d nm = r at KS HSI HSL
      obtain ⟨r, er⟩ := r
      by_cases hkn : k < n
      case' pos =>
        have hk300 : ¬ k < 300 := fun h => hlt ⟨hkn, h⟩
        clear hlt
      case' neg => clear hlt
      all_goals
        go_wp2_with fail
        refine (KS.out _ HV.out.dv.dsk).mono ?_
        rintro e w3 ⟨A3, n3, c3, rfl, ho, q3⟩
        have n3n : n3 * 48 ≤ 140737488355328 := by have h1 := ho.len; have h2 := HSI.out.few; omega
        have HV3 := Lib.hid (HV.out.put (d' := r) q3 (ho.dsk n3n) (.inr ho.far_))
        have HQ3 := Lib.hid ((HJ.out.2.trans q3).set4 zB (.slice A3 n3 c3) (.int .i64 r.room) (.int .i64 r.fuse) (.bool r.off))
        have P3 := (HV.out.dv.q q3)
        clear ho q3 e0 e1 e2 e3 f0 f1 f2 f3
        obtain ⟨⟨e0, e1, e2, e3⟩, f0, f1, f2, f3⟩ := P3.get
        clear P3
        by_cases her : er = 0
        · obtain ⟨was, hw1, hw2⟩ := HSL.out her
          have HW1 := Lib.hid hw1
          have HW2 := Lib.hid hw2
          subst her
          clear hw1 hw2
          go_wp2_with fail
          have k4 := read_any nm A3 n3 c3 r.room r.fuse r.off r.fs _ HV3.out.dv.dsk.files HV3.out.dv.dsk.max (fun f hf => by have := HSI.out.sum f hf; unfold maxLen; omega)
          rw [show redd nm r.fs = (was, 0) from HW1.out] at k4
          refine k4.mono ?_
          clear k4
          rintro e w4 ⟨rfl, q4⟩
          have HV4 := Lib.hid (HV3.out.q q4)
          have HQ4 := Lib.hid (HQ3.out.trans q4)
          clear q4 HV3 HQ3 e0 e1 e2 e3 f0 f1 f2 f3
          go_wp2
          go_loopw [14] (fun i wr => ∃ k : Nat, k ≤ mn ∧ k ≤ 300 ∧ i = .int .i64 k ∧ Rm nm was w B wr) (fun i _ => mn - (intOf i).toNat)
          case atStart => exact ⟨0, Nat.zero_le _, by omega, rfl, A3, n3, c3, r, HV4.out, HSI.out, HW2.out, HQ4.out⟩
          case round =>
            clear HV HJ HV4 HQ4 HSI HSL HW1 HW2 KS
            obtain ⟨j, hj, hj3, rfl, A5, n5, c5, d5, hv, hi, hls, hq⟩ := hrel
            have HV := Lib.hid hv
            have HJ := Lib.hid (And.intro hi (And.intro hls hq))
            clear hv hi hls hq
            by_cases hlt : j < mn ∧ j < 300
            · obtain ⟨hlt, hlt3⟩ := hlt
              have hkl : j < ms.length := by have := HMN.out; omega
              obtain ⟨⟨e0, e1, e2, e3⟩, f0, f1, f2, f3⟩ := HV.out.dv.get
              obtain ⟨la, rfl, lb, l0, l1, l2, l3⟩ := (HM.out.q HJ.out.2.2).load hkl
              have q4 : (j : Int) < (mn : Int) := by omega
              have q5 : 0 ≤ (j : Int) := by omega
              by_cases k3 : ms[j].kind = 3
              · have u1 : (ms[j].kind != 3) = false := by simpa using k3
                have u2 : (ms[j].kind == 3) = true := by simpa using k3
                clear k3
                go_wp2
                go_roundw
                case rel => exact ⟨j + 1, by omega, by omega, by go_num, A5, n5, c5, d5, HV.out, HJ.out.1, HJ.out.2.1, HJ.out.2.2⟩
                case measure => simp [intOf]; omega
              · by_cases k4 : ms[j].kind = 4
                · have u1 : (ms[j].kind != 3) = true := by simpa using k3
                  have u2 : (ms[j].kind != 4) = false := by simpa using k4
                  have u3 : (ms[j].kind == 3) = false := by simpa using k3
                  have u4 : (ms[j].kind == 4) = true := by simpa using k4
                  clear k3 k4
                  go_wp2
                  go_roundw
                  case rel => exact ⟨j + 1, by omega, by omega, by go_num, A5, n5, c5, d5, HV.out, HJ.out.1, HJ.out.2.1, HJ.out.2.2⟩
                  case measure => simp [intOf]; omega
                · have u1 : (ms[j].kind != 3) = true := by simpa using k3
                  have u2 : (ms[j].kind != 4) = true := by simpa using k4
                  have u3 : (ms[j].kind == 3) = false := by simpa using k3
                  have u4 : (ms[j].kind == 4) = false := by simpa using k4
                  obtain ⟨a1, a2, a3⟩ := HMI.out ms[j] (List.getElem_mem hkl)
                  have KK := Lib.hid (fun (W : World) (hW : Dsk W A5 n5 c5 d5.fs) => does_any ms[j].kind ms[j].num ms[j].nm ms[j].s A5 n5 c5 d5 W hW (fun f hf => by have := HJ.out.1.sum f hf; omega) (by omega) HJ.out.1.room.2 HJ.out.1.fuse.2)
                  have HT := Lib.hid (And.intro (HJ.out.1.does ms[j].kind ms[j].num ms[j].nm ms[j].s a1) (does_last d5 ms[j].kind ms[j].num ms[j].nm ms[j].s k3 k4 HJ.out.2.1))
                  generalize doesM d5 ms[j].kind ms[j].num ms[j].nm ms[j].s = r at KK HT
                  obtain ⟨r, er⟩ := r
                  clear a1 a2 a3 k3 k4
                  go_wp2
                  go_region_with ((go_at_call 32
                                   refine (KK.out _ (HV.out.dv.dsk.q (Q.refl _).drew)).mono ?_
                                   rintro e w3 ⟨A3, n3, c3, rfl, d3, q3, a3⟩
                                   obtain ⟨⟨x0, x1, x2, x3⟩, y0, y1, y2, y3⟩ := (HV.out.dv.q ((Q.refl _).drew.trans q3)).get))
                  all_goals
                    have HV3 := Lib.hid (HV.out.put (d' := r) ((Q.refl wr).drew.trans q3) d3 a3)
                    have HQ3 := Lib.hid ((HJ.out.2.2.trans ((Q.refl wr).drew.trans q3)).set4 zB (.slice A3 n3 c3) (.int .i64 r.room) (.int .i64 r.fuse) (.bool r.off))
                    clear d3 q3 a3 e0 e1 e2 e3 f0 f1 f2 f3 l0 l1 l2 l3 KK HV x0 x1 x2 x3 y0 y1 y2 y3
                    go_wp2
                    go_roundw
                    case rel => exact ⟨j + 1, by omega, by omega, by go_num, A3, n3, c3, r, HV3.out, HT.out.1, HT.out.2, HQ3.out⟩
                    case measure => simp [intOf]; omega
            · obtain ⟨⟨e0, e1, e2, e3⟩, f0, f1, f2, f3⟩ := HV.out.dv.get
              obtain ⟨sx, hs1, hs2, hs3⟩ := lst_read2 HJ.out.2.1
              have HS1 := Lib.hid hs1
              have hs4 := str_eq hs3
              have hs5 : (was.size : Int) ≤ (sx.size : Int) := by omega
              clear hs1
              have KR := Lib.hid (read_any nm A5 n5 c5 d5.room d5.fuse d5.off d5.fs wr HV.out.dv.dsk.files HV.out.dv.dsk.max (fun f hf => by have := HJ.out.1.sum f hf; unfold maxLen; omega))
              rw [HS1.out] at KR
              by_cases hkn : j < mn
              case' pos =>
                have hk300 : ¬ j < 300 := fun h => hlt ⟨hkn, h⟩
                clear hlt
              case' neg => clear hlt
              all_goals
                go_wp2_with fail
                refine KR.out.mono ?_
                rintro e w6 ⟨rfl, q6⟩
                have HQ6 := Lib.hid (HJ.out.2.2.trans q6)
                clear q6 KR e0 e1 e2 e3 f0 f1 f2 f3
                go_wp2
                go_ret
                exact ⟨by simp, HQ6.out⟩
        · have b1 : (er == 0) = false := by simpa using her
          have b2 : (er != 0) = true := by simpa using her
          go_wp2
          go_ret
          exact ⟨rfl, HQ3.out⟩

theorem opened (W : World) (args : Array Value) (hn : args.size = 1) (h : ∀ (j : Nat) t v, Try.f6.params[j]? = some t → args[j]? = some v → RdV W t v) :
    Calls Try.prog 6 args W fun e W' => e = .returned (.bool true) ∧ Q W W' := by
  obtain ⟨v, rfl⟩ := args1 hn
  rw [Try.params6] at h
  obtain ⟨cs, rfl, hr⟩ := (h 0 59 v rfl rfl).struct Try.underlying59
  obtain ⟨hl, _⟩ := hr.struct Try.underlying59
  rw [show Try.prog.cellsOf 59 = 4 by kernel_rfl] at hl
  match cs, hl with
  | [x0, x1, x2, x3], _ =>
    obtain ⟨room, e0, hroom⟩ := (hr.field Try.underlying59 0 (ty := 3) 0 1 rfl (by kernel_rfl)).int Try.underlying3
    obtain ⟨L, n, c, l, e1, hl, hn2, hin⟩ := open_acts (hr.field Try.underlying59 1 (ty := 53) 1 1 rfl (by kernel_rfl))
    obtain ⟨nm, e2, hnm⟩ := (hr.field Try.underlying59 2 (ty := 9) 2 1 rfl (by kernel_rfl)).string Try.underlying9
    obtain ⟨M, mn, mc, ms, e3, hm, hmn, hmin⟩ := open_acts (hr.field Try.underlying59 3 (ty := 53) 3 1 rfl (by kernel_rfl))
    simp at e0 e1 e2 e3
    subst e0 e1 e2 e3
    by_cases h0 : room < 0
    · exact walk_neg room L M n c mn mc nm W h0
    · exact walk_main room L M n c mn mc nm l ms W (by omega) (wf_i64 hroom).2 hl hn2 hin hm hmn hmin

set_option maxRecDepth 100000 in
theorem lifted (os : Os) (started : os.Started) (H : Type) (enc : TypeId × Value → H) :
    ReturnsInHanded {} Try.checked os 6 .any (Rows.diskLastsSpec.pre6 enc Try.prog Try.f6 Rows.diskLastsRow.domain false) (Rows.diskLastsSpec.post enc Try.prog Try.f6 false true false false) :=
  framed 1 Try.func6 (by rw [Try.params6]; rfl) rfl (by kernel_rfl) (by kernel_rfl) (by kernel_rfl)
    (fun H ds h => by match ds, h with | [d0], _ => exact ⟨rfl, rfl, rfl⟩)
    opened os started H enc
    (ChangeSpec.witness6 (enc := enc) (C := Try.checked) false ⟨#[], #[.agg #[.int .i64 0, .slice none 0 0, .string ByteArray.empty, .slice none 0 0]], []⟩ 8 (by kernel_rfl) (by kernel_rfl) (by kernel_rfl) (by kernel_rfl))

theorem over : Rows.diskLastsRow.holds Try.pinned (OpenSpec.ofChange Rows.diskLastsSpec) :=
  OpenClaim.holds_of_wide 6 Try.f6 rfl rfl rfl rfl rfl rfl rfl ⟨rfl, rfl, rfl, rfl, rfl⟩ rfl rfl rfl rfl rfl (by kernel_rfl) Try.func6 (by kernel_rfl)
    (of_decide_eq_true (by kernel_rfl)) (by unfold Func.isWrapper; first | (rw [if_pos (by decide +kernel)]; kernel_rfl) | (rw [if_neg (by decide +kernel)]; exact ⟨rfl, rfl⟩))
    (fun os started H enc _ => lifted os started H enc)

theorem proved : Rows.DiskLastsSaid := over
end Go.Proofs.Ytpjadjbniddmgaa.diskLasts
