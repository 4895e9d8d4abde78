/- For every row of alarms, every now, every id: of a heap all that is due comes, nothing else, and nothing that is due stays; of what was dropped nothing is there. No condition. -/
import Derived.Test.YtbclamfpoigneaaAlShown
import Derived.Test.YtbclamfpoigneaaFrame
import Derived.Test.YtbclamfpoigneaaHeldL
import Derived.Deep.DeepCutAuto
namespace Go.Proofs.Ytbclamfpoigneaa.alarmDues
set_option maxRecDepth 100000
open Go.ChangeShapes Go.WideShapes Go.ChangeAt Go.RowKit Am
set_option linter.unusedVariables false
set_option linter.unusedSimpArgs false

theorem cnt_step {l : List Al} {now k : Nat} (hk : k < l.length) : ((l.take (k + 1)).filter (isDue now)).length = ((l.take k).filter (isDue now)).length + (if (l[k]).at_ ≤ now then 1 else 0) := by
  rw [List.take_add_one, List.getElem?_eq_getElem hk, List.filter_append, List.length_append]
  congr 1
  unfold isDue
  by_cases h : (l[k]).at_ ≤ now
  · simp [h]
  · simp [h]
set_option maxHeartbeats 4000000 in
theorem walk (A : Option Addr) (n c : Nat) (l : List Al) (now : Nat) (id : Int) (w : World) (hd : In_ alK w A n c l) (hb : n * 16 ≤ 140737488351232) (hp : ∀ a ∈ l, AlIn a) (hid : -9223372036854775808 ≤ id ∧ id ≤ 9223372036854775807) :
    Calls Try.prog 6 #[.slice A n c, .int .u64 (now : Int), .int .i64 id] w fun e w' => e = .returned (.bool true) ∧ Q w w' := by
  have K0 := Lib.hid (fun W => alshown_any W)
  have K1 := Lib.hid (fun W hA => rheap_any A n c l W hA (by omega))
  have HD := Lib.hid hd
  have HL := Lib.hid hd.len
  have hn2 : n ≤ 8796093021952 := by omega
  clear hp
  have HI := heapB_iff l
  generalize heapB l = hb0 at K1 HI
  have HHI := Lib.hid HI
  clear HI hd
  by_cases hup : 200 < n ∨ hb0 = false
  · by_cases hbig : 200 < n
    · have hbi : (200 : Int) < (n : Int) := by omega
      go_enter Try.func6, Try.ntmps6
      go_wp2_with fail
      refine (K0.out _).mono ?_
      rintro e w1 ⟨rfl, q1⟩
      go_wp2_with fail
      refine (K1.out _ (HD.out.lst.q q1)).mono ?_
      rintro e w2 ⟨rfl, q2⟩
      go_wp2
      go_ret
      exact ⟨rfl, q1.trans q2⟩
    · have hbf : hb0 = false := hup.resolve_left hbig
      have hbi : ¬ (200 : Int) < (n : Int) := by omega
      subst hbf
      go_enter Try.func6, Try.ntmps6
      go_wp2_with fail
      refine (K0.out _).mono ?_
      rintro e w1 ⟨rfl, q1⟩
      go_wp2_with fail
      refine (K1.out _ (HD.out.lst.q q1)).mono ?_
      rintro e w2 ⟨rfl, q2⟩
      go_wp2
      go_ret
      exact ⟨rfl, q1.trans q2⟩
  have hbig : ¬ 200 < n := fun e => hup (.inl e)
  have hbi : ¬ (200 : Int) < (n : Int) := by omega
  have hbt : hb0 = true := by
    cases hb0 with
    | true => rfl
    | false => exact absurd (.inr rfl) hup
  subst hbt
  have HH := Lib.hid (HHI.out.1 rfl)
  have K2 := Lib.hid (fun W hA => adue_any A n c l now W hA (by omega))
  have K3 := Lib.hid (fun W hA => adrop_any A n c l id W hA (by omega))
  obtain ⟨d1, d2, d3⟩ := due_all n l now HH.out (by rw [HL.out]; exact Nat.le_refl _)
  have hdn := dropF_no id l [] (by simp)
  have hfl : (l.filter (isDue now)).length ≤ n := by have := List.length_filter_le (isDue now) l; rw [HL.out] at this; exact this
  rw [HL.out] at d3
  have hcs := fun k hk => cnt_step (l := l) (now := now) (k := k) hk
  have hct : ((l.take n).filter (isDue now)).length = (l.filter (isDue now)).length := by rw [List.take_of_length_le (by rw [HL.out]; exact Nat.le_refl _)]
  have HCS := Lib.hid (And.intro hcs hct)
  unfold RetDw at K2
  unfold RetI at K3
  generalize hdu : Am.due n l now = du at *
  obtain ⟨dk, dl⟩ := du
  simp only at K2 d1 d2 d3
  generalize dropF id l [] = dr at *
  generalize hF : (l.filter (isDue now)).length = F at *
  have HDU := Lib.hid (And.intro d1 hdn)
  have hdrl : dr.length ≤ 1000000 ∨ True := .inr trivial
  rw [d2, d3] at K2
  have HDL := Lib.hid (And.intro d2 d3)
  have hsub : IntKind.i64.wrap ((n : Int) - (F : Int)) = ((n - F : Nat) : Int) := by rw [IntKind.wrap_i64]; omega
  generalize hG : n - F = G at *
  have hGb : G ≤ 200 := by omega
  clear hup hbig hcs hct hdu d1 hdn d2 d3 hF hG hdrl hid
  go_enter Try.func6, Try.ntmps6
  go_wp2_with fail
  refine (K0.out _).mono ?_
  rintro e w1 ⟨rfl, q1⟩
  have Q1 := Lib.hid q1
  clear q1
  go_wp2_with fail
  refine (K1.out _ (HD.out.lst.q Q1.out)).mono ?_
  rintro e w2 ⟨rfl, q2⟩
  have Q2 := Lib.hid (Q1.out.trans q2)
  clear q2
  go_wp2_with fail
  refine (K2.out _ (HD.out.q Q2.out)).mono ?_
  rintro e w3 ⟨A3, c3, B3, d3, rfl, i3, o3, q3⟩
  have X := Lib.hid (And.intro (Q2.out.trans q3) i3.lst)
  clear i3 q3 o3
  go_wp2
  go_loopw [11, 12] (fun mv iv wr => ∃ k : Nat, k ≤ n ∧ iv = .int .i64 (k : Nat) ∧ mv = .int .i64 ((((l.take k).filter (isDue now)).length : Nat) : Int) ∧ ((l.take k).filter (isDue now)).length ≤ k ∧ Q w3 wr) (fun _ i _ => n - (intOf i).toNat)
  case atStart => exact ⟨0, Nat.zero_le _, rfl, rfl, Nat.le_refl _, Q.refl _⟩
  case round =>
    obtain ⟨k, hk, rfl, rfl, hck, hq⟩ := hrel
    have HQ := Lib.hid hq
    clear hq
    by_cases hlt : k < n
    · have hkn : (k : Int) < (n : Int) := by omega
      have hkl : k < l.length := by rw [HL.out]; exact hlt
      obtain ⟨ad, rfl, hab, y0, y1⟩ := load_al (HD.out.lst.q (X.out.1.trans HQ.out)) hlt hkl
      have hst := HCS.out.1 k hkl
      generalize hcc : ((l.take k).filter (isDue now)).length = cc at *
      generalize hcd : ((l.take (k + 1)).filter (isDue now)).length = cd at *
      have HCD := Lib.hid hcd
      clear hcc hcd
      generalize l[k] = x at y0 y1 hst
      clear hkl hab
      by_cases hx : x.at_ ≤ now
      · rw [if_pos hx] at hst
        have hxi : (x.at_ : Int) ≤ (now : Int) := by omega
        have HST := Lib.hid hst
        clear hst
        go_wp2
        go_roundw
        case rel => exact ⟨k + 1, by omega, by go_num, by rw [HCD.out, HST.out]; go_num, by rw [HCD.out, HST.out]; omega, HQ.out⟩
        case measure => simp [intOf]; omega
      · rw [if_neg hx] at hst
        have hxi : ¬ (x.at_ : Int) ≤ (now : Int) := by omega
        have HST := Lib.hid hst
        clear hst
        go_wp2
        go_roundw
        case rel => exact ⟨k + 1, by omega, by go_num, by rw [HCD.out, HST.out]; rfl, by rw [HCD.out, HST.out]; omega, HQ.out⟩
        case measure => simp [intOf]; omega
    have hkn : ¬ (k : Int) < (n : Int) := by omega
    obtain rfl : k = n := by omega
    rw [HCS.out.2]
    have X2 := Lib.hid (And.intro (X.out.1.trans HQ.out) (X.out.2.q HQ.out))
    clear hk hck hlt HQ X
    generalize wr = v4 at X2 ⊢
    go_wp2
    go_loopw [13] (fun iv wr => ∃ j : Nat, j ≤ G ∧ iv = .int .i64 (j : Nat) ∧ Q v4 wr) (fun i _ => G - (intOf i).toNat)
    case atStart => exact ⟨0, Nat.zero_le _, rfl, Q.refl _⟩
    case round =>
      obtain ⟨j, hj, rfl, hq⟩ := hrel
      have HQ := Lib.hid hq
      clear hq
      by_cases hlt : j < G
      · have hkn2 : (j : Int) < (G : Int) := by omega
        have hjl : j < dk.length := by rw [HDL.out.2]; exact hlt
        obtain ⟨ad, rfl, hab, y0, y1⟩ := load_al (X2.out.2.q HQ.out) hlt hjl
        have hno := HDU.out.1 dk[j] (List.getElem_mem hjl)
        unfold isDue at hno
        rw [decide_eq_false_iff_not] at hno
        generalize dk[j] = x at y0 y1 hno
        have hxi : ¬ (x.at_ : Int) ≤ (now : Int) := by omega
        have hjb : j ≤ 200 := by omega
        clear hjl hab
        go_wp2
        go_roundw
        case rel => exact ⟨j + 1, by omega, by go_num, HQ.out⟩
        case measure => simp [intOf]; omega
      have hkn2 : ¬ (j : Int) < (G : Int) := by omega
      have X3 := Lib.hid (X2.out.1.trans HQ.out)
      clear hj hlt HQ X2
      generalize wr = v5 at X3 ⊢
      go_wp2_with fail
      refine (K3.out _ (HD.out.q X3.out)).mono ?_
      rintro e w6 ⟨A6, c6, rfl, i6, q6⟩
      have X4 := Lib.hid (And.intro (X3.out.trans q6) i6.lst)
      have hdm : dr.length ≤ 9223372036854775806 := by have := i6.few; have : dr.length * 16 ≤ 140737488355328 := this; omega
      clear i6 q6 X3
      have HDM := Lib.hid hdm
      generalize hdl2 : dr.length = dm at *
      have HDL2 := Lib.hid hdl2
      clear hdl2
      go_wp2
      go_loopw [15] (fun iv wr => ∃ j : Nat, j ≤ dm ∧ iv = .int .i64 (j : Nat) ∧ Q w6 wr) (fun i _ => dm - (intOf i).toNat)
      case atStart => exact ⟨0, Nat.zero_le _, rfl, Q.refl _⟩
      case round =>
        obtain ⟨j2, hj2, rfl, hq⟩ := hrel
        have HQ := Lib.hid hq
        clear hq
        by_cases hlt : j2 < dm
        · have hkn3 : (j2 : Int) < (dm : Int) := by omega
          have hjl : j2 < dr.length := by rw [HDL2.out]; exact hlt
          obtain ⟨ad, rfl, hab, y0, y1⟩ := load_al (X4.out.2.q HQ.out) hlt hjl
          have hno := HDU.out.2 dr[j2] (List.getElem_mem hjl)
          generalize dr[j2] = x at y0 y1 hno
          have hjb : j2 ≤ 9223372036854775806 := by omega
          clear hjl hab
          go_wp2
          go_roundw
          case rel => exact ⟨j2 + 1, by omega, by go_num, HQ.out⟩
          case measure => simp [intOf]; omega
        have hkn3 : ¬ (j2 : Int) < (dm : Int) := by omega
        go_wp2
        go_ret
        exact ⟨rfl, X4.out.1.trans HQ.out⟩

theorem opened (W : World) (args : Array Value) (hn : args.size = 3) (h : ∀ (j : Nat) t v, Try.f6.params[j]? = some t → args[j]? = some v → RdV W t v) :
    Calls Try.prog 6 args W fun e W' => e = .returned (.bool true) ∧ Q W W' := by
  obtain ⟨v0, v1, v2, rfl⟩ := args3 hn
  rw [Try.params6] at h
  obtain ⟨A0, n0, c0, e0, r0⟩ := (h 0 22 v0 rfl rfl).slice Try.underlying22
  obtain ⟨B0, m0, d0, l, f0, hd0, hb0, hp0⟩ := open_als r0
  simp only [List.cons.injEq, Value.slice.injEq, and_true] at f0
  obtain ⟨rfl, rfl, rfl⟩ := f0
  obtain ⟨x1, e1, s1⟩ := (h 1 23 v1 rfl rfl).int Try.underlying23
  obtain ⟨now, y1⟩ := u64_nat s1
  subst y1
  obtain ⟨id, e2, s2⟩ := (h 2 3 v2 rfl rfl).int Try.underlying3
  subst e0 e1 e2
  exact walk A0 n0 c0 l now id W hd0 hb0 hp0 (wf_i64 s2)

set_option maxRecDepth 100000 in
theorem lifted (os : Os) (started : os.Started) (H : Type) (enc : TypeId × Value → H) :
    ReturnsInHanded {} Try.checked os 6 .any (Rows.alarmDuesSpec.pre6 enc Try.prog Try.f6 Rows.alarmDuesRow.domain false) (Rows.alarmDuesSpec.post enc Try.prog Try.f6 false true false false) :=
  framed 3 Try.func6 (by rw [Try.params6]; rfl) rfl (by kernel_rfl) (by kernel_rfl) (by kernel_rfl)
    (fun H ds h => by match ds, h with | [d0, d1, d2], _ => exact ⟨rfl, rfl, rfl⟩)
    opened os started H enc
    (ChangeSpec.witness6 (enc := enc) (C := Try.checked) false ⟨#[], #[.slice none 0 0, .int .u64 0, .int .i64 0], []⟩ 8 (by kernel_rfl) (by kernel_rfl) (by kernel_rfl) (by kernel_rfl))

theorem over : Rows.alarmDuesRow.holds Try.pinned (OpenSpec.ofChange Rows.alarmDuesSpec) :=
  OpenClaim.holds_of_wide 6 Try.f6 rfl rfl rfl rfl rfl rfl rfl ⟨rfl, rfl, rfl, rfl, rfl⟩ rfl rfl rfl rfl rfl (by kernel_rfl) Try.func6 (by kernel_rfl)
    (of_decide_eq_true (by kernel_rfl)) (by unfold Func.isWrapper; first | (rw [if_pos (by decide +kernel)]; kernel_rfl) | (rw [if_neg (by decide +kernel)]; exact ⟨rfl, rfl⟩))
    (fun os started H enc _ => lifted os started H enc)

theorem proved : Rows.AlarmDuesSaid := over
end Go.Proofs.Ytbclamfpoigneaa.alarmDues
