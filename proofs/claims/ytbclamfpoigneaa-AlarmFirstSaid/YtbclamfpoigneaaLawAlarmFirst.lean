/- For every row of alarms: the one that comes out of a heap is not later than any. No condition. -/
import Derived.Test.YtbclamfpoigneaaAlShown
import Derived.Test.YtbclamfpoigneaaFrame
import Derived.Test.YtbclamfpoigneaaHeldL
import Derived.Deep.DeepCutAuto
namespace Go.Proofs.Ytbclamfpoigneaa.alarmFirst
set_option maxRecDepth 100000
open Go.ChangeShapes Go.WideShapes Go.ChangeAt Go.RowKit Am
set_option linter.unusedVariables false
set_option linter.unusedSimpArgs false

set_option maxHeartbeats 4000000 in
theorem walk (A : Option Addr) (n c : Nat) (h : List Al) (w : World) (hd : In_ alK w A n c h) (hb : n * 16 ≤ 140737488351232) (hp : ∀ a ∈ h, AlIn a) :
    Calls Try.prog 7 #[.slice A n c] w fun e w' => e = .returned (.bool true) ∧ Q w w' := by
  have K0 := Lib.hid (fun W => alshown_any W)
  have K1 := Lib.hid (fun W hA => rheap_any A n c h W hA (by omega))
  have HD := Lib.hid hd
  have HL := Lib.hid hd.len
  have hn := hd.len
  have hn2 : n ≤ 8796093021952 := by omega
  clear hp hn
  have HI := heapB_iff h
  generalize heapB h = hb0 at K1 HI
  have HHI := Lib.hid HI
  clear HI hd
  by_cases hup : 300 < n ∨ hb0 = false
  · by_cases hbig : 300 < n
    · have hbi : (300 : Int) < (n : Int) := by omega
      go_enter Try.func7, Try.ntmps7
      go_wp2_with fail
      refine (K0.out _).mono ?_
      rintro e w1 ⟨rfl, q1⟩
      go_wp2_with fail
      refine (K1.out _ (HD.out.lst.q q1)).mono ?_
      rintro e w2 ⟨rfl, q2⟩
      go_wp2
      go_ret
      exact ⟨rfl, q1.trans q2⟩
    · have hbf : hb0 = false := hup.resolve_left hbig
      have hbi : ¬ (300 : Int) < (n : Int) := by omega
      subst hbf
      go_enter Try.func7, Try.ntmps7
      go_wp2_with fail
      refine (K0.out _).mono ?_
      rintro e w1 ⟨rfl, q1⟩
      go_wp2_with fail
      refine (K1.out _ (HD.out.lst.q q1)).mono ?_
      rintro e w2 ⟨rfl, q2⟩
      go_wp2
      go_ret
      exact ⟨rfl, q1.trans q2⟩
  have hbig : ¬ 300 < n := fun e => hup (.inl e)
  have hbi : ¬ (300 : Int) < (n : Int) := by omega
  have hbt : hb0 = true := by
    cases hb0 with
    | true => rfl
    | false => exact absurd (.inr rfl) hup
  subst hbt
  have HH := Lib.hid (HHI.out.1 rfl)
  have K2 := Lib.hid (fun W hA => apop_any A n c h W hA (by omega))
  unfold RetPw alV at K2
  have hpl := popR_len h
  rw [HL.out] at hpl K2
  have hmin := fun (k : Nat) (hk : k < h.length) => heap_min HH.out k hk
  have HM := Lib.hid hmin
  generalize popR h = p at *
  generalize hf : g h 0 = f at *
  clear hf hmin hup hbig
  have hpl2 : n = 0 ∨ IntKind.i64.wrap ((n : Int) - 1) = (p.length : Int) := by
    by_cases h0 : n = 0
    · exact .inl h0
    · right; rw [IntKind.wrap_i64]; omega
  have HPL := Lib.hid hpl
  generalize hpm : p.length = pm at *
  clear hpm hpl
  have hd2 : decide ((0 : Int) < (n : Int)) = decide (0 < n) := decide_eq_decide.2 (by omega)
  generalize hib : decide (0 < n) = isb at K2 hd2
  have HIB := Lib.hid hib
  have HP2 := Lib.hid hpl2
  have hbb : (isb != isb) = false := by simp
  have hbb2 : (!isb == isb) = false := by simp
  have hd3 := hib
  clear hib hpl2
  go_enter Try.func7, Try.ntmps7
  go_wp2_with fail
  refine (K0.out _).mono ?_
  rintro e w1 ⟨rfl, q1⟩
  have Q1 := Lib.hid q1
  clear q1
  go_wp2_with fail
  refine (K1.out _ (HD.out.lst.q Q1.out)).mono ?_
  rintro e w2 ⟨rfl, q2⟩
  have Q2 := Lib.hid (Q1.out.trans q2)
  clear q2
  go_wp2_with fail
  refine (K2.out _ (HD.out.q Q2.out)).mono ?_
  rintro e w3 ⟨A3, c3, rfl, i3, q3⟩
  have q4 := (Q.refl w3).alloc (.cells #[.int .u64 (f.at_ : Int), .int .i64 f.id] 25)
  have X := Lib.hid (And.intro ((Q2.out.trans q3).trans q4) (Bx.new w3 [.int .u64 (f.at_ : Int), .int .i64 f.id] 25))
  clear i3 q3 q4
  go_upto_region 6 with (fail)
  change Hid (_ ∧ Bx (w3.alloc (.cells #[.int .u64 (f.at_ : Int), .int .i64 f.id] 25)) _ _) at X
  generalize w3.heap.size = b6 at X ⊢
  generalize (w3.alloc (.cells #[.int .u64 (f.at_ : Int), .int .i64 f.id] 25)) = w4 at X ⊢
  go_wp2
  go_loopw [8] (fun i wr => ∃ k : Nat, k ≤ n ∧ i = .int .i64 (k : Nat) ∧ Q w4 wr) (fun i _ => n - (intOf i).toNat)
  case atStart => exact ⟨0, Nat.zero_le _, rfl, Q.refl _⟩
  case round =>
    obtain ⟨k, hk, rfl, hq⟩ := hrel
    have HQ := Lib.hid hq
    clear hq
    by_cases hlt : k < n
    case neg =>
      have hkn : ¬ (k : Int) < (n : Int) := by omega
      cases isb with
      | false =>
        go_wp2
        go_ret
        exact ⟨rfl, X.out.1.trans HQ.out⟩
      | true =>
        have hnp : 0 < n := of_decide_eq_true HIB.out
        have hwr := HP2.out.resolve_left (by omega)
        go_wp2
        go_ret
        exact ⟨rfl, X.out.1.trans HQ.out⟩
    have hkn : (k : Int) < (n : Int) := by omega
    have hkl : k < h.length := by rw [HL.out]; exact hlt
    obtain ⟨ad, rfl, hab, y0, y1⟩ := load_al (HD.out.lst.q (X.out.1.trans HQ.out)) hlt hkl
    have hle := HM.out k hkl
    rw [g_lt hkl] at hle
    have K3 := Lib.hid (fun W => aless_any (h[k]) f W)
    rw [less_f.2 hle] at K3
    generalize h[k] = x at y0 y1 K3
    unfold alV at K3
    have x0 := (X.out.2.q HQ.out).get2.1
    obtain ⟨x0, x1⟩ := x0
    clear hle hkl hab
    go_upto_region 11 with (fail)
    refine wp_region_held_drew (S := Q wr) (by kernel_rfl) ?szz0 (fun hHeld => ?rzz0)
    case szz0 =>
      exact (Q.refl wr).drew
    case' rzz0 => skip
    refine wpAnyH_take (i := 0) (oi := ?ozz1) (v := ?vzz1) ?hzz1 ?azz1 ?bzz1 ?czz1 ?qzz1 ?yzz1 ?szz1 ?rzz1
    case hzz1 => simp only [List.getElem?_toArray, List.getElem?_cons_zero]; rfl
    case azz1 => kernel_rfl
    case bzz1 => kernel_rfl
    case czz1 => kernel_rfl
    case yzz1 =>
      refine Or.inl ⟨by rfl, ?_⟩
      intro w hSw
      skip
      go_simp
      try with_reducible rfl
    case qzz1 => exact fun _ _ _ h => h
    case szz1 => first | assumption | trivial
    case' rzz1 => simp only [Act.put, List.setIfInBounds_toArray, List.set_cons_zero, List.set_cons_succ]
    refine wpAnyH_take (i := 1) (oi := ?ozz2) (v := ?vzz2) ?hzz2 ?azz2 ?bzz2 ?czz2 ?qzz2 ?yzz2 ?szz2 ?rzz2
    case hzz2 => simp only [List.getElem?_toArray, List.getElem?_cons_zero, List.getElem?_cons_succ]; rfl
    case azz2 => kernel_rfl
    case bzz2 => kernel_rfl
    case czz2 => kernel_rfl
    case yzz2 =>
      refine Or.inl ⟨by rfl, ?_⟩
      intro w hSw
      skip
      go_simp
      try with_reducible rfl
    case qzz2 => exact fun _ _ _ h => h
    case szz2 => first | assumption | trivial
    case' rzz2 => simp only [Act.put, List.setIfInBounds_toArray, List.set_cons_zero, List.set_cons_succ]
    refine wpAnyH_take (i := 2) (oi := ?ozz3) (v := ?vzz3) ?hzz3 ?azz3 ?bzz3 ?czz3 ?qzz3 ?yzz3 ?szz3 ?rzz3
    case hzz3 => simp only [List.getElem?_toArray, List.getElem?_cons_zero, List.getElem?_cons_succ]; rfl
    case azz3 => kernel_rfl
    case bzz3 => kernel_rfl
    case czz3 => kernel_rfl
    case yzz3 =>
      refine Or.inl ⟨by rfl, ?_⟩
      intro w hSw
      skip
      go_simp
      try with_reducible rfl
    case qzz3 => exact fun _ _ _ h => h
    case szz3 => first | assumption | trivial
    case' rzz3 => simp only [Act.put, List.setIfInBounds_toArray, List.set_cons_zero, List.set_cons_succ]
    refine wpAnyH_take (i := 3) (oi := ?ozz4) (v := ?vzz4) ?hzz4 ?azz4 ?bzz4 ?czz4 ?qzz4 ?yzz4 ?szz4 ?rzz4
    case hzz4 => simp only [List.getElem?_toArray, List.getElem?_cons_zero, List.getElem?_cons_succ]; rfl
    case azz4 => kernel_rfl
    case bzz4 => kernel_rfl
    case czz4 => kernel_rfl
    case yzz4 =>
      refine Or.inl ⟨by rfl, ?_⟩
      intro w hSw
      have a0 := box_ hSw y0; have a1 := box_ hSw y1; clear hSw
      go_simp
      try with_reducible rfl
    case qzz4 => exact fun _ _ _ h => h
    case szz4 => first | assumption | trivial
    case' rzz4 => simp only [Act.put, List.setIfInBounds_toArray, List.set_cons_zero, List.set_cons_succ]
    refine wpAnyH_take (i := 4) (oi := ?ozz5) (v := ?vzz5) ?hzz5 ?azz5 ?bzz5 ?czz5 ?qzz5 ?yzz5 ?szz5 ?rzz5
    case hzz5 => simp only [List.getElem?_toArray, List.getElem?_cons_zero, List.getElem?_cons_succ]; rfl
    case azz5 => kernel_rfl
    case bzz5 => kernel_rfl
    case czz5 => kernel_rfl
    case yzz5 =>
      refine Or.inl ⟨by rfl, ?_⟩
      intro w hSw
      have a2 := box_ hSw x0; have a3 := box_ hSw x1; clear hSw
      go_simp
      try with_reducible rfl
    case qzz5 => exact fun _ _ _ h => h
    case szz5 => first | assumption | trivial
    case' rzz5 => simp only [Act.put, List.setIfInBounds_toArray, List.set_cons_zero, List.set_cons_succ]
    refine wpAnyH_ready (rs := [5]) (by kernel_rfl) (by simp) ?_
    refine AllReadyH.cons (o := ?ozz6) ?hzz6 (fun K hK => ?kzz6) ?mzz6
    case hzz6 => simp only [List.getElem?_toArray, List.getElem?_cons_zero, List.getElem?_cons_succ]; rfl
    case kzz6 =>
      go_simp
      refine (K3.out _).mono ?_
      rintro e v2 ⟨rfl, q2⟩
      go_wp2_with fail
      refine hK.out _ _ ?Szz6 (fun hHeld => ?Rzz6)
      case Szz6 =>
        exact hHeld.trans q2
      case Rzz6 =>
        clear hK K
        try simp only [Act.put, List.setIfInBounds_toArray, List.set_cons_zero, List.set_cons_succ]
        refine wpAnyH_done (by kernel_rfl) ?_ _
        have HQ3 := Lib.hid (HQ.out.trans hHeld)
        go_wp2
        go_roundw
        case rel => exact ⟨k + 1, by omega, by go_num, HQ3.out⟩
        case measure => simp [intOf]; omega
    case' mzz6 => skip
    exact AllReadyH.nil

theorem opened (W : World) (args : Array Value) (hn : args.size = 1) (h : ∀ (j : Nat) t v, Try.f7.params[j]? = some t → args[j]? = some v → RdV W t v) :
    Calls Try.prog 7 args W fun e W' => e = .returned (.bool true) ∧ Q W W' := by
  obtain ⟨v0, rfl⟩ := args1 hn
  rw [Try.params7] at h
  obtain ⟨A0, n0, c0, e0, r0⟩ := (h 0 22 v0 rfl rfl).slice Try.underlying22
  obtain ⟨B0, m0, d0, l, f0, hd0, hb0, hp0⟩ := open_als r0
  simp only [List.cons.injEq, Value.slice.injEq, and_true] at f0
  obtain ⟨rfl, rfl, rfl⟩ := f0
  subst e0
  exact walk A0 n0 c0 l W hd0 hb0 hp0

set_option maxRecDepth 100000 in
theorem lifted (os : Os) (started : os.Started) (H : Type) (enc : TypeId × Value → H) :
    ReturnsInHanded {} Try.checked os 7 .any (Rows.alarmFirstSpec.pre6 enc Try.prog Try.f7 Rows.alarmFirstRow.domain false) (Rows.alarmFirstSpec.post enc Try.prog Try.f7 false true false false) :=
  framed 1 Try.func7 (by rw [Try.params7]; rfl) rfl (by kernel_rfl) (by kernel_rfl) (by kernel_rfl)
    (fun H ds h => by match ds, h with | [d0], _ => exact ⟨rfl, rfl, rfl⟩)
    opened os started H enc
    (ChangeSpec.witness6 (enc := enc) (C := Try.checked) false ⟨#[], #[.slice none 0 0], []⟩ 8 (by kernel_rfl) (by kernel_rfl) (by kernel_rfl) (by kernel_rfl))

theorem over : Rows.alarmFirstRow.holds Try.pinned (OpenSpec.ofChange Rows.alarmFirstSpec) :=
  OpenClaim.holds_of_wide 7 Try.f7 rfl rfl rfl rfl rfl rfl rfl ⟨rfl, rfl, rfl, rfl, rfl⟩ rfl rfl rfl rfl rfl (by kernel_rfl) Try.func7 (by kernel_rfl)
    (of_decide_eq_true (by kernel_rfl)) (by unfold Func.isWrapper; first | (rw [if_pos (by decide +kernel)]; kernel_rfl) | (rw [if_neg (by decide +kernel)]; exact ⟨rfl, rfl⟩))
    (fun os started H enc _ => lifted os started H enc)

theorem proved : Rows.AlarmFirstSaid := over
end Go.Proofs.Ytbclamfpoigneaa.alarmFirst
