/- For every two bytes of at most 1048576 each: what stands behind whole frames changes nothing of them. -/
import Derived.Test.YthcdcjidoacalaaFrmIn
import Derived.Test.YthcdcjidoacalaaFrameU
import Derived.BigQuiet
import Derived.Deep.DeepCutAuto
namespace Go.Proofs.Ythcdcjidoacalaa.frameOneUpto
set_option maxRecDepth 100000
open Go.ChangeShapes Go.WideShapes Go.ChangeAt Go.RowKit Fm
set_option linter.unusedVariables false
set_option linter.unusedSimpArgs false

theorem whole_all {l : List UInt8} (h : usedN l = l.length) : (wh l).2 = [] := by
  have := congrArg List.length (wh_eq l)
  rw [List.length_append] at this
  unfold usedN at h
  exact List.eq_nil_of_length_eq_zero (by omega)
theorem whole_more {s m : List UInt8} (h : (wh s).2 = []) : (wh (s ++ m)).1 = (wh s).1 ++ (wh m).1 ∧ usedN (s ++ m) = usedN s + usedN m ∧ on (s ++ m) = on m := by
  have e := wh_app m s
  rw [h, List.nil_append] at e
  refine ⟨by rw [e], ?_, ?_⟩
  · unfold usedN; rw [e]; simp only; rw [wraps_app, List.length_append]
  · rw [on_app, h, List.nil_append]
set_option maxHeartbeats 8000000 in
theorem walk (s more : ByteArray) (w : World) (s0 : s.size ≤ 140737488351232) (s1 : more.size ≤ 140737488351232) (u0 : s.size ≤ 1048576) (u1 : more.size ≤ 1048576) :
    Calls Try.prog 8 #[.string s, .string more] w fun e w' => e = .returned (.bool true) ∧ Q w w' := by
  have K0 := Lib.hid (fun W => fshown_any W)
  have hc1 := wh_count s.data.toList
  have hc2 := wh_count more.data.toList
  rw [size_list] at hc1 hc2
  have hu1 := fused_le s.data.toList
  have hu2 := fused_le more.data.toList
  rw [size_list] at hu1 hu2
  have K1 := Lib.hid (fun W => fwhole_any s W (by unfold maxLen; omega) (by omega))
  have K2 := Lib.hid (fun W => frefWhole_any more W (by unfold maxLen; omega) (by omega))
  by_cases hn : usedN s.data.toList = s.size
  case neg =>
    generalize (wh s.data.toList).1 = l at *
    generalize usedN s.data.toList = n at *
    generalize on s.data.toList = o at *
    have hne : ¬ (n : Int) = (s.size : Int) := by omega
    clear hc1 hc2 hu1 hu2 K2
    go_enter Try.func8, Try.ntmps8
    go_wp2_with fail
    refine (K0.out _).mono ?_
    rintro e w1 ⟨rfl, q1⟩
    go_wp2_with fail
    refine (K1.out _).mono ?_
    rintro e w2 ⟨A1, c1, rfl, _, q2⟩
    go_wp2
    go_ret
    exact ⟨rfl, q1.trans q2⟩
  have hnil := whole_all (l := s.data.toList) (by rw [size_list]; exact hn)
  obtain ⟨hw1, hw2, hw3⟩ := whole_more (m := more.data.toList) hnil
  have hsm : (s ++ more).data.toList = s.data.toList ++ more.data.toList := by rw [ByteArray.data_append, Array.toList_append]
  have hss : (s ++ more).size = s.size + more.size := by rw [ByteArray.size_append]
  have K3 := Lib.hid (fun W => fwhole_any (s ++ more) W (by unfold maxLen; omega) (by rw [hsm, hw1, List.length_append]; omega))
  rw [hsm, hw1, hw2, hw3, List.length_append] at K3
  rw [hn] at K1 K3
  generalize (wh s.data.toList).1 = l at *
  generalize (wh more.data.toList).1 = p at *
  generalize usedN more.data.toList = j at *
  generalize on s.data.toList = o at *
  generalize on more.data.toList = of at *
  have HC := Lib.hid (And.intro hc1 hc2)
  have hadd : s ++ more = s ++ more := rfl
  have hnm : IntKind.i64.wrap ((l.length : Int) + (p.length : Int)) = ((l.length + p.length : Nat) : Int) := by rw [IntKind.wrap_i64]; omega
  have hnj : IntKind.i64.wrap ((s.size : Int) + (j : Int)) = ((s.size + j : Nat) : Int) := by rw [IntKind.wrap_i64]; omega
  have hll : l.length ≤ 1048576 := by omega
  have hpl : p.length ≤ 1048576 := by omega
  clear hw1 hw2 hw3 hnil hn hu1 hu2 hc1 hc2 hsm hadd
  generalize hadd : s ++ more = sm at *
  generalize hln : l.length = ln at *
  generalize hpn : p.length = pn at *
  have HLN := Lib.hid (And.intro hln hpn)
  generalize hN : ln + pn = N at K3 hnm
  have hNb : N ≤ 2097152 := by omega
  have HN := Lib.hid hN
  clear hln hpn hN
  go_enter Try.func8, Try.ntmps8
  go_wp2_with fail
  refine (K0.out _).mono ?_
  rintro e w1 ⟨rfl, q1⟩
  go_wp2_with fail
  refine (K1.out _).mono ?_
  rintro e w2 ⟨A1, c1, rfl, o1, q2⟩
  have D1 := Lib.hid (And.intro (q1.trans q2) o1.lst)
  clear q1 q2 o1
  go_wp2_with fail
  refine (K3.out _).mono ?_
  rintro e w3 ⟨A2, c2, rfl, o2, q3⟩
  have D2 := Lib.hid (And.intro (D1.out.1.trans q3) (And.intro (D1.out.2.q q3) o2.lst))
  clear D1 q3 o2
  go_wp2_with fail
  refine (K2.out _).mono ?_
  rintro e w4 ⟨A3, c3, rfl, o3, q4⟩
  have D3 := Lib.hid (And.intro (D2.out.1.trans q4) (And.intro (D2.out.2.1.q q4) (And.intro (D2.out.2.2.q q4) o3.lst)))
  clear D2 q4 o3
  go_wp2
  go_loopw [15] (fun i wr => ∃ k : Nat, k ≤ N ∧ i = .int .i64 (k : Nat) ∧ Q w4 wr) (fun i _ => N - (intOf i).toNat)
  case atStart => exact ⟨0, Nat.zero_le _, rfl, Q.refl _⟩
  case round =>
    obtain ⟨k, hk, rfl, hq⟩ := hrel
    have HQ := Lib.hid hq
    clear hq
    by_cases hlt : k < N
    case neg =>
      have hkn : ¬ (k : Int) < (N : Int) := by omega
      go_wp2
      go_ret
      exact ⟨rfl, D3.out.1.trans HQ.out⟩
    have hkn : (k : Int) < (N : Int) := by omega
    have hkl : k < (l ++ p).length := by rw [List.length_append, HLN.out.1, HLN.out.2, HN.out]; exact hlt
    obtain ⟨ad2, rfl, hab2, x2⟩ := load_text (D3.out.2.2.1.q HQ.out) hlt hkl
    by_cases hkk : k < ln
    · have hkl1 : k < l.length := by rw [HLN.out.1]; exact hkk
      obtain ⟨ad1, rfl, hab1, x1⟩ := load_text (D3.out.2.1.q HQ.out) hkk hkl1
      rw [List.getElem_append_left hkl1] at x2
      generalize tx l[k] = X at x1 x2
      have hi1 : (k : Int) < (ln : Int) := by omega
      have hi2 : ¬ (ln : Int) ≤ (k : Int) := by omega
      have hd1 : decide (ln ≤ k) = false := decide_eq_false (by omega)
      have hd2 : decide ((ln : Int) ≤ (k : Int)) = false := decide_eq_false hi2
      clear hkl hkl1
      go_wp2
      go_quiet (fail)
      all_goals
        go_wp2
        go_roundw
        case rel => exact ⟨k + 1, by omega, by first | rfl | simp | go_num, by first | exact HQ.out | exact HQ.out.drew | exact HQ.out.drewN _⟩
        case measure => simp [intOf]; omega
    · obtain ⟨j2, hj2⟩ : ∃ j2, k = ln + j2 := ⟨k - ln, by omega⟩
      have hkp : j2 < pn := by have := HN.out; omega
      have hkl1 : j2 < p.length := by rw [HLN.out.2]; exact hkp
      obtain ⟨ad3, rfl, hab3, x3⟩ := load_text (D3.out.2.2.2.q HQ.out) hkp hkl1
      rw [List.getElem_append_right (by rw [HLN.out.1]; omega)] at x2
      have hee : k - l.length = j2 := by rw [HLN.out.1]; omega
      simp only [hee] at x2
      generalize tx p[j2] = X at x2 x3
      have hi1 : ¬ (k : Int) < (ln : Int) := by omega
      have hi2 : (ln : Int) ≤ (k : Int) := by omega
      have hd1 : decide (k < ln) = false := decide_eq_false (by omega)
      have hi3 : IntKind.i64.wrap ((k : Int) - (ln : Int)) = (j2 : Int) := by rw [IntKind.wrap_i64]; omega
      have hi4 : (j2 : Int) < (pn : Int) := by omega
      clear hkl hkl1 hee hj2
      go_wp2
      go_quiet (fail)
      all_goals
        go_wp2
        go_roundw
        case rel => exact ⟨k + 1, by omega, by first | rfl | simp | go_num, by first | exact HQ.out | exact HQ.out.drew | exact HQ.out.drewN _⟩
        case measure => simp [intOf]; omega

theorem opened (W : World) (args : Array Value) (hn : args.size = 2) (h : ∀ (j : Nat) t v, Try.f8.params[j]? = some t → args[j]? = some v → RdV W t v ∧ (true = true → RdU W t v.cells.toList)) :
    Calls Try.prog 8 args W fun e W' => e = .returned (.bool true) ∧ Q W W' := by
  obtain ⟨v0, v1, rfl⟩ := args2 hn
  rw [Try.params8] at h
  obtain ⟨s, e0, s0⟩ := (h 0 9 v0 rfl rfl).1.string Try.underlying9
  obtain ⟨more, e1, s1⟩ := (h 1 9 v1 rfl rfl).1.string Try.underlying9
  subst e0 e1
  have u0 := RdU.string (w := W) (t := 9) (s := s) (by exact ((h 0 9 _ rfl rfl).2 rfl)) Try.underlying9
  have u1 := RdU.string (w := W) (t := 9) (s := more) (by exact ((h 1 9 _ rfl rfl).2 rfl)) Try.underlying9
  exact walk s more W s0 s1 u0 u1

set_option maxRecDepth 100000 in
theorem lifted (os : Os) (started : os.Started) (H : Type) (enc : TypeId × Value → H) (F : Stop.Interp) :
    ReturnsInHanded {} Try.checked os 8 .any ((Rows.OpenSpec.upto Rows.frameOneSpec).pre6 enc Try.prog Try.f8 Rows.frameOneUptoRow.domain false) (((Rows.OpenSpec.upto Rows.frameOneSpec).at F).post enc Try.prog Try.f8 false true false false) :=
  framedU (s := Rows.frameOneSpec) 2 Try.func8 (by rw [Try.params8]; rfl) rfl (by kernel_rfl) (by kernel_rfl) (by kernel_rfl)
    (fun H ds h => by match ds, h with | [d0, d1], _ => exact ⟨rfl, rfl, rfl⟩)
    opened os started H enc F
    (OpenSpec.witness (enc := enc) (C := Try.checked) (s := Rows.OpenSpec.upto Rows.frameOneSpec) (k := Rows.uptoSmall) rfl false ⟨#[], #[.string ⟨#[]⟩, .string ⟨#[]⟩], []⟩ 8 (by kernel_rfl) (by kernel_rfl) (by kernel_rfl)
      (x := ([.lit (.string []), .lit (.string [])], [], [])) (by kernel_rfl) (by kernel_rfl) (by kernel_rfl))

theorem proved : Rows.FrameOneUptoSaid :=
  OpenClaim.holds_of_cond 8 Try.f8 rfl rfl rfl rfl rfl rfl rfl ⟨rfl, rfl, rfl, rfl, rfl⟩ rfl rfl rfl rfl rfl (by kernel_rfl) Try.func8 (by kernel_rfl)
    (of_decide_eq_true (by kernel_rfl)) (by unfold Func.isWrapper; first | (rw [if_pos (by decide +kernel)]; kernel_rfl) | (rw [if_neg (by decide +kernel)]; exact ⟨rfl, rfl⟩))
    (fun os started H enc _ F => lifted os started H enc F)
end Go.Proofs.Ythcdcjidoacalaa.frameOneUpto
