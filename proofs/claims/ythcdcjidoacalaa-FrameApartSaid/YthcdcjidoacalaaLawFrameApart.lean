/- For every two texts and every number: two texts' frames are the same just if the texts are; no beginning of a frame is one. No condition. -/
import Derived.Test.YthcdcjidoacalaaFrmIn
import Derived.Test.YthcdcjidoacalaaFrame
namespace Go.Proofs.Ythcdcjidoacalaa.frameApart
set_option maxRecDepth 100000
open Go.ChangeShapes Go.WideShapes Go.ChangeAt Go.RowKit Fm
set_option linter.unusedVariables false
set_option linter.unusedSimpArgs false

set_option maxHeartbeats 4000000 in
theorem walk (a b : ByteArray) (cut : Int) (w : World) (s0 : a.size ≤ 140737488351232) (s1 : b.size ≤ 140737488351232) (hcut : -9223372036854775808 ≤ cut ∧ cut ≤ 9223372036854775807) :
    Calls Try.prog 7 #[.string a, .string b, .int .i64 cut] w fun e w' => e = .returned (.bool true) ∧ Q w w' := by
  have K0 := Lib.hid (fun W => fshown_any W)
  have K1 := Lib.hid (fun W => fwrap_any a W (by omega))
  have K2 := Lib.hid (fun W => fwrap_any b W (by omega))
  obtain ⟨hc0, hc1⟩ := hcut
  have la : a.data.toList.length = a.size := size_list a
  have lb : b.data.toList.length = b.size := size_list b
  by_cases ha : 2048 < a.size
  · have e1 : wrapR a.data.toList = .tuple #[.string ⟨#[]⟩, .int .i64 4] := by unfold wrapR; rw [if_pos (by omega)]
    obtain ⟨X, k, hX⟩ : ∃ X k, wrapR b.data.toList = .tuple #[.string X, .int .i64 k] := by
      unfold wrapR
      split <;> exact ⟨_, _, rfl⟩
    rw [e1] at K1
    rw [hX] at K2
    clear e1 hX ha la lb s0 s1
    go_enter Try.func7, Try.ntmps7
    go_wp2_with fail
    refine (K0.out _).mono ?_
    rintro e w1 ⟨rfl, q1⟩
    go_wp2_with fail
    refine (K1.out _).mono ?_
    rintro e w2 ⟨rfl, q2⟩
    go_wp2_with fail
    refine (K2.out _).mono ?_
    rintro e w3 ⟨rfl, q3⟩
    go_wp2
    go_ret
    exact ⟨rfl, (q1.trans q2).trans q3⟩
  have e1 : wrapR a.data.toList = .tuple #[.string (tx (wrap a.data.toList)), .int .i64 0] := by unfold wrapR; rw [if_neg (by omega)]
  rw [e1] at K1
  by_cases hb : 2048 < b.size
  · have e2 : wrapR b.data.toList = .tuple #[.string ⟨#[]⟩, .int .i64 4] := by unfold wrapR; rw [if_pos (by omega)]
    rw [e2] at K2
    generalize tx (wrap a.data.toList) = X at K1
    clear e1 e2 ha hb la lb s0 s1
    go_enter Try.func7, Try.ntmps7
    go_wp2_with fail
    refine (K0.out _).mono ?_
    rintro e w1 ⟨rfl, q1⟩
    go_wp2_with fail
    refine (K1.out _).mono ?_
    rintro e w2 ⟨rfl, q2⟩
    go_wp2_with fail
    refine (K2.out _).mono ?_
    rintro e w3 ⟨rfl, q3⟩
    go_wp2
    go_ret
    exact ⟨rfl, (q1.trans q2).trans q3⟩
  have e2 : wrapR b.data.toList = .tuple #[.string (tx (wrap b.data.toList)), .int .i64 0] := by unfold wrapR; rw [if_neg (by omega)]
  rw [e2] at K2
  have hab : ((tx (wrap a.data.toList)).toList == (tx (wrap b.data.toList)).toList) = (a.toList == b.toList) := by
    rw [same_str, same_str]
    congr 1
    refine propext ⟨fun h => ?_, fun h => by rw [h]⟩
    have := wrap_inj (by omega) (by omega) (tx_inj h)
    rw [← tx_list a, this, tx_list]
  have hwc := fun k (hk : k < (wrap a.data.toList).length) => wrap_cut (s := a.data.toList) (by omega) hk
  have hls := tx_size (wrap a.data.toList)
  have hll : (wrap a.data.toList).length ≤ 2100 := by
    have := Dm.num_length a.data.toList.length (by omega)
    unfold wrap; rw [List.length_append]; omega
  have hext : ∀ k : Nat, ((tx (wrap a.data.toList)).extract 0 k).data.toList = (wrap a.data.toList).take k := fun k => by
    rw [extract_list]
    show ((wrap a.data.toList).take k).drop 0 = _
    rw [List.drop_zero]
  generalize wrap a.data.toList = wa at *
  generalize hXX : tx wa = X at *
  generalize tx (wrap b.data.toList) = Y at *
  generalize hax : (a.toList == b.toList) = t at hab
  clear e1 e2 ha hb la lb s0 s1
  by_cases hn : cut < 0
  · clear hwc hext hXX
    go_enter Try.func7, Try.ntmps7
    go_wp2_with fail
    refine (K0.out _).mono ?_
    rintro e w1 ⟨rfl, q1⟩
    go_wp2_with fail
    refine (K1.out _).mono ?_
    rintro e w2 ⟨rfl, q2⟩
    go_wp2_with fail
    refine (K2.out _).mono ?_
    rintro e w3 ⟨rfl, q3⟩
    go_wp2
    go_ret
    exact ⟨rfl, (q1.trans q2).trans q3⟩
  obtain ⟨k, rfl⟩ : ∃ k : Nat, cut = (k : Int) := ⟨cut.toNat, by omega⟩
  by_cases hk : k < X.size
  case neg =>
    clear hwc hext hXX
    go_enter Try.func7, Try.ntmps7
    go_wp2_with fail
    refine (K0.out _).mono ?_
    rintro e w1 ⟨rfl, q1⟩
    go_wp2_with fail
    refine (K1.out _).mono ?_
    rintro e w2 ⟨rfl, q2⟩
    go_wp2_with fail
    refine (K2.out _).mono ?_
    rintro e w3 ⟨rfl, q3⟩
    go_wp2
    go_ret
    exact ⟨rfl, (q1.trans q2).trans q3⟩
  obtain ⟨hw1, hw2⟩ := hwc k (by omega)
  have K3 := Lib.hid (fun W => fwhole_any (X.extract 0 k) W (by rw [ByteArray.size_extract]; unfold maxLen; omega) (by rw [hext, hw1]; simp))
  have hu : usedN (wa.take k) = 0 := by unfold usedN; rw [hw1]; rfl
  rw [hext, hw1, hw2, hu] at K3
  clear hwc hext hw1 hw2 hu hXX
  go_enter Try.func7, Try.ntmps7
  go_wp2_with fail
  refine (K0.out _).mono ?_
  rintro e w1 ⟨rfl, q1⟩
  go_wp2_with fail
  refine (K1.out _).mono ?_
  rintro e w2 ⟨rfl, q2⟩
  go_wp2_with fail
  refine (K2.out _).mono ?_
  rintro e w3 ⟨rfl, q3⟩
  go_wp2_with fail
  refine (K3.out _).mono ?_
  rintro e w4 ⟨A, c, rfl, _, q4⟩
  go_wp2
  go_ret
  exact ⟨rfl, ((q1.trans q2).trans q3).trans q4⟩

theorem opened (W : World) (args : Array Value) (hn : args.size = 3) (h : ∀ (j : Nat) t v, Try.f7.params[j]? = some t → args[j]? = some v → RdV W t v) :
    Calls Try.prog 7 args W fun e W' => e = .returned (.bool true) ∧ Q W W' := by
  obtain ⟨v0, v1, v2, rfl⟩ := args3 hn
  rw [Try.params7] at h
  obtain ⟨a, e0, s0⟩ := (h 0 9 v0 rfl rfl).string Try.underlying9
  obtain ⟨b, e1, s1⟩ := (h 1 9 v1 rfl rfl).string Try.underlying9
  obtain ⟨cut, e2, s2⟩ := (h 2 3 v2 rfl rfl).int Try.underlying3
  subst e0 e1 e2
  exact walk a b cut W s0 s1 (wf_i64 s2)

set_option maxRecDepth 100000 in
theorem lifted (os : Os) (started : os.Started) (H : Type) (enc : TypeId × Value → H) :
    ReturnsInHanded {} Try.checked os 7 .any (Rows.frameApartSpec.pre6 enc Try.prog Try.f7 Rows.frameApartRow.domain false) (Rows.frameApartSpec.post enc Try.prog Try.f7 false true false false) :=
  framed 3 Try.func7 (by rw [Try.params7]; rfl) rfl (by kernel_rfl) (by kernel_rfl) (by kernel_rfl)
    (fun H ds h => by match ds, h with | [d0, d1, d2], _ => exact ⟨rfl, rfl, rfl⟩)
    opened os started H enc
    (ChangeSpec.witness6 (enc := enc) (C := Try.checked) false ⟨#[], #[.string ⟨#[]⟩, .string ⟨#[]⟩, .int .i64 0], []⟩ 8 (by kernel_rfl) (by kernel_rfl) (by kernel_rfl) (by kernel_rfl))

theorem over : Rows.frameApartRow.holds Try.pinned (OpenSpec.ofChange Rows.frameApartSpec) :=
  OpenClaim.holds_of_wide 7 Try.f7 rfl rfl rfl rfl rfl rfl rfl ⟨rfl, rfl, rfl, rfl, rfl⟩ rfl rfl rfl rfl rfl (by kernel_rfl) Try.func7 (by kernel_rfl)
    (of_decide_eq_true (by kernel_rfl)) (by unfold Func.isWrapper; first | (rw [if_pos (by decide +kernel)]; kernel_rfl) | (rw [if_neg (by decide +kernel)]; exact ⟨rfl, rfl⟩))
    (fun os started H enc _ => lifted os started H enc)

theorem proved : Rows.FrameApartSaid := over
end Go.Proofs.Ythcdcjidoacalaa.frameApart
