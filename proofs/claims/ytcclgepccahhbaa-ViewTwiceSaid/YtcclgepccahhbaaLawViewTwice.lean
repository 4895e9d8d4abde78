/- For every row of writes and two writes: of two sets of a key the last one counts. No condition. -/
import Derived.Test.YtcclgepccahhbaaPairIn
import Derived.Test.YtcclgepccahhbaaViewShown
import Derived.Test.YtcclgepccahhbaaBx2
namespace Go.Proofs.Ytcclgepccahhbaa.viewTwice
set_option maxRecDepth 100000
open Go.ChangeShapes Go.WideShapes Go.ChangeAt Go.RowKit Prm Vm
set_option linter.unusedVariables false
set_option linter.unusedSimpArgs false

set_option maxHeartbeats 8000000 in
set_option maxRecDepth 100000 in
theorem walk (A : Option Addr) (n c : Nat) (l : List Wr) (a b : Wr) (w : World) (hd : In_ writeK w A n c l) (hb : n * 40 ≤ 140737488351232) (hp : ∀ p ∈ l, WrIn p) (pa : WrIn a) (pb : WrIn b) :
    Calls Try.prog 8 #[.slice A n c, .agg #[.string a.key, .string a.val, .bool a.del], .agg #[.string b.key, .string b.val, .bool b.del]] w fun e w' => e = .returned (.bool true) ∧ Q w w' := by
  obtain ⟨ak, av, ad⟩ := a
  obtain ⟨bk, bv, bd⟩ := b
  have HD := Lib.hid hd
  have hn1 : (n + 1) * 40 ≤ 140737488355328 := by omega
  have P1 := Lib.hid (fun W (h : In_ writeK W A n c l) => vset_any ⟨bk, av, ad⟩ A n c l W h hn1)
  have P3 := Lib.hid (fun W (h : In_ writeK W A n c l) => vset_any ⟨bk, bv, bd⟩ A n c l W h hn1)
  have E1 := Lib.hid (Vm.put_put (a := ⟨bk, av, ad⟩) (b := ⟨bk, bv, bd⟩) rfl l)
  have hl1 := put_wlen l ⟨bk, av, ad⟩
  have hl2 := put_wlen l ⟨bk, bv, bd⟩
  have hl := hd.len
  have L1 := Lib.hid (show (putW l ⟨bk, av, ad⟩).length * 40 ≤ 140737488355328 by omega)
  have L2 := Lib.hid (show ((putW l ⟨bk, av, ad⟩).length + 1) * 40 ≤ 140737488355328 by omega)
  have LN := Lib.hid (show (putW l ⟨bk, bv, bd⟩).length ≤ maxLen by unfold maxLen; omega)
  generalize putW l ⟨bk, av, ad⟩ = r1 at P1 L1 L2 E1 hl1
  generalize putW l ⟨bk, bv, bd⟩ = r at P3 LN E1 hl2
  have P2 := Lib.hid (fun W A c (h : In_ writeK W A r1.length c r1) => vset_any ⟨bk, bv, bd⟩ A r1.length c r1 W h L2.out)
  rw [E1.out] at P2
  have b1 := Bx.new w [.string ak, .string av, .bool ad] 24
  have b2 := Bx.new (w.alloc (.cells #[.string ak, .string av, .bool ad] 24)) [.string bk, .string bv, .bool bd] 24
  have B1 := Lib.hid (b1.alloc (.cells #[.string bk, .string bv, .bool bd] 24))
  rw [show (w.alloc (.cells #[.string ak, .string av, .bool ad] 24)).heap.size = w.heap.size + 1 by simp] at b2
  have B2 : Hid (Bx ((w.alloc (.cells #[.string ak, .string av, .bool ad] 24)).alloc (.cells #[.string bk, .string bv, .bool bd] 24)) (w.heap.size + 1) [.string bk, .string bv, .bool bd]) := Lib.hid b2
  have B1 : Hid (Bx ((w.alloc (.cells #[.string ak, .string av, .bool ad] 24)).alloc (.cells #[.string bk, .string bv, .bool bd] 24)) w.heap.size [.string ak, .string av, .bool ad]) := B1
  have q0 := Lib.hid (((Q.refl w).alloc (.cells #[.string ak, .string av, .bool ad] 24)).alloc (.cells #[.string bk, .string bv, .bool bd] 24))
  clear hd hp hb hn1 b1 b2 E1 hl1 hl2 hl pa pb
  go_enter Try.func8, Try.ntmps8
  go_upto_region 1 with (fail)
  generalize (w.alloc (.cells #[.string ak, .string av, .bool ad] 24)).alloc (.cells #[.string bk, .string bv, .bool bd] 24) = W0 at q0 B1 B2 ⊢
  obtain ⟨⟨a0, a1, a2⟩, f0, f1, f2⟩ := B1.out.get3
  obtain ⟨⟨c0, c1, c2⟩, g0, g1, g2⟩ := B2.out.get3
  go_wp2_with fail
  refine (vshown_any _).mono ?_
  rintro e w1 ⟨rfl, q1⟩
  have Q1 := Lib.hid (q0.out.trans q1)
  have B1 := Lib.hid (B1.out.q q1)
  have B2 := Lib.hid (B2.out.q q1)
  clear q1 a0 a1 a2 f0 f1 f2 c0 c1 c2 g0 g1 g2
  obtain ⟨⟨a0, a1, a2⟩, f0, f1, f2⟩ := B1.out.get3
  obtain ⟨⟨c0, c1, c2⟩, g0, g1, g2⟩ := B2.out.get3
  go_upto_region 3 with (fail)
  have B1 := Lib.hid (B1.out.set (k := 0) (by simp) (.string bk))
  have B2 := Lib.hid (B2.out.far (p := ⟨w.heap.size, 0, none⟩) (by show w.heap.size ≠ w.heap.size + 1; omega) (.string bk))
  have Q2 := Lib.hid (Q1.out.setCell (p := ⟨w.heap.size, 0, none⟩) (Nat.le_refl _) (.string bk))
  generalize w1.setCell ⟨w.heap.size, 0, none⟩ (.string bk) = W2 at B1 B2 Q2 ⊢
  clear a0 a1 a2 f0 f1 f2 c0 c1 c2 g0 g1 g2
  obtain ⟨⟨a0, a1, a2⟩, f0, f1, f2⟩ := B1.out.get3
  obtain ⟨⟨c0, c1, c2⟩, g0, g1, g2⟩ := B2.out.get3
  refine wp_region_held_drew (S := Q W2) (by kernel_rfl) ?szz9 (fun hHeld => ?rzz9)
  case szz9 =>
    exact (Q.refl W2).drew
  case' rzz9 => skip
  refine wpAnyH_take (i := 0) (oi := ?ozz10) (v := ?vzz10) ?hzz10 ?azz10 ?bzz10 ?czz10 ?qzz10 ?yzz10 ?szz10 ?rzz10
  case hzz10 => simp only [List.getElem?_toArray, List.getElem?_cons_zero]; rfl
  case azz10 => kernel_rfl
  case bzz10 => kernel_rfl
  case czz10 => kernel_rfl
  case yzz10 =>
    refine Or.inl ⟨by rfl, ?_⟩
    intro w hSw
    have u0 := box_ hSw a0; have u1 := box_ hSw a1; have u2 := box_ hSw a2; have v0 := box_ hSw c0; have v1 := box_ hSw c1; have v2 := box_ hSw c2; clear hSw
    go_simp
    try with_reducible rfl
  case qzz10 => exact fun _ _ _ h => h
  case szz10 => first | assumption | trivial
  case' rzz10 => simp only [Act.put, List.setIfInBounds_toArray, List.set_cons_zero, List.set_cons_succ]
  refine wpAnyH_take (i := 1) (oi := ?ozz11) (v := ?vzz11) ?hzz11 ?azz11 ?bzz11 ?czz11 ?qzz11 ?yzz11 ?szz11 ?rzz11
  case hzz11 => simp only [List.getElem?_toArray, List.getElem?_cons_zero, List.getElem?_cons_succ]; rfl
  case azz11 => kernel_rfl
  case bzz11 => kernel_rfl
  case czz11 => kernel_rfl
  case yzz11 =>
    refine Or.inl ⟨by rfl, ?_⟩
    intro w hSw
    have u0 := box_ hSw a0; have u1 := box_ hSw a1; have u2 := box_ hSw a2; have v0 := box_ hSw c0; have v1 := box_ hSw c1; have v2 := box_ hSw c2; clear hSw
    go_simp
    try with_reducible rfl
  case qzz11 => exact fun _ _ _ h => h
  case szz11 => first | assumption | trivial
  case' rzz11 => simp only [Act.put, List.setIfInBounds_toArray, List.set_cons_zero, List.set_cons_succ]
  refine wpAnyH_take (i := 2) (oi := ?ozz12) (v := ?vzz12) ?hzz12 ?azz12 ?bzz12 ?czz12 ?qzz12 ?yzz12 ?szz12 ?rzz12
  case hzz12 => simp only [List.getElem?_toArray, List.getElem?_cons_zero, List.getElem?_cons_succ]; rfl
  case azz12 => kernel_rfl
  case bzz12 => kernel_rfl
  case czz12 => kernel_rfl
  case yzz12 =>
    refine Or.inl ⟨by rfl, ?_⟩
    intro w hSw
    have u0 := box_ hSw a0; have u1 := box_ hSw a1; have u2 := box_ hSw a2; have v0 := box_ hSw c0; have v1 := box_ hSw c1; have v2 := box_ hSw c2; clear hSw
    go_simp
    try with_reducible rfl
  case qzz12 => exact fun _ _ _ h => h
  case szz12 => first | assumption | trivial
  case' rzz12 => simp only [Act.put, List.setIfInBounds_toArray, List.set_cons_zero, List.set_cons_succ]
  refine wpAnyH_take (i := 3) (oi := ?ozz13) (v := ?vzz13) ?hzz13 ?azz13 ?bzz13 ?czz13 ?qzz13 ?yzz13 ?szz13 ?rzz13
  case hzz13 => simp only [List.getElem?_toArray, List.getElem?_cons_zero, List.getElem?_cons_succ]; rfl
  case azz13 => kernel_rfl
  case bzz13 => kernel_rfl
  case czz13 => kernel_rfl
  case yzz13 =>
    refine Or.inl ⟨by rfl, ?_⟩
    intro w hSw
    have u0 := box_ hSw a0; have u1 := box_ hSw a1; have u2 := box_ hSw a2; have v0 := box_ hSw c0; have v1 := box_ hSw c1; have v2 := box_ hSw c2; clear hSw
    go_simp
    try with_reducible rfl
  case qzz13 => exact fun _ _ _ h => h
  case szz13 => first | assumption | trivial
  case' rzz13 => simp only [Act.put, List.setIfInBounds_toArray, List.set_cons_zero, List.set_cons_succ]
  refine wpAnyH_take (i := 5) (oi := ?ozz14) (v := ?vzz14) ?hzz14 ?azz14 ?bzz14 ?czz14 ?qzz14 ?yzz14 ?szz14 ?rzz14
  case hzz14 => simp only [List.getElem?_toArray, List.getElem?_cons_zero, List.getElem?_cons_succ]; rfl
  case azz14 => kernel_rfl
  case bzz14 => kernel_rfl
  case czz14 => kernel_rfl
  case yzz14 =>
    refine Or.inl ⟨by rfl, ?_⟩
    intro w hSw
    have u0 := box_ hSw a0; have u1 := box_ hSw a1; have u2 := box_ hSw a2; have v0 := box_ hSw c0; have v1 := box_ hSw c1; have v2 := box_ hSw c2; clear hSw
    go_simp
    try with_reducible rfl
  case qzz14 => exact fun _ _ _ h => h
  case szz14 => first | assumption | trivial
  case' rzz14 => simp only [Act.put, List.setIfInBounds_toArray, List.set_cons_zero, List.set_cons_succ]
  refine wpAnyH_take (i := 7) (oi := ?ozz15) (v := ?vzz15) ?hzz15 ?azz15 ?bzz15 ?czz15 ?qzz15 ?yzz15 ?szz15 ?rzz15
  case hzz15 => simp only [List.getElem?_toArray, List.getElem?_cons_zero, List.getElem?_cons_succ]; rfl
  case azz15 => kernel_rfl
  case bzz15 => kernel_rfl
  case czz15 => kernel_rfl
  case yzz15 =>
    refine Or.inl ⟨by rfl, ?_⟩
    intro w hSw
    have u0 := box_ hSw a0; have u1 := box_ hSw a1; have u2 := box_ hSw a2; have v0 := box_ hSw c0; have v1 := box_ hSw c1; have v2 := box_ hSw c2; clear hSw
    go_simp
    try with_reducible rfl
  case qzz15 => exact fun _ _ _ h => h
  case szz15 => first | assumption | trivial
  case' rzz15 => simp only [Act.put, List.setIfInBounds_toArray, List.set_cons_zero, List.set_cons_succ]
  refine wpAnyH_take (i := 8) (oi := ?ozz16) (v := ?vzz16) ?hzz16 ?azz16 ?bzz16 ?czz16 ?qzz16 ?yzz16 ?szz16 ?rzz16
  case hzz16 => simp only [List.getElem?_toArray, List.getElem?_cons_zero, List.getElem?_cons_succ]; rfl
  case azz16 => kernel_rfl
  case bzz16 => kernel_rfl
  case czz16 => kernel_rfl
  case yzz16 =>
    refine Or.inl ⟨by rfl, ?_⟩
    intro w hSw
    have u0 := box_ hSw a0; have u1 := box_ hSw a1; have u2 := box_ hSw a2; have v0 := box_ hSw c0; have v1 := box_ hSw c1; have v2 := box_ hSw c2; clear hSw
    go_simp
    try with_reducible rfl
  case qzz16 => exact fun _ _ _ h => h
  case szz16 => first | assumption | trivial
  case' rzz16 => simp only [Act.put, List.setIfInBounds_toArray, List.set_cons_zero, List.set_cons_succ]
  refine wpAnyH_ready (rs := [4]) (by kernel_rfl) (by simp) ?_
  refine AllReadyH.cons (o := ?ozz22) ?hzz22 (fun K hK => ?kzz22) ?mzz22
  case hzz22 => simp only [List.getElem?_toArray, List.getElem?_cons_zero, List.getElem?_cons_succ]; rfl
  case kzz22 =>
    go_simp
    refine (P1.out _ (HD.out.q (Q2.out.trans hHeld))).mono ?_
    rintro e v1 ⟨A5, c5, rfl, o5, q5⟩
    have I5 := Lib.hid (o5.in_ L1.out)
    clear o5
    go_wp2_with fail
    refine hK.out _ _ ?Szz22 (fun hHeld => ?Rzz22)
    case Szz22 =>
      exact hHeld.trans q5
    case Rzz22 =>
      clear hK K
      try simp only [Act.put, List.setIfInBounds_toArray, List.set_cons_zero, List.set_cons_succ]
      refine wpAnyH_ready (rs := [6]) (by kernel_rfl) (by simp) ?_
      refine AllReadyH.cons (o := ?ozz21) ?hzz21 (fun K hK => ?kzz21) ?mzz21
      case hzz21 => simp only [List.getElem?_toArray, List.getElem?_cons_zero, List.getElem?_cons_succ]; rfl
      case kzz21 =>
        go_simp
        refine (P2.out _ A5 c5 I5.out).mono ?_
        rintro e v2 ⟨A6, c6, rfl, o6, q6⟩
        have O6 := Lib.hid o6
        clear o6
        go_wp2_with fail
        refine hK.out _ _ ?Szz21 (fun hHeld => ?Rzz21)
        case Szz21 =>
          exact hHeld.trans q6
        case Rzz21 =>
          clear hK K
          try simp only [Act.put, List.setIfInBounds_toArray, List.set_cons_zero, List.set_cons_succ]
          refine wpAnyH_ready (rs := [9]) (by kernel_rfl) (by simp) ?_
          refine AllReadyH.cons (o := ?ozz20) ?hzz20 (fun K hK => ?kzz20) ?mzz20
          case hzz20 => simp only [List.getElem?_toArray, List.getElem?_cons_zero, List.getElem?_cons_succ]; rfl
          case kzz20 =>
            go_simp
            refine (P3.out _ (HD.out.q (Q2.out.trans hHeld))).mono ?_
            rintro e v3 ⟨A7, c7, rfl, o7, q7⟩
            have O6 := Lib.hid (O6.out.q q7)
            have O7 := Lib.hid o7
            clear o7
            go_wp2_with fail
            refine hK.out _ _ ?Szz20 (fun hHeld => ?Rzz20)
            case Szz20 =>
              exact hHeld.trans q7
            case Rzz20 =>
              clear hK K
              try simp only [Act.put, List.setIfInBounds_toArray, List.set_cons_zero, List.set_cons_succ]
              refine wpAnyH_ready (rs := [10]) (by kernel_rfl) (by simp) ?_
              refine AllReadyH.cons (o := ?ozz19) ?hzz19 (fun K hK => ?kzz19) ?mzz19
              case hzz19 => simp only [List.getElem?_toArray, List.getElem?_cons_zero, List.getElem?_cons_succ]; rfl
              case kzz19 =>
                go_simp
                refine (wsame A6 A7 r.length c6 c7 r _ O6.out.lst O7.out.lst LN.out).mono ?_
                rintro e v4 ⟨rfl, q8⟩
                go_wp2_with fail
                refine hK.out _ _ ?Szz19 (fun hHeld => ?Rzz19)
                case Szz19 =>
                  exact hHeld.trans q8
                case Rzz19 =>
                  clear hK K
                  try simp only [Act.put, List.setIfInBounds_toArray, List.set_cons_zero, List.set_cons_succ]
                  refine wpAnyH_take (i := 11) (oi := ?ozz17) (v := ?vzz17) ?hzz17 ?azz17 ?bzz17 ?czz17 ?qzz17 ?yzz17 ?szz17 ?rzz17
                  case hzz17 => simp only [List.getElem?_toArray, List.getElem?_cons_zero, List.getElem?_cons_succ]; rfl
                  case azz17 => kernel_rfl
                  case bzz17 => kernel_rfl
                  case czz17 => kernel_rfl
                  case yzz17 =>
                    refine Or.inl ⟨by rfl, ?_⟩
                    intro w hSw
                    have u0 := box_ hSw a0; have u1 := box_ hSw a1; have u2 := box_ hSw a2; have v0 := box_ hSw c0; have v1 := box_ hSw c1; have v2 := box_ hSw c2; clear hSw
                    go_simp
                    try with_reducible rfl
                  case qzz17 => exact fun _ _ _ h => h
                  case szz17 => first | assumption | trivial
                  case' rzz17 => simp only [Act.put, List.setIfInBounds_toArray, List.set_cons_zero, List.set_cons_succ]
                  refine wpAnyH_take (i := 12) (oi := ?ozz18) (v := ?vzz18) ?hzz18 ?azz18 ?bzz18 ?czz18 ?qzz18 ?yzz18 ?szz18 ?rzz18
                  case hzz18 => simp only [List.getElem?_toArray, List.getElem?_cons_zero, List.getElem?_cons_succ]; rfl
                  case azz18 => kernel_rfl
                  case bzz18 => kernel_rfl
                  case czz18 => kernel_rfl
                  case yzz18 =>
                    refine Or.inl ⟨by rfl, ?_⟩
                    intro w hSw
                    have u0 := box_ hSw a0; have u1 := box_ hSw a1; have u2 := box_ hSw a2; have v0 := box_ hSw c0; have v1 := box_ hSw c1; have v2 := box_ hSw c2; clear hSw
                    go_simp
                    try with_reducible rfl
                  case qzz18 => exact fun _ _ _ h => h
                  case szz18 => first | assumption | trivial
                  case' rzz18 => simp only [Act.put, List.setIfInBounds_toArray, List.set_cons_zero, List.set_cons_succ]
                  refine wpAnyH_done (by kernel_rfl) ?_ _
                  have Q3 := Lib.hid (Q2.out.trans hHeld)
                  go_wp2
                  all_goals go_ret
                  all_goals exact ⟨by first | rfl | simp, Q3.out⟩
              case' mzz19 => skip
              exact AllReadyH.nil
          case' mzz20 => skip
          exact AllReadyH.nil
      case' mzz21 => skip
      exact AllReadyH.nil
  case' mzz22 => skip
  exact AllReadyH.nil

theorem opened (W : World) (args : Array Value) (hn : args.size = 3) (h : ∀ (j : Nat) t v, Try.f8.params[j]? = some t → args[j]? = some v → RdV W t v) :
    Calls Try.prog 8 args W fun e W' => e = .returned (.bool true) ∧ Q W W' := by
  obtain ⟨v0, v1, v2, rfl⟩ := args3 hn
  rw [Try.params8] at h
  obtain ⟨A0, n0, c0, e0, r0⟩ := (h 0 22 v0 rfl rfl).slice Try.underlying22
  obtain ⟨B0, m0, d0, w, f0, hd0, hb0, hp0⟩ := open_writes r0
  simp only [List.cons.injEq, Value.slice.injEq, and_true] at f0
  obtain ⟨rfl, rfl, rfl⟩ := f0
  obtain ⟨cs1, e1, r1⟩ := (h 1 24 v1 rfl rfl).struct Try.underlying24
  obtain ⟨a, f1, p1⟩ := open_write r1
  subst f1
  obtain ⟨cs2, e2, r2⟩ := (h 2 24 v2 rfl rfl).struct Try.underlying24
  obtain ⟨b, f2, p2⟩ := open_write r2
  subst f2
  subst e0 e1 e2
  exact walk A0 n0 c0 w a b W hd0 hb0 hp0 p1 p2

set_option maxRecDepth 100000 in
theorem lifted (os : Os) (started : os.Started) (H : Type) (enc : TypeId × Value → H) :
    ReturnsInHanded {} Try.checked os 8 .any (Rows.viewTwiceSpec.pre6 enc Try.prog Try.f8 Rows.viewTwiceRow.domain false) (Rows.viewTwiceSpec.post enc Try.prog Try.f8 false true false false) :=
  framed 3 Try.func8 (by rw [Try.params8]; rfl) rfl (by kernel_rfl) (by kernel_rfl) (by kernel_rfl)
    (fun H ds h => by match ds, h with | [d0, d1, d2], _ => exact ⟨rfl, rfl, rfl⟩)
    opened os started H enc
    (ChangeSpec.witness6 (enc := enc) (C := Try.checked) false ⟨#[], #[.slice none 0 0, .agg #[.string ByteArray.empty, .string ByteArray.empty, .bool false], .agg #[.string ByteArray.empty, .string ByteArray.empty, .bool false]], []⟩ 8 (by kernel_rfl) (by kernel_rfl) (by kernel_rfl) (by kernel_rfl))

theorem over : Rows.viewTwiceRow.holds Try.pinned (OpenSpec.ofChange Rows.viewTwiceSpec) :=
  OpenClaim.holds_of_wide 8 Try.f8 rfl rfl rfl rfl rfl rfl rfl ⟨rfl, rfl, rfl, rfl, rfl⟩ rfl rfl rfl rfl rfl (by kernel_rfl) Try.func8 (by kernel_rfl)
    (of_decide_eq_true (by kernel_rfl)) (by unfold Func.isWrapper; first | (rw [if_pos (by decide +kernel)]; kernel_rfl) | (rw [if_neg (by decide +kernel)]; exact ⟨rfl, rfl⟩))
    (fun os started H enc _ => lifted os started H enc)

theorem proved : Rows.ViewTwiceSaid := over
end Go.Proofs.Ytcclgepccahhbaa.viewTwice
