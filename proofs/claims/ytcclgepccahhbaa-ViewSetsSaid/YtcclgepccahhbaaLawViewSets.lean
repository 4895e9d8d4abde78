/- For every row of writes and every write: what is set, whether keys rise, and how many bytes there are, is as the document says; what was handed in stays as it is. No condition. -/
import Derived.Test.YtcclgepccahhbaaPairIn
import Derived.Test.YtcclgepccahhbaaViewShown
namespace Go.Proofs.Ytcclgepccahhbaa.viewSets
set_option maxRecDepth 100000
open Go.ChangeShapes Go.WideShapes Go.ChangeAt Go.RowKit Prm Vm
set_option linter.unusedVariables false
set_option linter.unusedSimpArgs false

theorem wsizes_in {l : List Wr} (h : ∀ p ∈ l, WrIn p) : WSizes l := fun x hx => by have := h x hx; unfold WrIn at this; omega
set_option maxHeartbeats 8000000 in
set_option maxRecDepth 100000 in
theorem walk (A : Option Addr) (n c : Nat) (l : List Wr) (x : Wr) (w : World) (hd : In_ writeK w A n c l) (hb : n * 40 ≤ 140737488351232) (hp : ∀ p ∈ l, WrIn p) (px : WrIn x) :
    Calls Try.prog 3 #[.slice A n c, .agg #[.string x.key, .string x.val, .bool x.del]] w fun e w' => e = .returned (.bool true) ∧ Q w w' := by
  obtain ⟨xk, xv, xd⟩ := x
  have kx : xk.size ≤ maxLen := by have : xk.size ≤ 140737488351232 := px.1; unfold maxLen; omega
  have HD := Lib.hid hd
  have HM := Lib.hid hd.max
  have hn1 : (n + 1) * 40 ≤ 140737488355328 := by omega
  have HN := Lib.hid (show n * 40 ≤ 140737488355328 by omega)
  have P1 := Lib.hid (fun W (h : In_ writeK W A n c l) => vset_any ⟨xk, xv, xd⟩ A n c l W h hn1)
  have P2 := Lib.hid (fun W (h : In_ writeK W A n c l) => rvset_any ⟨xk, xv, xd⟩ A n c l W h.lst hn1 (wkeys_in hp) kx)
  have S1 := Lib.hid (fun W (h : In_ writeK W A n c l) => vsize_any A n c l W h.lst h.max (wsizes_in hp))
  have S2 := Lib.hid (fun W (h : In_ writeK W A n c l) => rvSize_any A n c l W h.lst h.max (wsizes_in hp))
  have U1 := Lib.hid (fun W (h : In_ writeK W A n c l) => vrises_any A n c l W h.lst h.max)
  have U2 := Lib.hid (fun W (h : In_ writeK W A n c l) => rvRises_any A n c l W h.lst h.max (wkeys_in hp))
  have LN := Lib.hid (show (putW l ⟨xk, xv, xd⟩).length ≤ maxLen by have := put_wlen l ⟨xk, xv, xd⟩; have := hd.len; unfold maxLen; omega)
  generalize putW l ⟨xk, xv, xd⟩ = r at P1 P2 LN
  generalize szI l = sz at S1 S2
  generalize risesB l = rb at U1 U2
  have q0 := Lib.hid ((Q.refl w).alloc (.cells #[.string xk, .string xv, .bool xd] 24))
  have X0 := Lib.hid (xbox w xk xv xd)
  clear hd hp px hb kx hn1
  go_enter Try.func3, Try.ntmps3
  go_upto_region 1 with (fail)
  generalize w.alloc (.cells #[.string xk, .string xv, .bool xd] 24) = W0 at q0 X0 ⊢
  obtain ⟨x0, x1, x2⟩ := X0.out
  go_wp2_with fail
  refine (vshown_any _).mono ?_
  rintro e w1 ⟨rfl, q1⟩
  have Q1 := Lib.hid (q0.out.trans q1)
  have y0 := box_ q1 x0
  have y1 := box_ q1 x1
  have y2 := box_ q1 x2
  clear x0 x1 x2 X0 q1
  go_upto_region 3 with (at_builtin
                         refine wpl_appKM writeK rfl (.tmp 10) (.tmp 11) 22 rfl rfl w1.heap.size (some ⟨w1.heap.size, 0, none⟩) 0 0 [] rfl (OwnK.lit0 writeK w1 _ (Nat.le_refl _)) A n c l rfl (HD.out.lst.q (Q1.out.alloc _)) HD.out.nil n (by simp) l rfl HN.out (by simp) ?_
                         intro A2 c2 w2 o2 b2
                         have O2 := Lib.hid o2
                         have q2 := Lib.hid (show Q w1 w2 from ((Q.refl w1).alloc (.cells #[] 24)).below.trans b2)
                         clear o2 b2)
  have Q2 := Lib.hid (Q1.out.trans q2.out)
  have z0 := box_ q2.out y0
  have z1 := box_ q2.out y1
  have z2 := box_ q2.out y2
  clear y0 y1 y2
  refine wp_region_held_drew (S := Q w2) (by kernel_rfl) ?szz0 (fun hHeld => ?rzz0)
  case szz0 =>
    exact (Q.refl w2).drew
  case' rzz0 => skip
  refine wpAnyH_take (i := 0) (oi := ?ozz1) (v := ?vzz1) ?hzz1 ?azz1 ?bzz1 ?czz1 ?qzz1 ?yzz1 ?szz1 ?rzz1
  case hzz1 => simp only [List.getElem?_toArray, List.getElem?_cons_zero]; rfl
  case azz1 => kernel_rfl
  case bzz1 => kernel_rfl
  case czz1 => kernel_rfl
  case yzz1 =>
    refine Or.inl ⟨by rfl, ?_⟩
    intro w hSw
    have u0 := box_ hSw z0; have u1 := box_ hSw z1; have u2 := box_ hSw z2; clear hSw
    go_simp
    try with_reducible rfl
  case qzz1 => exact fun _ _ _ h => h
  case szz1 => first | assumption | trivial
  case' rzz1 => simp only [Act.put, List.setIfInBounds_toArray, List.set_cons_zero, List.set_cons_succ]
  refine wpAnyH_take (i := 1) (oi := ?ozz2) (v := ?vzz2) ?hzz2 ?azz2 ?bzz2 ?czz2 ?qzz2 ?yzz2 ?szz2 ?rzz2
  case hzz2 => simp only [List.getElem?_toArray, List.getElem?_cons_zero, List.getElem?_cons_succ]; rfl
  case azz2 => kernel_rfl
  case bzz2 => kernel_rfl
  case czz2 => kernel_rfl
  case yzz2 =>
    refine Or.inl ⟨by rfl, ?_⟩
    intro w hSw
    have u0 := box_ hSw z0; have u1 := box_ hSw z1; have u2 := box_ hSw z2; clear hSw
    go_simp
    try with_reducible rfl
  case qzz2 => exact fun _ _ _ h => h
  case szz2 => first | assumption | trivial
  case' rzz2 => simp only [Act.put, List.setIfInBounds_toArray, List.set_cons_zero, List.set_cons_succ]
  refine wpAnyH_take (i := 3) (oi := ?ozz3) (v := ?vzz3) ?hzz3 ?azz3 ?bzz3 ?czz3 ?qzz3 ?yzz3 ?szz3 ?rzz3
  case hzz3 => simp only [List.getElem?_toArray, List.getElem?_cons_zero, List.getElem?_cons_succ]; rfl
  case azz3 => kernel_rfl
  case bzz3 => kernel_rfl
  case czz3 => kernel_rfl
  case yzz3 =>
    refine Or.inl ⟨by rfl, ?_⟩
    intro w hSw
    have u0 := box_ hSw z0; have u1 := box_ hSw z1; have u2 := box_ hSw z2; clear hSw
    go_simp
    try with_reducible rfl
  case qzz3 => exact fun _ _ _ h => h
  case szz3 => first | assumption | trivial
  case' rzz3 => simp only [Act.put, List.setIfInBounds_toArray, List.set_cons_zero, List.set_cons_succ]
  refine wpAnyH_take (i := 4) (oi := ?ozz4) (v := ?vzz4) ?hzz4 ?azz4 ?bzz4 ?czz4 ?qzz4 ?yzz4 ?szz4 ?rzz4
  case hzz4 => simp only [List.getElem?_toArray, List.getElem?_cons_zero, List.getElem?_cons_succ]; rfl
  case azz4 => kernel_rfl
  case bzz4 => kernel_rfl
  case czz4 => kernel_rfl
  case yzz4 =>
    refine Or.inl ⟨by rfl, ?_⟩
    intro w hSw
    have u0 := box_ hSw z0; have u1 := box_ hSw z1; have u2 := box_ hSw z2; clear hSw
    go_simp
    try with_reducible rfl
  case qzz4 => exact fun _ _ _ h => h
  case szz4 => first | assumption | trivial
  case' rzz4 => simp only [Act.put, List.setIfInBounds_toArray, List.set_cons_zero, List.set_cons_succ]
  refine wpAnyH_ready (rs := [2]) (by kernel_rfl) (by simp) ?_
  refine AllReadyH.cons (o := ?ozz8) ?hzz8 (fun K hK => ?kzz8) ?mzz8
  case hzz8 => simp only [List.getElem?_toArray, List.getElem?_cons_zero, List.getElem?_cons_succ]; rfl
  case kzz8 =>
    go_simp
    refine (P1.out _ (HD.out.q (Q2.out.trans hHeld))).mono ?_
    rintro e v1 ⟨A5, c5, rfl, o5, q5⟩
    have O5 := Lib.hid o5
    clear o5
    go_wp2_with fail
    refine hK.out _ _ ?Szz8 (fun hHeld => ?Rzz8)
    case Szz8 =>
      exact hHeld.trans q5
    case Rzz8 =>
      clear hK K
      try simp only [Act.put, List.setIfInBounds_toArray, List.set_cons_zero, List.set_cons_succ]
      refine wpAnyH_ready (rs := [5]) (by kernel_rfl) (by simp) ?_
      refine AllReadyH.cons (o := ?ozz7) ?hzz7 (fun K hK => ?kzz7) ?mzz7
      case hzz7 => simp only [List.getElem?_toArray, List.getElem?_cons_zero, List.getElem?_cons_succ]; rfl
      case kzz7 =>
        go_simp
        refine (P2.out _ (HD.out.q (Q2.out.trans hHeld))).mono ?_
        rintro e v2 ⟨A6, c6, rfl, o6, q6⟩
        have O5 := Lib.hid (O5.out.q q6)
        have O6 := Lib.hid o6
        clear o6
        go_wp2_with fail
        refine hK.out _ _ ?Szz7 (fun hHeld => ?Rzz7)
        case Szz7 =>
          exact hHeld.trans q6
        case Rzz7 =>
          clear hK K
          try simp only [Act.put, List.setIfInBounds_toArray, List.set_cons_zero, List.set_cons_succ]
          refine wpAnyH_ready (rs := [6]) (by kernel_rfl) (by simp) ?_
          refine AllReadyH.cons (o := ?ozz6) ?hzz6 (fun K hK => ?kzz6) ?mzz6
          case hzz6 => simp only [List.getElem?_toArray, List.getElem?_cons_zero, List.getElem?_cons_succ]; rfl
          case kzz6 =>
            go_simp
            refine (wsame A5 A6 r.length c5 c6 r _ O5.out.lst O6.out.lst LN.out).mono ?_
            rintro e v3 ⟨rfl, q7⟩
            go_wp2_with fail
            refine hK.out _ _ ?Szz6 (fun hHeld => ?Rzz6)
            case Szz6 =>
              exact hHeld.trans q7
            case Rzz6 =>
              clear hK K
              try simp only [Act.put, List.setIfInBounds_toArray, List.set_cons_zero, List.set_cons_succ]
              refine wpAnyH_take (i := 7) (oi := ?ozz5) (v := ?vzz5) ?hzz5 ?azz5 ?bzz5 ?czz5 ?qzz5 ?yzz5 ?szz5 ?rzz5
              case hzz5 => simp only [List.getElem?_toArray, List.getElem?_cons_zero, List.getElem?_cons_succ]; rfl
              case azz5 => kernel_rfl
              case bzz5 => kernel_rfl
              case czz5 => kernel_rfl
              case yzz5 =>
                refine Or.inl ⟨by rfl, ?_⟩
                intro w hSw
                have u0 := box_ hSw z0; have u1 := box_ hSw z1; have u2 := box_ hSw z2; clear hSw
                go_simp
                try with_reducible rfl
              case qzz5 => exact fun _ _ _ h => h
              case szz5 => first | assumption | trivial
              case' rzz5 => simp only [Act.put, List.setIfInBounds_toArray, List.set_cons_zero, List.set_cons_succ]
              refine wpAnyH_done (by kernel_rfl) ?_ _
              have Q3 := Lib.hid (Q2.out.trans hHeld)
              have O3 := Lib.hid (O2.out.q hHeld)
              go_wp2_with fail
              refine (wsame A A2 n c c2 l _ (HD.out.lst.q Q3.out) O3.out.lst HM.out).mono ?_
              rintro e v4 ⟨rfl, q8⟩
              have Q4 := Lib.hid (Q3.out.trans q8)
              clear q8
              go_wp2_with fail
              refine (S1.out _ (HD.out.q Q4.out)).mono ?_
              rintro e v5 ⟨rfl, q9⟩
              have Q5 := Lib.hid (Q4.out.trans q9)
              clear q9
              go_wp2_with fail
              refine (S2.out _ (HD.out.q Q5.out)).mono ?_
              rintro e v6 ⟨rfl, q9⟩
              have Q6 := Lib.hid (Q5.out.trans q9)
              clear q9
              go_wp2_with fail
              refine (U1.out _ (HD.out.q Q6.out)).mono ?_
              rintro e v7 ⟨rfl, q9⟩
              have Q7 := Lib.hid (Q6.out.trans q9)
              clear q9
              go_wp2_with fail
              refine (U2.out _ (HD.out.q Q7.out)).mono ?_
              rintro e v8 ⟨rfl, q9⟩
              have Q8 := Lib.hid (Q7.out.trans q9)
              clear q9
              go_wp2
              all_goals go_ret
              all_goals exact ⟨by first | rfl | simp, Q8.out⟩
          case' mzz6 => skip
          exact AllReadyH.nil
      case' mzz7 => skip
      exact AllReadyH.nil
  case' mzz8 => skip
  exact AllReadyH.nil

theorem opened (W : World) (args : Array Value) (hn : args.size = 2) (h : ∀ (j : Nat) t v, Try.f3.params[j]? = some t → args[j]? = some v → RdV W t v) :
    Calls Try.prog 3 args W fun e W' => e = .returned (.bool true) ∧ Q W W' := by
  obtain ⟨v0, v1, rfl⟩ := args2 hn
  rw [Try.params3] at h
  obtain ⟨A0, n0, c0, e0, r0⟩ := (h 0 22 v0 rfl rfl).slice Try.underlying22
  obtain ⟨B0, m0, d0, w, f0, hd0, hb0, hp0⟩ := open_writes r0
  simp only [List.cons.injEq, Value.slice.injEq, and_true] at f0
  obtain ⟨rfl, rfl, rfl⟩ := f0
  obtain ⟨cs1, e1, r1⟩ := (h 1 24 v1 rfl rfl).struct Try.underlying24
  obtain ⟨x, f1, p1⟩ := open_write r1
  subst f1
  subst e0 e1
  exact walk A0 n0 c0 w x W hd0 hb0 hp0 p1

set_option maxRecDepth 100000 in
theorem lifted (os : Os) (started : os.Started) (H : Type) (enc : TypeId × Value → H) :
    ReturnsInHanded {} Try.checked os 3 .any (Rows.viewSetsSpec.pre6 enc Try.prog Try.f3 Rows.viewSetsRow.domain false) (Rows.viewSetsSpec.post enc Try.prog Try.f3 false true false false) :=
  framed 2 Try.func3 (by rw [Try.params3]; rfl) rfl (by kernel_rfl) (by kernel_rfl) (by kernel_rfl)
    (fun H ds h => by match ds, h with | [d0, d1], _ => exact ⟨rfl, rfl, rfl⟩)
    opened os started H enc
    (ChangeSpec.witness6 (enc := enc) (C := Try.checked) false ⟨#[], #[.slice none 0 0, .agg #[.string ByteArray.empty, .string ByteArray.empty, .bool false]], []⟩ 8 (by kernel_rfl) (by kernel_rfl) (by kernel_rfl) (by kernel_rfl))

theorem over : Rows.viewSetsRow.holds Try.pinned (OpenSpec.ofChange Rows.viewSetsSpec) :=
  OpenClaim.holds_of_wide 3 Try.f3 rfl rfl rfl rfl rfl rfl rfl ⟨rfl, rfl, rfl, rfl, rfl⟩ rfl rfl rfl rfl rfl (by kernel_rfl) Try.func3 (by kernel_rfl)
    (of_decide_eq_true (by kernel_rfl)) (by unfold Func.isWrapper; first | (rw [if_pos (by decide +kernel)]; kernel_rfl) | (rw [if_neg (by decide +kernel)]; exact ⟨rfl, rfl⟩))
    (fun os started H enc _ => lifted os started H enc)

theorem proved : Rows.ViewSetsSaid := over
end Go.Proofs.Ytcclgepccahhbaa.viewSets
