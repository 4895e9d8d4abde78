/- Contract: view.Set, one of its ways. -/
import Derived.Test.YtcclgepccahhbaaViewSet
namespace Go.Proofs.Ytcclgepccahhbaa
set_option maxRecDepth 100000
open Go.RowKit Prm Vm
set_option linter.unusedVariables false
set_option linter.unusedSimpArgs false

set_option maxHeartbeats 4000000 in
set_option maxRecDepth 100000 in
theorem vset_mid (ad : Addr) (n c k : Nat) (xk xv : ByteArray) (xd : Bool) (l : List Wr) (w : World) (hd : In_ writeK w (some ad) n c l) (hb : (n + 1) * 40 ≤ 140737488355328) (hp : PlaceAt (some ad) n c l xk k false) (hk : k ≤ n) (hkc : k < c) (N : Nat) (hN : k + 1 + (n - k) = N) (hb2 : N * 40 ≤ 140737488355328) :
    Calls Try.prog 12 #[.slice (some ad) n c, .agg #[.string xk, .string xv, .bool xd]] w fun e w' => RetL writeK w N (l.take k ++ [⟨xk, xv, xd⟩] ++ (l.drop k)) e w' := by
  have HD := Lib.hid hd
  have HP := Lib.hid hp
  have hkc2 : k ≤ c := by omega
  have hne : ¬ c = k := by omega
  have HLn := Lib.hid hd.len
  have HM := Lib.hid hd.max
  have HLe := Lib.hid hd.le
  have hcm : c ≤ 9223372036854775807 := by have := hd.cap; unfold maxLen at this; omega
  have hnm := hd.le
  have HT := Lib.hid (show Lst writeK w (some ad) k (l.take k) from HD.out.lst.headG (by omega))
  have HLB := Lib.hid (HD.out.lst.tailG hk)
  have HN := Lib.hid hN
  have HB2 := Lib.hid hb2
  have HB1 := Lib.hid (show (k + 1) * 40 ≤ 140737488355328 by omega)
  have q0 := Lib.hid ((Q.refl w).alloc (.cells #[.string xk, .string xv, .bool xd] 24))
  have X0 := Lib.hid (xbox w xk xv xd)
  have hs : w.heap.size < (w.alloc (.cells #[.string xk, .string xv, .bool xd] 24)).heap.size := by simp
  clear hd hp hN hb2 hb
  go_enter Try.func12, Try.ntmps12
  go_upto_region 1 with (fail)
  generalize w.alloc (.cells #[.string xk, .string xv, .bool xd] 24) = W0 at q0 X0 hs ⊢
  obtain ⟨x0, x1, x2⟩ := X0.out
  go_wp2_with fail
  refine (by_any xk _).mono ?_
  rintro e w1 ⟨rfl, rfl⟩
  go_wp2_with fail
  refine (HP.out _ W0.heap.size (by simp) (by simp) (HD.out.lst.q (q0.out.alloc _))).mono ?_
  rintro e W2 ⟨rfl, q2⟩
  have q02 := ((Q.refl W0).alloc (.cells #[.string xk] 9)).trans q2
  have y0 := box_ q02 x0
  have y1 := box_ q02 x1
  have y2 := box_ q02 x2
  have Q2 := Lib.hid (q0.out.trans q02)
  clear q2 q02 x0 x1 x2 X0
  go_upto_region 5 with (fail)
  refine wp_region_held_drew (S := Q W2) (by kernel_rfl) ?szz22 (fun hHeld => ?rzz22)
  case szz22 =>
    exact (Q.refl W2).drew
  case' rzz22 => skip
  generalize hgen : W2.drew = D0 at hHeld ⊢
  clear hgen
  refine wpAnyH_take (i := 0) (oi := ?ozz23) (v := ?vzz23) ?hzz23 ?azz23 ?bzz23 ?czz23 ?qzz23 ?yzz23 ?szz23 ?rzz23
  case hzz23 => simp only [List.getElem?_toArray, List.getElem?_cons_zero]; rfl
  case azz23 => kernel_rfl
  case bzz23 => kernel_rfl
  case czz23 => kernel_rfl
  case yzz23 =>
    refine Or.inl ⟨by rfl, ?_⟩
    intro w hSw
    skip
    go_simp
    try with_reducible rfl
  case qzz23 => exact fun _ _ _ h => h
  case szz23 => first | assumption | trivial
  case' rzz23 => simp only [Act.put, List.setIfInBounds_toArray, List.set_cons_zero, List.set_cons_succ]
  refine wpAnyH_take (i := 1) (oi := ?ozz24) (v := ?vzz24) ?hzz24 ?azz24 ?bzz24 ?czz24 ?qzz24 ?yzz24 ?szz24 ?rzz24
  case hzz24 => simp only [List.getElem?_toArray, List.getElem?_cons_zero, List.getElem?_cons_succ]; rfl
  case azz24 => kernel_rfl
  case bzz24 => kernel_rfl
  case czz24 => kernel_rfl
  case yzz24 =>
    refine Or.inl ⟨by rfl, ?_⟩
    intro w hSw
    skip
    go_simp
    try with_reducible rfl
  case qzz24 => exact fun _ _ _ h => h
  case szz24 => first | assumption | trivial
  case' rzz24 => simp only [Act.put, List.setIfInBounds_toArray, List.set_cons_zero, List.set_cons_succ]
  refine wpAnyH_take (i := 2) (oi := ?ozz25) (v := ?vzz25) ?hzz25 ?azz25 ?bzz25 ?czz25 ?qzz25 ?yzz25 ?szz25 ?rzz25
  case hzz25 => simp only [List.getElem?_toArray, List.getElem?_cons_zero, List.getElem?_cons_succ]; rfl
  case azz25 => kernel_rfl
  case bzz25 => kernel_rfl
  case czz25 => kernel_rfl
  case yzz25 =>
    refine Or.inl ⟨by rfl, ?_⟩
    intro w hSw
    skip
    go_simp
    try with_reducible rfl
  case qzz25 => exact fun _ _ _ h => h
  case szz25 => first | assumption | trivial
  case' rzz25 => simp only [Act.put, List.setIfInBounds_toArray, List.set_cons_zero, List.set_cons_succ]
  refine wpAnyH_take (i := 3) (oi := ?ozz26) (v := ?vzz26) ?hzz26 ?azz26 ?bzz26 ?czz26 ?qzz26 ?yzz26 ?szz26 ?rzz26
  case hzz26 => simp only [List.getElem?_toArray, List.getElem?_cons_zero, List.getElem?_cons_succ]; rfl
  case azz26 => kernel_rfl
  case bzz26 => kernel_rfl
  case czz26 => kernel_rfl
  case yzz26 =>
    refine Or.inl ⟨by rfl, ?_⟩
    intro w hSw
    skip
    go_simp
    try with_reducible rfl
  case qzz26 => exact fun _ _ _ h => h
  case szz26 => first | assumption | trivial
  case' rzz26 => simp only [Act.put, List.setIfInBounds_toArray, List.set_cons_zero, List.set_cons_succ]
  refine wpAnyH_take (i := 4) (oi := ?ozz27) (v := ?vzz27) ?hzz27 ?azz27 ?bzz27 ?czz27 ?qzz27 ?yzz27 ?szz27 ?rzz27
  case hzz27 => simp only [List.getElem?_toArray, List.getElem?_cons_zero, List.getElem?_cons_succ]; rfl
  case azz27 => kernel_rfl
  case bzz27 => kernel_rfl
  case czz27 => kernel_rfl
  case yzz27 =>
    refine Or.inl ⟨by rfl, ?_⟩
    intro w hSw
    have z0 := box_ hSw y0; have z1 := box_ hSw y1; have z2 := box_ hSw y2; clear hSw
    go_simp
    try with_reducible rfl
  case qzz27 => exact fun _ _ _ h => h
  case szz27 => first | assumption | trivial
  case' rzz27 => simp only [Act.put, List.setIfInBounds_toArray, List.set_cons_zero, List.set_cons_succ]
  refine wpAnyH_take (i := 7) (oi := ?ozz28) (v := ?vzz28) ?hzz28 ?azz28 ?bzz28 ?czz28 ?qzz28 ?yzz28 ?szz28 ?rzz28
  case hzz28 => simp only [List.getElem?_toArray, List.getElem?_cons_zero, List.getElem?_cons_succ]; rfl
  case azz28 => kernel_rfl
  case bzz28 => kernel_rfl
  case czz28 => kernel_rfl
  case yzz28 =>
    refine Or.inl ⟨by rfl, ?_⟩
    intro w hSw
    skip
    go_simp
    try with_reducible rfl
  case qzz28 => exact fun _ _ _ h => h
  case szz28 => first | assumption | trivial
  case' rzz28 => simp only [Act.put, List.setIfInBounds_toArray, List.set_cons_zero, List.set_cons_succ]
  refine wpAnyH_ready (rs := [5]) (by kernel_rfl) (by simp) ?_
  refine AllReadyH.cons (o := ?ozz32) ?hzz32 (fun K hK => ?kzz32) ?mzz32
  case hzz32 => simp only [List.getElem?_toArray, List.getElem?_cons_zero, List.getElem?_cons_succ]; rfl
  case kzz32 =>
    go_simp
    have OB : Hid (Lst writeK (D0.alloc (.cells #[.string xk, .string xv, .bool xd] 24)) (some ⟨D0.heap.size, 0, none⟩) 1 [⟨xk, xv, xd⟩]) := Lib.hid (lit_write D0 ⟨xk, xv, xd⟩).lst
    have qa := (Q.refl D0).alloc (.cells #[.string xk, .string xv, .bool xd] 24)
    generalize D0.alloc (.cells #[.string xk, .string xv, .bool xd] 24) = D1 at OB qa ⊢
    generalize D0.heap.size = nb at OB ⊢
    refine hK.out _ _ ?Szz32 (fun hHeld => ?Rzz32)
    case Szz32 =>
      exact hHeld.trans qa
    case Rzz32 =>
      clear hK K
      try simp only [Act.put, List.setIfInBounds_toArray, List.set_cons_zero, List.set_cons_succ]
      refine wpAnyH_ready (rs := [6]) (by kernel_rfl) (by simp) ?_
      refine AllReadyH.cons (o := ?ozz31) ?hzz31 (fun K hK => ?kzz31) ?mzz31
      case hzz31 => simp only [List.getElem?_toArray, List.getElem?_cons_zero, List.getElem?_cons_succ]; rfl
      case kzz31 =>
        refine step_growK writeK (by rfl) _ _ _ rfl (by rfl) W2.heap.size (some ad) k k (l.take k) (by rfl) ((HT.out.q Q2.out).q hHeld) (fun e => by cases e) _ 1 1 [⟨xk, xv, xd⟩] (by rfl) OB.out (by omega) (k + 1) rfl (l.take k ++ [⟨xk, xv, xd⟩]) rfl HB1.out hHeld.size ?_
        intro A6 c6 D2 o6 q6
        have O6 := Lib.hid o6
        refine hK.out _ _ ?Szz31 (fun hHeld => ?Rzz31)
        case Szz31 =>
          exact hHeld.trans q6
        case Rzz31 =>
          clear hK K
          try simp only [Act.put, List.setIfInBounds_toArray, List.set_cons_zero, List.set_cons_succ]
          refine wpAnyH_ready (rs := [8]) (by kernel_rfl) (by simp) ?_
          refine AllReadyH.cons (o := ?ozz30) ?hzz30 (fun K hK => ?kzz30) ?mzz30
          case hzz30 => simp only [List.getElem?_toArray, List.getElem?_cons_zero, List.getElem?_cons_succ]; rfl
          case kzz30 =>
            refine step_appKM writeK (by rfl) _ _ _ rfl (by rfl) W2.heap.size A6 (k + 1) c6 (l.take k ++ [⟨xk, xv, xd⟩]) (by rfl) O6.out _ _ _ (l.drop k) (by rfl) ((HLB.out.q Q2.out).q hHeld) (fun e => by cases e) N HN.out (l.take k ++ [⟨xk, xv, xd⟩] ++ (l.drop k)) rfl HB2.out hHeld.size ?_
            intro A7 c7 D3 o7 b7 g7
            have O7 := Lib.hid o7
            have B7 := Lib.hid (Below.trans hHeld b7)
            refine hK.out _ _ ?Szz30 (fun hHeld => ?Rzz30)
            case Szz30 =>
              exact Below.trans hHeld b7
            case Rzz30 =>
              clear hK K
              try simp only [Act.put, List.setIfInBounds_toArray, List.set_cons_zero, List.set_cons_succ]
              refine wpAnyH_take (i := 9) (oi := ?ozz29) (v := ?vzz29) ?hzz29 ?azz29 ?bzz29 ?czz29 ?qzz29 ?yzz29 ?szz29 ?rzz29
              case hzz29 => simp only [List.getElem?_toArray, List.getElem?_cons_zero, List.getElem?_cons_succ]; rfl
              case azz29 => kernel_rfl
              case bzz29 => kernel_rfl
              case czz29 => kernel_rfl
              case yzz29 =>
                refine Or.inl ⟨by rfl, ?_⟩
                intro w hSw
                skip
                go_simp
                try with_reducible rfl
              case qzz29 => exact fun _ _ _ h => h
              case szz29 => first | assumption | trivial
              case' rzz29 => simp only [Act.put, List.setIfInBounds_toArray, List.set_cons_zero, List.set_cons_succ]
              refine wpAnyH_done (by kernel_rfl) ?_ _
              go_wp2
              go_ret
              exact ⟨A7, c7, rfl, O7.out.lower Q2.out.size, Q2.out.trans B7.out⟩
          case' mzz30 => skip
          exact AllReadyH.nil
      case' mzz31 => skip
      exact AllReadyH.nil
  case' mzz32 => skip
  exact AllReadyH.nil

end Go.Proofs.Ytcclgepccahhbaa
