/- Contract: view.Set, one of its ways. -/
import Derived.Test.YtcclgepccahhbaaViewSet
namespace Go.Proofs.Ytcclgepccahhbaa
set_option maxRecDepth 100000
open Go.RowKit Prm Vm
set_option linter.unusedVariables false
set_option linter.unusedSimpArgs false

set_option maxHeartbeats 4000000 in
set_option maxRecDepth 100000 in
theorem vset_has1 (ad : Addr) (n k : Nat) (xk xv : ByteArray) (xd : Bool) (l : List Wr) (w : World) (hd : In_ writeK w (some ad) n n l) (hb : (n + 1) * 40 ≤ 140737488355328) (hp : PlaceAt (some ad) n n l xk k true) (hk : k < n) (hone : n - k = 1) (N : Nat) (hN : k + 1 + 0 = N) (hb2 : N * 40 ≤ 140737488355328) :
    Calls Try.prog 12 #[.slice (some ad) n n, .agg #[.string xk, .string xv, .bool xd]] w fun e w' => RetL writeK w N (l.take k ++ [⟨xk, xv, xd⟩] ++ []) e w' := by
  have HD := Lib.hid hd
  have HP := Lib.hid hp
  have hkc2 : k ≤ n := by omega
  have hne : ¬ n = k := by omega
  have HLn := Lib.hid hd.len
  have HM := Lib.hid hd.max
  have HLe := Lib.hid hd.le
  have hcm : n ≤ 9223372036854775807 := by have := hd.cap; unfold maxLen at this; omega
  have hnm := hd.le
  have HT := Lib.hid (show Lst writeK w (some ad) k (l.take k) from HD.out.lst.headG (by omega))
  have HLB := Lib.hid (Lst.nil (K := writeK) w (some (ad.add (k * 3))))
  have HN := Lib.hid hN
  have HB2 := Lib.hid hb2
  have HB1 := Lib.hid (show (k + 1) * 40 ≤ 140737488355328 by omega)
  have q0 := Lib.hid ((Q.refl w).alloc (.cells #[.string xk, .string xv, .bool xd] 24))
  have X0 := Lib.hid (xbox w xk xv xd)
  have hs : w.heap.size < (w.alloc (.cells #[.string xk, .string xv, .bool xd] 24)).heap.size := by simp
  clear hd hp hN hb2 hb
  go_enter Try.func12, Try.ntmps12
  go_upto_region 1 with (fail)
  generalize w.alloc (.cells #[.string xk, .string xv, .bool xd] 24) = W0 at q0 X0 hs ⊢
  obtain ⟨x0, x1, x2⟩ := X0.out
  go_wp2_with fail
  refine (by_any xk _).mono ?_
  rintro e w1 ⟨rfl, rfl⟩
  go_wp2_with fail
  refine (HP.out _ W0.heap.size (by simp) (by simp) (HD.out.lst.q (q0.out.alloc _))).mono ?_
  rintro e W2 ⟨rfl, q2⟩
  have q02 := ((Q.refl W0).alloc (.cells #[.string xk] 9)).trans q2
  have y0 := box_ q02 x0
  have y1 := box_ q02 x1
  have y2 := box_ q02 x2
  have Q2 := Lib.hid (q0.out.trans q02)
  clear q2 q02 x0 x1 x2 X0
  go_upto_region 5 with (fail)
  refine wp_region_held_drew (S := Q W2) (by kernel_rfl) ?szz33 (fun hHeld => ?rzz33)
  case szz33 =>
    exact (Q.refl W2).drew
  case' rzz33 => skip
  generalize hgen : W2.drew = D0 at hHeld ⊢
  clear hgen
  refine wpAnyH_take (i := 0) (oi := ?ozz34) (v := ?vzz34) ?hzz34 ?azz34 ?bzz34 ?czz34 ?qzz34 ?yzz34 ?szz34 ?rzz34
  case hzz34 => simp only [List.getElem?_toArray, List.getElem?_cons_zero]; rfl
  case azz34 => kernel_rfl
  case bzz34 => kernel_rfl
  case czz34 => kernel_rfl
  case yzz34 =>
    refine Or.inl ⟨by rfl, ?_⟩
    intro w hSw
    skip
    go_simp
    try with_reducible rfl
  case qzz34 => exact fun _ _ _ h => h
  case szz34 => first | assumption | trivial
  case' rzz34 => simp only [Act.put, List.setIfInBounds_toArray, List.set_cons_zero, List.set_cons_succ]
  refine wpAnyH_take (i := 1) (oi := ?ozz35) (v := ?vzz35) ?hzz35 ?azz35 ?bzz35 ?czz35 ?qzz35 ?yzz35 ?szz35 ?rzz35
  case hzz35 => simp only [List.getElem?_toArray, List.getElem?_cons_zero, List.getElem?_cons_succ]; rfl
  case azz35 => kernel_rfl
  case bzz35 => kernel_rfl
  case czz35 => kernel_rfl
  case yzz35 =>
    refine Or.inl ⟨by rfl, ?_⟩
    intro w hSw
    skip
    go_simp
    try with_reducible rfl
  case qzz35 => exact fun _ _ _ h => h
  case szz35 => first | assumption | trivial
  case' rzz35 => simp only [Act.put, List.setIfInBounds_toArray, List.set_cons_zero, List.set_cons_succ]
  refine wpAnyH_take (i := 2) (oi := ?ozz36) (v := ?vzz36) ?hzz36 ?azz36 ?bzz36 ?czz36 ?qzz36 ?yzz36 ?szz36 ?rzz36
  case hzz36 => simp only [List.getElem?_toArray, List.getElem?_cons_zero, List.getElem?_cons_succ]; rfl
  case azz36 => kernel_rfl
  case bzz36 => kernel_rfl
  case czz36 => kernel_rfl
  case yzz36 =>
    refine Or.inl ⟨by rfl, ?_⟩
    intro w hSw
    skip
    go_simp
    try with_reducible rfl
  case qzz36 => exact fun _ _ _ h => h
  case szz36 => first | assumption | trivial
  case' rzz36 => simp only [Act.put, List.setIfInBounds_toArray, List.set_cons_zero, List.set_cons_succ]
  refine wpAnyH_take (i := 3) (oi := ?ozz37) (v := ?vzz37) ?hzz37 ?azz37 ?bzz37 ?czz37 ?qzz37 ?yzz37 ?szz37 ?rzz37
  case hzz37 => simp only [List.getElem?_toArray, List.getElem?_cons_zero, List.getElem?_cons_succ]; rfl
  case azz37 => kernel_rfl
  case bzz37 => kernel_rfl
  case czz37 => kernel_rfl
  case yzz37 =>
    refine Or.inl ⟨by rfl, ?_⟩
    intro w hSw
    skip
    go_simp
    try with_reducible rfl
  case qzz37 => exact fun _ _ _ h => h
  case szz37 => first | assumption | trivial
  case' rzz37 => simp only [Act.put, List.setIfInBounds_toArray, List.set_cons_zero, List.set_cons_succ]
  refine wpAnyH_take (i := 4) (oi := ?ozz38) (v := ?vzz38) ?hzz38 ?azz38 ?bzz38 ?czz38 ?qzz38 ?yzz38 ?szz38 ?rzz38
  case hzz38 => simp only [List.getElem?_toArray, List.getElem?_cons_zero, List.getElem?_cons_succ]; rfl
  case azz38 => kernel_rfl
  case bzz38 => kernel_rfl
  case czz38 => kernel_rfl
  case yzz38 =>
    refine Or.inl ⟨by rfl, ?_⟩
    intro w hSw
    have z0 := box_ hSw y0; have z1 := box_ hSw y1; have z2 := box_ hSw y2; clear hSw
    go_simp
    try with_reducible rfl
  case qzz38 => exact fun _ _ _ h => h
  case szz38 => first | assumption | trivial
  case' rzz38 => simp only [Act.put, List.setIfInBounds_toArray, List.set_cons_zero, List.set_cons_succ]
  refine wpAnyH_take (i := 7) (oi := ?ozz39) (v := ?vzz39) ?hzz39 ?azz39 ?bzz39 ?czz39 ?qzz39 ?yzz39 ?szz39 ?rzz39
  case hzz39 => simp only [List.getElem?_toArray, List.getElem?_cons_zero, List.getElem?_cons_succ]; rfl
  case azz39 => kernel_rfl
  case bzz39 => kernel_rfl
  case czz39 => kernel_rfl
  case yzz39 =>
    refine Or.inl ⟨by rfl, ?_⟩
    intro w hSw
    skip
    go_simp
    try with_reducible rfl
  case qzz39 => exact fun _ _ _ h => h
  case szz39 => first | assumption | trivial
  case' rzz39 => simp only [Act.put, List.setIfInBounds_toArray, List.set_cons_zero, List.set_cons_succ]
  refine wpAnyH_ready (rs := [5]) (by kernel_rfl) (by simp) ?_
  refine AllReadyH.cons (o := ?ozz43) ?hzz43 (fun K hK => ?kzz43) ?mzz43
  case hzz43 => simp only [List.getElem?_toArray, List.getElem?_cons_zero, List.getElem?_cons_succ]; rfl
  case kzz43 =>
    go_simp
    have OB : Hid (Lst writeK (D0.alloc (.cells #[.string xk, .string xv, .bool xd] 24)) (some ⟨D0.heap.size, 0, none⟩) 1 [⟨xk, xv, xd⟩]) := Lib.hid (lit_write D0 ⟨xk, xv, xd⟩).lst
    have qa := (Q.refl D0).alloc (.cells #[.string xk, .string xv, .bool xd] 24)
    generalize D0.alloc (.cells #[.string xk, .string xv, .bool xd] 24) = D1 at OB qa ⊢
    generalize D0.heap.size = nb at OB ⊢
    refine hK.out _ _ ?Szz43 (fun hHeld => ?Rzz43)
    case Szz43 =>
      exact hHeld.trans qa
    case Rzz43 =>
      clear hK K
      try simp only [Act.put, List.setIfInBounds_toArray, List.set_cons_zero, List.set_cons_succ]
      refine wpAnyH_ready (rs := [6]) (by kernel_rfl) (by simp) ?_
      refine AllReadyH.cons (o := ?ozz42) ?hzz42 (fun K hK => ?kzz42) ?mzz42
      case hzz42 => simp only [List.getElem?_toArray, List.getElem?_cons_zero, List.getElem?_cons_succ]; rfl
      case kzz42 =>
        refine step_growK writeK (by rfl) _ _ _ rfl (by rfl) W2.heap.size (some ad) k k (l.take k) (by rfl) ((HT.out.q Q2.out).q hHeld) (fun e => by cases e) _ 1 1 [⟨xk, xv, xd⟩] (by rfl) OB.out (by omega) (k + 1) rfl (l.take k ++ [⟨xk, xv, xd⟩]) rfl HB1.out hHeld.size ?_
        intro A6 c6 D2 o6 q6
        have O6 := Lib.hid o6
        refine hK.out _ _ ?Szz42 (fun hHeld => ?Rzz42)
        case Szz42 =>
          exact hHeld.trans q6
        case Rzz42 =>
          clear hK K
          try simp only [Act.put, List.setIfInBounds_toArray, List.set_cons_zero, List.set_cons_succ]
          refine wpAnyH_ready (rs := [8]) (by kernel_rfl) (by simp) ?_
          refine AllReadyH.cons (o := ?ozz41) ?hzz41 (fun K hK => ?kzz41) ?mzz41
          case hzz41 => simp only [List.getElem?_toArray, List.getElem?_cons_zero, List.getElem?_cons_succ]; rfl
          case kzz41 =>
            refine step_appKM writeK (by rfl) _ _ _ rfl (by rfl) W2.heap.size A6 (k + 1) c6 (l.take k ++ [⟨xk, xv, xd⟩]) (by rfl) O6.out _ _ _ [] (by rfl) ((HLB.out.q Q2.out).q hHeld) (fun e => by cases e) N HN.out (l.take k ++ [⟨xk, xv, xd⟩] ++ []) rfl HB2.out hHeld.size ?_
            intro A7 c7 D3 o7 b7 g7
            have O7 := Lib.hid o7
            have B7 := Lib.hid (Below.trans hHeld b7)
            refine hK.out _ _ ?Szz41 (fun hHeld => ?Rzz41)
            case Szz41 =>
              exact Below.trans hHeld b7
            case Rzz41 =>
              clear hK K
              try simp only [Act.put, List.setIfInBounds_toArray, List.set_cons_zero, List.set_cons_succ]
              refine wpAnyH_take (i := 9) (oi := ?ozz40) (v := ?vzz40) ?hzz40 ?azz40 ?bzz40 ?czz40 ?qzz40 ?yzz40 ?szz40 ?rzz40
              case hzz40 => simp only [List.getElem?_toArray, List.getElem?_cons_zero, List.getElem?_cons_succ]; rfl
              case azz40 => kernel_rfl
              case bzz40 => kernel_rfl
              case czz40 => kernel_rfl
              case yzz40 =>
                refine Or.inl ⟨by rfl, ?_⟩
                intro w hSw
                skip
                go_simp
                try with_reducible rfl
              case qzz40 => exact fun _ _ _ h => h
              case szz40 => first | assumption | trivial
              case' rzz40 => simp only [Act.put, List.setIfInBounds_toArray, List.set_cons_zero, List.set_cons_succ]
              refine wpAnyH_done (by kernel_rfl) ?_ _
              go_wp2
              go_ret
              exact ⟨A7, c7, rfl, O7.out.lower Q2.out.size, Q2.out.trans B7.out⟩
          case' mzz41 => skip
          exact AllReadyH.nil
      case' mzz42 => skip
      exact AllReadyH.nil
  case' mzz43 => skip
  exact AllReadyH.nil

end Go.Proofs.Ytcclgepccahhbaa
