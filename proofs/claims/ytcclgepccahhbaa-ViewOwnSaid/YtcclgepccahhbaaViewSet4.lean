/- Contract: view.Set, one of its ways. -/
import Derived.Test.YtcclgepccahhbaaViewSet
namespace Go.Proofs.Ytcclgepccahhbaa
set_option maxRecDepth 100000
open Go.RowKit Prm Vm
set_option linter.unusedVariables false
set_option linter.unusedSimpArgs false

set_option maxHeartbeats 4000000 in
set_option maxRecDepth 100000 in
theorem vset_has (ad : Addr) (n c k : Nat) (xk xv : ByteArray) (xd : Bool) (l : List Wr) (w : World) (hd : In_ writeK w (some ad) n c l) (hb : (n + 1) * 40 ≤ 140737488355328) (hp : PlaceAt (some ad) n c l xk k true) (hk : k < n) (hkc : k + 1 < c) (N : Nat) (hN : k + 1 + (n - k - 1) = N) (hb2 : N * 40 ≤ 140737488355328) :
    Calls Try.prog 12 #[.slice (some ad) n c, .agg #[.string xk, .string xv, .bool xd]] w fun e w' => RetL writeK w N (l.take k ++ [⟨xk, xv, xd⟩] ++ (l.drop (k + 1))) e w' := by
  have HD := Lib.hid hd
  have HP := Lib.hid hp
  have hkc2 : k ≤ c := by omega
  have hkn2 : k ≤ n := by omega
  have hne : ¬ c = k := by omega
  have hne1 : ¬ c - k = 1 := by omega
  have hn1 : 1 ≤ n - k := by omega
  have hc1 : 1 ≤ c - k := by omega
  have HLn := Lib.hid hd.len
  have HM := Lib.hid hd.max
  have HLe := Lib.hid hd.le
  have hcm : c ≤ 9223372036854775807 := by have := hd.cap; unfold maxLen at this; omega
  have hnm := hd.le
  have HT := Lib.hid (show Lst writeK w (some ad) k (l.take k) from HD.out.lst.headG (by omega))
  have HLB := Lib.hid (show Lst writeK w (some ⟨(ad.add (k * 3)).block, (ad.add (k * 3)).off + 3, none⟩) (n - k - 1) (l.drop (k + 1)) from by
    have h := HD.out.lst.tailG (k := k + 1) hk
    rw [show n - k - 1 = n - (k + 1) by omega]
    rw [show ad.add ((k + 1) * writeK.k) = (ad.add (k * 3)).add 3 from by rw [addr_add]; congr 1; show (k + 1) * 3 = _; omega] at h
    exact h)
  have HN := Lib.hid hN
  have HB2 := Lib.hid hb2
  have HB1 := Lib.hid (show (k + 1) * 40 ≤ 140737488355328 by omega)
  have q0 := Lib.hid ((Q.refl w).alloc (.cells #[.string xk, .string xv, .bool xd] 24))
  have X0 := Lib.hid (xbox w xk xv xd)
  have hs : w.heap.size < (w.alloc (.cells #[.string xk, .string xv, .bool xd] 24)).heap.size := by simp
  clear hd hp hN hb2 hb
  go_enter Try.func12, Try.ntmps12
  go_upto_region 1 with (fail)
  generalize w.alloc (.cells #[.string xk, .string xv, .bool xd] 24) = W0 at q0 X0 hs ⊢
  obtain ⟨x0, x1, x2⟩ := X0.out
  go_wp2_with fail
  refine (by_any xk _).mono ?_
  rintro e w1 ⟨rfl, rfl⟩
  go_wp2_with fail
  refine (HP.out _ W0.heap.size (by simp) (by simp) (HD.out.lst.q (q0.out.alloc _))).mono ?_
  rintro e W2 ⟨rfl, q2⟩
  have q02 := ((Q.refl W0).alloc (.cells #[.string xk] 9)).trans q2
  have y0 := box_ q02 x0
  have y1 := box_ q02 x1
  have y2 := box_ q02 x2
  have Q2 := Lib.hid (q0.out.trans q02)
  clear q2 q02 x0 x1 x2 X0
  go_upto_region 5 with (fail)
  refine wp_region_held_drew (S := Q W2) (by kernel_rfl) ?szz44 (fun hHeld => ?rzz44)
  case szz44 =>
    exact (Q.refl W2).drew
  case' rzz44 => skip
  generalize hgen : W2.drew = D0 at hHeld ⊢
  clear hgen
  refine wpAnyH_take (i := 0) (oi := ?ozz45) (v := ?vzz45) ?hzz45 ?azz45 ?bzz45 ?czz45 ?qzz45 ?yzz45 ?szz45 ?rzz45
  case hzz45 => simp only [List.getElem?_toArray, List.getElem?_cons_zero]; rfl
  case azz45 => kernel_rfl
  case bzz45 => kernel_rfl
  case czz45 => kernel_rfl
  case yzz45 =>
    refine Or.inl ⟨by rfl, ?_⟩
    intro w hSw
    skip
    go_simp
    try with_reducible rfl
  case qzz45 => exact fun _ _ _ h => h
  case szz45 => first | assumption | trivial
  case' rzz45 => simp only [Act.put, List.setIfInBounds_toArray, List.set_cons_zero, List.set_cons_succ]
  refine wpAnyH_take (i := 1) (oi := ?ozz46) (v := ?vzz46) ?hzz46 ?azz46 ?bzz46 ?czz46 ?qzz46 ?yzz46 ?szz46 ?rzz46
  case hzz46 => simp only [List.getElem?_toArray, List.getElem?_cons_zero, List.getElem?_cons_succ]; rfl
  case azz46 => kernel_rfl
  case bzz46 => kernel_rfl
  case czz46 => kernel_rfl
  case yzz46 =>
    refine Or.inl ⟨by rfl, ?_⟩
    intro w hSw
    skip
    go_simp
    try with_reducible rfl
  case qzz46 => exact fun _ _ _ h => h
  case szz46 => first | assumption | trivial
  case' rzz46 => simp only [Act.put, List.setIfInBounds_toArray, List.set_cons_zero, List.set_cons_succ]
  refine wpAnyH_take (i := 2) (oi := ?ozz47) (v := ?vzz47) ?hzz47 ?azz47 ?bzz47 ?czz47 ?qzz47 ?yzz47 ?szz47 ?rzz47
  case hzz47 => simp only [List.getElem?_toArray, List.getElem?_cons_zero, List.getElem?_cons_succ]; rfl
  case azz47 => kernel_rfl
  case bzz47 => kernel_rfl
  case czz47 => kernel_rfl
  case yzz47 =>
    refine Or.inl ⟨by rfl, ?_⟩
    intro w hSw
    skip
    go_simp
    try with_reducible rfl
  case qzz47 => exact fun _ _ _ h => h
  case szz47 => first | assumption | trivial
  case' rzz47 => simp only [Act.put, List.setIfInBounds_toArray, List.set_cons_zero, List.set_cons_succ]
  refine wpAnyH_take (i := 3) (oi := ?ozz48) (v := ?vzz48) ?hzz48 ?azz48 ?bzz48 ?czz48 ?qzz48 ?yzz48 ?szz48 ?rzz48
  case hzz48 => simp only [List.getElem?_toArray, List.getElem?_cons_zero, List.getElem?_cons_succ]; rfl
  case azz48 => kernel_rfl
  case bzz48 => kernel_rfl
  case czz48 => kernel_rfl
  case yzz48 =>
    refine Or.inl ⟨by rfl, ?_⟩
    intro w hSw
    skip
    go_simp
    try with_reducible rfl
  case qzz48 => exact fun _ _ _ h => h
  case szz48 => first | assumption | trivial
  case' rzz48 => simp only [Act.put, List.setIfInBounds_toArray, List.set_cons_zero, List.set_cons_succ]
  refine wpAnyH_take (i := 4) (oi := ?ozz49) (v := ?vzz49) ?hzz49 ?azz49 ?bzz49 ?czz49 ?qzz49 ?yzz49 ?szz49 ?rzz49
  case hzz49 => simp only [List.getElem?_toArray, List.getElem?_cons_zero, List.getElem?_cons_succ]; rfl
  case azz49 => kernel_rfl
  case bzz49 => kernel_rfl
  case czz49 => kernel_rfl
  case yzz49 =>
    refine Or.inl ⟨by rfl, ?_⟩
    intro w hSw
    have z0 := box_ hSw y0; have z1 := box_ hSw y1; have z2 := box_ hSw y2; clear hSw
    go_simp
    try with_reducible rfl
  case qzz49 => exact fun _ _ _ h => h
  case szz49 => first | assumption | trivial
  case' rzz49 => simp only [Act.put, List.setIfInBounds_toArray, List.set_cons_zero, List.set_cons_succ]
  refine wpAnyH_take (i := 7) (oi := ?ozz50) (v := ?vzz50) ?hzz50 ?azz50 ?bzz50 ?czz50 ?qzz50 ?yzz50 ?szz50 ?rzz50
  case hzz50 => simp only [List.getElem?_toArray, List.getElem?_cons_zero, List.getElem?_cons_succ]; rfl
  case azz50 => kernel_rfl
  case bzz50 => kernel_rfl
  case czz50 => kernel_rfl
  case yzz50 =>
    refine Or.inl ⟨by rfl, ?_⟩
    intro w hSw
    skip
    go_simp
    try with_reducible rfl
  case qzz50 => exact fun _ _ _ h => h
  case szz50 => first | assumption | trivial
  case' rzz50 => simp only [Act.put, List.setIfInBounds_toArray, List.set_cons_zero, List.set_cons_succ]
  refine wpAnyH_ready (rs := [5]) (by kernel_rfl) (by simp) ?_
  refine AllReadyH.cons (o := ?ozz54) ?hzz54 (fun K hK => ?kzz54) ?mzz54
  case hzz54 => simp only [List.getElem?_toArray, List.getElem?_cons_zero, List.getElem?_cons_succ]; rfl
  case kzz54 =>
    go_simp
    have OB : Hid (Lst writeK (D0.alloc (.cells #[.string xk, .string xv, .bool xd] 24)) (some ⟨D0.heap.size, 0, none⟩) 1 [⟨xk, xv, xd⟩]) := Lib.hid (lit_write D0 ⟨xk, xv, xd⟩).lst
    have qa := (Q.refl D0).alloc (.cells #[.string xk, .string xv, .bool xd] 24)
    generalize D0.alloc (.cells #[.string xk, .string xv, .bool xd] 24) = D1 at OB qa ⊢
    generalize D0.heap.size = nb at OB ⊢
    refine hK.out _ _ ?Szz54 (fun hHeld => ?Rzz54)
    case Szz54 =>
      exact hHeld.trans qa
    case Rzz54 =>
      clear hK K
      try simp only [Act.put, List.setIfInBounds_toArray, List.set_cons_zero, List.set_cons_succ]
      refine wpAnyH_ready (rs := [6]) (by kernel_rfl) (by simp) ?_
      refine AllReadyH.cons (o := ?ozz53) ?hzz53 (fun K hK => ?kzz53) ?mzz53
      case hzz53 => simp only [List.getElem?_toArray, List.getElem?_cons_zero, List.getElem?_cons_succ]; rfl
      case kzz53 =>
        refine step_growK writeK (by rfl) _ _ _ rfl (by rfl) W2.heap.size (some ad) k k (l.take k) (by rfl) ((HT.out.q Q2.out).q hHeld) (fun e => by cases e) _ 1 1 [⟨xk, xv, xd⟩] (by rfl) OB.out (by omega) (k + 1) rfl (l.take k ++ [⟨xk, xv, xd⟩]) rfl HB1.out hHeld.size ?_
        intro A6 c6 D2 o6 q6
        have O6 := Lib.hid o6
        refine hK.out _ _ ?Szz53 (fun hHeld => ?Rzz53)
        case Szz53 =>
          exact hHeld.trans q6
        case Rzz53 =>
          clear hK K
          try simp only [Act.put, List.setIfInBounds_toArray, List.set_cons_zero, List.set_cons_succ]
          refine wpAnyH_ready (rs := [8]) (by kernel_rfl) (by simp) ?_
          refine AllReadyH.cons (o := ?ozz52) ?hzz52 (fun K hK => ?kzz52) ?mzz52
          case hzz52 => simp only [List.getElem?_toArray, List.getElem?_cons_zero, List.getElem?_cons_succ]; rfl
          case kzz52 =>
            refine step_appKM writeK (by rfl) _ _ _ rfl (by rfl) W2.heap.size A6 (k + 1) c6 (l.take k ++ [⟨xk, xv, xd⟩]) (by rfl) O6.out _ _ _ (l.drop (k + 1)) (by rfl) ((HLB.out.q Q2.out).q hHeld) (fun e => by cases e) N HN.out (l.take k ++ [⟨xk, xv, xd⟩] ++ (l.drop (k + 1))) rfl HB2.out hHeld.size ?_
            intro A7 c7 D3 o7 b7 g7
            have O7 := Lib.hid o7
            have B7 := Lib.hid (Below.trans hHeld b7)
            refine hK.out _ _ ?Szz52 (fun hHeld => ?Rzz52)
            case Szz52 =>
              exact Below.trans hHeld b7
            case Rzz52 =>
              clear hK K
              try simp only [Act.put, List.setIfInBounds_toArray, List.set_cons_zero, List.set_cons_succ]
              refine wpAnyH_take (i := 9) (oi := ?ozz51) (v := ?vzz51) ?hzz51 ?azz51 ?bzz51 ?czz51 ?qzz51 ?yzz51 ?szz51 ?rzz51
              case hzz51 => simp only [List.getElem?_toArray, List.getElem?_cons_zero, List.getElem?_cons_succ]; rfl
              case azz51 => kernel_rfl
              case bzz51 => kernel_rfl
              case czz51 => kernel_rfl
              case yzz51 =>
                refine Or.inl ⟨by rfl, ?_⟩
                intro w hSw
                skip
                go_simp
                try with_reducible rfl
              case qzz51 => exact fun _ _ _ h => h
              case szz51 => first | assumption | trivial
              case' rzz51 => simp only [Act.put, List.setIfInBounds_toArray, List.set_cons_zero, List.set_cons_succ]
              refine wpAnyH_done (by kernel_rfl) ?_ _
              go_wp2
              go_ret
              exact ⟨A7, c7, rfl, O7.out.lower Q2.out.size, Q2.out.trans B7.out⟩
          case' mzz52 => skip
          exact AllReadyH.nil
      case' mzz53 => skip
      exact AllReadyH.nil
  case' mzz54 => skip
  exact AllReadyH.nil

end Go.Proofs.Ytcclgepccahhbaa
