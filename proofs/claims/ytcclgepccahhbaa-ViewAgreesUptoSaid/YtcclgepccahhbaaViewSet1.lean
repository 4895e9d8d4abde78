/- Contract: view.Set, one of its ways. -/
import Derived.Test.YtcclgepccahhbaaViewSet
namespace Go.Proofs.Ytcclgepccahhbaa
set_option maxRecDepth 100000
open Go.RowKit Prm Vm
set_option linter.unusedVariables false
set_option linter.unusedSimpArgs false

set_option maxHeartbeats 4000000 in
set_option maxRecDepth 100000 in
theorem vset_nil  (xk xv : ByteArray) (xd : Bool) (l : List Wr) (w : World) (hd : In_ writeK w none 0 0 l) (hb : (0 + 1) * 40 ≤ 140737488355328) (hp : PlaceAt none 0 0 l xk 0 false)  (N : Nat) (hN : 0 + 1 + 0 = N) (hb2 : N * 40 ≤ 140737488355328) :
    Calls Try.prog 12 #[.slice none 0 0, .agg #[.string xk, .string xv, .bool xd]] w fun e w' => RetL writeK w N (l.take 0 ++ [⟨xk, xv, xd⟩] ++ []) e w' := by
  have HD := Lib.hid hd
  have HP := Lib.hid hp
  have HLn := Lib.hid hd.len
  have HM := Lib.hid hd.max
  have HLe := Lib.hid hd.le
  have hcm : 0 ≤ 9223372036854775807 := by have := hd.cap; unfold maxLen at this; omega
  have hnm := hd.le
  have HT := Lib.hid (show Lst writeK w none 0 (l.take 0) from HD.out.lst.headG (by omega))
  have HLB := Lib.hid (Lst.nil (K := writeK) w none)
  have HN := Lib.hid hN
  have HB2 := Lib.hid hb2
  have HB1 := Lib.hid (show (0 + 1) * 40 ≤ 140737488355328 by omega)
  have q0 := Lib.hid ((Q.refl w).alloc (.cells #[.string xk, .string xv, .bool xd] 24))
  have X0 := Lib.hid (xbox w xk xv xd)
  have hs : w.heap.size < (w.alloc (.cells #[.string xk, .string xv, .bool xd] 24)).heap.size := by simp
  clear hd hp hN hb2 hb
  go_enter Try.func12, Try.ntmps12
  go_upto_region 1 with (fail)
  generalize w.alloc (.cells #[.string xk, .string xv, .bool xd] 24) = W0 at q0 X0 hs ⊢
  obtain ⟨x0, x1, x2⟩ := X0.out
  go_wp2_with fail
  refine (by_any xk _).mono ?_
  rintro e w1 ⟨rfl, rfl⟩
  go_wp2_with fail
  refine (HP.out _ W0.heap.size (by simp) (by simp) (HD.out.lst.q (q0.out.alloc _))).mono ?_
  rintro e W2 ⟨rfl, q2⟩
  have q02 := ((Q.refl W0).alloc (.cells #[.string xk] 9)).trans q2
  have y0 := box_ q02 x0
  have y1 := box_ q02 x1
  have y2 := box_ q02 x2
  have Q2 := Lib.hid (q0.out.trans q02)
  clear q2 q02 x0 x1 x2 X0
  go_upto_region 5 with (fail)
  refine wp_region_held_drew (S := Q W2) (by kernel_rfl) ?szz0 (fun hHeld => ?rzz0)
  case szz0 =>
    exact (Q.refl W2).drew
  case' rzz0 => skip
  generalize hgen : W2.drew = D0 at hHeld ⊢
  clear hgen
  refine wpAnyH_take (i := 0) (oi := ?ozz1) (v := ?vzz1) ?hzz1 ?azz1 ?bzz1 ?czz1 ?qzz1 ?yzz1 ?szz1 ?rzz1
  case hzz1 => simp only [List.getElem?_toArray, List.getElem?_cons_zero]; rfl
  case azz1 => kernel_rfl
  case bzz1 => kernel_rfl
  case czz1 => kernel_rfl
  case yzz1 =>
    refine Or.inl ⟨by rfl, ?_⟩
    intro w hSw
    skip
    go_simp
    try with_reducible rfl
  case qzz1 => exact fun _ _ _ h => h
  case szz1 => first | assumption | trivial
  case' rzz1 => simp only [Act.put, List.setIfInBounds_toArray, List.set_cons_zero, List.set_cons_succ]
  refine wpAnyH_take (i := 1) (oi := ?ozz2) (v := ?vzz2) ?hzz2 ?azz2 ?bzz2 ?czz2 ?qzz2 ?yzz2 ?szz2 ?rzz2
  case hzz2 => simp only [List.getElem?_toArray, List.getElem?_cons_zero, List.getElem?_cons_succ]; rfl
  case azz2 => kernel_rfl
  case bzz2 => kernel_rfl
  case czz2 => kernel_rfl
  case yzz2 =>
    refine Or.inl ⟨by rfl, ?_⟩
    intro w hSw
    skip
    go_simp
    try with_reducible rfl
  case qzz2 => exact fun _ _ _ h => h
  case szz2 => first | assumption | trivial
  case' rzz2 => simp only [Act.put, List.setIfInBounds_toArray, List.set_cons_zero, List.set_cons_succ]
  refine wpAnyH_take (i := 2) (oi := ?ozz3) (v := ?vzz3) ?hzz3 ?azz3 ?bzz3 ?czz3 ?qzz3 ?yzz3 ?szz3 ?rzz3
  case hzz3 => simp only [List.getElem?_toArray, List.getElem?_cons_zero, List.getElem?_cons_succ]; rfl
  case azz3 => kernel_rfl
  case bzz3 => kernel_rfl
  case czz3 => kernel_rfl
  case yzz3 =>
    refine Or.inl ⟨by rfl, ?_⟩
    intro w hSw
    skip
    go_simp
    try with_reducible rfl
  case qzz3 => exact fun _ _ _ h => h
  case szz3 => first | assumption | trivial
  case' rzz3 => simp only [Act.put, List.setIfInBounds_toArray, List.set_cons_zero, List.set_cons_succ]
  refine wpAnyH_take (i := 3) (oi := ?ozz4) (v := ?vzz4) ?hzz4 ?azz4 ?bzz4 ?czz4 ?qzz4 ?yzz4 ?szz4 ?rzz4
  case hzz4 => simp only [List.getElem?_toArray, List.getElem?_cons_zero, List.getElem?_cons_succ]; rfl
  case azz4 => kernel_rfl
  case bzz4 => kernel_rfl
  case czz4 => kernel_rfl
  case yzz4 =>
    refine Or.inl ⟨by rfl, ?_⟩
    intro w hSw
    skip
    go_simp
    try with_reducible rfl
  case qzz4 => exact fun _ _ _ h => h
  case szz4 => first | assumption | trivial
  case' rzz4 => simp only [Act.put, List.setIfInBounds_toArray, List.set_cons_zero, List.set_cons_succ]
  refine wpAnyH_take (i := 4) (oi := ?ozz5) (v := ?vzz5) ?hzz5 ?azz5 ?bzz5 ?czz5 ?qzz5 ?yzz5 ?szz5 ?rzz5
  case hzz5 => simp only [List.getElem?_toArray, List.getElem?_cons_zero, List.getElem?_cons_succ]; rfl
  case azz5 => kernel_rfl
  case bzz5 => kernel_rfl
  case czz5 => kernel_rfl
  case yzz5 =>
    refine Or.inl ⟨by rfl, ?_⟩
    intro w hSw
    have z0 := box_ hSw y0; have z1 := box_ hSw y1; have z2 := box_ hSw y2; clear hSw
    go_simp
    try with_reducible rfl
  case qzz5 => exact fun _ _ _ h => h
  case szz5 => first | assumption | trivial
  case' rzz5 => simp only [Act.put, List.setIfInBounds_toArray, List.set_cons_zero, List.set_cons_succ]
  refine wpAnyH_take (i := 7) (oi := ?ozz6) (v := ?vzz6) ?hzz6 ?azz6 ?bzz6 ?czz6 ?qzz6 ?yzz6 ?szz6 ?rzz6
  case hzz6 => simp only [List.getElem?_toArray, List.getElem?_cons_zero, List.getElem?_cons_succ]; rfl
  case azz6 => kernel_rfl
  case bzz6 => kernel_rfl
  case czz6 => kernel_rfl
  case yzz6 =>
    refine Or.inl ⟨by rfl, ?_⟩
    intro w hSw
    skip
    go_simp
    try with_reducible rfl
  case qzz6 => exact fun _ _ _ h => h
  case szz6 => first | assumption | trivial
  case' rzz6 => simp only [Act.put, List.setIfInBounds_toArray, List.set_cons_zero, List.set_cons_succ]
  refine wpAnyH_ready (rs := [5]) (by kernel_rfl) (by simp) ?_
  refine AllReadyH.cons (o := ?ozz10) ?hzz10 (fun K hK => ?kzz10) ?mzz10
  case hzz10 => simp only [List.getElem?_toArray, List.getElem?_cons_zero, List.getElem?_cons_succ]; rfl
  case kzz10 =>
    go_simp
    have OB : Hid (Lst writeK (D0.alloc (.cells #[.string xk, .string xv, .bool xd] 24)) (some ⟨D0.heap.size, 0, none⟩) 1 [⟨xk, xv, xd⟩]) := Lib.hid (lit_write D0 ⟨xk, xv, xd⟩).lst
    have qa := (Q.refl D0).alloc (.cells #[.string xk, .string xv, .bool xd] 24)
    generalize D0.alloc (.cells #[.string xk, .string xv, .bool xd] 24) = D1 at OB qa ⊢
    generalize D0.heap.size = nb at OB ⊢
    refine hK.out _ _ ?Szz10 (fun hHeld => ?Rzz10)
    case Szz10 =>
      exact hHeld.trans qa
    case Rzz10 =>
      clear hK K
      try simp only [Act.put, List.setIfInBounds_toArray, List.set_cons_zero, List.set_cons_succ]
      refine wpAnyH_ready (rs := [6]) (by kernel_rfl) (by simp) ?_
      refine AllReadyH.cons (o := ?ozz9) ?hzz9 (fun K hK => ?kzz9) ?mzz9
      case hzz9 => simp only [List.getElem?_toArray, List.getElem?_cons_zero, List.getElem?_cons_succ]; rfl
      case kzz9 =>
        refine step_growK writeK (by rfl) _ _ _ rfl (by rfl) W2.heap.size none 0 0 (l.take 0) (by rfl) ((HT.out.q Q2.out).q hHeld) (fun _ => rfl) _ 1 1 [⟨xk, xv, xd⟩] (by rfl) OB.out (by omega) (0 + 1) rfl (l.take 0 ++ [⟨xk, xv, xd⟩]) rfl HB1.out hHeld.size ?_
        intro A6 c6 D2 o6 q6
        have O6 := Lib.hid o6
        refine hK.out _ _ ?Szz9 (fun hHeld => ?Rzz9)
        case Szz9 =>
          exact hHeld.trans q6
        case Rzz9 =>
          clear hK K
          try simp only [Act.put, List.setIfInBounds_toArray, List.set_cons_zero, List.set_cons_succ]
          refine wpAnyH_ready (rs := [8]) (by kernel_rfl) (by simp) ?_
          refine AllReadyH.cons (o := ?ozz8) ?hzz8 (fun K hK => ?kzz8) ?mzz8
          case hzz8 => simp only [List.getElem?_toArray, List.getElem?_cons_zero, List.getElem?_cons_succ]; rfl
          case kzz8 =>
            refine step_appKM writeK (by rfl) _ _ _ rfl (by rfl) W2.heap.size A6 (0 + 1) c6 (l.take 0 ++ [⟨xk, xv, xd⟩]) (by rfl) O6.out _ _ _ [] (by rfl) ((HLB.out.q Q2.out).q hHeld) (fun _ => ⟨rfl, rfl⟩) N HN.out (l.take 0 ++ [⟨xk, xv, xd⟩] ++ []) rfl HB2.out hHeld.size ?_
            intro A7 c7 D3 o7 b7 g7
            have O7 := Lib.hid o7
            have B7 := Lib.hid (Below.trans hHeld b7)
            refine hK.out _ _ ?Szz8 (fun hHeld => ?Rzz8)
            case Szz8 =>
              exact Below.trans hHeld b7
            case Rzz8 =>
              clear hK K
              try simp only [Act.put, List.setIfInBounds_toArray, List.set_cons_zero, List.set_cons_succ]
              refine wpAnyH_take (i := 9) (oi := ?ozz7) (v := ?vzz7) ?hzz7 ?azz7 ?bzz7 ?czz7 ?qzz7 ?yzz7 ?szz7 ?rzz7
              case hzz7 => simp only [List.getElem?_toArray, List.getElem?_cons_zero, List.getElem?_cons_succ]; rfl
              case azz7 => kernel_rfl
              case bzz7 => kernel_rfl
              case czz7 => kernel_rfl
              case yzz7 =>
                refine Or.inl ⟨by rfl, ?_⟩
                intro w hSw
                skip
                go_simp
                try with_reducible rfl
              case qzz7 => exact fun _ _ _ h => h
              case szz7 => first | assumption | trivial
              case' rzz7 => simp only [Act.put, List.setIfInBounds_toArray, List.set_cons_zero, List.set_cons_succ]
              refine wpAnyH_done (by kernel_rfl) ?_ _
              go_wp2
              go_ret
              exact ⟨A7, c7, rfl, O7.out.lower Q2.out.size, Q2.out.trans B7.out⟩
          case' mzz8 => skip
          exact AllReadyH.nil
      case' mzz9 => skip
      exact AllReadyH.nil
  case' mzz10 => skip
  exact AllReadyH.nil

set_option maxHeartbeats 4000000 in
set_option maxRecDepth 100000 in
theorem vset_endc (ad : Addr) (n : Nat) (xk xv : ByteArray) (xd : Bool) (l : List Wr) (w : World) (hd : In_ writeK w (some ad) n n l) (hb : (n + 1) * 40 ≤ 140737488355328) (hp : PlaceAt (some ad) n n l xk n false)  (N : Nat) (hN : n + 1 + 0 = N) (hb2 : N * 40 ≤ 140737488355328) :
    Calls Try.prog 12 #[.slice (some ad) n n, .agg #[.string xk, .string xv, .bool xd]] w fun e w' => RetL writeK w N (l.take n ++ [⟨xk, xv, xd⟩] ++ []) e w' := by
  have HD := Lib.hid hd
  have HP := Lib.hid hp
  have HLn := Lib.hid hd.len
  have HM := Lib.hid hd.max
  have HLe := Lib.hid hd.le
  have hcm : n ≤ 9223372036854775807 := by have := hd.cap; unfold maxLen at this; omega
  have hnm := hd.le
  have HT := Lib.hid (show Lst writeK w (some ad) n (l.take n) from HD.out.lst.headG (by omega))
  have HLB := Lib.hid (Lst.nil (K := writeK) w (some ad))
  have HN := Lib.hid hN
  have HB2 := Lib.hid hb2
  have HB1 := Lib.hid (show (n + 1) * 40 ≤ 140737488355328 by omega)
  have q0 := Lib.hid ((Q.refl w).alloc (.cells #[.string xk, .string xv, .bool xd] 24))
  have X0 := Lib.hid (xbox w xk xv xd)
  have hs : w.heap.size < (w.alloc (.cells #[.string xk, .string xv, .bool xd] 24)).heap.size := by simp
  clear hd hp hN hb2 hb
  go_enter Try.func12, Try.ntmps12
  go_upto_region 1 with (fail)
  generalize w.alloc (.cells #[.string xk, .string xv, .bool xd] 24) = W0 at q0 X0 hs ⊢
  obtain ⟨x0, x1, x2⟩ := X0.out
  go_wp2_with fail
  refine (by_any xk _).mono ?_
  rintro e w1 ⟨rfl, rfl⟩
  go_wp2_with fail
  refine (HP.out _ W0.heap.size (by simp) (by simp) (HD.out.lst.q (q0.out.alloc _))).mono ?_
  rintro e W2 ⟨rfl, q2⟩
  have q02 := ((Q.refl W0).alloc (.cells #[.string xk] 9)).trans q2
  have y0 := box_ q02 x0
  have y1 := box_ q02 x1
  have y2 := box_ q02 x2
  have Q2 := Lib.hid (q0.out.trans q02)
  clear q2 q02 x0 x1 x2 X0
  go_upto_region 5 with (fail)
  refine wp_region_held_drew (S := Q W2) (by kernel_rfl) ?szz11 (fun hHeld => ?rzz11)
  case szz11 =>
    exact (Q.refl W2).drew
  case' rzz11 => skip
  generalize hgen : W2.drew = D0 at hHeld ⊢
  clear hgen
  refine wpAnyH_take (i := 0) (oi := ?ozz12) (v := ?vzz12) ?hzz12 ?azz12 ?bzz12 ?czz12 ?qzz12 ?yzz12 ?szz12 ?rzz12
  case hzz12 => simp only [List.getElem?_toArray, List.getElem?_cons_zero]; rfl
  case azz12 => kernel_rfl
  case bzz12 => kernel_rfl
  case czz12 => kernel_rfl
  case yzz12 =>
    refine Or.inl ⟨by rfl, ?_⟩
    intro w hSw
    skip
    go_simp
    try with_reducible rfl
  case qzz12 => exact fun _ _ _ h => h
  case szz12 => first | assumption | trivial
  case' rzz12 => simp only [Act.put, List.setIfInBounds_toArray, List.set_cons_zero, List.set_cons_succ]
  refine wpAnyH_take (i := 1) (oi := ?ozz13) (v := ?vzz13) ?hzz13 ?azz13 ?bzz13 ?czz13 ?qzz13 ?yzz13 ?szz13 ?rzz13
  case hzz13 => simp only [List.getElem?_toArray, List.getElem?_cons_zero, List.getElem?_cons_succ]; rfl
  case azz13 => kernel_rfl
  case bzz13 => kernel_rfl
  case czz13 => kernel_rfl
  case yzz13 =>
    refine Or.inl ⟨by rfl, ?_⟩
    intro w hSw
    skip
    go_simp
    try with_reducible rfl
  case qzz13 => exact fun _ _ _ h => h
  case szz13 => first | assumption | trivial
  case' rzz13 => simp only [Act.put, List.setIfInBounds_toArray, List.set_cons_zero, List.set_cons_succ]
  refine wpAnyH_take (i := 2) (oi := ?ozz14) (v := ?vzz14) ?hzz14 ?azz14 ?bzz14 ?czz14 ?qzz14 ?yzz14 ?szz14 ?rzz14
  case hzz14 => simp only [List.getElem?_toArray, List.getElem?_cons_zero, List.getElem?_cons_succ]; rfl
  case azz14 => kernel_rfl
  case bzz14 => kernel_rfl
  case czz14 => kernel_rfl
  case yzz14 =>
    refine Or.inl ⟨by rfl, ?_⟩
    intro w hSw
    skip
    go_simp
    try with_reducible rfl
  case qzz14 => exact fun _ _ _ h => h
  case szz14 => first | assumption | trivial
  case' rzz14 => simp only [Act.put, List.setIfInBounds_toArray, List.set_cons_zero, List.set_cons_succ]
  refine wpAnyH_take (i := 3) (oi := ?ozz15) (v := ?vzz15) ?hzz15 ?azz15 ?bzz15 ?czz15 ?qzz15 ?yzz15 ?szz15 ?rzz15
  case hzz15 => simp only [List.getElem?_toArray, List.getElem?_cons_zero, List.getElem?_cons_succ]; rfl
  case azz15 => kernel_rfl
  case bzz15 => kernel_rfl
  case czz15 => kernel_rfl
  case yzz15 =>
    refine Or.inl ⟨by rfl, ?_⟩
    intro w hSw
    skip
    go_simp
    try with_reducible rfl
  case qzz15 => exact fun _ _ _ h => h
  case szz15 => first | assumption | trivial
  case' rzz15 => simp only [Act.put, List.setIfInBounds_toArray, List.set_cons_zero, List.set_cons_succ]
  refine wpAnyH_take (i := 4) (oi := ?ozz16) (v := ?vzz16) ?hzz16 ?azz16 ?bzz16 ?czz16 ?qzz16 ?yzz16 ?szz16 ?rzz16
  case hzz16 => simp only [List.getElem?_toArray, List.getElem?_cons_zero, List.getElem?_cons_succ]; rfl
  case azz16 => kernel_rfl
  case bzz16 => kernel_rfl
  case czz16 => kernel_rfl
  case yzz16 =>
    refine Or.inl ⟨by rfl, ?_⟩
    intro w hSw
    have z0 := box_ hSw y0; have z1 := box_ hSw y1; have z2 := box_ hSw y2; clear hSw
    go_simp
    try with_reducible rfl
  case qzz16 => exact fun _ _ _ h => h
  case szz16 => first | assumption | trivial
  case' rzz16 => simp only [Act.put, List.setIfInBounds_toArray, List.set_cons_zero, List.set_cons_succ]
  refine wpAnyH_take (i := 7) (oi := ?ozz17) (v := ?vzz17) ?hzz17 ?azz17 ?bzz17 ?czz17 ?qzz17 ?yzz17 ?szz17 ?rzz17
  case hzz17 => simp only [List.getElem?_toArray, List.getElem?_cons_zero, List.getElem?_cons_succ]; rfl
  case azz17 => kernel_rfl
  case bzz17 => kernel_rfl
  case czz17 => kernel_rfl
  case yzz17 =>
    refine Or.inl ⟨by rfl, ?_⟩
    intro w hSw
    skip
    go_simp
    try with_reducible rfl
  case qzz17 => exact fun _ _ _ h => h
  case szz17 => first | assumption | trivial
  case' rzz17 => simp only [Act.put, List.setIfInBounds_toArray, List.set_cons_zero, List.set_cons_succ]
  refine wpAnyH_ready (rs := [5]) (by kernel_rfl) (by simp) ?_
  refine AllReadyH.cons (o := ?ozz21) ?hzz21 (fun K hK => ?kzz21) ?mzz21
  case hzz21 => simp only [List.getElem?_toArray, List.getElem?_cons_zero, List.getElem?_cons_succ]; rfl
  case kzz21 =>
    go_simp
    have OB : Hid (Lst writeK (D0.alloc (.cells #[.string xk, .string xv, .bool xd] 24)) (some ⟨D0.heap.size, 0, none⟩) 1 [⟨xk, xv, xd⟩]) := Lib.hid (lit_write D0 ⟨xk, xv, xd⟩).lst
    have qa := (Q.refl D0).alloc (.cells #[.string xk, .string xv, .bool xd] 24)
    generalize D0.alloc (.cells #[.string xk, .string xv, .bool xd] 24) = D1 at OB qa ⊢
    generalize D0.heap.size = nb at OB ⊢
    refine hK.out _ _ ?Szz21 (fun hHeld => ?Rzz21)
    case Szz21 =>
      exact hHeld.trans qa
    case Rzz21 =>
      clear hK K
      try simp only [Act.put, List.setIfInBounds_toArray, List.set_cons_zero, List.set_cons_succ]
      refine wpAnyH_ready (rs := [6]) (by kernel_rfl) (by simp) ?_
      refine AllReadyH.cons (o := ?ozz20) ?hzz20 (fun K hK => ?kzz20) ?mzz20
      case hzz20 => simp only [List.getElem?_toArray, List.getElem?_cons_zero, List.getElem?_cons_succ]; rfl
      case kzz20 =>
        refine step_growK writeK (by rfl) _ _ _ rfl (by rfl) W2.heap.size (some ad) n n (l.take n) (by rfl) ((HT.out.q Q2.out).q hHeld) (fun e => by cases e) _ 1 1 [⟨xk, xv, xd⟩] (by rfl) OB.out (by omega) (n + 1) rfl (l.take n ++ [⟨xk, xv, xd⟩]) rfl HB1.out hHeld.size ?_
        intro A6 c6 D2 o6 q6
        have O6 := Lib.hid o6
        refine hK.out _ _ ?Szz20 (fun hHeld => ?Rzz20)
        case Szz20 =>
          exact hHeld.trans q6
        case Rzz20 =>
          clear hK K
          try simp only [Act.put, List.setIfInBounds_toArray, List.set_cons_zero, List.set_cons_succ]
          refine wpAnyH_ready (rs := [8]) (by kernel_rfl) (by simp) ?_
          refine AllReadyH.cons (o := ?ozz19) ?hzz19 (fun K hK => ?kzz19) ?mzz19
          case hzz19 => simp only [List.getElem?_toArray, List.getElem?_cons_zero, List.getElem?_cons_succ]; rfl
          case kzz19 =>
            refine step_appKM writeK (by rfl) _ _ _ rfl (by rfl) W2.heap.size A6 (n + 1) c6 (l.take n ++ [⟨xk, xv, xd⟩]) (by rfl) O6.out _ _ _ [] (by rfl) ((HLB.out.q Q2.out).q hHeld) (fun e => by cases e) N HN.out (l.take n ++ [⟨xk, xv, xd⟩] ++ []) rfl HB2.out hHeld.size ?_
            intro A7 c7 D3 o7 b7 g7
            have O7 := Lib.hid o7
            have B7 := Lib.hid (Below.trans hHeld b7)
            refine hK.out _ _ ?Szz19 (fun hHeld => ?Rzz19)
            case Szz19 =>
              exact Below.trans hHeld b7
            case Rzz19 =>
              clear hK K
              try simp only [Act.put, List.setIfInBounds_toArray, List.set_cons_zero, List.set_cons_succ]
              refine wpAnyH_take (i := 9) (oi := ?ozz18) (v := ?vzz18) ?hzz18 ?azz18 ?bzz18 ?czz18 ?qzz18 ?yzz18 ?szz18 ?rzz18
              case hzz18 => simp only [List.getElem?_toArray, List.getElem?_cons_zero, List.getElem?_cons_succ]; rfl
              case azz18 => kernel_rfl
              case bzz18 => kernel_rfl
              case czz18 => kernel_rfl
              case yzz18 =>
                refine Or.inl ⟨by rfl, ?_⟩
                intro w hSw
                skip
                go_simp
                try with_reducible rfl
              case qzz18 => exact fun _ _ _ h => h
              case szz18 => first | assumption | trivial
              case' rzz18 => simp only [Act.put, List.setIfInBounds_toArray, List.set_cons_zero, List.set_cons_succ]
              refine wpAnyH_done (by kernel_rfl) ?_ _
              go_wp2
              go_ret
              exact ⟨A7, c7, rfl, O7.out.lower Q2.out.size, Q2.out.trans B7.out⟩
          case' mzz19 => skip
          exact AllReadyH.nil
      case' mzz20 => skip
      exact AllReadyH.nil
  case' mzz21 => skip
  exact AllReadyH.nil

end Go.Proofs.Ytcclgepccahhbaa
