/- For every row of at most 1048576 texts of at most 1048576 bytes: a buffer's rest never has more than 2053 bytes, whatever came. -/
import Derived.Test.YthcdcjidoacalaaFrmIn
import Derived.Test.YthcdcjidoacalaaFrameU
import Derived.Test.YthcdcjidoacalaaHeldL
import Derived.Deep.DeepCutAuto
namespace Go.Proofs.Ythcdcjidoacalaa.frameSmallUpto
set_option maxRecDepth 100000
open Go.ChangeShapes Go.WideShapes Go.ChangeAt Go.RowKit Fm
set_option linter.unusedVariables false
set_option linter.unusedSimpArgs false

theorem feed_small {b : Bf} (m : List UInt8) (h : b.rest.length ≤ 2053) : (feed b m).1.rest.length ≤ 2053 := by
  unfold feed
  split
  · exact h
  · split
    · rename_i ho; exact on_small ho
    · simp
set_option maxHeartbeats 4000000 in
theorem walk (A : Option Addr) (n c : Nat) (l : List (List UInt8)) (w : World) (hd : In_ textK w A n c l) (hb : n * 16 ≤ 140737488351232) (hp : ∀ a ∈ l, a.length ≤ 140737488351232) (hz : ∀ a ∈ l, a.length ≤ 1048576) (hu : n ≤ 1048576) :
    Calls Try.prog 6 #[.slice A n c] w fun e w' => e = .returned (.bool true) ∧ Q w w' := by
  have K0 := Lib.hid (fun W => fshown_any W)
  have HD := Lib.hid hd
  have HL := Lib.hid hd.len
  have HP := Lib.hid hz
  clear hd hp hz
  go_enter Try.func6, Try.ntmps6
  go_wp2_with fail
  refine (K0.out _).mono ?_
  rintro e w1 ⟨rfl, q1⟩
  have B1 := Lib.hid (And.intro (q1.alloc (.cells #[.string ⟨#[]⟩, .bool false] 23)) (Bx.new w1 [.string ⟨#[]⟩, .bool false] 23))
  have hn1 : w.heap.size ≤ w1.heap.size := q1.size
  clear q1
  go_upto_region 4 with (fail)
  change Hid (_ ∧ Bx (w1.alloc (.cells #[.string ⟨#[]⟩, .bool false] 23)) _ _) at B1
  generalize w1.heap.size = n1 at B1 hn1 ⊢
  generalize (w1.alloc (.cells #[.string ⟨#[]⟩, .bool false] 23)) = w2 at B1 ⊢
  go_loopw [5] (fun i wr => ∃ (k : Nat) (x : Bf), k ≤ n ∧ i = .int .i64 (k : Nat) ∧ Bx wr n1 [.string (tx x.rest), .bool x.bad] ∧ x.rest.length ≤ 2053 ∧ Q w wr) (fun i _ => n - (intOf i).toNat)
  case atStart => exact ⟨0, ⟨[], false⟩, Nat.zero_le _, rfl, B1.out.2, by simp, B1.out.1⟩
  case round =>
    obtain ⟨k, x, hk, rfl, hx, hxl, hq⟩ := hrel
    have HQ := Lib.hid hq
    have XB := Lib.hid hx
    clear hq hx
    by_cases hlt : k < n
    case neg =>
      go_wp2
      go_ret
      exact ⟨rfl, HQ.out⟩
    have hkl : k < l.length := by rw [HL.out]; omega
    obtain ⟨ad, rfl, hab, x0⟩ := load_text (HD.out.lst.q HQ.out) hlt hkl
    have hrl := HP.out l[k] (List.getElem_mem hkl)
    have hk2 : (k : Int) < (n : Int) := by omega
    have hrs := tx_size l[k]
    have K1 := Lib.hid (fun W => ffeed_any x (tx l[k]) W (by omega) (by
      have := wh_count (x.rest ++ l[k])
      rw [List.length_append] at this
      rw [list_tx]; omega))
    rw [list_tx] at K1
    have hsm := feed_small l[k] hxl
    generalize feed x l[k] = f at K1 hsm
    obtain ⟨⟨yr, yb⟩, m, j⟩ := f
    obtain ⟨xr, xb⟩ := x
    unfold RetF bfV at K1
    simp only at K1 hsm XB
    have hys := tx_size yr
    generalize tx l[k] = S0 at *
    generalize hY : tx yr = Y at *
    have HYR := Lib.hid hY
    generalize tx xr = X at *
    have HSM := Lib.hid (And.intro hsm hys)
    have hYs : ¬ (2053 : Int) < (Y.size : Int) := by omega
    clear hkl hrl hrs hsm hys hY hxl hab
    obtain ⟨⟨e0, e1⟩, e2, e3⟩ := XB.out.get2
    go_upto_region 6 with (fail)
    refine wp_region_heldL 11 (Q wr) (by kernel_rfl) ?szz0 (fun hHeld => ?rzz0)
    case szz0 =>
      exact (Q.refl wr).drew
    case' rzz0 => skip
    generalize hgen : wr.drew = D0 at hHeld ⊢
    clear hgen
    refine wpAnyL_take (i := 0) (oi := ?ozz1) (v := ?vzz1) ?hzz1 ?azz1 ?bzz1 ?czz1 ?kzz1 ?qzz1 ?yzz1 ?szz1 ?rzz1
    case hzz1 => simp only [List.getElem?_toArray, List.getElem?_cons_zero]; rfl
    case azz1 => kernel_rfl
    case bzz1 => kernel_rfl
    case czz1 => kernel_rfl
    case kzz1 => kernel_rfl
    case yzz1 =>
      refine Or.inl ⟨by rfl, ?_⟩
      intro w hSw
      have y0 := box_ hSw e0; have y1 := box_ hSw e1; clear hSw
      go_simp
      try with_reducible rfl
    case qzz1 => exact fun _ _ _ h => h
    case szz1 => first | assumption | trivial
    case' rzz1 => simp only [Act.put, List.setIfInBounds_toArray, List.set_cons_zero, List.set_cons_succ]
    refine wpAnyL_take (i := 1) (oi := ?ozz2) (v := ?vzz2) ?hzz2 ?azz2 ?bzz2 ?czz2 ?kzz2 ?qzz2 ?yzz2 ?szz2 ?rzz2
    case hzz2 => simp only [List.getElem?_toArray, List.getElem?_cons_zero, List.getElem?_cons_succ]; rfl
    case azz2 => kernel_rfl
    case bzz2 => kernel_rfl
    case czz2 => kernel_rfl
    case kzz2 => kernel_rfl
    case yzz2 =>
      refine Or.inl ⟨by rfl, ?_⟩
      intro w hSw
      skip
      go_simp
      try with_reducible rfl
    case qzz2 => exact fun _ _ _ h => h
    case szz2 => first | assumption | trivial
    case' rzz2 => simp only [Act.put, List.setIfInBounds_toArray, List.set_cons_zero, List.set_cons_succ]
    refine wpAnyL_take (i := 2) (oi := ?ozz3) (v := ?vzz3) ?hzz3 ?azz3 ?bzz3 ?czz3 ?kzz3 ?qzz3 ?yzz3 ?szz3 ?rzz3
    case hzz3 => simp only [List.getElem?_toArray, List.getElem?_cons_zero, List.getElem?_cons_succ]; rfl
    case azz3 => kernel_rfl
    case bzz3 => kernel_rfl
    case czz3 => kernel_rfl
    case kzz3 => kernel_rfl
    case yzz3 =>
      refine Or.inl ⟨by rfl, ?_⟩
      intro w hSw
      skip
      go_simp
      try with_reducible rfl
    case qzz3 => exact fun _ _ _ h => h
    case szz3 => first | assumption | trivial
    case' rzz3 => simp only [Act.put, List.setIfInBounds_toArray, List.set_cons_zero, List.set_cons_succ]
    refine wpAnyL_take (i := 3) (oi := ?ozz4) (v := ?vzz4) ?hzz4 ?azz4 ?bzz4 ?czz4 ?kzz4 ?qzz4 ?yzz4 ?szz4 ?rzz4
    case hzz4 => simp only [List.getElem?_toArray, List.getElem?_cons_zero, List.getElem?_cons_succ]; rfl
    case azz4 => kernel_rfl
    case bzz4 => kernel_rfl
    case czz4 => kernel_rfl
    case kzz4 => kernel_rfl
    case yzz4 =>
      refine Or.inl ⟨by rfl, ?_⟩
      intro w hSw
      skip
      go_simp
      try with_reducible rfl
    case qzz4 => exact fun _ _ _ h => h
    case szz4 => first | assumption | trivial
    case' rzz4 => simp only [Act.put, List.setIfInBounds_toArray, List.set_cons_zero, List.set_cons_succ]
    refine wpAnyL_take (i := 4) (oi := ?ozz5) (v := ?vzz5) ?hzz5 ?azz5 ?bzz5 ?czz5 ?kzz5 ?qzz5 ?yzz5 ?szz5 ?rzz5
    case hzz5 => simp only [List.getElem?_toArray, List.getElem?_cons_zero, List.getElem?_cons_succ]; rfl
    case azz5 => kernel_rfl
    case bzz5 => kernel_rfl
    case czz5 => kernel_rfl
    case kzz5 => kernel_rfl
    case yzz5 =>
      refine Or.inl ⟨by rfl, ?_⟩
      intro w hSw
      have y4 := box_ hSw x0; clear hSw
      go_simp
      try with_reducible rfl
    case qzz5 => exact fun _ _ _ h => h
    case szz5 => first | assumption | trivial
    case' rzz5 => simp only [Act.put, List.setIfInBounds_toArray, List.set_cons_zero, List.set_cons_succ]
    refine wpAnyL_ready (rs := [5, 10]) (by kernel_rfl) (by simp) ?_
    refine AllReadyL.cons (o := ?ozz103) ?hzz103 (fun K hK => ?kzz103) ?mzz103
    case hzz103 => simp only [List.getElem?_toArray, List.getElem?_cons_zero, List.getElem?_cons_succ]; rfl
    case kzz103 =>
      go_simp
      refine (K1.out _).mono ?_
      rintro e v2 ⟨A2, c2, rfl, o2, q2⟩
      clear o2
      go_wp2_with fail
      refine hK.out _ _ ?Szz103 (fun hHeld => ?Rzz103)
      case Szz103 =>
        exact hHeld.trans q2
      case Rzz103 =>
        clear hK K
        try simp only [Act.put, List.setIfInBounds_toArray, List.set_cons_zero, List.set_cons_succ]
        refine wpAnyL_take (i := 6) (oi := ?ozz6) (v := ?vzz6) ?hzz6 ?azz6 ?bzz6 ?czz6 ?kzz6 ?qzz6 ?yzz6 ?szz6 ?rzz6
        case hzz6 => simp only [List.getElem?_toArray, List.getElem?_cons_zero, List.getElem?_cons_succ]; rfl
        case azz6 => kernel_rfl
        case bzz6 => kernel_rfl
        case czz6 => kernel_rfl
        case kzz6 => kernel_rfl
        case yzz6 =>
          refine Or.inl ⟨by rfl, ?_⟩
          intro w hSw
          skip
          go_simp
          try with_reducible rfl
        case qzz6 => exact fun _ _ _ h => h
        case szz6 => first | assumption | trivial
        case' rzz6 => simp only [Act.put, List.setIfInBounds_toArray, List.set_cons_zero, List.set_cons_succ]
        refine wpAnyL_take (i := 7) (oi := ?ozz7) (v := ?vzz7) ?hzz7 ?azz7 ?bzz7 ?czz7 ?kzz7 ?qzz7 ?yzz7 ?szz7 ?rzz7
        case hzz7 => simp only [List.getElem?_toArray, List.getElem?_cons_zero, List.getElem?_cons_succ]; rfl
        case azz7 => kernel_rfl
        case bzz7 => kernel_rfl
        case czz7 => kernel_rfl
        case kzz7 => kernel_rfl
        case yzz7 =>
          refine Or.inl ⟨by rfl, ?_⟩
          intro w hSw
          skip
          go_simp
          try with_reducible rfl
        case qzz7 => exact fun _ _ _ h => h
        case szz7 => first | assumption | trivial
        case' rzz7 => simp only [Act.put, List.setIfInBounds_toArray, List.set_cons_zero, List.set_cons_succ]
        refine wpAnyL_ready (rs := [8, 9, 10]) (by kernel_rfl) (by simp) ?_
        refine AllReadyL.cons (o := ?ozz68) ?hzz68 (fun K hK => ?kzz68) ?mzz68
        case hzz68 => simp only [List.getElem?_toArray, List.getElem?_cons_zero, List.getElem?_cons_succ]; rfl
        case kzz68 =>
          go_simp
          refine hK.out _ _ ?Szz68 (fun hHeld => ?Rzz68)
          case Szz68 =>
            first | exact hHeld | trivial
          case Rzz68 =>
            clear hK K
            try simp only [Act.put, List.setIfInBounds_toArray, List.set_cons_zero, List.set_cons_succ]
            refine wpAnyL_ready (rs := [9, 10]) (by kernel_rfl) (by simp) ?_
            refine AllReadyL.cons (o := ?ozz23) ?hzz23 (fun K hK => ?kzz23) ?mzz23
            case hzz23 => simp only [List.getElem?_toArray, List.getElem?_cons_zero, List.getElem?_cons_succ]; rfl
            case kzz23 =>
              go_simp
              refine hK.out _ _ ?Szz23 (fun hHeld => ?Rzz23)
              case Szz23 =>
                first | exact hHeld | trivial
              case Rzz23 =>
                clear hK K
                try simp only [Act.put, List.setIfInBounds_toArray, List.set_cons_zero, List.set_cons_succ]
                refine wpAnyL_ready (rs := [10]) (by kernel_rfl) (by simp) ?_
                refine AllReadyL.cons (o := ?ozz11) ?hzz11 (fun K hK => ?kzz11) ?mzz11
                case hzz11 => simp only [List.getElem?_toArray, List.getElem?_cons_zero, List.getElem?_cons_succ]; rfl
                case kzz11 =>
                  go_simp
                  have BX := Lib.hid (Bx.new v2 [.string ⟨#[]⟩, .bool false] 23)
                  have hnb : wr.heap.size ≤ v2.heap.size := hHeld.size
                  have qa := (Q.refl v2).alloc (.cells #[.string ⟨#[]⟩, .bool false] 23)
                  have BX : Hid (Bx (v2.alloc (.cells #[.string ⟨#[]⟩, .bool false] 23)) v2.heap.size [.string ⟨#[]⟩, .bool false]) := Lib.hid BX.out
                  generalize v2.alloc (.cells #[.string ⟨#[]⟩, .bool false] 23) = Y0 at BX qa ⊢
                  generalize hnbe : v2.heap.size = nb at BX hnb ⊢
                  have hnw := Lib.hid (Nat.le_of_eq hnbe)
                  clear hnbe
                  refine hK.out _ _ ?Szz11 (fun hHeld => ?Rzz11)
                  case Szz11 =>
                    exact hHeld.trans qa
                  case Rzz11 =>
                    clear hK K
                    try simp only [Act.put, List.setIfInBounds_toArray, List.set_cons_zero, List.set_cons_succ]
                    refine wpAnyL_ready (rs := [11]) (by kernel_rfl) (by simp) ?_
                    refine AllReadyL.consK (o := ?ozz10) ?hzz10 ?lzz10 (fun K hK => ?kzz10) ?mzz10
                    case hzz10 => simp only [List.getElem?_toArray, List.getElem?_cons_zero, List.getElem?_cons_succ]; rfl
                    case lzz10 => kernel_rfl
                    case kzz10 =>
                      have HZ := Lib.hid hHeld
                      obtain ⟨⟨st0, st1⟩, st2, st3⟩ := BX.out.get2
                      go_simp
                      clear st0 st1 st2 st3
                      refine hK.out _ _ ?Rzz10
                      case Rzz10 =>
                        clear hK K
                        try simp only [Act.put, List.setIfInBounds_toArray, List.set_cons_zero, List.set_cons_succ]
                        refine wpAnyH_take (i := 12) (oi := ?ozz8) (v := ?vzz8) ?hzz8 ?azz8 ?bzz8 ?czz8 ?qzz8 ?yzz8 ?szz8 ?rzz8
                        case hzz8 => simp only [List.getElem?_toArray, List.getElem?_cons_zero, List.getElem?_cons_succ]; rfl
                        case azz8 => kernel_rfl
                        case bzz8 => kernel_rfl
                        case czz8 => kernel_rfl
                        case yzz8 =>
                          refine Or.inl ⟨by rfl, ?_⟩
                          intro w hSw
                          skip
                          go_simp
                          try with_reducible rfl
                        case qzz8 => exact fun _ _ _ h => h
                        case szz8 => first | assumption | trivial
                        case' rzz8 => simp only [Act.put, List.setIfInBounds_toArray, List.set_cons_zero, List.set_cons_succ]
                        refine wpAnyH_take (i := 13) (oi := ?ozz9) (v := ?vzz9) ?hzz9 ?azz9 ?bzz9 ?czz9 ?qzz9 ?yzz9 ?szz9 ?rzz9
                        case hzz9 => simp only [List.getElem?_toArray, List.getElem?_cons_zero, List.getElem?_cons_succ]; rfl
                        case azz9 => kernel_rfl
                        case bzz9 => kernel_rfl
                        case czz9 => kernel_rfl
                        case yzz9 =>
                          refine Or.inl ⟨by rfl, ?_⟩
                          intro w hSw
                          skip
                          go_simp
                          try with_reducible rfl
                        case qzz9 => exact fun _ _ _ h => h
                        case szz9 => first | assumption | trivial
                        case' rzz9 => simp only [Act.put, List.setIfInBounds_toArray, List.set_cons_zero, List.set_cons_succ]
                        refine wpAnyH_done (by kernel_rfl) ?_ _
                        have Z1 := Lib.hid (BX.out.set2 (.string Y) (.bool yb))
                        have Z2 := Lib.hid ((XB.out.q HZ.out).far2 (c := nb) (by have := XB.out.lt; omega) (.string Y) (.bool yb))
                        have Z3 := Lib.hid (HQ.out.trans (HZ.out.set2 (b := nb) hnb (.string Y) (.bool yb)))
                        have Z4 := Lib.hid (HZ.out.set2 (b := nb) hnb (.string Y) (.bool yb))
                        have hxb := XB.out.lt
                        generalize ((Y0.setCell ⟨nb, 0, none⟩ (.string Y)).setCell ⟨nb, 1, none⟩ (.bool yb)) = W9 at Z1 Z2 Z3 Z4 ⊢
                        obtain ⟨⟨a0, a1⟩, a2, a3⟩ := Z1.out.get2
                        obtain ⟨⟨b0, b1⟩, b2, b3⟩ := Z2.out.get2
                        clear e0 e1 e2 e3 x0
                        go_wp2
                        go_roundw
                        case rel => exact ⟨k + 1, ⟨yr, yb⟩, by omega, by go_num, by rw [HYR.out]; exact Z2.out.set2 _ _, HSM.out.1, Z3.out.set2 (b := n1) hn1 _ _⟩
                        case measure => simp [intOf]; omega
                    case' mzz10 => skip
                    exact AllReadyL.nil
                case' mzz11 => skip
                exact AllReadyL.nil
            case' mzz23 => skip
            refine AllReadyL.cons (o := ?ozz24) ?hzz24 (fun K hK => ?kzz24) ?mzz24
            case hzz24 => simp only [List.getElem?_toArray, List.getElem?_cons_zero, List.getElem?_cons_succ]; rfl
            case kzz24 =>
              go_simp
              have BX := Lib.hid (Bx.new v2 [.string ⟨#[]⟩, .bool false] 23)
              have hnb : wr.heap.size ≤ v2.heap.size := hHeld.size
              have qa := (Q.refl v2).alloc (.cells #[.string ⟨#[]⟩, .bool false] 23)
              have BX : Hid (Bx (v2.alloc (.cells #[.string ⟨#[]⟩, .bool false] 23)) v2.heap.size [.string ⟨#[]⟩, .bool false]) := Lib.hid BX.out
              generalize v2.alloc (.cells #[.string ⟨#[]⟩, .bool false] 23) = Y1 at BX qa ⊢
              generalize hnbe : v2.heap.size = nb at BX hnb ⊢
              have hnw := Lib.hid (Nat.le_of_eq hnbe)
              clear hnbe
              refine hK.out _ _ ?Szz24 (fun hHeld => ?Rzz24)
              case Szz24 =>
                exact hHeld.trans qa
              case Rzz24 =>
                clear hK K
                try simp only [Act.put, List.setIfInBounds_toArray, List.set_cons_zero, List.set_cons_succ]
                refine wpAnyL_ready (rs := [9, 11]) (by kernel_rfl) (by simp) ?_
                refine AllReadyL.cons (o := ?ozz21) ?hzz21 (fun K hK => ?kzz21) ?mzz21
                case hzz21 => simp only [List.getElem?_toArray, List.getElem?_cons_zero, List.getElem?_cons_succ]; rfl
                case kzz21 =>
                  go_simp
                  refine hK.out _ _ ?Szz21 (fun hHeld => ?Rzz21)
                  case Szz21 =>
                    first | exact hHeld | trivial
                  case Rzz21 =>
                    clear hK K
                    try simp only [Act.put, List.setIfInBounds_toArray, List.set_cons_zero, List.set_cons_succ]
                    refine wpAnyL_ready (rs := [11]) (by kernel_rfl) (by simp) ?_
                    refine AllReadyL.consK (o := ?ozz14) ?hzz14 ?lzz14 (fun K hK => ?kzz14) ?mzz14
                    case hzz14 => simp only [List.getElem?_toArray, List.getElem?_cons_zero, List.getElem?_cons_succ]; rfl
                    case lzz14 => kernel_rfl
                    case kzz14 =>
                      have HZ := Lib.hid hHeld
                      obtain ⟨⟨st0, st1⟩, st2, st3⟩ := BX.out.get2
                      go_simp
                      clear st0 st1 st2 st3
                      refine hK.out _ _ ?Rzz14
                      case Rzz14 =>
                        clear hK K
                        try simp only [Act.put, List.setIfInBounds_toArray, List.set_cons_zero, List.set_cons_succ]
                        refine wpAnyH_take (i := 12) (oi := ?ozz12) (v := ?vzz12) ?hzz12 ?azz12 ?bzz12 ?czz12 ?qzz12 ?yzz12 ?szz12 ?rzz12
                        case hzz12 => simp only [List.getElem?_toArray, List.getElem?_cons_zero, List.getElem?_cons_succ]; rfl
                        case azz12 => kernel_rfl
                        case bzz12 => kernel_rfl
                        case czz12 => kernel_rfl
                        case yzz12 =>
                          refine Or.inl ⟨by rfl, ?_⟩
                          intro w hSw
                          skip
                          go_simp
                          try with_reducible rfl
                        case qzz12 => exact fun _ _ _ h => h
                        case szz12 => first | assumption | trivial
                        case' rzz12 => simp only [Act.put, List.setIfInBounds_toArray, List.set_cons_zero, List.set_cons_succ]
                        refine wpAnyH_take (i := 13) (oi := ?ozz13) (v := ?vzz13) ?hzz13 ?azz13 ?bzz13 ?czz13 ?qzz13 ?yzz13 ?szz13 ?rzz13
                        case hzz13 => simp only [List.getElem?_toArray, List.getElem?_cons_zero, List.getElem?_cons_succ]; rfl
                        case azz13 => kernel_rfl
                        case bzz13 => kernel_rfl
                        case czz13 => kernel_rfl
                        case yzz13 =>
                          refine Or.inl ⟨by rfl, ?_⟩
                          intro w hSw
                          skip
                          go_simp
                          try with_reducible rfl
                        case qzz13 => exact fun _ _ _ h => h
                        case szz13 => first | assumption | trivial
                        case' rzz13 => simp only [Act.put, List.setIfInBounds_toArray, List.set_cons_zero, List.set_cons_succ]
                        refine wpAnyH_done (by kernel_rfl) ?_ _
                        have Z1 := Lib.hid (BX.out.set2 (.string Y) (.bool yb))
                        have Z2 := Lib.hid ((XB.out.q HZ.out).far2 (c := nb) (by have := XB.out.lt; omega) (.string Y) (.bool yb))
                        have Z3 := Lib.hid (HQ.out.trans (HZ.out.set2 (b := nb) hnb (.string Y) (.bool yb)))
                        have Z4 := Lib.hid (HZ.out.set2 (b := nb) hnb (.string Y) (.bool yb))
                        have hxb := XB.out.lt
                        generalize ((Y1.setCell ⟨nb, 0, none⟩ (.string Y)).setCell ⟨nb, 1, none⟩ (.bool yb)) = W9 at Z1 Z2 Z3 Z4 ⊢
                        obtain ⟨⟨a0, a1⟩, a2, a3⟩ := Z1.out.get2
                        obtain ⟨⟨b0, b1⟩, b2, b3⟩ := Z2.out.get2
                        clear e0 e1 e2 e3 x0
                        go_wp2
                        go_roundw
                        case rel => exact ⟨k + 1, ⟨yr, yb⟩, by omega, by go_num, by rw [HYR.out]; exact Z2.out.set2 _ _, HSM.out.1, Z3.out.set2 (b := n1) hn1 _ _⟩
                        case measure => simp [intOf]; omega
                    case' mzz14 => skip
                    exact AllReadyL.nil
                case' mzz21 => skip
                refine AllReadyL.consK (o := ?ozz22) ?hzz22 ?lzz22 (fun K hK => ?kzz22) ?mzz22
                case hzz22 => simp only [List.getElem?_toArray, List.getElem?_cons_zero, List.getElem?_cons_succ]; rfl
                case lzz22 => kernel_rfl
                case kzz22 =>
                  have HZ := Lib.hid hHeld
                  obtain ⟨⟨st0, st1⟩, st2, st3⟩ := BX.out.get2
                  go_simp
                  clear st0 st1 st2 st3
                  refine hK.out _ _ ?Rzz22
                  case Rzz22 =>
                    clear hK K
                    try simp only [Act.put, List.setIfInBounds_toArray, List.set_cons_zero, List.set_cons_succ]
                    refine wpAnyH_ready (rs := [9, 12]) (by kernel_rfl) (by simp) ?_
                    refine AllReadyH.cons (o := ?ozz19) ?hzz19 (fun K hK => ?kzz19) ?mzz19
                    case hzz19 => simp only [List.getElem?_toArray, List.getElem?_cons_zero, List.getElem?_cons_succ]; rfl
                    case kzz19 =>
                      go_simp
                      refine hK.out _ _ ?Szz19 (fun hHeld => ?Rzz19)
                      case Szz19 =>
                        first | exact hHeld | trivial
                      case Rzz19 =>
                        clear hK K
                        try simp only [Act.put, List.setIfInBounds_toArray, List.set_cons_zero, List.set_cons_succ]
                        refine wpAnyH_take (i := 12) (oi := ?ozz15) (v := ?vzz15) ?hzz15 ?azz15 ?bzz15 ?czz15 ?qzz15 ?yzz15 ?szz15 ?rzz15
                        case hzz15 => simp only [List.getElem?_toArray, List.getElem?_cons_zero, List.getElem?_cons_succ]; rfl
                        case azz15 => kernel_rfl
                        case bzz15 => kernel_rfl
                        case czz15 => kernel_rfl
                        case yzz15 =>
                          refine Or.inl ⟨by rfl, ?_⟩
                          intro w hSw
                          skip
                          go_simp
                          try with_reducible rfl
                        case qzz15 => exact fun _ _ _ h => h
                        case szz15 => first | assumption | trivial
                        case' rzz15 => simp only [Act.put, List.setIfInBounds_toArray, List.set_cons_zero, List.set_cons_succ]
                        refine wpAnyH_take (i := 13) (oi := ?ozz16) (v := ?vzz16) ?hzz16 ?azz16 ?bzz16 ?czz16 ?qzz16 ?yzz16 ?szz16 ?rzz16
                        case hzz16 => simp only [List.getElem?_toArray, List.getElem?_cons_zero, List.getElem?_cons_succ]; rfl
                        case azz16 => kernel_rfl
                        case bzz16 => kernel_rfl
                        case czz16 => kernel_rfl
                        case yzz16 =>
                          refine Or.inl ⟨by rfl, ?_⟩
                          intro w hSw
                          skip
                          go_simp
                          try with_reducible rfl
                        case qzz16 => exact fun _ _ _ h => h
                        case szz16 => first | assumption | trivial
                        case' rzz16 => simp only [Act.put, List.setIfInBounds_toArray, List.set_cons_zero, List.set_cons_succ]
                        refine wpAnyH_done (by kernel_rfl) ?_ _
                        have Z1 := Lib.hid (BX.out.set2 (.string Y) (.bool yb))
                        have Z2 := Lib.hid ((XB.out.q HZ.out).far2 (c := nb) (by have := XB.out.lt; omega) (.string Y) (.bool yb))
                        have Z3 := Lib.hid (HQ.out.trans (HZ.out.set2 (b := nb) hnb (.string Y) (.bool yb)))
                        have Z4 := Lib.hid (HZ.out.set2 (b := nb) hnb (.string Y) (.bool yb))
                        have hxb := XB.out.lt
                        generalize ((Y1.setCell ⟨nb, 0, none⟩ (.string Y)).setCell ⟨nb, 1, none⟩ (.bool yb)) = W9 at Z1 Z2 Z3 Z4 ⊢
                        obtain ⟨⟨a0, a1⟩, a2, a3⟩ := Z1.out.get2
                        obtain ⟨⟨b0, b1⟩, b2, b3⟩ := Z2.out.get2
                        clear e0 e1 e2 e3 x0
                        go_wp2
                        go_roundw
                        case rel => exact ⟨k + 1, ⟨yr, yb⟩, by omega, by go_num, by rw [HYR.out]; exact Z2.out.set2 _ _, HSM.out.1, Z3.out.set2 (b := n1) hn1 _ _⟩
                        case measure => simp [intOf]; omega
                    case' mzz19 => skip
                    refine AllReadyH.cons (o := ?ozz20) ?hzz20 (fun K hK => ?kzz20) ?mzz20
                    case hzz20 => simp only [List.getElem?_toArray, List.getElem?_cons_zero, List.getElem?_cons_succ]; rfl
                    case kzz20 =>
                      go_simp
                      refine hK.out _ _ ?Szz20 (fun hHeld => ?Rzz20)
                      case Szz20 =>
                        first | exact hHeld | trivial
                      case Rzz20 =>
                        clear hK K
                        try simp only [Act.put, List.setIfInBounds_toArray, List.set_cons_zero, List.set_cons_succ]
                        refine wpAnyH_take (i := 9) (oi := ?ozz17) (v := ?vzz17) ?hzz17 ?azz17 ?bzz17 ?czz17 ?qzz17 ?yzz17 ?szz17 ?rzz17
                        case hzz17 => simp only [List.getElem?_toArray, List.getElem?_cons_zero, List.getElem?_cons_succ]; rfl
                        case azz17 => kernel_rfl
                        case bzz17 => kernel_rfl
                        case czz17 => kernel_rfl
                        case yzz17 =>
                          refine Or.inl ⟨by rfl, ?_⟩
                          intro w hSw
                          skip
                          go_simp
                          try with_reducible rfl
                        case qzz17 => exact fun _ _ _ h => h
                        case szz17 => first | assumption | trivial
                        case' rzz17 => simp only [Act.put, List.setIfInBounds_toArray, List.set_cons_zero, List.set_cons_succ]
                        refine wpAnyH_take (i := 13) (oi := ?ozz18) (v := ?vzz18) ?hzz18 ?azz18 ?bzz18 ?czz18 ?qzz18 ?yzz18 ?szz18 ?rzz18
                        case hzz18 => simp only [List.getElem?_toArray, List.getElem?_cons_zero, List.getElem?_cons_succ]; rfl
                        case azz18 => kernel_rfl
                        case bzz18 => kernel_rfl
                        case czz18 => kernel_rfl
                        case yzz18 =>
                          refine Or.inl ⟨by rfl, ?_⟩
                          intro w hSw
                          skip
                          go_simp
                          try with_reducible rfl
                        case qzz18 => exact fun _ _ _ h => h
                        case szz18 => first | assumption | trivial
                        case' rzz18 => simp only [Act.put, List.setIfInBounds_toArray, List.set_cons_zero, List.set_cons_succ]
                        refine wpAnyH_done (by kernel_rfl) ?_ _
                        have Z1 := Lib.hid (BX.out.set2 (.string Y) (.bool yb))
                        have Z2 := Lib.hid ((XB.out.q HZ.out).far2 (c := nb) (by have := XB.out.lt; omega) (.string Y) (.bool yb))
                        have Z3 := Lib.hid (HQ.out.trans (HZ.out.set2 (b := nb) hnb (.string Y) (.bool yb)))
                        have Z4 := Lib.hid (HZ.out.set2 (b := nb) hnb (.string Y) (.bool yb))
                        have hxb := XB.out.lt
                        generalize ((Y1.setCell ⟨nb, 0, none⟩ (.string Y)).setCell ⟨nb, 1, none⟩ (.bool yb)) = W9 at Z1 Z2 Z3 Z4 ⊢
                        obtain ⟨⟨a0, a1⟩, a2, a3⟩ := Z1.out.get2
                        obtain ⟨⟨b0, b1⟩, b2, b3⟩ := Z2.out.get2
                        clear e0 e1 e2 e3 x0
                        go_wp2
                        go_roundw
                        case rel => exact ⟨k + 1, ⟨yr, yb⟩, by omega, by go_num, by rw [HYR.out]; exact Z2.out.set2 _ _, HSM.out.1, Z3.out.set2 (b := n1) hn1 _ _⟩
                        case measure => simp [intOf]; omega
                    case' mzz20 => skip
                    exact AllReadyH.nil
                case' mzz22 => skip
                exact AllReadyL.nil
            case' mzz24 => skip
            exact AllReadyL.nil
        case' mzz68 => skip
        refine AllReadyL.cons (o := ?ozz69) ?hzz69 (fun K hK => ?kzz69) ?mzz69
        case hzz69 => simp only [List.getElem?_toArray, List.getElem?_cons_zero, List.getElem?_cons_succ]; rfl
        case kzz69 =>
          go_simp
          refine hK.out _ _ ?Szz69 (fun hHeld => ?Rzz69)
          case Szz69 =>
            first | exact hHeld | trivial
          case Rzz69 =>
            clear hK K
            try simp only [Act.put, List.setIfInBounds_toArray, List.set_cons_zero, List.set_cons_succ]
            refine wpAnyL_ready (rs := [8, 10]) (by kernel_rfl) (by simp) ?_
            refine AllReadyL.cons (o := ?ozz37) ?hzz37 (fun K hK => ?kzz37) ?mzz37
            case hzz37 => simp only [List.getElem?_toArray, List.getElem?_cons_zero, List.getElem?_cons_succ]; rfl
            case kzz37 =>
              go_simp
              refine hK.out _ _ ?Szz37 (fun hHeld => ?Rzz37)
              case Szz37 =>
                first | exact hHeld | trivial
              case Rzz37 =>
                clear hK K
                try simp only [Act.put, List.setIfInBounds_toArray, List.set_cons_zero, List.set_cons_succ]
                refine wpAnyL_ready (rs := [10]) (by kernel_rfl) (by simp) ?_
                refine AllReadyL.cons (o := ?ozz28) ?hzz28 (fun K hK => ?kzz28) ?mzz28
                case hzz28 => simp only [List.getElem?_toArray, List.getElem?_cons_zero, List.getElem?_cons_succ]; rfl
                case kzz28 =>
                  go_simp
                  have BX := Lib.hid (Bx.new v2 [.string ⟨#[]⟩, .bool false] 23)
                  have hnb : wr.heap.size ≤ v2.heap.size := hHeld.size
                  have qa := (Q.refl v2).alloc (.cells #[.string ⟨#[]⟩, .bool false] 23)
                  have BX : Hid (Bx (v2.alloc (.cells #[.string ⟨#[]⟩, .bool false] 23)) v2.heap.size [.string ⟨#[]⟩, .bool false]) := Lib.hid BX.out
                  generalize v2.alloc (.cells #[.string ⟨#[]⟩, .bool false] 23) = Y2 at BX qa ⊢
                  generalize hnbe : v2.heap.size = nb at BX hnb ⊢
                  have hnw := Lib.hid (Nat.le_of_eq hnbe)
                  clear hnbe
                  refine hK.out _ _ ?Szz28 (fun hHeld => ?Rzz28)
                  case Szz28 =>
                    exact hHeld.trans qa
                  case Rzz28 =>
                    clear hK K
                    try simp only [Act.put, List.setIfInBounds_toArray, List.set_cons_zero, List.set_cons_succ]
                    refine wpAnyL_ready (rs := [11]) (by kernel_rfl) (by simp) ?_
                    refine AllReadyL.consK (o := ?ozz27) ?hzz27 ?lzz27 (fun K hK => ?kzz27) ?mzz27
                    case hzz27 => simp only [List.getElem?_toArray, List.getElem?_cons_zero, List.getElem?_cons_succ]; rfl
                    case lzz27 => kernel_rfl
                    case kzz27 =>
                      have HZ := Lib.hid hHeld
                      obtain ⟨⟨st0, st1⟩, st2, st3⟩ := BX.out.get2
                      go_simp
                      clear st0 st1 st2 st3
                      refine hK.out _ _ ?Rzz27
                      case Rzz27 =>
                        clear hK K
                        try simp only [Act.put, List.setIfInBounds_toArray, List.set_cons_zero, List.set_cons_succ]
                        refine wpAnyH_take (i := 12) (oi := ?ozz25) (v := ?vzz25) ?hzz25 ?azz25 ?bzz25 ?czz25 ?qzz25 ?yzz25 ?szz25 ?rzz25
                        case hzz25 => simp only [List.getElem?_toArray, List.getElem?_cons_zero, List.getElem?_cons_succ]; rfl
                        case azz25 => kernel_rfl
                        case bzz25 => kernel_rfl
                        case czz25 => kernel_rfl
                        case yzz25 =>
                          refine Or.inl ⟨by rfl, ?_⟩
                          intro w hSw
                          skip
                          go_simp
                          try with_reducible rfl
                        case qzz25 => exact fun _ _ _ h => h
                        case szz25 => first | assumption | trivial
                        case' rzz25 => simp only [Act.put, List.setIfInBounds_toArray, List.set_cons_zero, List.set_cons_succ]
                        refine wpAnyH_take (i := 13) (oi := ?ozz26) (v := ?vzz26) ?hzz26 ?azz26 ?bzz26 ?czz26 ?qzz26 ?yzz26 ?szz26 ?rzz26
                        case hzz26 => simp only [List.getElem?_toArray, List.getElem?_cons_zero, List.getElem?_cons_succ]; rfl
                        case azz26 => kernel_rfl
                        case bzz26 => kernel_rfl
                        case czz26 => kernel_rfl
                        case yzz26 =>
                          refine Or.inl ⟨by rfl, ?_⟩
                          intro w hSw
                          skip
                          go_simp
                          try with_reducible rfl
                        case qzz26 => exact fun _ _ _ h => h
                        case szz26 => first | assumption | trivial
                        case' rzz26 => simp only [Act.put, List.setIfInBounds_toArray, List.set_cons_zero, List.set_cons_succ]
                        refine wpAnyH_done (by kernel_rfl) ?_ _
                        have Z1 := Lib.hid (BX.out.set2 (.string Y) (.bool yb))
                        have Z2 := Lib.hid ((XB.out.q HZ.out).far2 (c := nb) (by have := XB.out.lt; omega) (.string Y) (.bool yb))
                        have Z3 := Lib.hid (HQ.out.trans (HZ.out.set2 (b := nb) hnb (.string Y) (.bool yb)))
                        have Z4 := Lib.hid (HZ.out.set2 (b := nb) hnb (.string Y) (.bool yb))
                        have hxb := XB.out.lt
                        generalize ((Y2.setCell ⟨nb, 0, none⟩ (.string Y)).setCell ⟨nb, 1, none⟩ (.bool yb)) = W9 at Z1 Z2 Z3 Z4 ⊢
                        obtain ⟨⟨a0, a1⟩, a2, a3⟩ := Z1.out.get2
                        obtain ⟨⟨b0, b1⟩, b2, b3⟩ := Z2.out.get2
                        clear e0 e1 e2 e3 x0
                        go_wp2
                        go_roundw
                        case rel => exact ⟨k + 1, ⟨yr, yb⟩, by omega, by go_num, by rw [HYR.out]; exact Z2.out.set2 _ _, HSM.out.1, Z3.out.set2 (b := n1) hn1 _ _⟩
                        case measure => simp [intOf]; omega
                    case' mzz27 => skip
                    exact AllReadyL.nil
                case' mzz28 => skip
                exact AllReadyL.nil
            case' mzz37 => skip
            refine AllReadyL.cons (o := ?ozz38) ?hzz38 (fun K hK => ?kzz38) ?mzz38
            case hzz38 => simp only [List.getElem?_toArray, List.getElem?_cons_zero, List.getElem?_cons_succ]; rfl
            case kzz38 =>
              go_simp
              have BX := Lib.hid (Bx.new v2 [.string ⟨#[]⟩, .bool false] 23)
              have hnb : wr.heap.size ≤ v2.heap.size := hHeld.size
              have qa := (Q.refl v2).alloc (.cells #[.string ⟨#[]⟩, .bool false] 23)
              have BX : Hid (Bx (v2.alloc (.cells #[.string ⟨#[]⟩, .bool false] 23)) v2.heap.size [.string ⟨#[]⟩, .bool false]) := Lib.hid BX.out
              generalize v2.alloc (.cells #[.string ⟨#[]⟩, .bool false] 23) = Y3 at BX qa ⊢
              generalize hnbe : v2.heap.size = nb at BX hnb ⊢
              have hnw := Lib.hid (Nat.le_of_eq hnbe)
              clear hnbe
              refine hK.out _ _ ?Szz38 (fun hHeld => ?Rzz38)
              case Szz38 =>
                exact hHeld.trans qa
              case Rzz38 =>
                clear hK K
                try simp only [Act.put, List.setIfInBounds_toArray, List.set_cons_zero, List.set_cons_succ]
                refine wpAnyL_ready (rs := [8, 11]) (by kernel_rfl) (by simp) ?_
                refine AllReadyL.cons (o := ?ozz35) ?hzz35 (fun K hK => ?kzz35) ?mzz35
                case hzz35 => simp only [List.getElem?_toArray, List.getElem?_cons_zero, List.getElem?_cons_succ]; rfl
                case kzz35 =>
                  go_simp
                  refine hK.out _ _ ?Szz35 (fun hHeld => ?Rzz35)
                  case Szz35 =>
                    first | exact hHeld | trivial
                  case Rzz35 =>
                    clear hK K
                    try simp only [Act.put, List.setIfInBounds_toArray, List.set_cons_zero, List.set_cons_succ]
                    refine wpAnyL_ready (rs := [11]) (by kernel_rfl) (by simp) ?_
                    refine AllReadyL.consK (o := ?ozz31) ?hzz31 ?lzz31 (fun K hK => ?kzz31) ?mzz31
                    case hzz31 => simp only [List.getElem?_toArray, List.getElem?_cons_zero, List.getElem?_cons_succ]; rfl
                    case lzz31 => kernel_rfl
                    case kzz31 =>
                      have HZ := Lib.hid hHeld
                      obtain ⟨⟨st0, st1⟩, st2, st3⟩ := BX.out.get2
                      go_simp
                      clear st0 st1 st2 st3
                      refine hK.out _ _ ?Rzz31
                      case Rzz31 =>
                        clear hK K
                        try simp only [Act.put, List.setIfInBounds_toArray, List.set_cons_zero, List.set_cons_succ]
                        refine wpAnyH_take (i := 12) (oi := ?ozz29) (v := ?vzz29) ?hzz29 ?azz29 ?bzz29 ?czz29 ?qzz29 ?yzz29 ?szz29 ?rzz29
                        case hzz29 => simp only [List.getElem?_toArray, List.getElem?_cons_zero, List.getElem?_cons_succ]; rfl
                        case azz29 => kernel_rfl
                        case bzz29 => kernel_rfl
                        case czz29 => kernel_rfl
                        case yzz29 =>
                          refine Or.inl ⟨by rfl, ?_⟩
                          intro w hSw
                          skip
                          go_simp
                          try with_reducible rfl
                        case qzz29 => exact fun _ _ _ h => h
                        case szz29 => first | assumption | trivial
                        case' rzz29 => simp only [Act.put, List.setIfInBounds_toArray, List.set_cons_zero, List.set_cons_succ]
                        refine wpAnyH_take (i := 13) (oi := ?ozz30) (v := ?vzz30) ?hzz30 ?azz30 ?bzz30 ?czz30 ?qzz30 ?yzz30 ?szz30 ?rzz30
                        case hzz30 => simp only [List.getElem?_toArray, List.getElem?_cons_zero, List.getElem?_cons_succ]; rfl
                        case azz30 => kernel_rfl
                        case bzz30 => kernel_rfl
                        case czz30 => kernel_rfl
                        case yzz30 =>
                          refine Or.inl ⟨by rfl, ?_⟩
                          intro w hSw
                          skip
                          go_simp
                          try with_reducible rfl
                        case qzz30 => exact fun _ _ _ h => h
                        case szz30 => first | assumption | trivial
                        case' rzz30 => simp only [Act.put, List.setIfInBounds_toArray, List.set_cons_zero, List.set_cons_succ]
                        refine wpAnyH_done (by kernel_rfl) ?_ _
                        have Z1 := Lib.hid (BX.out.set2 (.string Y) (.bool yb))
                        have Z2 := Lib.hid ((XB.out.q HZ.out).far2 (c := nb) (by have := XB.out.lt; omega) (.string Y) (.bool yb))
                        have Z3 := Lib.hid (HQ.out.trans (HZ.out.set2 (b := nb) hnb (.string Y) (.bool yb)))
                        have Z4 := Lib.hid (HZ.out.set2 (b := nb) hnb (.string Y) (.bool yb))
                        have hxb := XB.out.lt
                        generalize ((Y3.setCell ⟨nb, 0, none⟩ (.string Y)).setCell ⟨nb, 1, none⟩ (.bool yb)) = W9 at Z1 Z2 Z3 Z4 ⊢
                        obtain ⟨⟨a0, a1⟩, a2, a3⟩ := Z1.out.get2
                        obtain ⟨⟨b0, b1⟩, b2, b3⟩ := Z2.out.get2
                        clear e0 e1 e2 e3 x0
                        go_wp2
                        go_roundw
                        case rel => exact ⟨k + 1, ⟨yr, yb⟩, by omega, by go_num, by rw [HYR.out]; exact Z2.out.set2 _ _, HSM.out.1, Z3.out.set2 (b := n1) hn1 _ _⟩
                        case measure => simp [intOf]; omega
                    case' mzz31 => skip
                    exact AllReadyL.nil
                case' mzz35 => skip
                refine AllReadyL.consK (o := ?ozz36) ?hzz36 ?lzz36 (fun K hK => ?kzz36) ?mzz36
                case hzz36 => simp only [List.getElem?_toArray, List.getElem?_cons_zero, List.getElem?_cons_succ]; rfl
                case lzz36 => kernel_rfl
                case kzz36 =>
                  have HZ := Lib.hid hHeld
                  obtain ⟨⟨st0, st1⟩, st2, st3⟩ := BX.out.get2
                  go_simp
                  clear st0 st1 st2 st3
                  refine hK.out _ _ ?Rzz36
                  case Rzz36 =>
                    clear hK K
                    try simp only [Act.put, List.setIfInBounds_toArray, List.set_cons_zero, List.set_cons_succ]
                    refine wpAnyH_take (i := 8) (oi := ?ozz32) (v := ?vzz32) ?hzz32 ?azz32 ?bzz32 ?czz32 ?qzz32 ?yzz32 ?szz32 ?rzz32
                    case hzz32 => simp only [List.getElem?_toArray, List.getElem?_cons_zero, List.getElem?_cons_succ]; rfl
                    case azz32 => kernel_rfl
                    case bzz32 => kernel_rfl
                    case czz32 => kernel_rfl
                    case yzz32 =>
                      refine Or.inl ⟨by rfl, ?_⟩
                      intro w hSw
                      skip
                      go_simp
                      try with_reducible rfl
                    case qzz32 => exact fun _ _ _ h => h
                    case szz32 => first | assumption | trivial
                    case' rzz32 => simp only [Act.put, List.setIfInBounds_toArray, List.set_cons_zero, List.set_cons_succ]
                    refine wpAnyH_take (i := 12) (oi := ?ozz33) (v := ?vzz33) ?hzz33 ?azz33 ?bzz33 ?czz33 ?qzz33 ?yzz33 ?szz33 ?rzz33
                    case hzz33 => simp only [List.getElem?_toArray, List.getElem?_cons_zero, List.getElem?_cons_succ]; rfl
                    case azz33 => kernel_rfl
                    case bzz33 => kernel_rfl
                    case czz33 => kernel_rfl
                    case yzz33 =>
                      refine Or.inl ⟨by rfl, ?_⟩
                      intro w hSw
                      skip
                      go_simp
                      try with_reducible rfl
                    case qzz33 => exact fun _ _ _ h => h
                    case szz33 => first | assumption | trivial
                    case' rzz33 => simp only [Act.put, List.setIfInBounds_toArray, List.set_cons_zero, List.set_cons_succ]
                    refine wpAnyH_take (i := 13) (oi := ?ozz34) (v := ?vzz34) ?hzz34 ?azz34 ?bzz34 ?czz34 ?qzz34 ?yzz34 ?szz34 ?rzz34
                    case hzz34 => simp only [List.getElem?_toArray, List.getElem?_cons_zero, List.getElem?_cons_succ]; rfl
                    case azz34 => kernel_rfl
                    case bzz34 => kernel_rfl
                    case czz34 => kernel_rfl
                    case yzz34 =>
                      refine Or.inl ⟨by rfl, ?_⟩
                      intro w hSw
                      skip
                      go_simp
                      try with_reducible rfl
                    case qzz34 => exact fun _ _ _ h => h
                    case szz34 => first | assumption | trivial
                    case' rzz34 => simp only [Act.put, List.setIfInBounds_toArray, List.set_cons_zero, List.set_cons_succ]
                    refine wpAnyH_done (by kernel_rfl) ?_ _
                    have Z1 := Lib.hid (BX.out.set2 (.string Y) (.bool yb))
                    have Z2 := Lib.hid ((XB.out.q HZ.out).far2 (c := nb) (by have := XB.out.lt; omega) (.string Y) (.bool yb))
                    have Z3 := Lib.hid (HQ.out.trans (HZ.out.set2 (b := nb) hnb (.string Y) (.bool yb)))
                    have Z4 := Lib.hid (HZ.out.set2 (b := nb) hnb (.string Y) (.bool yb))
                    have hxb := XB.out.lt
                    generalize ((Y3.setCell ⟨nb, 0, none⟩ (.string Y)).setCell ⟨nb, 1, none⟩ (.bool yb)) = W9 at Z1 Z2 Z3 Z4 ⊢
                    obtain ⟨⟨a0, a1⟩, a2, a3⟩ := Z1.out.get2
                    obtain ⟨⟨b0, b1⟩, b2, b3⟩ := Z2.out.get2
                    clear e0 e1 e2 e3 x0
                    go_wp2
                    go_roundw
                    case rel => exact ⟨k + 1, ⟨yr, yb⟩, by omega, by go_num, by rw [HYR.out]; exact Z2.out.set2 _ _, HSM.out.1, Z3.out.set2 (b := n1) hn1 _ _⟩
                    case measure => simp [intOf]; omega
                case' mzz36 => skip
                exact AllReadyL.nil
            case' mzz38 => skip
            exact AllReadyL.nil
        case' mzz69 => skip
        refine AllReadyL.cons (o := ?ozz70) ?hzz70 (fun K hK => ?kzz70) ?mzz70
        case hzz70 => simp only [List.getElem?_toArray, List.getElem?_cons_zero, List.getElem?_cons_succ]; rfl
        case kzz70 =>
          go_simp
          have BX := Lib.hid (Bx.new v2 [.string ⟨#[]⟩, .bool false] 23)
          have hnb : wr.heap.size ≤ v2.heap.size := hHeld.size
          have qa := (Q.refl v2).alloc (.cells #[.string ⟨#[]⟩, .bool false] 23)
          have BX : Hid (Bx (v2.alloc (.cells #[.string ⟨#[]⟩, .bool false] 23)) v2.heap.size [.string ⟨#[]⟩, .bool false]) := Lib.hid BX.out
          generalize v2.alloc (.cells #[.string ⟨#[]⟩, .bool false] 23) = Y4 at BX qa ⊢
          generalize hnbe : v2.heap.size = nb at BX hnb ⊢
          have hnw := Lib.hid (Nat.le_of_eq hnbe)
          clear hnbe
          refine hK.out _ _ ?Szz70 (fun hHeld => ?Rzz70)
          case Szz70 =>
            exact hHeld.trans qa
          case Rzz70 =>
            clear hK K
            try simp only [Act.put, List.setIfInBounds_toArray, List.set_cons_zero, List.set_cons_succ]
            refine wpAnyL_ready (rs := [8, 9, 11]) (by kernel_rfl) (by simp) ?_
            refine AllReadyL.cons (o := ?ozz65) ?hzz65 (fun K hK => ?kzz65) ?mzz65
            case hzz65 => simp only [List.getElem?_toArray, List.getElem?_cons_zero, List.getElem?_cons_succ]; rfl
            case kzz65 =>
              go_simp
              refine hK.out _ _ ?Szz65 (fun hHeld => ?Rzz65)
              case Szz65 =>
                first | exact hHeld | trivial
              case Rzz65 =>
                clear hK K
                try simp only [Act.put, List.setIfInBounds_toArray, List.set_cons_zero, List.set_cons_succ]
                refine wpAnyL_ready (rs := [9, 11]) (by kernel_rfl) (by simp) ?_
                refine AllReadyL.cons (o := ?ozz48) ?hzz48 (fun K hK => ?kzz48) ?mzz48
                case hzz48 => simp only [List.getElem?_toArray, List.getElem?_cons_zero, List.getElem?_cons_succ]; rfl
                case kzz48 =>
                  go_simp
                  refine hK.out _ _ ?Szz48 (fun hHeld => ?Rzz48)
                  case Szz48 =>
                    first | exact hHeld | trivial
                  case Rzz48 =>
                    clear hK K
                    try simp only [Act.put, List.setIfInBounds_toArray, List.set_cons_zero, List.set_cons_succ]
                    refine wpAnyL_ready (rs := [11]) (by kernel_rfl) (by simp) ?_
                    refine AllReadyL.consK (o := ?ozz41) ?hzz41 ?lzz41 (fun K hK => ?kzz41) ?mzz41
                    case hzz41 => simp only [List.getElem?_toArray, List.getElem?_cons_zero, List.getElem?_cons_succ]; rfl
                    case lzz41 => kernel_rfl
                    case kzz41 =>
                      have HZ := Lib.hid hHeld
                      obtain ⟨⟨st0, st1⟩, st2, st3⟩ := BX.out.get2
                      go_simp
                      clear st0 st1 st2 st3
                      refine hK.out _ _ ?Rzz41
                      case Rzz41 =>
                        clear hK K
                        try simp only [Act.put, List.setIfInBounds_toArray, List.set_cons_zero, List.set_cons_succ]
                        refine wpAnyH_take (i := 12) (oi := ?ozz39) (v := ?vzz39) ?hzz39 ?azz39 ?bzz39 ?czz39 ?qzz39 ?yzz39 ?szz39 ?rzz39
                        case hzz39 => simp only [List.getElem?_toArray, List.getElem?_cons_zero, List.getElem?_cons_succ]; rfl
                        case azz39 => kernel_rfl
                        case bzz39 => kernel_rfl
                        case czz39 => kernel_rfl
                        case yzz39 =>
                          refine Or.inl ⟨by rfl, ?_⟩
                          intro w hSw
                          skip
                          go_simp
                          try with_reducible rfl
                        case qzz39 => exact fun _ _ _ h => h
                        case szz39 => first | assumption | trivial
                        case' rzz39 => simp only [Act.put, List.setIfInBounds_toArray, List.set_cons_zero, List.set_cons_succ]
                        refine wpAnyH_take (i := 13) (oi := ?ozz40) (v := ?vzz40) ?hzz40 ?azz40 ?bzz40 ?czz40 ?qzz40 ?yzz40 ?szz40 ?rzz40
                        case hzz40 => simp only [List.getElem?_toArray, List.getElem?_cons_zero, List.getElem?_cons_succ]; rfl
                        case azz40 => kernel_rfl
                        case bzz40 => kernel_rfl
                        case czz40 => kernel_rfl
                        case yzz40 =>
                          refine Or.inl ⟨by rfl, ?_⟩
                          intro w hSw
                          skip
                          go_simp
                          try with_reducible rfl
                        case qzz40 => exact fun _ _ _ h => h
                        case szz40 => first | assumption | trivial
                        case' rzz40 => simp only [Act.put, List.setIfInBounds_toArray, List.set_cons_zero, List.set_cons_succ]
                        refine wpAnyH_done (by kernel_rfl) ?_ _
                        have Z1 := Lib.hid (BX.out.set2 (.string Y) (.bool yb))
                        have Z2 := Lib.hid ((XB.out.q HZ.out).far2 (c := nb) (by have := XB.out.lt; omega) (.string Y) (.bool yb))
                        have Z3 := Lib.hid (HQ.out.trans (HZ.out.set2 (b := nb) hnb (.string Y) (.bool yb)))
                        have Z4 := Lib.hid (HZ.out.set2 (b := nb) hnb (.string Y) (.bool yb))
                        have hxb := XB.out.lt
                        generalize ((Y4.setCell ⟨nb, 0, none⟩ (.string Y)).setCell ⟨nb, 1, none⟩ (.bool yb)) = W9 at Z1 Z2 Z3 Z4 ⊢
                        obtain ⟨⟨a0, a1⟩, a2, a3⟩ := Z1.out.get2
                        obtain ⟨⟨b0, b1⟩, b2, b3⟩ := Z2.out.get2
                        clear e0 e1 e2 e3 x0
                        go_wp2
                        go_roundw
                        case rel => exact ⟨k + 1, ⟨yr, yb⟩, by omega, by go_num, by rw [HYR.out]; exact Z2.out.set2 _ _, HSM.out.1, Z3.out.set2 (b := n1) hn1 _ _⟩
                        case measure => simp [intOf]; omega
                    case' mzz41 => skip
                    exact AllReadyL.nil
                case' mzz48 => skip
                refine AllReadyL.consK (o := ?ozz49) ?hzz49 ?lzz49 (fun K hK => ?kzz49) ?mzz49
                case hzz49 => simp only [List.getElem?_toArray, List.getElem?_cons_zero, List.getElem?_cons_succ]; rfl
                case lzz49 => kernel_rfl
                case kzz49 =>
                  have HZ := Lib.hid hHeld
                  obtain ⟨⟨st0, st1⟩, st2, st3⟩ := BX.out.get2
                  go_simp
                  clear st0 st1 st2 st3
                  refine hK.out _ _ ?Rzz49
                  case Rzz49 =>
                    clear hK K
                    try simp only [Act.put, List.setIfInBounds_toArray, List.set_cons_zero, List.set_cons_succ]
                    refine wpAnyH_ready (rs := [9, 12]) (by kernel_rfl) (by simp) ?_
                    refine AllReadyH.cons (o := ?ozz46) ?hzz46 (fun K hK => ?kzz46) ?mzz46
                    case hzz46 => simp only [List.getElem?_toArray, List.getElem?_cons_zero, List.getElem?_cons_succ]; rfl
                    case kzz46 =>
                      go_simp
                      refine hK.out _ _ ?Szz46 (fun hHeld => ?Rzz46)
                      case Szz46 =>
                        first | exact hHeld | trivial
                      case Rzz46 =>
                        clear hK K
                        try simp only [Act.put, List.setIfInBounds_toArray, List.set_cons_zero, List.set_cons_succ]
                        refine wpAnyH_take (i := 12) (oi := ?ozz42) (v := ?vzz42) ?hzz42 ?azz42 ?bzz42 ?czz42 ?qzz42 ?yzz42 ?szz42 ?rzz42
                        case hzz42 => simp only [List.getElem?_toArray, List.getElem?_cons_zero, List.getElem?_cons_succ]; rfl
                        case azz42 => kernel_rfl
                        case bzz42 => kernel_rfl
                        case czz42 => kernel_rfl
                        case yzz42 =>
                          refine Or.inl ⟨by rfl, ?_⟩
                          intro w hSw
                          skip
                          go_simp
                          try with_reducible rfl
                        case qzz42 => exact fun _ _ _ h => h
                        case szz42 => first | assumption | trivial
                        case' rzz42 => simp only [Act.put, List.setIfInBounds_toArray, List.set_cons_zero, List.set_cons_succ]
                        refine wpAnyH_take (i := 13) (oi := ?ozz43) (v := ?vzz43) ?hzz43 ?azz43 ?bzz43 ?czz43 ?qzz43 ?yzz43 ?szz43 ?rzz43
                        case hzz43 => simp only [List.getElem?_toArray, List.getElem?_cons_zero, List.getElem?_cons_succ]; rfl
                        case azz43 => kernel_rfl
                        case bzz43 => kernel_rfl
                        case czz43 => kernel_rfl
                        case yzz43 =>
                          refine Or.inl ⟨by rfl, ?_⟩
                          intro w hSw
                          skip
                          go_simp
                          try with_reducible rfl
                        case qzz43 => exact fun _ _ _ h => h
                        case szz43 => first | assumption | trivial
                        case' rzz43 => simp only [Act.put, List.setIfInBounds_toArray, List.set_cons_zero, List.set_cons_succ]
                        refine wpAnyH_done (by kernel_rfl) ?_ _
                        have Z1 := Lib.hid (BX.out.set2 (.string Y) (.bool yb))
                        have Z2 := Lib.hid ((XB.out.q HZ.out).far2 (c := nb) (by have := XB.out.lt; omega) (.string Y) (.bool yb))
                        have Z3 := Lib.hid (HQ.out.trans (HZ.out.set2 (b := nb) hnb (.string Y) (.bool yb)))
                        have Z4 := Lib.hid (HZ.out.set2 (b := nb) hnb (.string Y) (.bool yb))
                        have hxb := XB.out.lt
                        generalize ((Y4.setCell ⟨nb, 0, none⟩ (.string Y)).setCell ⟨nb, 1, none⟩ (.bool yb)) = W9 at Z1 Z2 Z3 Z4 ⊢
                        obtain ⟨⟨a0, a1⟩, a2, a3⟩ := Z1.out.get2
                        obtain ⟨⟨b0, b1⟩, b2, b3⟩ := Z2.out.get2
                        clear e0 e1 e2 e3 x0
                        go_wp2
                        go_roundw
                        case rel => exact ⟨k + 1, ⟨yr, yb⟩, by omega, by go_num, by rw [HYR.out]; exact Z2.out.set2 _ _, HSM.out.1, Z3.out.set2 (b := n1) hn1 _ _⟩
                        case measure => simp [intOf]; omega
                    case' mzz46 => skip
                    refine AllReadyH.cons (o := ?ozz47) ?hzz47 (fun K hK => ?kzz47) ?mzz47
                    case hzz47 => simp only [List.getElem?_toArray, List.getElem?_cons_zero, List.getElem?_cons_succ]; rfl
                    case kzz47 =>
                      go_simp
                      refine hK.out _ _ ?Szz47 (fun hHeld => ?Rzz47)
                      case Szz47 =>
                        first | exact hHeld | trivial
                      case Rzz47 =>
                        clear hK K
                        try simp only [Act.put, List.setIfInBounds_toArray, List.set_cons_zero, List.set_cons_succ]
                        refine wpAnyH_take (i := 9) (oi := ?ozz44) (v := ?vzz44) ?hzz44 ?azz44 ?bzz44 ?czz44 ?qzz44 ?yzz44 ?szz44 ?rzz44
                        case hzz44 => simp only [List.getElem?_toArray, List.getElem?_cons_zero, List.getElem?_cons_succ]; rfl
                        case azz44 => kernel_rfl
                        case bzz44 => kernel_rfl
                        case czz44 => kernel_rfl
                        case yzz44 =>
                          refine Or.inl ⟨by rfl, ?_⟩
                          intro w hSw
                          skip
                          go_simp
                          try with_reducible rfl
                        case qzz44 => exact fun _ _ _ h => h
                        case szz44 => first | assumption | trivial
                        case' rzz44 => simp only [Act.put, List.setIfInBounds_toArray, List.set_cons_zero, List.set_cons_succ]
                        refine wpAnyH_take (i := 13) (oi := ?ozz45) (v := ?vzz45) ?hzz45 ?azz45 ?bzz45 ?czz45 ?qzz45 ?yzz45 ?szz45 ?rzz45
                        case hzz45 => simp only [List.getElem?_toArray, List.getElem?_cons_zero, List.getElem?_cons_succ]; rfl
                        case azz45 => kernel_rfl
                        case bzz45 => kernel_rfl
                        case czz45 => kernel_rfl
                        case yzz45 =>
                          refine Or.inl ⟨by rfl, ?_⟩
                          intro w hSw
                          skip
                          go_simp
                          try with_reducible rfl
                        case qzz45 => exact fun _ _ _ h => h
                        case szz45 => first | assumption | trivial
                        case' rzz45 => simp only [Act.put, List.setIfInBounds_toArray, List.set_cons_zero, List.set_cons_succ]
                        refine wpAnyH_done (by kernel_rfl) ?_ _
                        have Z1 := Lib.hid (BX.out.set2 (.string Y) (.bool yb))
                        have Z2 := Lib.hid ((XB.out.q HZ.out).far2 (c := nb) (by have := XB.out.lt; omega) (.string Y) (.bool yb))
                        have Z3 := Lib.hid (HQ.out.trans (HZ.out.set2 (b := nb) hnb (.string Y) (.bool yb)))
                        have Z4 := Lib.hid (HZ.out.set2 (b := nb) hnb (.string Y) (.bool yb))
                        have hxb := XB.out.lt
                        generalize ((Y4.setCell ⟨nb, 0, none⟩ (.string Y)).setCell ⟨nb, 1, none⟩ (.bool yb)) = W9 at Z1 Z2 Z3 Z4 ⊢
                        obtain ⟨⟨a0, a1⟩, a2, a3⟩ := Z1.out.get2
                        obtain ⟨⟨b0, b1⟩, b2, b3⟩ := Z2.out.get2
                        clear e0 e1 e2 e3 x0
                        go_wp2
                        go_roundw
                        case rel => exact ⟨k + 1, ⟨yr, yb⟩, by omega, by go_num, by rw [HYR.out]; exact Z2.out.set2 _ _, HSM.out.1, Z3.out.set2 (b := n1) hn1 _ _⟩
                        case measure => simp [intOf]; omega
                    case' mzz47 => skip
                    exact AllReadyH.nil
                case' mzz49 => skip
                exact AllReadyL.nil
            case' mzz65 => skip
            refine AllReadyL.cons (o := ?ozz66) ?hzz66 (fun K hK => ?kzz66) ?mzz66
            case hzz66 => simp only [List.getElem?_toArray, List.getElem?_cons_zero, List.getElem?_cons_succ]; rfl
            case kzz66 =>
              go_simp
              refine hK.out _ _ ?Szz66 (fun hHeld => ?Rzz66)
              case Szz66 =>
                first | exact hHeld | trivial
              case Rzz66 =>
                clear hK K
                try simp only [Act.put, List.setIfInBounds_toArray, List.set_cons_zero, List.set_cons_succ]
                refine wpAnyL_ready (rs := [8, 11]) (by kernel_rfl) (by simp) ?_
                refine AllReadyL.cons (o := ?ozz56) ?hzz56 (fun K hK => ?kzz56) ?mzz56
                case hzz56 => simp only [List.getElem?_toArray, List.getElem?_cons_zero, List.getElem?_cons_succ]; rfl
                case kzz56 =>
                  go_simp
                  refine hK.out _ _ ?Szz56 (fun hHeld => ?Rzz56)
                  case Szz56 =>
                    first | exact hHeld | trivial
                  case Rzz56 =>
                    clear hK K
                    try simp only [Act.put, List.setIfInBounds_toArray, List.set_cons_zero, List.set_cons_succ]
                    refine wpAnyL_ready (rs := [11]) (by kernel_rfl) (by simp) ?_
                    refine AllReadyL.consK (o := ?ozz52) ?hzz52 ?lzz52 (fun K hK => ?kzz52) ?mzz52
                    case hzz52 => simp only [List.getElem?_toArray, List.getElem?_cons_zero, List.getElem?_cons_succ]; rfl
                    case lzz52 => kernel_rfl
                    case kzz52 =>
                      have HZ := Lib.hid hHeld
                      obtain ⟨⟨st0, st1⟩, st2, st3⟩ := BX.out.get2
                      go_simp
                      clear st0 st1 st2 st3
                      refine hK.out _ _ ?Rzz52
                      case Rzz52 =>
                        clear hK K
                        try simp only [Act.put, List.setIfInBounds_toArray, List.set_cons_zero, List.set_cons_succ]
                        refine wpAnyH_take (i := 12) (oi := ?ozz50) (v := ?vzz50) ?hzz50 ?azz50 ?bzz50 ?czz50 ?qzz50 ?yzz50 ?szz50 ?rzz50
                        case hzz50 => simp only [List.getElem?_toArray, List.getElem?_cons_zero, List.getElem?_cons_succ]; rfl
                        case azz50 => kernel_rfl
                        case bzz50 => kernel_rfl
                        case czz50 => kernel_rfl
                        case yzz50 =>
                          refine Or.inl ⟨by rfl, ?_⟩
                          intro w hSw
                          skip
                          go_simp
                          try with_reducible rfl
                        case qzz50 => exact fun _ _ _ h => h
                        case szz50 => first | assumption | trivial
                        case' rzz50 => simp only [Act.put, List.setIfInBounds_toArray, List.set_cons_zero, List.set_cons_succ]
                        refine wpAnyH_take (i := 13) (oi := ?ozz51) (v := ?vzz51) ?hzz51 ?azz51 ?bzz51 ?czz51 ?qzz51 ?yzz51 ?szz51 ?rzz51
                        case hzz51 => simp only [List.getElem?_toArray, List.getElem?_cons_zero, List.getElem?_cons_succ]; rfl
                        case azz51 => kernel_rfl
                        case bzz51 => kernel_rfl
                        case czz51 => kernel_rfl
                        case yzz51 =>
                          refine Or.inl ⟨by rfl, ?_⟩
                          intro w hSw
                          skip
                          go_simp
                          try with_reducible rfl
                        case qzz51 => exact fun _ _ _ h => h
                        case szz51 => first | assumption | trivial
                        case' rzz51 => simp only [Act.put, List.setIfInBounds_toArray, List.set_cons_zero, List.set_cons_succ]
                        refine wpAnyH_done (by kernel_rfl) ?_ _
                        have Z1 := Lib.hid (BX.out.set2 (.string Y) (.bool yb))
                        have Z2 := Lib.hid ((XB.out.q HZ.out).far2 (c := nb) (by have := XB.out.lt; omega) (.string Y) (.bool yb))
                        have Z3 := Lib.hid (HQ.out.trans (HZ.out.set2 (b := nb) hnb (.string Y) (.bool yb)))
                        have Z4 := Lib.hid (HZ.out.set2 (b := nb) hnb (.string Y) (.bool yb))
                        have hxb := XB.out.lt
                        generalize ((Y4.setCell ⟨nb, 0, none⟩ (.string Y)).setCell ⟨nb, 1, none⟩ (.bool yb)) = W9 at Z1 Z2 Z3 Z4 ⊢
                        obtain ⟨⟨a0, a1⟩, a2, a3⟩ := Z1.out.get2
                        obtain ⟨⟨b0, b1⟩, b2, b3⟩ := Z2.out.get2
                        clear e0 e1 e2 e3 x0
                        go_wp2
                        go_roundw
                        case rel => exact ⟨k + 1, ⟨yr, yb⟩, by omega, by go_num, by rw [HYR.out]; exact Z2.out.set2 _ _, HSM.out.1, Z3.out.set2 (b := n1) hn1 _ _⟩
                        case measure => simp [intOf]; omega
                    case' mzz52 => skip
                    exact AllReadyL.nil
                case' mzz56 => skip
                refine AllReadyL.consK (o := ?ozz57) ?hzz57 ?lzz57 (fun K hK => ?kzz57) ?mzz57
                case hzz57 => simp only [List.getElem?_toArray, List.getElem?_cons_zero, List.getElem?_cons_succ]; rfl
                case lzz57 => kernel_rfl
                case kzz57 =>
                  have HZ := Lib.hid hHeld
                  obtain ⟨⟨st0, st1⟩, st2, st3⟩ := BX.out.get2
                  go_simp
                  clear st0 st1 st2 st3
                  refine hK.out _ _ ?Rzz57
                  case Rzz57 =>
                    clear hK K
                    try simp only [Act.put, List.setIfInBounds_toArray, List.set_cons_zero, List.set_cons_succ]
                    refine wpAnyH_take (i := 8) (oi := ?ozz53) (v := ?vzz53) ?hzz53 ?azz53 ?bzz53 ?czz53 ?qzz53 ?yzz53 ?szz53 ?rzz53
                    case hzz53 => simp only [List.getElem?_toArray, List.getElem?_cons_zero, List.getElem?_cons_succ]; rfl
                    case azz53 => kernel_rfl
                    case bzz53 => kernel_rfl
                    case czz53 => kernel_rfl
                    case yzz53 =>
                      refine Or.inl ⟨by rfl, ?_⟩
                      intro w hSw
                      skip
                      go_simp
                      try with_reducible rfl
                    case qzz53 => exact fun _ _ _ h => h
                    case szz53 => first | assumption | trivial
                    case' rzz53 => simp only [Act.put, List.setIfInBounds_toArray, List.set_cons_zero, List.set_cons_succ]
                    refine wpAnyH_take (i := 12) (oi := ?ozz54) (v := ?vzz54) ?hzz54 ?azz54 ?bzz54 ?czz54 ?qzz54 ?yzz54 ?szz54 ?rzz54
                    case hzz54 => simp only [List.getElem?_toArray, List.getElem?_cons_zero, List.getElem?_cons_succ]; rfl
                    case azz54 => kernel_rfl
                    case bzz54 => kernel_rfl
                    case czz54 => kernel_rfl
                    case yzz54 =>
                      refine Or.inl ⟨by rfl, ?_⟩
                      intro w hSw
                      skip
                      go_simp
                      try with_reducible rfl
                    case qzz54 => exact fun _ _ _ h => h
                    case szz54 => first | assumption | trivial
                    case' rzz54 => simp only [Act.put, List.setIfInBounds_toArray, List.set_cons_zero, List.set_cons_succ]
                    refine wpAnyH_take (i := 13) (oi := ?ozz55) (v := ?vzz55) ?hzz55 ?azz55 ?bzz55 ?czz55 ?qzz55 ?yzz55 ?szz55 ?rzz55
                    case hzz55 => simp only [List.getElem?_toArray, List.getElem?_cons_zero, List.getElem?_cons_succ]; rfl
                    case azz55 => kernel_rfl
                    case bzz55 => kernel_rfl
                    case czz55 => kernel_rfl
                    case yzz55 =>
                      refine Or.inl ⟨by rfl, ?_⟩
                      intro w hSw
                      skip
                      go_simp
                      try with_reducible rfl
                    case qzz55 => exact fun _ _ _ h => h
                    case szz55 => first | assumption | trivial
                    case' rzz55 => simp only [Act.put, List.setIfInBounds_toArray, List.set_cons_zero, List.set_cons_succ]
                    refine wpAnyH_done (by kernel_rfl) ?_ _
                    have Z1 := Lib.hid (BX.out.set2 (.string Y) (.bool yb))
                    have Z2 := Lib.hid ((XB.out.q HZ.out).far2 (c := nb) (by have := XB.out.lt; omega) (.string Y) (.bool yb))
                    have Z3 := Lib.hid (HQ.out.trans (HZ.out.set2 (b := nb) hnb (.string Y) (.bool yb)))
                    have Z4 := Lib.hid (HZ.out.set2 (b := nb) hnb (.string Y) (.bool yb))
                    have hxb := XB.out.lt
                    generalize ((Y4.setCell ⟨nb, 0, none⟩ (.string Y)).setCell ⟨nb, 1, none⟩ (.bool yb)) = W9 at Z1 Z2 Z3 Z4 ⊢
                    obtain ⟨⟨a0, a1⟩, a2, a3⟩ := Z1.out.get2
                    obtain ⟨⟨b0, b1⟩, b2, b3⟩ := Z2.out.get2
                    clear e0 e1 e2 e3 x0
                    go_wp2
                    go_roundw
                    case rel => exact ⟨k + 1, ⟨yr, yb⟩, by omega, by go_num, by rw [HYR.out]; exact Z2.out.set2 _ _, HSM.out.1, Z3.out.set2 (b := n1) hn1 _ _⟩
                    case measure => simp [intOf]; omega
                case' mzz57 => skip
                exact AllReadyL.nil
            case' mzz66 => skip
            refine AllReadyL.consK (o := ?ozz67) ?hzz67 ?lzz67 (fun K hK => ?kzz67) ?mzz67
            case hzz67 => simp only [List.getElem?_toArray, List.getElem?_cons_zero, List.getElem?_cons_succ]; rfl
            case lzz67 => kernel_rfl
            case kzz67 =>
              have HZ := Lib.hid hHeld
              obtain ⟨⟨st0, st1⟩, st2, st3⟩ := BX.out.get2
              go_simp
              clear st0 st1 st2 st3
              refine hK.out _ _ ?Rzz67
              case Rzz67 =>
                clear hK K
                try simp only [Act.put, List.setIfInBounds_toArray, List.set_cons_zero, List.set_cons_succ]
                refine wpAnyH_take (i := 8) (oi := ?ozz58) (v := ?vzz58) ?hzz58 ?azz58 ?bzz58 ?czz58 ?qzz58 ?yzz58 ?szz58 ?rzz58
                case hzz58 => simp only [List.getElem?_toArray, List.getElem?_cons_zero, List.getElem?_cons_succ]; rfl
                case azz58 => kernel_rfl
                case bzz58 => kernel_rfl
                case czz58 => kernel_rfl
                case yzz58 =>
                  refine Or.inl ⟨by rfl, ?_⟩
                  intro w hSw
                  skip
                  go_simp
                  try with_reducible rfl
                case qzz58 => exact fun _ _ _ h => h
                case szz58 => first | assumption | trivial
                case' rzz58 => simp only [Act.put, List.setIfInBounds_toArray, List.set_cons_zero, List.set_cons_succ]
                refine wpAnyH_ready (rs := [9, 12]) (by kernel_rfl) (by simp) ?_
                refine AllReadyH.cons (o := ?ozz63) ?hzz63 (fun K hK => ?kzz63) ?mzz63
                case hzz63 => simp only [List.getElem?_toArray, List.getElem?_cons_zero, List.getElem?_cons_succ]; rfl
                case kzz63 =>
                  go_simp
                  refine hK.out _ _ ?Szz63 (fun hHeld => ?Rzz63)
                  case Szz63 =>
                    first | exact hHeld | trivial
                  case Rzz63 =>
                    clear hK K
                    try simp only [Act.put, List.setIfInBounds_toArray, List.set_cons_zero, List.set_cons_succ]
                    refine wpAnyH_take (i := 12) (oi := ?ozz59) (v := ?vzz59) ?hzz59 ?azz59 ?bzz59 ?czz59 ?qzz59 ?yzz59 ?szz59 ?rzz59
                    case hzz59 => simp only [List.getElem?_toArray, List.getElem?_cons_zero, List.getElem?_cons_succ]; rfl
                    case azz59 => kernel_rfl
                    case bzz59 => kernel_rfl
                    case czz59 => kernel_rfl
                    case yzz59 =>
                      refine Or.inl ⟨by rfl, ?_⟩
                      intro w hSw
                      skip
                      go_simp
                      try with_reducible rfl
                    case qzz59 => exact fun _ _ _ h => h
                    case szz59 => first | assumption | trivial
                    case' rzz59 => simp only [Act.put, List.setIfInBounds_toArray, List.set_cons_zero, List.set_cons_succ]
                    refine wpAnyH_take (i := 13) (oi := ?ozz60) (v := ?vzz60) ?hzz60 ?azz60 ?bzz60 ?czz60 ?qzz60 ?yzz60 ?szz60 ?rzz60
                    case hzz60 => simp only [List.getElem?_toArray, List.getElem?_cons_zero, List.getElem?_cons_succ]; rfl
                    case azz60 => kernel_rfl
                    case bzz60 => kernel_rfl
                    case czz60 => kernel_rfl
                    case yzz60 =>
                      refine Or.inl ⟨by rfl, ?_⟩
                      intro w hSw
                      skip
                      go_simp
                      try with_reducible rfl
                    case qzz60 => exact fun _ _ _ h => h
                    case szz60 => first | assumption | trivial
                    case' rzz60 => simp only [Act.put, List.setIfInBounds_toArray, List.set_cons_zero, List.set_cons_succ]
                    refine wpAnyH_done (by kernel_rfl) ?_ _
                    have Z1 := Lib.hid (BX.out.set2 (.string Y) (.bool yb))
                    have Z2 := Lib.hid ((XB.out.q HZ.out).far2 (c := nb) (by have := XB.out.lt; omega) (.string Y) (.bool yb))
                    have Z3 := Lib.hid (HQ.out.trans (HZ.out.set2 (b := nb) hnb (.string Y) (.bool yb)))
                    have Z4 := Lib.hid (HZ.out.set2 (b := nb) hnb (.string Y) (.bool yb))
                    have hxb := XB.out.lt
                    generalize ((Y4.setCell ⟨nb, 0, none⟩ (.string Y)).setCell ⟨nb, 1, none⟩ (.bool yb)) = W9 at Z1 Z2 Z3 Z4 ⊢
                    obtain ⟨⟨a0, a1⟩, a2, a3⟩ := Z1.out.get2
                    obtain ⟨⟨b0, b1⟩, b2, b3⟩ := Z2.out.get2
                    clear e0 e1 e2 e3 x0
                    go_wp2
                    go_roundw
                    case rel => exact ⟨k + 1, ⟨yr, yb⟩, by omega, by go_num, by rw [HYR.out]; exact Z2.out.set2 _ _, HSM.out.1, Z3.out.set2 (b := n1) hn1 _ _⟩
                    case measure => simp [intOf]; omega
                case' mzz63 => skip
                refine AllReadyH.cons (o := ?ozz64) ?hzz64 (fun K hK => ?kzz64) ?mzz64
                case hzz64 => simp only [List.getElem?_toArray, List.getElem?_cons_zero, List.getElem?_cons_succ]; rfl
                case kzz64 =>
                  go_simp
                  refine hK.out _ _ ?Szz64 (fun hHeld => ?Rzz64)
                  case Szz64 =>
                    first | exact hHeld | trivial
                  case Rzz64 =>
                    clear hK K
                    try simp only [Act.put, List.setIfInBounds_toArray, List.set_cons_zero, List.set_cons_succ]
                    refine wpAnyH_take (i := 9) (oi := ?ozz61) (v := ?vzz61) ?hzz61 ?azz61 ?bzz61 ?czz61 ?qzz61 ?yzz61 ?szz61 ?rzz61
                    case hzz61 => simp only [List.getElem?_toArray, List.getElem?_cons_zero, List.getElem?_cons_succ]; rfl
                    case azz61 => kernel_rfl
                    case bzz61 => kernel_rfl
                    case czz61 => kernel_rfl
                    case yzz61 =>
                      refine Or.inl ⟨by rfl, ?_⟩
                      intro w hSw
                      skip
                      go_simp
                      try with_reducible rfl
                    case qzz61 => exact fun _ _ _ h => h
                    case szz61 => first | assumption | trivial
                    case' rzz61 => simp only [Act.put, List.setIfInBounds_toArray, List.set_cons_zero, List.set_cons_succ]
                    refine wpAnyH_take (i := 13) (oi := ?ozz62) (v := ?vzz62) ?hzz62 ?azz62 ?bzz62 ?czz62 ?qzz62 ?yzz62 ?szz62 ?rzz62
                    case hzz62 => simp only [List.getElem?_toArray, List.getElem?_cons_zero, List.getElem?_cons_succ]; rfl
                    case azz62 => kernel_rfl
                    case bzz62 => kernel_rfl
                    case czz62 => kernel_rfl
                    case yzz62 =>
                      refine Or.inl ⟨by rfl, ?_⟩
                      intro w hSw
                      skip
                      go_simp
                      try with_reducible rfl
                    case qzz62 => exact fun _ _ _ h => h
                    case szz62 => first | assumption | trivial
                    case' rzz62 => simp only [Act.put, List.setIfInBounds_toArray, List.set_cons_zero, List.set_cons_succ]
                    refine wpAnyH_done (by kernel_rfl) ?_ _
                    have Z1 := Lib.hid (BX.out.set2 (.string Y) (.bool yb))
                    have Z2 := Lib.hid ((XB.out.q HZ.out).far2 (c := nb) (by have := XB.out.lt; omega) (.string Y) (.bool yb))
                    have Z3 := Lib.hid (HQ.out.trans (HZ.out.set2 (b := nb) hnb (.string Y) (.bool yb)))
                    have Z4 := Lib.hid (HZ.out.set2 (b := nb) hnb (.string Y) (.bool yb))
                    have hxb := XB.out.lt
                    generalize ((Y4.setCell ⟨nb, 0, none⟩ (.string Y)).setCell ⟨nb, 1, none⟩ (.bool yb)) = W9 at Z1 Z2 Z3 Z4 ⊢
                    obtain ⟨⟨a0, a1⟩, a2, a3⟩ := Z1.out.get2
                    obtain ⟨⟨b0, b1⟩, b2, b3⟩ := Z2.out.get2
                    clear e0 e1 e2 e3 x0
                    go_wp2
                    go_roundw
                    case rel => exact ⟨k + 1, ⟨yr, yb⟩, by omega, by go_num, by rw [HYR.out]; exact Z2.out.set2 _ _, HSM.out.1, Z3.out.set2 (b := n1) hn1 _ _⟩
                    case measure => simp [intOf]; omega
                case' mzz64 => skip
                exact AllReadyH.nil
            case' mzz67 => skip
            exact AllReadyL.nil
        case' mzz70 => skip
        exact AllReadyL.nil
    case' mzz103 => skip
    refine AllReadyL.cons (o := ?ozz104) ?hzz104 (fun K hK => ?kzz104) ?mzz104
    case hzz104 => simp only [List.getElem?_toArray, List.getElem?_cons_zero, List.getElem?_cons_succ]; rfl
    case kzz104 =>
      go_simp
      have BX := Lib.hid (Bx.new D0 [.string ⟨#[]⟩, .bool false] 23)
      have hnb : wr.heap.size ≤ D0.heap.size := hHeld.size
      have qa := (Q.refl D0).alloc (.cells #[.string ⟨#[]⟩, .bool false] 23)
      have BX : Hid (Bx (D0.alloc (.cells #[.string ⟨#[]⟩, .bool false] 23)) D0.heap.size [.string ⟨#[]⟩, .bool false]) := Lib.hid BX.out
      generalize D0.alloc (.cells #[.string ⟨#[]⟩, .bool false] 23) = Y5 at BX qa ⊢
      generalize hnbe : D0.heap.size = nb at BX hnb ⊢
      have hnw := Lib.hid (Nat.le_of_eq hnbe)
      clear hnbe
      refine hK.out _ _ ?Szz104 (fun hHeld => ?Rzz104)
      case Szz104 =>
        exact hHeld.trans qa
      case Rzz104 =>
        clear hK K
        try simp only [Act.put, List.setIfInBounds_toArray, List.set_cons_zero, List.set_cons_succ]
        refine wpAnyL_ready (rs := [5]) (by kernel_rfl) (by simp) ?_
        refine AllReadyL.cons (o := ?ozz102) ?hzz102 (fun K hK => ?kzz102) ?mzz102
        case hzz102 => simp only [List.getElem?_toArray, List.getElem?_cons_zero, List.getElem?_cons_succ]; rfl
        case kzz102 =>
          go_simp
          refine (K1.out _).mono ?_
          rintro e v2 ⟨A2, c2, rfl, o2, q2⟩
          clear o2
          have BX := Lib.hid (BX.out.q q2)
          go_wp2_with fail
          refine hK.out _ _ ?Szz102 (fun hHeld => ?Rzz102)
          case Szz102 =>
            exact hHeld.trans q2
          case Rzz102 =>
            clear hK K
            try simp only [Act.put, List.setIfInBounds_toArray, List.set_cons_zero, List.set_cons_succ]
            refine wpAnyL_take (i := 6) (oi := ?ozz71) (v := ?vzz71) ?hzz71 ?azz71 ?bzz71 ?czz71 ?kzz71 ?qzz71 ?yzz71 ?szz71 ?rzz71
            case hzz71 => simp only [List.getElem?_toArray, List.getElem?_cons_zero, List.getElem?_cons_succ]; rfl
            case azz71 => kernel_rfl
            case bzz71 => kernel_rfl
            case czz71 => kernel_rfl
            case kzz71 => kernel_rfl
            case yzz71 =>
              refine Or.inl ⟨by rfl, ?_⟩
              intro w hSw
              skip
              go_simp
              try with_reducible rfl
            case qzz71 => exact fun _ _ _ h => h
            case szz71 => first | assumption | trivial
            case' rzz71 => simp only [Act.put, List.setIfInBounds_toArray, List.set_cons_zero, List.set_cons_succ]
            refine wpAnyL_take (i := 7) (oi := ?ozz72) (v := ?vzz72) ?hzz72 ?azz72 ?bzz72 ?czz72 ?kzz72 ?qzz72 ?yzz72 ?szz72 ?rzz72
            case hzz72 => simp only [List.getElem?_toArray, List.getElem?_cons_zero, List.getElem?_cons_succ]; rfl
            case azz72 => kernel_rfl
            case bzz72 => kernel_rfl
            case czz72 => kernel_rfl
            case kzz72 => kernel_rfl
            case yzz72 =>
              refine Or.inl ⟨by rfl, ?_⟩
              intro w hSw
              skip
              go_simp
              try with_reducible rfl
            case qzz72 => exact fun _ _ _ h => h
            case szz72 => first | assumption | trivial
            case' rzz72 => simp only [Act.put, List.setIfInBounds_toArray, List.set_cons_zero, List.set_cons_succ]
            refine wpAnyL_ready (rs := [8, 9, 11]) (by kernel_rfl) (by simp) ?_
            refine AllReadyL.cons (o := ?ozz99) ?hzz99 (fun K hK => ?kzz99) ?mzz99
            case hzz99 => simp only [List.getElem?_toArray, List.getElem?_cons_zero, List.getElem?_cons_succ]; rfl
            case kzz99 =>
              go_simp
              refine hK.out _ _ ?Szz99 (fun hHeld => ?Rzz99)
              case Szz99 =>
                first | exact hHeld | trivial
              case Rzz99 =>
                clear hK K
                try simp only [Act.put, List.setIfInBounds_toArray, List.set_cons_zero, List.set_cons_succ]
                refine wpAnyL_ready (rs := [9, 11]) (by kernel_rfl) (by simp) ?_
                refine AllReadyL.cons (o := ?ozz82) ?hzz82 (fun K hK => ?kzz82) ?mzz82
                case hzz82 => simp only [List.getElem?_toArray, List.getElem?_cons_zero, List.getElem?_cons_succ]; rfl
                case kzz82 =>
                  go_simp
                  refine hK.out _ _ ?Szz82 (fun hHeld => ?Rzz82)
                  case Szz82 =>
                    first | exact hHeld | trivial
                  case Rzz82 =>
                    clear hK K
                    try simp only [Act.put, List.setIfInBounds_toArray, List.set_cons_zero, List.set_cons_succ]
                    refine wpAnyL_ready (rs := [11]) (by kernel_rfl) (by simp) ?_
                    refine AllReadyL.consK (o := ?ozz75) ?hzz75 ?lzz75 (fun K hK => ?kzz75) ?mzz75
                    case hzz75 => simp only [List.getElem?_toArray, List.getElem?_cons_zero, List.getElem?_cons_succ]; rfl
                    case lzz75 => kernel_rfl
                    case kzz75 =>
                      have HZ := Lib.hid hHeld
                      obtain ⟨⟨st0, st1⟩, st2, st3⟩ := BX.out.get2
                      go_simp
                      clear st0 st1 st2 st3
                      refine hK.out _ _ ?Rzz75
                      case Rzz75 =>
                        clear hK K
                        try simp only [Act.put, List.setIfInBounds_toArray, List.set_cons_zero, List.set_cons_succ]
                        refine wpAnyH_take (i := 12) (oi := ?ozz73) (v := ?vzz73) ?hzz73 ?azz73 ?bzz73 ?czz73 ?qzz73 ?yzz73 ?szz73 ?rzz73
                        case hzz73 => simp only [List.getElem?_toArray, List.getElem?_cons_zero, List.getElem?_cons_succ]; rfl
                        case azz73 => kernel_rfl
                        case bzz73 => kernel_rfl
                        case czz73 => kernel_rfl
                        case yzz73 =>
                          refine Or.inl ⟨by rfl, ?_⟩
                          intro w hSw
                          skip
                          go_simp
                          try with_reducible rfl
                        case qzz73 => exact fun _ _ _ h => h
                        case szz73 => first | assumption | trivial
                        case' rzz73 => simp only [Act.put, List.setIfInBounds_toArray, List.set_cons_zero, List.set_cons_succ]
                        refine wpAnyH_take (i := 13) (oi := ?ozz74) (v := ?vzz74) ?hzz74 ?azz74 ?bzz74 ?czz74 ?qzz74 ?yzz74 ?szz74 ?rzz74
                        case hzz74 => simp only [List.getElem?_toArray, List.getElem?_cons_zero, List.getElem?_cons_succ]; rfl
                        case azz74 => kernel_rfl
                        case bzz74 => kernel_rfl
                        case czz74 => kernel_rfl
                        case yzz74 =>
                          refine Or.inl ⟨by rfl, ?_⟩
                          intro w hSw
                          skip
                          go_simp
                          try with_reducible rfl
                        case qzz74 => exact fun _ _ _ h => h
                        case szz74 => first | assumption | trivial
                        case' rzz74 => simp only [Act.put, List.setIfInBounds_toArray, List.set_cons_zero, List.set_cons_succ]
                        refine wpAnyH_done (by kernel_rfl) ?_ _
                        have Z1 := Lib.hid (BX.out.set2 (.string Y) (.bool yb))
                        have Z2 := Lib.hid ((XB.out.q HZ.out).far2 (c := nb) (by have := XB.out.lt; omega) (.string Y) (.bool yb))
                        have Z3 := Lib.hid (HQ.out.trans (HZ.out.set2 (b := nb) hnb (.string Y) (.bool yb)))
                        have Z4 := Lib.hid (HZ.out.set2 (b := nb) hnb (.string Y) (.bool yb))
                        have hxb := XB.out.lt
                        generalize ((v2.setCell ⟨nb, 0, none⟩ (.string Y)).setCell ⟨nb, 1, none⟩ (.bool yb)) = W9 at Z1 Z2 Z3 Z4 ⊢
                        obtain ⟨⟨a0, a1⟩, a2, a3⟩ := Z1.out.get2
                        obtain ⟨⟨b0, b1⟩, b2, b3⟩ := Z2.out.get2
                        clear e0 e1 e2 e3 x0
                        go_wp2
                        go_roundw
                        case rel => exact ⟨k + 1, ⟨yr, yb⟩, by omega, by go_num, by rw [HYR.out]; exact Z2.out.set2 _ _, HSM.out.1, Z3.out.set2 (b := n1) hn1 _ _⟩
                        case measure => simp [intOf]; omega
                    case' mzz75 => skip
                    exact AllReadyL.nil
                case' mzz82 => skip
                refine AllReadyL.consK (o := ?ozz83) ?hzz83 ?lzz83 (fun K hK => ?kzz83) ?mzz83
                case hzz83 => simp only [List.getElem?_toArray, List.getElem?_cons_zero, List.getElem?_cons_succ]; rfl
                case lzz83 => kernel_rfl
                case kzz83 =>
                  have HZ := Lib.hid hHeld
                  obtain ⟨⟨st0, st1⟩, st2, st3⟩ := BX.out.get2
                  go_simp
                  clear st0 st1 st2 st3
                  refine hK.out _ _ ?Rzz83
                  case Rzz83 =>
                    clear hK K
                    try simp only [Act.put, List.setIfInBounds_toArray, List.set_cons_zero, List.set_cons_succ]
                    refine wpAnyH_ready (rs := [9, 12]) (by kernel_rfl) (by simp) ?_
                    refine AllReadyH.cons (o := ?ozz80) ?hzz80 (fun K hK => ?kzz80) ?mzz80
                    case hzz80 => simp only [List.getElem?_toArray, List.getElem?_cons_zero, List.getElem?_cons_succ]; rfl
                    case kzz80 =>
                      go_simp
                      refine hK.out _ _ ?Szz80 (fun hHeld => ?Rzz80)
                      case Szz80 =>
                        first | exact hHeld | trivial
                      case Rzz80 =>
                        clear hK K
                        try simp only [Act.put, List.setIfInBounds_toArray, List.set_cons_zero, List.set_cons_succ]
                        refine wpAnyH_take (i := 12) (oi := ?ozz76) (v := ?vzz76) ?hzz76 ?azz76 ?bzz76 ?czz76 ?qzz76 ?yzz76 ?szz76 ?rzz76
                        case hzz76 => simp only [List.getElem?_toArray, List.getElem?_cons_zero, List.getElem?_cons_succ]; rfl
                        case azz76 => kernel_rfl
                        case bzz76 => kernel_rfl
                        case czz76 => kernel_rfl
                        case yzz76 =>
                          refine Or.inl ⟨by rfl, ?_⟩
                          intro w hSw
                          skip
                          go_simp
                          try with_reducible rfl
                        case qzz76 => exact fun _ _ _ h => h
                        case szz76 => first | assumption | trivial
                        case' rzz76 => simp only [Act.put, List.setIfInBounds_toArray, List.set_cons_zero, List.set_cons_succ]
                        refine wpAnyH_take (i := 13) (oi := ?ozz77) (v := ?vzz77) ?hzz77 ?azz77 ?bzz77 ?czz77 ?qzz77 ?yzz77 ?szz77 ?rzz77
                        case hzz77 => simp only [List.getElem?_toArray, List.getElem?_cons_zero, List.getElem?_cons_succ]; rfl
                        case azz77 => kernel_rfl
                        case bzz77 => kernel_rfl
                        case czz77 => kernel_rfl
                        case yzz77 =>
                          refine Or.inl ⟨by rfl, ?_⟩
                          intro w hSw
                          skip
                          go_simp
                          try with_reducible rfl
                        case qzz77 => exact fun _ _ _ h => h
                        case szz77 => first | assumption | trivial
                        case' rzz77 => simp only [Act.put, List.setIfInBounds_toArray, List.set_cons_zero, List.set_cons_succ]
                        refine wpAnyH_done (by kernel_rfl) ?_ _
                        have Z1 := Lib.hid (BX.out.set2 (.string Y) (.bool yb))
                        have Z2 := Lib.hid ((XB.out.q HZ.out).far2 (c := nb) (by have := XB.out.lt; omega) (.string Y) (.bool yb))
                        have Z3 := Lib.hid (HQ.out.trans (HZ.out.set2 (b := nb) hnb (.string Y) (.bool yb)))
                        have Z4 := Lib.hid (HZ.out.set2 (b := nb) hnb (.string Y) (.bool yb))
                        have hxb := XB.out.lt
                        generalize ((v2.setCell ⟨nb, 0, none⟩ (.string Y)).setCell ⟨nb, 1, none⟩ (.bool yb)) = W9 at Z1 Z2 Z3 Z4 ⊢
                        obtain ⟨⟨a0, a1⟩, a2, a3⟩ := Z1.out.get2
                        obtain ⟨⟨b0, b1⟩, b2, b3⟩ := Z2.out.get2
                        clear e0 e1 e2 e3 x0
                        go_wp2
                        go_roundw
                        case rel => exact ⟨k + 1, ⟨yr, yb⟩, by omega, by go_num, by rw [HYR.out]; exact Z2.out.set2 _ _, HSM.out.1, Z3.out.set2 (b := n1) hn1 _ _⟩
                        case measure => simp [intOf]; omega
                    case' mzz80 => skip
                    refine AllReadyH.cons (o := ?ozz81) ?hzz81 (fun K hK => ?kzz81) ?mzz81
                    case hzz81 => simp only [List.getElem?_toArray, List.getElem?_cons_zero, List.getElem?_cons_succ]; rfl
                    case kzz81 =>
                      go_simp
                      refine hK.out _ _ ?Szz81 (fun hHeld => ?Rzz81)
                      case Szz81 =>
                        first | exact hHeld | trivial
                      case Rzz81 =>
                        clear hK K
                        try simp only [Act.put, List.setIfInBounds_toArray, List.set_cons_zero, List.set_cons_succ]
                        refine wpAnyH_take (i := 9) (oi := ?ozz78) (v := ?vzz78) ?hzz78 ?azz78 ?bzz78 ?czz78 ?qzz78 ?yzz78 ?szz78 ?rzz78
                        case hzz78 => simp only [List.getElem?_toArray, List.getElem?_cons_zero, List.getElem?_cons_succ]; rfl
                        case azz78 => kernel_rfl
                        case bzz78 => kernel_rfl
                        case czz78 => kernel_rfl
                        case yzz78 =>
                          refine Or.inl ⟨by rfl, ?_⟩
                          intro w hSw
                          skip
                          go_simp
                          try with_reducible rfl
                        case qzz78 => exact fun _ _ _ h => h
                        case szz78 => first | assumption | trivial
                        case' rzz78 => simp only [Act.put, List.setIfInBounds_toArray, List.set_cons_zero, List.set_cons_succ]
                        refine wpAnyH_take (i := 13) (oi := ?ozz79) (v := ?vzz79) ?hzz79 ?azz79 ?bzz79 ?czz79 ?qzz79 ?yzz79 ?szz79 ?rzz79
                        case hzz79 => simp only [List.getElem?_toArray, List.getElem?_cons_zero, List.getElem?_cons_succ]; rfl
                        case azz79 => kernel_rfl
                        case bzz79 => kernel_rfl
                        case czz79 => kernel_rfl
                        case yzz79 =>
                          refine Or.inl ⟨by rfl, ?_⟩
                          intro w hSw
                          skip
                          go_simp
                          try with_reducible rfl
                        case qzz79 => exact fun _ _ _ h => h
                        case szz79 => first | assumption | trivial
                        case' rzz79 => simp only [Act.put, List.setIfInBounds_toArray, List.set_cons_zero, List.set_cons_succ]
                        refine wpAnyH_done (by kernel_rfl) ?_ _
                        have Z1 := Lib.hid (BX.out.set2 (.string Y) (.bool yb))
                        have Z2 := Lib.hid ((XB.out.q HZ.out).far2 (c := nb) (by have := XB.out.lt; omega) (.string Y) (.bool yb))
                        have Z3 := Lib.hid (HQ.out.trans (HZ.out.set2 (b := nb) hnb (.string Y) (.bool yb)))
                        have Z4 := Lib.hid (HZ.out.set2 (b := nb) hnb (.string Y) (.bool yb))
                        have hxb := XB.out.lt
                        generalize ((v2.setCell ⟨nb, 0, none⟩ (.string Y)).setCell ⟨nb, 1, none⟩ (.bool yb)) = W9 at Z1 Z2 Z3 Z4 ⊢
                        obtain ⟨⟨a0, a1⟩, a2, a3⟩ := Z1.out.get2
                        obtain ⟨⟨b0, b1⟩, b2, b3⟩ := Z2.out.get2
                        clear e0 e1 e2 e3 x0
                        go_wp2
                        go_roundw
                        case rel => exact ⟨k + 1, ⟨yr, yb⟩, by omega, by go_num, by rw [HYR.out]; exact Z2.out.set2 _ _, HSM.out.1, Z3.out.set2 (b := n1) hn1 _ _⟩
                        case measure => simp [intOf]; omega
                    case' mzz81 => skip
                    exact AllReadyH.nil
                case' mzz83 => skip
                exact AllReadyL.nil
            case' mzz99 => skip
            refine AllReadyL.cons (o := ?ozz100) ?hzz100 (fun K hK => ?kzz100) ?mzz100
            case hzz100 => simp only [List.getElem?_toArray, List.getElem?_cons_zero, List.getElem?_cons_succ]; rfl
            case kzz100 =>
              go_simp
              refine hK.out _ _ ?Szz100 (fun hHeld => ?Rzz100)
              case Szz100 =>
                first | exact hHeld | trivial
              case Rzz100 =>
                clear hK K
                try simp only [Act.put, List.setIfInBounds_toArray, List.set_cons_zero, List.set_cons_succ]
                refine wpAnyL_ready (rs := [8, 11]) (by kernel_rfl) (by simp) ?_
                refine AllReadyL.cons (o := ?ozz90) ?hzz90 (fun K hK => ?kzz90) ?mzz90
                case hzz90 => simp only [List.getElem?_toArray, List.getElem?_cons_zero, List.getElem?_cons_succ]; rfl
                case kzz90 =>
                  go_simp
                  refine hK.out _ _ ?Szz90 (fun hHeld => ?Rzz90)
                  case Szz90 =>
                    first | exact hHeld | trivial
                  case Rzz90 =>
                    clear hK K
                    try simp only [Act.put, List.setIfInBounds_toArray, List.set_cons_zero, List.set_cons_succ]
                    refine wpAnyL_ready (rs := [11]) (by kernel_rfl) (by simp) ?_
                    refine AllReadyL.consK (o := ?ozz86) ?hzz86 ?lzz86 (fun K hK => ?kzz86) ?mzz86
                    case hzz86 => simp only [List.getElem?_toArray, List.getElem?_cons_zero, List.getElem?_cons_succ]; rfl
                    case lzz86 => kernel_rfl
                    case kzz86 =>
                      have HZ := Lib.hid hHeld
                      obtain ⟨⟨st0, st1⟩, st2, st3⟩ := BX.out.get2
                      go_simp
                      clear st0 st1 st2 st3
                      refine hK.out _ _ ?Rzz86
                      case Rzz86 =>
                        clear hK K
                        try simp only [Act.put, List.setIfInBounds_toArray, List.set_cons_zero, List.set_cons_succ]
                        refine wpAnyH_take (i := 12) (oi := ?ozz84) (v := ?vzz84) ?hzz84 ?azz84 ?bzz84 ?czz84 ?qzz84 ?yzz84 ?szz84 ?rzz84
                        case hzz84 => simp only [List.getElem?_toArray, List.getElem?_cons_zero, List.getElem?_cons_succ]; rfl
                        case azz84 => kernel_rfl
                        case bzz84 => kernel_rfl
                        case czz84 => kernel_rfl
                        case yzz84 =>
                          refine Or.inl ⟨by rfl, ?_⟩
                          intro w hSw
                          skip
                          go_simp
                          try with_reducible rfl
                        case qzz84 => exact fun _ _ _ h => h
                        case szz84 => first | assumption | trivial
                        case' rzz84 => simp only [Act.put, List.setIfInBounds_toArray, List.set_cons_zero, List.set_cons_succ]
                        refine wpAnyH_take (i := 13) (oi := ?ozz85) (v := ?vzz85) ?hzz85 ?azz85 ?bzz85 ?czz85 ?qzz85 ?yzz85 ?szz85 ?rzz85
                        case hzz85 => simp only [List.getElem?_toArray, List.getElem?_cons_zero, List.getElem?_cons_succ]; rfl
                        case azz85 => kernel_rfl
                        case bzz85 => kernel_rfl
                        case czz85 => kernel_rfl
                        case yzz85 =>
                          refine Or.inl ⟨by rfl, ?_⟩
                          intro w hSw
                          skip
                          go_simp
                          try with_reducible rfl
                        case qzz85 => exact fun _ _ _ h => h
                        case szz85 => first | assumption | trivial
                        case' rzz85 => simp only [Act.put, List.setIfInBounds_toArray, List.set_cons_zero, List.set_cons_succ]
                        refine wpAnyH_done (by kernel_rfl) ?_ _
                        have Z1 := Lib.hid (BX.out.set2 (.string Y) (.bool yb))
                        have Z2 := Lib.hid ((XB.out.q HZ.out).far2 (c := nb) (by have := XB.out.lt; omega) (.string Y) (.bool yb))
                        have Z3 := Lib.hid (HQ.out.trans (HZ.out.set2 (b := nb) hnb (.string Y) (.bool yb)))
                        have Z4 := Lib.hid (HZ.out.set2 (b := nb) hnb (.string Y) (.bool yb))
                        have hxb := XB.out.lt
                        generalize ((v2.setCell ⟨nb, 0, none⟩ (.string Y)).setCell ⟨nb, 1, none⟩ (.bool yb)) = W9 at Z1 Z2 Z3 Z4 ⊢
                        obtain ⟨⟨a0, a1⟩, a2, a3⟩ := Z1.out.get2
                        obtain ⟨⟨b0, b1⟩, b2, b3⟩ := Z2.out.get2
                        clear e0 e1 e2 e3 x0
                        go_wp2
                        go_roundw
                        case rel => exact ⟨k + 1, ⟨yr, yb⟩, by omega, by go_num, by rw [HYR.out]; exact Z2.out.set2 _ _, HSM.out.1, Z3.out.set2 (b := n1) hn1 _ _⟩
                        case measure => simp [intOf]; omega
                    case' mzz86 => skip
                    exact AllReadyL.nil
                case' mzz90 => skip
                refine AllReadyL.consK (o := ?ozz91) ?hzz91 ?lzz91 (fun K hK => ?kzz91) ?mzz91
                case hzz91 => simp only [List.getElem?_toArray, List.getElem?_cons_zero, List.getElem?_cons_succ]; rfl
                case lzz91 => kernel_rfl
                case kzz91 =>
                  have HZ := Lib.hid hHeld
                  obtain ⟨⟨st0, st1⟩, st2, st3⟩ := BX.out.get2
                  go_simp
                  clear st0 st1 st2 st3
                  refine hK.out _ _ ?Rzz91
                  case Rzz91 =>
                    clear hK K
                    try simp only [Act.put, List.setIfInBounds_toArray, List.set_cons_zero, List.set_cons_succ]
                    refine wpAnyH_take (i := 8) (oi := ?ozz87) (v := ?vzz87) ?hzz87 ?azz87 ?bzz87 ?czz87 ?qzz87 ?yzz87 ?szz87 ?rzz87
                    case hzz87 => simp only [List.getElem?_toArray, List.getElem?_cons_zero, List.getElem?_cons_succ]; rfl
                    case azz87 => kernel_rfl
                    case bzz87 => kernel_rfl
                    case czz87 => kernel_rfl
                    case yzz87 =>
                      refine Or.inl ⟨by rfl, ?_⟩
                      intro w hSw
                      skip
                      go_simp
                      try with_reducible rfl
                    case qzz87 => exact fun _ _ _ h => h
                    case szz87 => first | assumption | trivial
                    case' rzz87 => simp only [Act.put, List.setIfInBounds_toArray, List.set_cons_zero, List.set_cons_succ]
                    refine wpAnyH_take (i := 12) (oi := ?ozz88) (v := ?vzz88) ?hzz88 ?azz88 ?bzz88 ?czz88 ?qzz88 ?yzz88 ?szz88 ?rzz88
                    case hzz88 => simp only [List.getElem?_toArray, List.getElem?_cons_zero, List.getElem?_cons_succ]; rfl
                    case azz88 => kernel_rfl
                    case bzz88 => kernel_rfl
                    case czz88 => kernel_rfl
                    case yzz88 =>
                      refine Or.inl ⟨by rfl, ?_⟩
                      intro w hSw
                      skip
                      go_simp
                      try with_reducible rfl
                    case qzz88 => exact fun _ _ _ h => h
                    case szz88 => first | assumption | trivial
                    case' rzz88 => simp only [Act.put, List.setIfInBounds_toArray, List.set_cons_zero, List.set_cons_succ]
                    refine wpAnyH_take (i := 13) (oi := ?ozz89) (v := ?vzz89) ?hzz89 ?azz89 ?bzz89 ?czz89 ?qzz89 ?yzz89 ?szz89 ?rzz89
                    case hzz89 => simp only [List.getElem?_toArray, List.getElem?_cons_zero, List.getElem?_cons_succ]; rfl
                    case azz89 => kernel_rfl
                    case bzz89 => kernel_rfl
                    case czz89 => kernel_rfl
                    case yzz89 =>
                      refine Or.inl ⟨by rfl, ?_⟩
                      intro w hSw
                      skip
                      go_simp
                      try with_reducible rfl
                    case qzz89 => exact fun _ _ _ h => h
                    case szz89 => first | assumption | trivial
                    case' rzz89 => simp only [Act.put, List.setIfInBounds_toArray, List.set_cons_zero, List.set_cons_succ]
                    refine wpAnyH_done (by kernel_rfl) ?_ _
                    have Z1 := Lib.hid (BX.out.set2 (.string Y) (.bool yb))
                    have Z2 := Lib.hid ((XB.out.q HZ.out).far2 (c := nb) (by have := XB.out.lt; omega) (.string Y) (.bool yb))
                    have Z3 := Lib.hid (HQ.out.trans (HZ.out.set2 (b := nb) hnb (.string Y) (.bool yb)))
                    have Z4 := Lib.hid (HZ.out.set2 (b := nb) hnb (.string Y) (.bool yb))
                    have hxb := XB.out.lt
                    generalize ((v2.setCell ⟨nb, 0, none⟩ (.string Y)).setCell ⟨nb, 1, none⟩ (.bool yb)) = W9 at Z1 Z2 Z3 Z4 ⊢
                    obtain ⟨⟨a0, a1⟩, a2, a3⟩ := Z1.out.get2
                    obtain ⟨⟨b0, b1⟩, b2, b3⟩ := Z2.out.get2
                    clear e0 e1 e2 e3 x0
                    go_wp2
                    go_roundw
                    case rel => exact ⟨k + 1, ⟨yr, yb⟩, by omega, by go_num, by rw [HYR.out]; exact Z2.out.set2 _ _, HSM.out.1, Z3.out.set2 (b := n1) hn1 _ _⟩
                    case measure => simp [intOf]; omega
                case' mzz91 => skip
                exact AllReadyL.nil
            case' mzz100 => skip
            refine AllReadyL.consK (o := ?ozz101) ?hzz101 ?lzz101 (fun K hK => ?kzz101) ?mzz101
            case hzz101 => simp only [List.getElem?_toArray, List.getElem?_cons_zero, List.getElem?_cons_succ]; rfl
            case lzz101 => kernel_rfl
            case kzz101 =>
              have HZ := Lib.hid hHeld
              obtain ⟨⟨st0, st1⟩, st2, st3⟩ := BX.out.get2
              go_simp
              clear st0 st1 st2 st3
              refine hK.out _ _ ?Rzz101
              case Rzz101 =>
                clear hK K
                try simp only [Act.put, List.setIfInBounds_toArray, List.set_cons_zero, List.set_cons_succ]
                refine wpAnyH_take (i := 8) (oi := ?ozz92) (v := ?vzz92) ?hzz92 ?azz92 ?bzz92 ?czz92 ?qzz92 ?yzz92 ?szz92 ?rzz92
                case hzz92 => simp only [List.getElem?_toArray, List.getElem?_cons_zero, List.getElem?_cons_succ]; rfl
                case azz92 => kernel_rfl
                case bzz92 => kernel_rfl
                case czz92 => kernel_rfl
                case yzz92 =>
                  refine Or.inl ⟨by rfl, ?_⟩
                  intro w hSw
                  skip
                  go_simp
                  try with_reducible rfl
                case qzz92 => exact fun _ _ _ h => h
                case szz92 => first | assumption | trivial
                case' rzz92 => simp only [Act.put, List.setIfInBounds_toArray, List.set_cons_zero, List.set_cons_succ]
                refine wpAnyH_ready (rs := [9, 12]) (by kernel_rfl) (by simp) ?_
                refine AllReadyH.cons (o := ?ozz97) ?hzz97 (fun K hK => ?kzz97) ?mzz97
                case hzz97 => simp only [List.getElem?_toArray, List.getElem?_cons_zero, List.getElem?_cons_succ]; rfl
                case kzz97 =>
                  go_simp
                  refine hK.out _ _ ?Szz97 (fun hHeld => ?Rzz97)
                  case Szz97 =>
                    first | exact hHeld | trivial
                  case Rzz97 =>
                    clear hK K
                    try simp only [Act.put, List.setIfInBounds_toArray, List.set_cons_zero, List.set_cons_succ]
                    refine wpAnyH_take (i := 12) (oi := ?ozz93) (v := ?vzz93) ?hzz93 ?azz93 ?bzz93 ?czz93 ?qzz93 ?yzz93 ?szz93 ?rzz93
                    case hzz93 => simp only [List.getElem?_toArray, List.getElem?_cons_zero, List.getElem?_cons_succ]; rfl
                    case azz93 => kernel_rfl
                    case bzz93 => kernel_rfl
                    case czz93 => kernel_rfl
                    case yzz93 =>
                      refine Or.inl ⟨by rfl, ?_⟩
                      intro w hSw
                      skip
                      go_simp
                      try with_reducible rfl
                    case qzz93 => exact fun _ _ _ h => h
                    case szz93 => first | assumption | trivial
                    case' rzz93 => simp only [Act.put, List.setIfInBounds_toArray, List.set_cons_zero, List.set_cons_succ]
                    refine wpAnyH_take (i := 13) (oi := ?ozz94) (v := ?vzz94) ?hzz94 ?azz94 ?bzz94 ?czz94 ?qzz94 ?yzz94 ?szz94 ?rzz94
                    case hzz94 => simp only [List.getElem?_toArray, List.getElem?_cons_zero, List.getElem?_cons_succ]; rfl
                    case azz94 => kernel_rfl
                    case bzz94 => kernel_rfl
                    case czz94 => kernel_rfl
                    case yzz94 =>
                      refine Or.inl ⟨by rfl, ?_⟩
                      intro w hSw
                      skip
                      go_simp
                      try with_reducible rfl
                    case qzz94 => exact fun _ _ _ h => h
                    case szz94 => first | assumption | trivial
                    case' rzz94 => simp only [Act.put, List.setIfInBounds_toArray, List.set_cons_zero, List.set_cons_succ]
                    refine wpAnyH_done (by kernel_rfl) ?_ _
                    have Z1 := Lib.hid (BX.out.set2 (.string Y) (.bool yb))
                    have Z2 := Lib.hid ((XB.out.q HZ.out).far2 (c := nb) (by have := XB.out.lt; omega) (.string Y) (.bool yb))
                    have Z3 := Lib.hid (HQ.out.trans (HZ.out.set2 (b := nb) hnb (.string Y) (.bool yb)))
                    have Z4 := Lib.hid (HZ.out.set2 (b := nb) hnb (.string Y) (.bool yb))
                    have hxb := XB.out.lt
                    generalize ((v2.setCell ⟨nb, 0, none⟩ (.string Y)).setCell ⟨nb, 1, none⟩ (.bool yb)) = W9 at Z1 Z2 Z3 Z4 ⊢
                    obtain ⟨⟨a0, a1⟩, a2, a3⟩ := Z1.out.get2
                    obtain ⟨⟨b0, b1⟩, b2, b3⟩ := Z2.out.get2
                    clear e0 e1 e2 e3 x0
                    go_wp2
                    go_roundw
                    case rel => exact ⟨k + 1, ⟨yr, yb⟩, by omega, by go_num, by rw [HYR.out]; exact Z2.out.set2 _ _, HSM.out.1, Z3.out.set2 (b := n1) hn1 _ _⟩
                    case measure => simp [intOf]; omega
                case' mzz97 => skip
                refine AllReadyH.cons (o := ?ozz98) ?hzz98 (fun K hK => ?kzz98) ?mzz98
                case hzz98 => simp only [List.getElem?_toArray, List.getElem?_cons_zero, List.getElem?_cons_succ]; rfl
                case kzz98 =>
                  go_simp
                  refine hK.out _ _ ?Szz98 (fun hHeld => ?Rzz98)
                  case Szz98 =>
                    first | exact hHeld | trivial
                  case Rzz98 =>
                    clear hK K
                    try simp only [Act.put, List.setIfInBounds_toArray, List.set_cons_zero, List.set_cons_succ]
                    refine wpAnyH_take (i := 9) (oi := ?ozz95) (v := ?vzz95) ?hzz95 ?azz95 ?bzz95 ?czz95 ?qzz95 ?yzz95 ?szz95 ?rzz95
                    case hzz95 => simp only [List.getElem?_toArray, List.getElem?_cons_zero, List.getElem?_cons_succ]; rfl
                    case azz95 => kernel_rfl
                    case bzz95 => kernel_rfl
                    case czz95 => kernel_rfl
                    case yzz95 =>
                      refine Or.inl ⟨by rfl, ?_⟩
                      intro w hSw
                      skip
                      go_simp
                      try with_reducible rfl
                    case qzz95 => exact fun _ _ _ h => h
                    case szz95 => first | assumption | trivial
                    case' rzz95 => simp only [Act.put, List.setIfInBounds_toArray, List.set_cons_zero, List.set_cons_succ]
                    refine wpAnyH_take (i := 13) (oi := ?ozz96) (v := ?vzz96) ?hzz96 ?azz96 ?bzz96 ?czz96 ?qzz96 ?yzz96 ?szz96 ?rzz96
                    case hzz96 => simp only [List.getElem?_toArray, List.getElem?_cons_zero, List.getElem?_cons_succ]; rfl
                    case azz96 => kernel_rfl
                    case bzz96 => kernel_rfl
                    case czz96 => kernel_rfl
                    case yzz96 =>
                      refine Or.inl ⟨by rfl, ?_⟩
                      intro w hSw
                      skip
                      go_simp
                      try with_reducible rfl
                    case qzz96 => exact fun _ _ _ h => h
                    case szz96 => first | assumption | trivial
                    case' rzz96 => simp only [Act.put, List.setIfInBounds_toArray, List.set_cons_zero, List.set_cons_succ]
                    refine wpAnyH_done (by kernel_rfl) ?_ _
                    have Z1 := Lib.hid (BX.out.set2 (.string Y) (.bool yb))
                    have Z2 := Lib.hid ((XB.out.q HZ.out).far2 (c := nb) (by have := XB.out.lt; omega) (.string Y) (.bool yb))
                    have Z3 := Lib.hid (HQ.out.trans (HZ.out.set2 (b := nb) hnb (.string Y) (.bool yb)))
                    have Z4 := Lib.hid (HZ.out.set2 (b := nb) hnb (.string Y) (.bool yb))
                    have hxb := XB.out.lt
                    generalize ((v2.setCell ⟨nb, 0, none⟩ (.string Y)).setCell ⟨nb, 1, none⟩ (.bool yb)) = W9 at Z1 Z2 Z3 Z4 ⊢
                    obtain ⟨⟨a0, a1⟩, a2, a3⟩ := Z1.out.get2
                    obtain ⟨⟨b0, b1⟩, b2, b3⟩ := Z2.out.get2
                    clear e0 e1 e2 e3 x0
                    go_wp2
                    go_roundw
                    case rel => exact ⟨k + 1, ⟨yr, yb⟩, by omega, by go_num, by rw [HYR.out]; exact Z2.out.set2 _ _, HSM.out.1, Z3.out.set2 (b := n1) hn1 _ _⟩
                    case measure => simp [intOf]; omega
                case' mzz98 => skip
                exact AllReadyH.nil
            case' mzz101 => skip
            exact AllReadyL.nil
        case' mzz102 => skip
        exact AllReadyL.nil
    case' mzz104 => skip
    exact AllReadyL.nil

theorem opened (W : World) (args : Array Value) (hn : args.size = 1) (h : ∀ (j : Nat) t v, Try.f6.params[j]? = some t → args[j]? = some v → RdV W t v ∧ (true = true → RdU W t v.cells.toList)) :
    Calls Try.prog 6 args W fun e W' => e = .returned (.bool true) ∧ Q W W' := by
  obtain ⟨v0, rfl⟩ := args1 hn
  rw [Try.params6] at h
  obtain ⟨A0, n0, c0, e0, r0⟩ := (h 0 30 v0 rfl rfl).1.slice Try.underlying30
  obtain ⟨B0, m0, d0, pieces, f0, hd0, hb0, hp0⟩ := open_texts r0
  simp only [List.cons.injEq, Value.slice.injEq, and_true] at f0
  obtain ⟨rfl, rfl, rfl⟩ := f0
  subst e0
  have z0 := small_texts hd0 (fun a ha => by subst ha; exact ((h 0 30 _ rfl rfl).2 rfl))
  have u0 := small_list hd0 (fun a ha => RdU.cap (w := W) (t := 30) (a := a) (len := n0) (cap := c0) (by subst ha; exact ((h 0 30 _ rfl rfl).2 rfl)) Try.underlying30)
  exact walk A0 n0 c0 pieces W hd0 hb0 hp0 z0 u0

set_option maxRecDepth 100000 in
theorem lifted (os : Os) (started : os.Started) (H : Type) (enc : TypeId × Value → H) (F : Stop.Interp) :
    ReturnsInHanded {} Try.checked os 6 .any ((Rows.OpenSpec.upto Rows.frameSmallSpec).pre6 enc Try.prog Try.f6 Rows.frameSmallUptoRow.domain false) (((Rows.OpenSpec.upto Rows.frameSmallSpec).at F).post enc Try.prog Try.f6 false true false false) :=
  framedU (s := Rows.frameSmallSpec) 1 Try.func6 (by rw [Try.params6]; rfl) rfl (by kernel_rfl) (by kernel_rfl) (by kernel_rfl)
    (fun H ds h => by match ds, h with | [d0], _ => exact ⟨rfl, rfl, rfl⟩)
    opened os started H enc F
    (OpenSpec.witness (enc := enc) (C := Try.checked) (s := Rows.OpenSpec.upto Rows.frameSmallSpec) (k := Rows.uptoSmall) rfl false ⟨#[], #[.slice none 0 0], []⟩ 8 (by kernel_rfl) (by kernel_rfl) (by kernel_rfl)
      (x := ([.nil], [], [])) (by kernel_rfl) (by kernel_rfl) (by kernel_rfl))

theorem proved : Rows.FrameSmallUptoSaid :=
  OpenClaim.holds_of_cond 6 Try.f6 rfl rfl rfl rfl rfl rfl rfl ⟨rfl, rfl, rfl, rfl, rfl⟩ rfl rfl rfl rfl rfl (by kernel_rfl) Try.func6 (by kernel_rfl)
    (of_decide_eq_true (by kernel_rfl)) (by unfold Func.isWrapper; first | (rw [if_pos (by decide +kernel)]; kernel_rfl) | (rw [if_neg (by decide +kernel)]; exact ⟨rfl, rfl⟩))
    (fun os started H enc _ F => lifted os started H enc F)
end Go.Proofs.Ythcdcjidoacalaa.frameSmallUpto
