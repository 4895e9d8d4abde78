/- For every three spans: covering goes on from one to the next; who may be covers itself. No condition. -/
import Derived.Test.YtjbjkmbipdbejaaSpanIn
namespace Go.Proofs.Ytjbjkmbipdbejaa.spanOrder
set_option maxRecDepth 100000
open Go.ChangeShapes Go.WideShapes Go.ChangeAt Go.RowKit Prm Sm
set_option linter.unusedVariables false
set_option linter.unusedSimpArgs false

set_option maxHeartbeats 4000000 in
theorem walk (a : Wn) (b : Wn) (c : Wn) (w : World) :
    Calls Try.prog 8 #[wnV a, wnV b, wnV c] w fun e w' => e = .returned (.bool true) ∧ Q w w' := by
  have K1 := Lib.hid (fun W => scovers_any a b W)
  have K2 := Lib.hid (fun W => scovers_any b c W)
  have K3 := Lib.hid (fun W => scovers_any a c W)
  have K4 := Lib.hid (fun W => covers_self a ▸ scovers_any a a W)
  have K5 := Lib.hid (fun W => smay_any a W)
  have r1 := beq_rr (may a)
  have ht := Lib.hid (covers_trans (a := a) (b := b) (c := c))
  generalize may a = y at *
  by_cases h1 : covers a b = false
  · rw [h1] at K1
    clear h1 ht
    have B := wn_box3 w a b c
    try unfold wnV at *
    go_enter Try.func8, Try.ntmps8
    go_wp2_with fail
    generalize (((w.alloc (.cells #[.int .i64 a.mode, .string a.lo, .string a.hi] 23)).alloc (.cells #[.int .i64 b.mode, .string b.lo, .string b.hi] 23)).alloc (.cells #[.int .i64 c.mode, .string c.lo, .string c.hi] 23)) = W0 at B ⊢
    obtain ⟨⟨c0, c1, c2⟩, ⟨c3, c4, c5⟩, ⟨c6, c7, c8⟩, bq⟩ := B
    change _ at bq
    refine (spshown_any _).mono ?_
    rintro e W ⟨rfl, q0⟩
    have c0 := box_ q0 c0
    have c1 := box_ q0 c1
    have c2 := box_ q0 c2
    have c3 := box_ q0 c3
    have c4 := box_ q0 c4
    have c5 := box_ q0 c5
    have c6 := box_ q0 c6
    have c7 := box_ q0 c7
    have c8 := box_ q0 c8
    have BQ := Lib.hid (bq.trans q0)
    clear bq q0
    go_wp2
    refine wp_region_held_drew (S := Q W) (by kernel_rfl) ?szz30 (fun hHeld => ?rzz30)
    case szz30 =>
      exact (Q.refl W).drew
    case' rzz30 => skip
    refine wpAnyH_take (i := 0) (oi := ?ozz31) (v := ?vzz31) ?hzz31 ?azz31 ?bzz31 ?czz31 ?qzz31 ?yzz31 ?szz31 ?rzz31
    case hzz31 => simp only [List.getElem?_toArray, List.getElem?_cons_zero]; rfl
    case azz31 => kernel_rfl
    case bzz31 => kernel_rfl
    case czz31 => kernel_rfl
    case yzz31 =>
      refine Or.inl ⟨by rfl, ?_⟩
      intro w hSw
      skip
      go_simp
      try with_reducible rfl
    case qzz31 => exact fun _ _ _ h => h
    case szz31 => first | assumption | trivial
    case' rzz31 => simp only [Act.put, List.setIfInBounds_toArray, List.set_cons_zero, List.set_cons_succ]
    refine wpAnyH_take (i := 1) (oi := ?ozz32) (v := ?vzz32) ?hzz32 ?azz32 ?bzz32 ?czz32 ?qzz32 ?yzz32 ?szz32 ?rzz32
    case hzz32 => simp only [List.getElem?_toArray, List.getElem?_cons_zero, List.getElem?_cons_succ]; rfl
    case azz32 => kernel_rfl
    case bzz32 => kernel_rfl
    case czz32 => kernel_rfl
    case yzz32 =>
      refine Or.inl ⟨by rfl, ?_⟩
      intro w hSw
      skip
      go_simp
      try with_reducible rfl
    case qzz32 => exact fun _ _ _ h => h
    case szz32 => first | assumption | trivial
    case' rzz32 => simp only [Act.put, List.setIfInBounds_toArray, List.set_cons_zero, List.set_cons_succ]
    refine wpAnyH_take (i := 2) (oi := ?ozz33) (v := ?vzz33) ?hzz33 ?azz33 ?bzz33 ?czz33 ?qzz33 ?yzz33 ?szz33 ?rzz33
    case hzz33 => simp only [List.getElem?_toArray, List.getElem?_cons_zero, List.getElem?_cons_succ]; rfl
    case azz33 => kernel_rfl
    case bzz33 => kernel_rfl
    case czz33 => kernel_rfl
    case yzz33 =>
      refine Or.inl ⟨by rfl, ?_⟩
      intro w hSw
      have x0 := box_ hSw c0; have x1 := box_ hSw c1; have x2 := box_ hSw c2; have x3 := box_ hSw c3; have x4 := box_ hSw c4; have x5 := box_ hSw c5; have x6 := box_ hSw c6; have x7 := box_ hSw c7; have x8 := box_ hSw c8; clear hSw
      go_simp
      try with_reducible rfl
    case qzz33 => exact fun _ _ _ h => h
    case szz33 => first | assumption | trivial
    case' rzz33 => simp only [Act.put, List.setIfInBounds_toArray, List.set_cons_zero, List.set_cons_succ]
    refine wpAnyH_take (i := 3) (oi := ?ozz34) (v := ?vzz34) ?hzz34 ?azz34 ?bzz34 ?czz34 ?qzz34 ?yzz34 ?szz34 ?rzz34
    case hzz34 => simp only [List.getElem?_toArray, List.getElem?_cons_zero, List.getElem?_cons_succ]; rfl
    case azz34 => kernel_rfl
    case bzz34 => kernel_rfl
    case czz34 => kernel_rfl
    case yzz34 =>
      refine Or.inl ⟨by rfl, ?_⟩
      intro w hSw
      have x0 := box_ hSw c0; have x1 := box_ hSw c1; have x2 := box_ hSw c2; have x3 := box_ hSw c3; have x4 := box_ hSw c4; have x5 := box_ hSw c5; have x6 := box_ hSw c6; have x7 := box_ hSw c7; have x8 := box_ hSw c8; clear hSw
      go_simp
      try with_reducible rfl
    case qzz34 => exact fun _ _ _ h => h
    case szz34 => first | assumption | trivial
    case' rzz34 => simp only [Act.put, List.setIfInBounds_toArray, List.set_cons_zero, List.set_cons_succ]
    refine wpAnyH_ready (rs := [4]) (by kernel_rfl) (by simp) ?_
    refine AllReadyH.cons (o := ?ozz57) ?hzz57 (fun K hK => ?kzz57) ?mzz57
    case hzz57 => simp only [List.getElem?_toArray, List.getElem?_cons_zero, List.getElem?_cons_succ]; rfl
    case kzz57 =>
      go_simp
      refine (K1.out _).mono ?_
      rintro e w1 ⟨rfl, q1⟩
      go_wp2_with fail
      refine hK.out _ _ ?Szz57 (fun hHeld => ?Rzz57)
      case Szz57 =>
        exact hHeld.trans q1
      case Rzz57 =>
        clear hK K
        try simp only [Act.put, List.setIfInBounds_toArray, List.set_cons_zero, List.set_cons_succ]
        refine wpAnyH_take (i := 5) (oi := ?ozz35) (v := ?vzz35) ?hzz35 ?azz35 ?bzz35 ?czz35 ?qzz35 ?yzz35 ?szz35 ?rzz35
        case hzz35 => simp only [List.getElem?_toArray, List.getElem?_cons_zero, List.getElem?_cons_succ]; rfl
        case azz35 => kernel_rfl
        case bzz35 => kernel_rfl
        case czz35 => kernel_rfl
        case yzz35 =>
          refine Or.inl ⟨by rfl, ?_⟩
          intro w hSw
          skip
          go_simp
          try with_reducible rfl
        case qzz35 => exact fun _ _ _ h => h
        case szz35 => first | assumption | trivial
        case' rzz35 => simp only [Act.put, List.setIfInBounds_toArray, List.set_cons_zero, List.set_cons_succ]
        refine wpAnyH_take (i := 6) (oi := ?ozz36) (v := ?vzz36) ?hzz36 ?azz36 ?bzz36 ?czz36 ?qzz36 ?yzz36 ?szz36 ?rzz36
        case hzz36 => simp only [List.getElem?_toArray, List.getElem?_cons_zero, List.getElem?_cons_succ]; rfl
        case azz36 => kernel_rfl
        case bzz36 => kernel_rfl
        case czz36 => kernel_rfl
        case yzz36 =>
          refine Or.inl ⟨by rfl, ?_⟩
          intro w hSw
          skip
          go_simp
          try with_reducible rfl
        case qzz36 => exact fun _ _ _ h => h
        case szz36 => first | assumption | trivial
        case' rzz36 => simp only [Act.put, List.setIfInBounds_toArray, List.set_cons_zero, List.set_cons_succ]
        refine wpAnyH_take (i := 7) (oi := ?ozz37) (v := undef) ?hzz37 ?azz37 ?bzz37 ?czz37 ?qzz37 ?yzz37 ?szz37 ?rzz37
        case hzz37 => simp only [List.getElem?_toArray, List.getElem?_cons_zero, List.getElem?_cons_succ]; rfl
        case azz37 => kernel_rfl
        case bzz37 => kernel_rfl
        case czz37 => kernel_rfl
        case yzz37 => exact Or.inr ⟨by rfl, rfl⟩
        case qzz37 => exact fun _ _ _ h => h
        case szz37 => first | assumption | trivial
        case' rzz37 => simp only [Act.put, List.setIfInBounds_toArray, List.set_cons_zero, List.set_cons_succ]
        refine wpAnyH_take (i := 8) (oi := ?ozz38) (v := undef) ?hzz38 ?azz38 ?bzz38 ?czz38 ?qzz38 ?yzz38 ?szz38 ?rzz38
        case hzz38 => simp only [List.getElem?_toArray, List.getElem?_cons_zero, List.getElem?_cons_succ]; rfl
        case azz38 => kernel_rfl
        case bzz38 => kernel_rfl
        case czz38 => kernel_rfl
        case yzz38 => exact Or.inr ⟨by rfl, rfl⟩
        case qzz38 => exact fun _ _ _ h => h
        case szz38 => first | assumption | trivial
        case' rzz38 => simp only [Act.put, List.setIfInBounds_toArray, List.set_cons_zero, List.set_cons_succ]
        refine wpAnyH_take (i := 9) (oi := ?ozz39) (v := undef) ?hzz39 ?azz39 ?bzz39 ?czz39 ?qzz39 ?yzz39 ?szz39 ?rzz39
        case hzz39 => simp only [List.getElem?_toArray, List.getElem?_cons_zero, List.getElem?_cons_succ]; rfl
        case azz39 => kernel_rfl
        case bzz39 => kernel_rfl
        case czz39 => kernel_rfl
        case yzz39 => exact Or.inr ⟨by rfl, rfl⟩
        case qzz39 => exact fun _ _ _ h => h
        case szz39 => first | assumption | trivial
        case' rzz39 => simp only [Act.put, List.setIfInBounds_toArray, List.set_cons_zero, List.set_cons_succ]
        refine wpAnyH_take (i := 10) (oi := ?ozz40) (v := undef) ?hzz40 ?azz40 ?bzz40 ?czz40 ?qzz40 ?yzz40 ?szz40 ?rzz40
        case hzz40 => simp only [List.getElem?_toArray, List.getElem?_cons_zero, List.getElem?_cons_succ]; rfl
        case azz40 => kernel_rfl
        case bzz40 => kernel_rfl
        case czz40 => kernel_rfl
        case yzz40 => exact Or.inr ⟨by rfl, rfl⟩
        case qzz40 => exact fun _ _ _ h => h
        case szz40 => first | assumption | trivial
        case' rzz40 => simp only [Act.put, List.setIfInBounds_toArray, List.set_cons_zero, List.set_cons_succ]
        refine wpAnyH_take (i := 11) (oi := ?ozz41) (v := ?vzz41) ?hzz41 ?azz41 ?bzz41 ?czz41 ?qzz41 ?yzz41 ?szz41 ?rzz41
        case hzz41 => simp only [List.getElem?_toArray, List.getElem?_cons_zero, List.getElem?_cons_succ]; rfl
        case azz41 => kernel_rfl
        case bzz41 => kernel_rfl
        case czz41 => kernel_rfl
        case yzz41 =>
          refine Or.inl ⟨by rfl, ?_⟩
          intro w hSw
          skip
          go_simp
          try with_reducible rfl
        case qzz41 => exact fun _ _ _ h => h
        case szz41 => first | assumption | trivial
        case' rzz41 => simp only [Act.put, List.setIfInBounds_toArray, List.set_cons_zero, List.set_cons_succ]
        refine wpAnyH_take (i := 12) (oi := ?ozz42) (v := ?vzz42) ?hzz42 ?azz42 ?bzz42 ?czz42 ?qzz42 ?yzz42 ?szz42 ?rzz42
        case hzz42 => simp only [List.getElem?_toArray, List.getElem?_cons_zero, List.getElem?_cons_succ]; rfl
        case azz42 => kernel_rfl
        case bzz42 => kernel_rfl
        case czz42 => kernel_rfl
        case yzz42 =>
          refine Or.inl ⟨by rfl, ?_⟩
          intro w hSw
          skip
          go_simp
          try with_reducible rfl
        case qzz42 => exact fun _ _ _ h => h
        case szz42 => first | assumption | trivial
        case' rzz42 => simp only [Act.put, List.setIfInBounds_toArray, List.set_cons_zero, List.set_cons_succ]
        refine wpAnyH_take (i := 13) (oi := ?ozz43) (v := undef) ?hzz43 ?azz43 ?bzz43 ?czz43 ?qzz43 ?yzz43 ?szz43 ?rzz43
        case hzz43 => simp only [List.getElem?_toArray, List.getElem?_cons_zero, List.getElem?_cons_succ]; rfl
        case azz43 => kernel_rfl
        case bzz43 => kernel_rfl
        case czz43 => kernel_rfl
        case yzz43 => exact Or.inr ⟨by rfl, rfl⟩
        case qzz43 => exact fun _ _ _ h => h
        case szz43 => first | assumption | trivial
        case' rzz43 => simp only [Act.put, List.setIfInBounds_toArray, List.set_cons_zero, List.set_cons_succ]
        refine wpAnyH_take (i := 14) (oi := ?ozz44) (v := undef) ?hzz44 ?azz44 ?bzz44 ?czz44 ?qzz44 ?yzz44 ?szz44 ?rzz44
        case hzz44 => simp only [List.getElem?_toArray, List.getElem?_cons_zero, List.getElem?_cons_succ]; rfl
        case azz44 => kernel_rfl
        case bzz44 => kernel_rfl
        case czz44 => kernel_rfl
        case yzz44 => exact Or.inr ⟨by rfl, rfl⟩
        case qzz44 => exact fun _ _ _ h => h
        case szz44 => first | assumption | trivial
        case' rzz44 => simp only [Act.put, List.setIfInBounds_toArray, List.set_cons_zero, List.set_cons_succ]
        refine wpAnyH_take (i := 15) (oi := ?ozz45) (v := undef) ?hzz45 ?azz45 ?bzz45 ?czz45 ?qzz45 ?yzz45 ?szz45 ?rzz45
        case hzz45 => simp only [List.getElem?_toArray, List.getElem?_cons_zero, List.getElem?_cons_succ]; rfl
        case azz45 => kernel_rfl
        case bzz45 => kernel_rfl
        case czz45 => kernel_rfl
        case yzz45 => exact Or.inr ⟨by rfl, rfl⟩
        case qzz45 => exact fun _ _ _ h => h
        case szz45 => first | assumption | trivial
        case' rzz45 => simp only [Act.put, List.setIfInBounds_toArray, List.set_cons_zero, List.set_cons_succ]
        refine wpAnyH_take (i := 16) (oi := ?ozz46) (v := ?vzz46) ?hzz46 ?azz46 ?bzz46 ?czz46 ?qzz46 ?yzz46 ?szz46 ?rzz46
        case hzz46 => simp only [List.getElem?_toArray, List.getElem?_cons_zero, List.getElem?_cons_succ]; rfl
        case azz46 => kernel_rfl
        case bzz46 => kernel_rfl
        case czz46 => kernel_rfl
        case yzz46 =>
          refine Or.inl ⟨by rfl, ?_⟩
          intro w hSw
          skip
          go_simp
          try with_reducible rfl
        case qzz46 => exact fun _ _ _ h => h
        case szz46 => first | assumption | trivial
        case' rzz46 => simp only [Act.put, List.setIfInBounds_toArray, List.set_cons_zero, List.set_cons_succ]
        refine wpAnyH_take (i := 17) (oi := ?ozz47) (v := ?vzz47) ?hzz47 ?azz47 ?bzz47 ?czz47 ?qzz47 ?yzz47 ?szz47 ?rzz47
        case hzz47 => simp only [List.getElem?_toArray, List.getElem?_cons_zero, List.getElem?_cons_succ]; rfl
        case azz47 => kernel_rfl
        case bzz47 => kernel_rfl
        case czz47 => kernel_rfl
        case yzz47 =>
          refine Or.inl ⟨by rfl, ?_⟩
          intro w hSw
          skip
          go_simp
          try with_reducible rfl
        case qzz47 => exact fun _ _ _ h => h
        case szz47 => first | assumption | trivial
        case' rzz47 => simp only [Act.put, List.setIfInBounds_toArray, List.set_cons_zero, List.set_cons_succ]
        refine wpAnyH_take (i := 18) (oi := ?ozz48) (v := ?vzz48) ?hzz48 ?azz48 ?bzz48 ?czz48 ?qzz48 ?yzz48 ?szz48 ?rzz48
        case hzz48 => simp only [List.getElem?_toArray, List.getElem?_cons_zero, List.getElem?_cons_succ]; rfl
        case azz48 => kernel_rfl
        case bzz48 => kernel_rfl
        case czz48 => kernel_rfl
        case yzz48 =>
          refine Or.inl ⟨by rfl, ?_⟩
          intro w hSw
          skip
          go_simp
          try with_reducible rfl
        case qzz48 => exact fun _ _ _ h => h
        case szz48 => first | assumption | trivial
        case' rzz48 => simp only [Act.put, List.setIfInBounds_toArray, List.set_cons_zero, List.set_cons_succ]
        refine wpAnyH_take (i := 19) (oi := ?ozz49) (v := ?vzz49) ?hzz49 ?azz49 ?bzz49 ?czz49 ?qzz49 ?yzz49 ?szz49 ?rzz49
        case hzz49 => simp only [List.getElem?_toArray, List.getElem?_cons_zero, List.getElem?_cons_succ]; rfl
        case azz49 => kernel_rfl
        case bzz49 => kernel_rfl
        case czz49 => kernel_rfl
        case yzz49 =>
          refine Or.inl ⟨by rfl, ?_⟩
          intro w hSw
          have x0 := box_ hSw c0; have x1 := box_ hSw c1; have x2 := box_ hSw c2; have x3 := box_ hSw c3; have x4 := box_ hSw c4; have x5 := box_ hSw c5; have x6 := box_ hSw c6; have x7 := box_ hSw c7; have x8 := box_ hSw c8; clear hSw
          go_simp
          try with_reducible rfl
        case qzz49 => exact fun _ _ _ h => h
        case szz49 => first | assumption | trivial
        case' rzz49 => simp only [Act.put, List.setIfInBounds_toArray, List.set_cons_zero, List.set_cons_succ]
        refine wpAnyH_take (i := 20) (oi := ?ozz50) (v := ?vzz50) ?hzz50 ?azz50 ?bzz50 ?czz50 ?qzz50 ?yzz50 ?szz50 ?rzz50
        case hzz50 => simp only [List.getElem?_toArray, List.getElem?_cons_zero, List.getElem?_cons_succ]; rfl
        case azz50 => kernel_rfl
        case bzz50 => kernel_rfl
        case czz50 => kernel_rfl
        case yzz50 =>
          refine Or.inl ⟨by rfl, ?_⟩
          intro w hSw
          have x0 := box_ hSw c0; have x1 := box_ hSw c1; have x2 := box_ hSw c2; have x3 := box_ hSw c3; have x4 := box_ hSw c4; have x5 := box_ hSw c5; have x6 := box_ hSw c6; have x7 := box_ hSw c7; have x8 := box_ hSw c8; clear hSw
          go_simp
          try with_reducible rfl
        case qzz50 => exact fun _ _ _ h => h
        case szz50 => first | assumption | trivial
        case' rzz50 => simp only [Act.put, List.setIfInBounds_toArray, List.set_cons_zero, List.set_cons_succ]
        refine wpAnyH_take (i := 22) (oi := ?ozz51) (v := ?vzz51) ?hzz51 ?azz51 ?bzz51 ?czz51 ?qzz51 ?yzz51 ?szz51 ?rzz51
        case hzz51 => simp only [List.getElem?_toArray, List.getElem?_cons_zero, List.getElem?_cons_succ]; rfl
        case azz51 => kernel_rfl
        case bzz51 => kernel_rfl
        case czz51 => kernel_rfl
        case yzz51 =>
          refine Or.inl ⟨by rfl, ?_⟩
          intro w hSw
          have x0 := box_ hSw c0; have x1 := box_ hSw c1; have x2 := box_ hSw c2; have x3 := box_ hSw c3; have x4 := box_ hSw c4; have x5 := box_ hSw c5; have x6 := box_ hSw c6; have x7 := box_ hSw c7; have x8 := box_ hSw c8; clear hSw
          go_simp
          try with_reducible rfl
        case qzz51 => exact fun _ _ _ h => h
        case szz51 => first | assumption | trivial
        case' rzz51 => simp only [Act.put, List.setIfInBounds_toArray, List.set_cons_zero, List.set_cons_succ]
        refine wpAnyH_ready (rs := [21]) (by kernel_rfl) (by simp) ?_
        refine AllReadyH.cons (o := ?ozz56) ?hzz56 (fun K hK => ?kzz56) ?mzz56
        case hzz56 => simp only [List.getElem?_toArray, List.getElem?_cons_zero, List.getElem?_cons_succ]; rfl
        case kzz56 =>
          go_simp
          refine (K4.out _).mono ?_
          rintro e w4 ⟨rfl, q4⟩
          go_wp2_with fail
          refine hK.out _ _ ?Szz56 (fun hHeld => ?Rzz56)
          case Szz56 =>
            exact hHeld.trans q4
          case Rzz56 =>
            clear hK K
            try simp only [Act.put, List.setIfInBounds_toArray, List.set_cons_zero, List.set_cons_succ]
            refine wpAnyH_ready (rs := [23]) (by kernel_rfl) (by simp) ?_
            refine AllReadyH.cons (o := ?ozz55) ?hzz55 (fun K hK => ?kzz55) ?mzz55
            case hzz55 => simp only [List.getElem?_toArray, List.getElem?_cons_zero, List.getElem?_cons_succ]; rfl
            case kzz55 =>
              go_simp
              refine (K5.out _).mono ?_
              rintro e w5 ⟨rfl, q5⟩
              go_wp2_with fail
              refine hK.out _ _ ?Szz55 (fun hHeld => ?Rzz55)
              case Szz55 =>
                exact hHeld.trans q5
              case Rzz55 =>
                clear hK K
                try simp only [Act.put, List.setIfInBounds_toArray, List.set_cons_zero, List.set_cons_succ]
                refine wpAnyH_take (i := 24) (oi := ?ozz52) (v := ?vzz52) ?hzz52 ?azz52 ?bzz52 ?czz52 ?qzz52 ?yzz52 ?szz52 ?rzz52
                case hzz52 => simp only [List.getElem?_toArray, List.getElem?_cons_zero, List.getElem?_cons_succ]; rfl
                case azz52 => kernel_rfl
                case bzz52 => kernel_rfl
                case czz52 => kernel_rfl
                case yzz52 =>
                  refine Or.inl ⟨by rfl, ?_⟩
                  intro w hSw
                  skip
                  go_simp
                  try with_reducible rfl
                case qzz52 => exact fun _ _ _ h => h
                case szz52 => first | assumption | trivial
                case' rzz52 => simp only [Act.put, List.setIfInBounds_toArray, List.set_cons_zero, List.set_cons_succ]
                refine wpAnyH_take (i := 25) (oi := ?ozz53) (v := ?vzz53) ?hzz53 ?azz53 ?bzz53 ?czz53 ?qzz53 ?yzz53 ?szz53 ?rzz53
                case hzz53 => simp only [List.getElem?_toArray, List.getElem?_cons_zero, List.getElem?_cons_succ]; rfl
                case azz53 => kernel_rfl
                case bzz53 => kernel_rfl
                case czz53 => kernel_rfl
                case yzz53 =>
                  refine Or.inl ⟨by rfl, ?_⟩
                  intro w hSw
                  skip
                  go_simp
                  try with_reducible rfl
                case qzz53 => exact fun _ _ _ h => h
                case szz53 => first | assumption | trivial
                case' rzz53 => simp only [Act.put, List.setIfInBounds_toArray, List.set_cons_zero, List.set_cons_succ]
                refine wpAnyH_take (i := 26) (oi := ?ozz54) (v := ?vzz54) ?hzz54 ?azz54 ?bzz54 ?czz54 ?qzz54 ?yzz54 ?szz54 ?rzz54
                case hzz54 => simp only [List.getElem?_toArray, List.getElem?_cons_zero, List.getElem?_cons_succ]; rfl
                case azz54 => kernel_rfl
                case bzz54 => kernel_rfl
                case czz54 => kernel_rfl
                case yzz54 =>
                  refine Or.inl ⟨by rfl, ?_⟩
                  intro w hSw
                  skip
                  go_simp
                  try with_reducible rfl
                case qzz54 => exact fun _ _ _ h => h
                case szz54 => first | assumption | trivial
                case' rzz54 => simp only [Act.put, List.setIfInBounds_toArray, List.set_cons_zero, List.set_cons_succ]
                refine wpAnyH_done (by kernel_rfl) ?_ _
                go_wp2
                go_ret
                exact ⟨by first | rfl | (simp; done), BQ.out.trans hHeld⟩
            case' mzz55 => skip
            exact AllReadyH.nil
        case' mzz56 => skip
        exact AllReadyH.nil
    case' mzz57 => skip
    exact AllReadyH.nil
  by_cases h2 : covers b c = false
  · rw [h2] at K2
    rw [bnot h1] at K1
    clear h1 h2 ht
    have B := wn_box3 w a b c
    try unfold wnV at *
    go_enter Try.func8, Try.ntmps8
    go_wp2_with fail
    generalize (((w.alloc (.cells #[.int .i64 a.mode, .string a.lo, .string a.hi] 23)).alloc (.cells #[.int .i64 b.mode, .string b.lo, .string b.hi] 23)).alloc (.cells #[.int .i64 c.mode, .string c.lo, .string c.hi] 23)) = W0 at B ⊢
    obtain ⟨⟨c0, c1, c2⟩, ⟨c3, c4, c5⟩, ⟨c6, c7, c8⟩, bq⟩ := B
    change _ at bq
    refine (spshown_any _).mono ?_
    rintro e W ⟨rfl, q0⟩
    have c0 := box_ q0 c0
    have c1 := box_ q0 c1
    have c2 := box_ q0 c2
    have c3 := box_ q0 c3
    have c4 := box_ q0 c4
    have c5 := box_ q0 c5
    have c6 := box_ q0 c6
    have c7 := box_ q0 c7
    have c8 := box_ q0 c8
    have BQ := Lib.hid (bq.trans q0)
    clear bq q0
    go_wp2
    refine wp_region_held_drew (S := Q W) (by kernel_rfl) ?szz58 (fun hHeld => ?rzz58)
    case szz58 =>
      exact (Q.refl W).drew
    case' rzz58 => skip
    refine wpAnyH_take (i := 0) (oi := ?ozz59) (v := ?vzz59) ?hzz59 ?azz59 ?bzz59 ?czz59 ?qzz59 ?yzz59 ?szz59 ?rzz59
    case hzz59 => simp only [List.getElem?_toArray, List.getElem?_cons_zero]; rfl
    case azz59 => kernel_rfl
    case bzz59 => kernel_rfl
    case czz59 => kernel_rfl
    case yzz59 =>
      refine Or.inl ⟨by rfl, ?_⟩
      intro w hSw
      skip
      go_simp
      try with_reducible rfl
    case qzz59 => exact fun _ _ _ h => h
    case szz59 => first | assumption | trivial
    case' rzz59 => simp only [Act.put, List.setIfInBounds_toArray, List.set_cons_zero, List.set_cons_succ]
    refine wpAnyH_take (i := 1) (oi := ?ozz60) (v := ?vzz60) ?hzz60 ?azz60 ?bzz60 ?czz60 ?qzz60 ?yzz60 ?szz60 ?rzz60
    case hzz60 => simp only [List.getElem?_toArray, List.getElem?_cons_zero, List.getElem?_cons_succ]; rfl
    case azz60 => kernel_rfl
    case bzz60 => kernel_rfl
    case czz60 => kernel_rfl
    case yzz60 =>
      refine Or.inl ⟨by rfl, ?_⟩
      intro w hSw
      skip
      go_simp
      try with_reducible rfl
    case qzz60 => exact fun _ _ _ h => h
    case szz60 => first | assumption | trivial
    case' rzz60 => simp only [Act.put, List.setIfInBounds_toArray, List.set_cons_zero, List.set_cons_succ]
    refine wpAnyH_take (i := 2) (oi := ?ozz61) (v := ?vzz61) ?hzz61 ?azz61 ?bzz61 ?czz61 ?qzz61 ?yzz61 ?szz61 ?rzz61
    case hzz61 => simp only [List.getElem?_toArray, List.getElem?_cons_zero, List.getElem?_cons_succ]; rfl
    case azz61 => kernel_rfl
    case bzz61 => kernel_rfl
    case czz61 => kernel_rfl
    case yzz61 =>
      refine Or.inl ⟨by rfl, ?_⟩
      intro w hSw
      have x0 := box_ hSw c0; have x1 := box_ hSw c1; have x2 := box_ hSw c2; have x3 := box_ hSw c3; have x4 := box_ hSw c4; have x5 := box_ hSw c5; have x6 := box_ hSw c6; have x7 := box_ hSw c7; have x8 := box_ hSw c8; clear hSw
      go_simp
      try with_reducible rfl
    case qzz61 => exact fun _ _ _ h => h
    case szz61 => first | assumption | trivial
    case' rzz61 => simp only [Act.put, List.setIfInBounds_toArray, List.set_cons_zero, List.set_cons_succ]
    refine wpAnyH_take (i := 3) (oi := ?ozz62) (v := ?vzz62) ?hzz62 ?azz62 ?bzz62 ?czz62 ?qzz62 ?yzz62 ?szz62 ?rzz62
    case hzz62 => simp only [List.getElem?_toArray, List.getElem?_cons_zero, List.getElem?_cons_succ]; rfl
    case azz62 => kernel_rfl
    case bzz62 => kernel_rfl
    case czz62 => kernel_rfl
    case yzz62 =>
      refine Or.inl ⟨by rfl, ?_⟩
      intro w hSw
      have x0 := box_ hSw c0; have x1 := box_ hSw c1; have x2 := box_ hSw c2; have x3 := box_ hSw c3; have x4 := box_ hSw c4; have x5 := box_ hSw c5; have x6 := box_ hSw c6; have x7 := box_ hSw c7; have x8 := box_ hSw c8; clear hSw
      go_simp
      try with_reducible rfl
    case qzz62 => exact fun _ _ _ h => h
    case szz62 => first | assumption | trivial
    case' rzz62 => simp only [Act.put, List.setIfInBounds_toArray, List.set_cons_zero, List.set_cons_succ]
    refine wpAnyH_ready (rs := [4]) (by kernel_rfl) (by simp) ?_
    refine AllReadyH.cons (o := ?ozz85) ?hzz85 (fun K hK => ?kzz85) ?mzz85
    case hzz85 => simp only [List.getElem?_toArray, List.getElem?_cons_zero, List.getElem?_cons_succ]; rfl
    case kzz85 =>
      go_simp
      refine (K1.out _).mono ?_
      rintro e w1 ⟨rfl, q1⟩
      go_wp2_with fail
      refine hK.out _ _ ?Szz85 (fun hHeld => ?Rzz85)
      case Szz85 =>
        exact hHeld.trans q1
      case Rzz85 =>
        clear hK K
        try simp only [Act.put, List.setIfInBounds_toArray, List.set_cons_zero, List.set_cons_succ]
        refine wpAnyH_take (i := 5) (oi := ?ozz63) (v := ?vzz63) ?hzz63 ?azz63 ?bzz63 ?czz63 ?qzz63 ?yzz63 ?szz63 ?rzz63
        case hzz63 => simp only [List.getElem?_toArray, List.getElem?_cons_zero, List.getElem?_cons_succ]; rfl
        case azz63 => kernel_rfl
        case bzz63 => kernel_rfl
        case czz63 => kernel_rfl
        case yzz63 =>
          refine Or.inl ⟨by rfl, ?_⟩
          intro w hSw
          skip
          go_simp
          try with_reducible rfl
        case qzz63 => exact fun _ _ _ h => h
        case szz63 => first | assumption | trivial
        case' rzz63 => simp only [Act.put, List.setIfInBounds_toArray, List.set_cons_zero, List.set_cons_succ]
        refine wpAnyH_take (i := 6) (oi := ?ozz64) (v := ?vzz64) ?hzz64 ?azz64 ?bzz64 ?czz64 ?qzz64 ?yzz64 ?szz64 ?rzz64
        case hzz64 => simp only [List.getElem?_toArray, List.getElem?_cons_zero, List.getElem?_cons_succ]; rfl
        case azz64 => kernel_rfl
        case bzz64 => kernel_rfl
        case czz64 => kernel_rfl
        case yzz64 =>
          refine Or.inl ⟨by rfl, ?_⟩
          intro w hSw
          skip
          go_simp
          try with_reducible rfl
        case qzz64 => exact fun _ _ _ h => h
        case szz64 => first | assumption | trivial
        case' rzz64 => simp only [Act.put, List.setIfInBounds_toArray, List.set_cons_zero, List.set_cons_succ]
        refine wpAnyH_take (i := 7) (oi := ?ozz65) (v := ?vzz65) ?hzz65 ?azz65 ?bzz65 ?czz65 ?qzz65 ?yzz65 ?szz65 ?rzz65
        case hzz65 => simp only [List.getElem?_toArray, List.getElem?_cons_zero, List.getElem?_cons_succ]; rfl
        case azz65 => kernel_rfl
        case bzz65 => kernel_rfl
        case czz65 => kernel_rfl
        case yzz65 =>
          refine Or.inl ⟨by rfl, ?_⟩
          intro w hSw
          have x0 := box_ hSw c0; have x1 := box_ hSw c1; have x2 := box_ hSw c2; have x3 := box_ hSw c3; have x4 := box_ hSw c4; have x5 := box_ hSw c5; have x6 := box_ hSw c6; have x7 := box_ hSw c7; have x8 := box_ hSw c8; clear hSw
          go_simp
          try with_reducible rfl
        case qzz65 => exact fun _ _ _ h => h
        case szz65 => first | assumption | trivial
        case' rzz65 => simp only [Act.put, List.setIfInBounds_toArray, List.set_cons_zero, List.set_cons_succ]
        refine wpAnyH_take (i := 8) (oi := ?ozz66) (v := ?vzz66) ?hzz66 ?azz66 ?bzz66 ?czz66 ?qzz66 ?yzz66 ?szz66 ?rzz66
        case hzz66 => simp only [List.getElem?_toArray, List.getElem?_cons_zero, List.getElem?_cons_succ]; rfl
        case azz66 => kernel_rfl
        case bzz66 => kernel_rfl
        case czz66 => kernel_rfl
        case yzz66 =>
          refine Or.inl ⟨by rfl, ?_⟩
          intro w hSw
          have x0 := box_ hSw c0; have x1 := box_ hSw c1; have x2 := box_ hSw c2; have x3 := box_ hSw c3; have x4 := box_ hSw c4; have x5 := box_ hSw c5; have x6 := box_ hSw c6; have x7 := box_ hSw c7; have x8 := box_ hSw c8; clear hSw
          go_simp
          try with_reducible rfl
        case qzz66 => exact fun _ _ _ h => h
        case szz66 => first | assumption | trivial
        case' rzz66 => simp only [Act.put, List.setIfInBounds_toArray, List.set_cons_zero, List.set_cons_succ]
        refine wpAnyH_ready (rs := [9]) (by kernel_rfl) (by simp) ?_
        refine AllReadyH.cons (o := ?ozz84) ?hzz84 (fun K hK => ?kzz84) ?mzz84
        case hzz84 => simp only [List.getElem?_toArray, List.getElem?_cons_zero, List.getElem?_cons_succ]; rfl
        case kzz84 =>
          go_simp
          refine (K2.out _).mono ?_
          rintro e w2 ⟨rfl, q2⟩
          go_wp2_with fail
          refine hK.out _ _ ?Szz84 (fun hHeld => ?Rzz84)
          case Szz84 =>
            exact hHeld.trans q2
          case Rzz84 =>
            clear hK K
            try simp only [Act.put, List.setIfInBounds_toArray, List.set_cons_zero, List.set_cons_succ]
            refine wpAnyH_take (i := 10) (oi := ?ozz67) (v := ?vzz67) ?hzz67 ?azz67 ?bzz67 ?czz67 ?qzz67 ?yzz67 ?szz67 ?rzz67
            case hzz67 => simp only [List.getElem?_toArray, List.getElem?_cons_zero, List.getElem?_cons_succ]; rfl
            case azz67 => kernel_rfl
            case bzz67 => kernel_rfl
            case czz67 => kernel_rfl
            case yzz67 =>
              refine Or.inl ⟨by rfl, ?_⟩
              intro w hSw
              skip
              go_simp
              try with_reducible rfl
            case qzz67 => exact fun _ _ _ h => h
            case szz67 => first | assumption | trivial
            case' rzz67 => simp only [Act.put, List.setIfInBounds_toArray, List.set_cons_zero, List.set_cons_succ]
            refine wpAnyH_take (i := 11) (oi := ?ozz68) (v := ?vzz68) ?hzz68 ?azz68 ?bzz68 ?czz68 ?qzz68 ?yzz68 ?szz68 ?rzz68
            case hzz68 => simp only [List.getElem?_toArray, List.getElem?_cons_zero, List.getElem?_cons_succ]; rfl
            case azz68 => kernel_rfl
            case bzz68 => kernel_rfl
            case czz68 => kernel_rfl
            case yzz68 =>
              refine Or.inl ⟨by rfl, ?_⟩
              intro w hSw
              skip
              go_simp
              try with_reducible rfl
            case qzz68 => exact fun _ _ _ h => h
            case szz68 => first | assumption | trivial
            case' rzz68 => simp only [Act.put, List.setIfInBounds_toArray, List.set_cons_zero, List.set_cons_succ]
            refine wpAnyH_take (i := 12) (oi := ?ozz69) (v := ?vzz69) ?hzz69 ?azz69 ?bzz69 ?czz69 ?qzz69 ?yzz69 ?szz69 ?rzz69
            case hzz69 => simp only [List.getElem?_toArray, List.getElem?_cons_zero, List.getElem?_cons_succ]; rfl
            case azz69 => kernel_rfl
            case bzz69 => kernel_rfl
            case czz69 => kernel_rfl
            case yzz69 =>
              refine Or.inl ⟨by rfl, ?_⟩
              intro w hSw
              skip
              go_simp
              try with_reducible rfl
            case qzz69 => exact fun _ _ _ h => h
            case szz69 => first | assumption | trivial
            case' rzz69 => simp only [Act.put, List.setIfInBounds_toArray, List.set_cons_zero, List.set_cons_succ]
            refine wpAnyH_take (i := 13) (oi := ?ozz70) (v := undef) ?hzz70 ?azz70 ?bzz70 ?czz70 ?qzz70 ?yzz70 ?szz70 ?rzz70
            case hzz70 => simp only [List.getElem?_toArray, List.getElem?_cons_zero, List.getElem?_cons_succ]; rfl
            case azz70 => kernel_rfl
            case bzz70 => kernel_rfl
            case czz70 => kernel_rfl
            case yzz70 => exact Or.inr ⟨by rfl, rfl⟩
            case qzz70 => exact fun _ _ _ h => h
            case szz70 => first | assumption | trivial
            case' rzz70 => simp only [Act.put, List.setIfInBounds_toArray, List.set_cons_zero, List.set_cons_succ]
            refine wpAnyH_take (i := 14) (oi := ?ozz71) (v := undef) ?hzz71 ?azz71 ?bzz71 ?czz71 ?qzz71 ?yzz71 ?szz71 ?rzz71
            case hzz71 => simp only [List.getElem?_toArray, List.getElem?_cons_zero, List.getElem?_cons_succ]; rfl
            case azz71 => kernel_rfl
            case bzz71 => kernel_rfl
            case czz71 => kernel_rfl
            case yzz71 => exact Or.inr ⟨by rfl, rfl⟩
            case qzz71 => exact fun _ _ _ h => h
            case szz71 => first | assumption | trivial
            case' rzz71 => simp only [Act.put, List.setIfInBounds_toArray, List.set_cons_zero, List.set_cons_succ]
            refine wpAnyH_take (i := 15) (oi := ?ozz72) (v := undef) ?hzz72 ?azz72 ?bzz72 ?czz72 ?qzz72 ?yzz72 ?szz72 ?rzz72
            case hzz72 => simp only [List.getElem?_toArray, List.getElem?_cons_zero, List.getElem?_cons_succ]; rfl
            case azz72 => kernel_rfl
            case bzz72 => kernel_rfl
            case czz72 => kernel_rfl
            case yzz72 => exact Or.inr ⟨by rfl, rfl⟩
            case qzz72 => exact fun _ _ _ h => h
            case szz72 => first | assumption | trivial
            case' rzz72 => simp only [Act.put, List.setIfInBounds_toArray, List.set_cons_zero, List.set_cons_succ]
            refine wpAnyH_take (i := 16) (oi := ?ozz73) (v := ?vzz73) ?hzz73 ?azz73 ?bzz73 ?czz73 ?qzz73 ?yzz73 ?szz73 ?rzz73
            case hzz73 => simp only [List.getElem?_toArray, List.getElem?_cons_zero, List.getElem?_cons_succ]; rfl
            case azz73 => kernel_rfl
            case bzz73 => kernel_rfl
            case czz73 => kernel_rfl
            case yzz73 =>
              refine Or.inl ⟨by rfl, ?_⟩
              intro w hSw
              skip
              go_simp
              try with_reducible rfl
            case qzz73 => exact fun _ _ _ h => h
            case szz73 => first | assumption | trivial
            case' rzz73 => simp only [Act.put, List.setIfInBounds_toArray, List.set_cons_zero, List.set_cons_succ]
            refine wpAnyH_take (i := 17) (oi := ?ozz74) (v := ?vzz74) ?hzz74 ?azz74 ?bzz74 ?czz74 ?qzz74 ?yzz74 ?szz74 ?rzz74
            case hzz74 => simp only [List.getElem?_toArray, List.getElem?_cons_zero, List.getElem?_cons_succ]; rfl
            case azz74 => kernel_rfl
            case bzz74 => kernel_rfl
            case czz74 => kernel_rfl
            case yzz74 =>
              refine Or.inl ⟨by rfl, ?_⟩
              intro w hSw
              skip
              go_simp
              try with_reducible rfl
            case qzz74 => exact fun _ _ _ h => h
            case szz74 => first | assumption | trivial
            case' rzz74 => simp only [Act.put, List.setIfInBounds_toArray, List.set_cons_zero, List.set_cons_succ]
            refine wpAnyH_take (i := 18) (oi := ?ozz75) (v := ?vzz75) ?hzz75 ?azz75 ?bzz75 ?czz75 ?qzz75 ?yzz75 ?szz75 ?rzz75
            case hzz75 => simp only [List.getElem?_toArray, List.getElem?_cons_zero, List.getElem?_cons_succ]; rfl
            case azz75 => kernel_rfl
            case bzz75 => kernel_rfl
            case czz75 => kernel_rfl
            case yzz75 =>
              refine Or.inl ⟨by rfl, ?_⟩
              intro w hSw
              skip
              go_simp
              try with_reducible rfl
            case qzz75 => exact fun _ _ _ h => h
            case szz75 => first | assumption | trivial
            case' rzz75 => simp only [Act.put, List.setIfInBounds_toArray, List.set_cons_zero, List.set_cons_succ]
            refine wpAnyH_take (i := 19) (oi := ?ozz76) (v := ?vzz76) ?hzz76 ?azz76 ?bzz76 ?czz76 ?qzz76 ?yzz76 ?szz76 ?rzz76
            case hzz76 => simp only [List.getElem?_toArray, List.getElem?_cons_zero, List.getElem?_cons_succ]; rfl
            case azz76 => kernel_rfl
            case bzz76 => kernel_rfl
            case czz76 => kernel_rfl
            case yzz76 =>
              refine Or.inl ⟨by rfl, ?_⟩
              intro w hSw
              have x0 := box_ hSw c0; have x1 := box_ hSw c1; have x2 := box_ hSw c2; have x3 := box_ hSw c3; have x4 := box_ hSw c4; have x5 := box_ hSw c5; have x6 := box_ hSw c6; have x7 := box_ hSw c7; have x8 := box_ hSw c8; clear hSw
              go_simp
              try with_reducible rfl
            case qzz76 => exact fun _ _ _ h => h
            case szz76 => first | assumption | trivial
            case' rzz76 => simp only [Act.put, List.setIfInBounds_toArray, List.set_cons_zero, List.set_cons_succ]
            refine wpAnyH_take (i := 20) (oi := ?ozz77) (v := ?vzz77) ?hzz77 ?azz77 ?bzz77 ?czz77 ?qzz77 ?yzz77 ?szz77 ?rzz77
            case hzz77 => simp only [List.getElem?_toArray, List.getElem?_cons_zero, List.getElem?_cons_succ]; rfl
            case azz77 => kernel_rfl
            case bzz77 => kernel_rfl
            case czz77 => kernel_rfl
            case yzz77 =>
              refine Or.inl ⟨by rfl, ?_⟩
              intro w hSw
              have x0 := box_ hSw c0; have x1 := box_ hSw c1; have x2 := box_ hSw c2; have x3 := box_ hSw c3; have x4 := box_ hSw c4; have x5 := box_ hSw c5; have x6 := box_ hSw c6; have x7 := box_ hSw c7; have x8 := box_ hSw c8; clear hSw
              go_simp
              try with_reducible rfl
            case qzz77 => exact fun _ _ _ h => h
            case szz77 => first | assumption | trivial
            case' rzz77 => simp only [Act.put, List.setIfInBounds_toArray, List.set_cons_zero, List.set_cons_succ]
            refine wpAnyH_take (i := 22) (oi := ?ozz78) (v := ?vzz78) ?hzz78 ?azz78 ?bzz78 ?czz78 ?qzz78 ?yzz78 ?szz78 ?rzz78
            case hzz78 => simp only [List.getElem?_toArray, List.getElem?_cons_zero, List.getElem?_cons_succ]; rfl
            case azz78 => kernel_rfl
            case bzz78 => kernel_rfl
            case czz78 => kernel_rfl
            case yzz78 =>
              refine Or.inl ⟨by rfl, ?_⟩
              intro w hSw
              have x0 := box_ hSw c0; have x1 := box_ hSw c1; have x2 := box_ hSw c2; have x3 := box_ hSw c3; have x4 := box_ hSw c4; have x5 := box_ hSw c5; have x6 := box_ hSw c6; have x7 := box_ hSw c7; have x8 := box_ hSw c8; clear hSw
              go_simp
              try with_reducible rfl
            case qzz78 => exact fun _ _ _ h => h
            case szz78 => first | assumption | trivial
            case' rzz78 => simp only [Act.put, List.setIfInBounds_toArray, List.set_cons_zero, List.set_cons_succ]
            refine wpAnyH_ready (rs := [21]) (by kernel_rfl) (by simp) ?_
            refine AllReadyH.cons (o := ?ozz83) ?hzz83 (fun K hK => ?kzz83) ?mzz83
            case hzz83 => simp only [List.getElem?_toArray, List.getElem?_cons_zero, List.getElem?_cons_succ]; rfl
            case kzz83 =>
              go_simp
              refine (K4.out _).mono ?_
              rintro e w4 ⟨rfl, q4⟩
              go_wp2_with fail
              refine hK.out _ _ ?Szz83 (fun hHeld => ?Rzz83)
              case Szz83 =>
                exact hHeld.trans q4
              case Rzz83 =>
                clear hK K
                try simp only [Act.put, List.setIfInBounds_toArray, List.set_cons_zero, List.set_cons_succ]
                refine wpAnyH_ready (rs := [23]) (by kernel_rfl) (by simp) ?_
                refine AllReadyH.cons (o := ?ozz82) ?hzz82 (fun K hK => ?kzz82) ?mzz82
                case hzz82 => simp only [List.getElem?_toArray, List.getElem?_cons_zero, List.getElem?_cons_succ]; rfl
                case kzz82 =>
                  go_simp
                  refine (K5.out _).mono ?_
                  rintro e w5 ⟨rfl, q5⟩
                  go_wp2_with fail
                  refine hK.out _ _ ?Szz82 (fun hHeld => ?Rzz82)
                  case Szz82 =>
                    exact hHeld.trans q5
                  case Rzz82 =>
                    clear hK K
                    try simp only [Act.put, List.setIfInBounds_toArray, List.set_cons_zero, List.set_cons_succ]
                    refine wpAnyH_take (i := 24) (oi := ?ozz79) (v := ?vzz79) ?hzz79 ?azz79 ?bzz79 ?czz79 ?qzz79 ?yzz79 ?szz79 ?rzz79
                    case hzz79 => simp only [List.getElem?_toArray, List.getElem?_cons_zero, List.getElem?_cons_succ]; rfl
                    case azz79 => kernel_rfl
                    case bzz79 => kernel_rfl
                    case czz79 => kernel_rfl
                    case yzz79 =>
                      refine Or.inl ⟨by rfl, ?_⟩
                      intro w hSw
                      skip
                      go_simp
                      try with_reducible rfl
                    case qzz79 => exact fun _ _ _ h => h
                    case szz79 => first | assumption | trivial
                    case' rzz79 => simp only [Act.put, List.setIfInBounds_toArray, List.set_cons_zero, List.set_cons_succ]
                    refine wpAnyH_take (i := 25) (oi := ?ozz80) (v := ?vzz80) ?hzz80 ?azz80 ?bzz80 ?czz80 ?qzz80 ?yzz80 ?szz80 ?rzz80
                    case hzz80 => simp only [List.getElem?_toArray, List.getElem?_cons_zero, List.getElem?_cons_succ]; rfl
                    case azz80 => kernel_rfl
                    case bzz80 => kernel_rfl
                    case czz80 => kernel_rfl
                    case yzz80 =>
                      refine Or.inl ⟨by rfl, ?_⟩
                      intro w hSw
                      skip
                      go_simp
                      try with_reducible rfl
                    case qzz80 => exact fun _ _ _ h => h
                    case szz80 => first | assumption | trivial
                    case' rzz80 => simp only [Act.put, List.setIfInBounds_toArray, List.set_cons_zero, List.set_cons_succ]
                    refine wpAnyH_take (i := 26) (oi := ?ozz81) (v := ?vzz81) ?hzz81 ?azz81 ?bzz81 ?czz81 ?qzz81 ?yzz81 ?szz81 ?rzz81
                    case hzz81 => simp only [List.getElem?_toArray, List.getElem?_cons_zero, List.getElem?_cons_succ]; rfl
                    case azz81 => kernel_rfl
                    case bzz81 => kernel_rfl
                    case czz81 => kernel_rfl
                    case yzz81 =>
                      refine Or.inl ⟨by rfl, ?_⟩
                      intro w hSw
                      skip
                      go_simp
                      try with_reducible rfl
                    case qzz81 => exact fun _ _ _ h => h
                    case szz81 => first | assumption | trivial
                    case' rzz81 => simp only [Act.put, List.setIfInBounds_toArray, List.set_cons_zero, List.set_cons_succ]
                    refine wpAnyH_done (by kernel_rfl) ?_ _
                    go_wp2
                    go_ret
                    exact ⟨by first | rfl | (simp; done), BQ.out.trans hHeld⟩
                case' mzz82 => skip
                exact AllReadyH.nil
            case' mzz83 => skip
            exact AllReadyH.nil
        case' mzz84 => skip
        exact AllReadyH.nil
    case' mzz85 => skip
    exact AllReadyH.nil
  · rw [ht.out (bnot h1) (bnot h2)] at K3
    rw [bnot h1] at K1
    rw [bnot h2] at K2
    clear h1 h2 ht
    have B := wn_box3 w a b c
    try unfold wnV at *
    go_enter Try.func8, Try.ntmps8
    go_wp2_with fail
    generalize (((w.alloc (.cells #[.int .i64 a.mode, .string a.lo, .string a.hi] 23)).alloc (.cells #[.int .i64 b.mode, .string b.lo, .string b.hi] 23)).alloc (.cells #[.int .i64 c.mode, .string c.lo, .string c.hi] 23)) = W0 at B ⊢
    obtain ⟨⟨c0, c1, c2⟩, ⟨c3, c4, c5⟩, ⟨c6, c7, c8⟩, bq⟩ := B
    change _ at bq
    refine (spshown_any _).mono ?_
    rintro e W ⟨rfl, q0⟩
    have c0 := box_ q0 c0
    have c1 := box_ q0 c1
    have c2 := box_ q0 c2
    have c3 := box_ q0 c3
    have c4 := box_ q0 c4
    have c5 := box_ q0 c5
    have c6 := box_ q0 c6
    have c7 := box_ q0 c7
    have c8 := box_ q0 c8
    have BQ := Lib.hid (bq.trans q0)
    clear bq q0
    go_wp2
    refine wp_region_held_drew (S := Q W) (by kernel_rfl) ?szz86 (fun hHeld => ?rzz86)
    case szz86 =>
      exact (Q.refl W).drew
    case' rzz86 => skip
    refine wpAnyH_take (i := 0) (oi := ?ozz87) (v := ?vzz87) ?hzz87 ?azz87 ?bzz87 ?czz87 ?qzz87 ?yzz87 ?szz87 ?rzz87
    case hzz87 => simp only [List.getElem?_toArray, List.getElem?_cons_zero]; rfl
    case azz87 => kernel_rfl
    case bzz87 => kernel_rfl
    case czz87 => kernel_rfl
    case yzz87 =>
      refine Or.inl ⟨by rfl, ?_⟩
      intro w hSw
      skip
      go_simp
      try with_reducible rfl
    case qzz87 => exact fun _ _ _ h => h
    case szz87 => first | assumption | trivial
    case' rzz87 => simp only [Act.put, List.setIfInBounds_toArray, List.set_cons_zero, List.set_cons_succ]
    refine wpAnyH_take (i := 1) (oi := ?ozz88) (v := ?vzz88) ?hzz88 ?azz88 ?bzz88 ?czz88 ?qzz88 ?yzz88 ?szz88 ?rzz88
    case hzz88 => simp only [List.getElem?_toArray, List.getElem?_cons_zero, List.getElem?_cons_succ]; rfl
    case azz88 => kernel_rfl
    case bzz88 => kernel_rfl
    case czz88 => kernel_rfl
    case yzz88 =>
      refine Or.inl ⟨by rfl, ?_⟩
      intro w hSw
      skip
      go_simp
      try with_reducible rfl
    case qzz88 => exact fun _ _ _ h => h
    case szz88 => first | assumption | trivial
    case' rzz88 => simp only [Act.put, List.setIfInBounds_toArray, List.set_cons_zero, List.set_cons_succ]
    refine wpAnyH_take (i := 2) (oi := ?ozz89) (v := ?vzz89) ?hzz89 ?azz89 ?bzz89 ?czz89 ?qzz89 ?yzz89 ?szz89 ?rzz89
    case hzz89 => simp only [List.getElem?_toArray, List.getElem?_cons_zero, List.getElem?_cons_succ]; rfl
    case azz89 => kernel_rfl
    case bzz89 => kernel_rfl
    case czz89 => kernel_rfl
    case yzz89 =>
      refine Or.inl ⟨by rfl, ?_⟩
      intro w hSw
      have x0 := box_ hSw c0; have x1 := box_ hSw c1; have x2 := box_ hSw c2; have x3 := box_ hSw c3; have x4 := box_ hSw c4; have x5 := box_ hSw c5; have x6 := box_ hSw c6; have x7 := box_ hSw c7; have x8 := box_ hSw c8; clear hSw
      go_simp
      try with_reducible rfl
    case qzz89 => exact fun _ _ _ h => h
    case szz89 => first | assumption | trivial
    case' rzz89 => simp only [Act.put, List.setIfInBounds_toArray, List.set_cons_zero, List.set_cons_succ]
    refine wpAnyH_take (i := 3) (oi := ?ozz90) (v := ?vzz90) ?hzz90 ?azz90 ?bzz90 ?czz90 ?qzz90 ?yzz90 ?szz90 ?rzz90
    case hzz90 => simp only [List.getElem?_toArray, List.getElem?_cons_zero, List.getElem?_cons_succ]; rfl
    case azz90 => kernel_rfl
    case bzz90 => kernel_rfl
    case czz90 => kernel_rfl
    case yzz90 =>
      refine Or.inl ⟨by rfl, ?_⟩
      intro w hSw
      have x0 := box_ hSw c0; have x1 := box_ hSw c1; have x2 := box_ hSw c2; have x3 := box_ hSw c3; have x4 := box_ hSw c4; have x5 := box_ hSw c5; have x6 := box_ hSw c6; have x7 := box_ hSw c7; have x8 := box_ hSw c8; clear hSw
      go_simp
      try with_reducible rfl
    case qzz90 => exact fun _ _ _ h => h
    case szz90 => first | assumption | trivial
    case' rzz90 => simp only [Act.put, List.setIfInBounds_toArray, List.set_cons_zero, List.set_cons_succ]
    refine wpAnyH_ready (rs := [4]) (by kernel_rfl) (by simp) ?_
    refine AllReadyH.cons (o := ?ozz113) ?hzz113 (fun K hK => ?kzz113) ?mzz113
    case hzz113 => simp only [List.getElem?_toArray, List.getElem?_cons_zero, List.getElem?_cons_succ]; rfl
    case kzz113 =>
      go_simp
      refine (K1.out _).mono ?_
      rintro e w1 ⟨rfl, q1⟩
      go_wp2_with fail
      refine hK.out _ _ ?Szz113 (fun hHeld => ?Rzz113)
      case Szz113 =>
        exact hHeld.trans q1
      case Rzz113 =>
        clear hK K
        try simp only [Act.put, List.setIfInBounds_toArray, List.set_cons_zero, List.set_cons_succ]
        refine wpAnyH_take (i := 5) (oi := ?ozz91) (v := ?vzz91) ?hzz91 ?azz91 ?bzz91 ?czz91 ?qzz91 ?yzz91 ?szz91 ?rzz91
        case hzz91 => simp only [List.getElem?_toArray, List.getElem?_cons_zero, List.getElem?_cons_succ]; rfl
        case azz91 => kernel_rfl
        case bzz91 => kernel_rfl
        case czz91 => kernel_rfl
        case yzz91 =>
          refine Or.inl ⟨by rfl, ?_⟩
          intro w hSw
          skip
          go_simp
          try with_reducible rfl
        case qzz91 => exact fun _ _ _ h => h
        case szz91 => first | assumption | trivial
        case' rzz91 => simp only [Act.put, List.setIfInBounds_toArray, List.set_cons_zero, List.set_cons_succ]
        refine wpAnyH_take (i := 6) (oi := ?ozz92) (v := ?vzz92) ?hzz92 ?azz92 ?bzz92 ?czz92 ?qzz92 ?yzz92 ?szz92 ?rzz92
        case hzz92 => simp only [List.getElem?_toArray, List.getElem?_cons_zero, List.getElem?_cons_succ]; rfl
        case azz92 => kernel_rfl
        case bzz92 => kernel_rfl
        case czz92 => kernel_rfl
        case yzz92 =>
          refine Or.inl ⟨by rfl, ?_⟩
          intro w hSw
          skip
          go_simp
          try with_reducible rfl
        case qzz92 => exact fun _ _ _ h => h
        case szz92 => first | assumption | trivial
        case' rzz92 => simp only [Act.put, List.setIfInBounds_toArray, List.set_cons_zero, List.set_cons_succ]
        refine wpAnyH_take (i := 7) (oi := ?ozz93) (v := ?vzz93) ?hzz93 ?azz93 ?bzz93 ?czz93 ?qzz93 ?yzz93 ?szz93 ?rzz93
        case hzz93 => simp only [List.getElem?_toArray, List.getElem?_cons_zero, List.getElem?_cons_succ]; rfl
        case azz93 => kernel_rfl
        case bzz93 => kernel_rfl
        case czz93 => kernel_rfl
        case yzz93 =>
          refine Or.inl ⟨by rfl, ?_⟩
          intro w hSw
          have x0 := box_ hSw c0; have x1 := box_ hSw c1; have x2 := box_ hSw c2; have x3 := box_ hSw c3; have x4 := box_ hSw c4; have x5 := box_ hSw c5; have x6 := box_ hSw c6; have x7 := box_ hSw c7; have x8 := box_ hSw c8; clear hSw
          go_simp
          try with_reducible rfl
        case qzz93 => exact fun _ _ _ h => h
        case szz93 => first | assumption | trivial
        case' rzz93 => simp only [Act.put, List.setIfInBounds_toArray, List.set_cons_zero, List.set_cons_succ]
        refine wpAnyH_take (i := 8) (oi := ?ozz94) (v := ?vzz94) ?hzz94 ?azz94 ?bzz94 ?czz94 ?qzz94 ?yzz94 ?szz94 ?rzz94
        case hzz94 => simp only [List.getElem?_toArray, List.getElem?_cons_zero, List.getElem?_cons_succ]; rfl
        case azz94 => kernel_rfl
        case bzz94 => kernel_rfl
        case czz94 => kernel_rfl
        case yzz94 =>
          refine Or.inl ⟨by rfl, ?_⟩
          intro w hSw
          have x0 := box_ hSw c0; have x1 := box_ hSw c1; have x2 := box_ hSw c2; have x3 := box_ hSw c3; have x4 := box_ hSw c4; have x5 := box_ hSw c5; have x6 := box_ hSw c6; have x7 := box_ hSw c7; have x8 := box_ hSw c8; clear hSw
          go_simp
          try with_reducible rfl
        case qzz94 => exact fun _ _ _ h => h
        case szz94 => first | assumption | trivial
        case' rzz94 => simp only [Act.put, List.setIfInBounds_toArray, List.set_cons_zero, List.set_cons_succ]
        refine wpAnyH_ready (rs := [9]) (by kernel_rfl) (by simp) ?_
        refine AllReadyH.cons (o := ?ozz112) ?hzz112 (fun K hK => ?kzz112) ?mzz112
        case hzz112 => simp only [List.getElem?_toArray, List.getElem?_cons_zero, List.getElem?_cons_succ]; rfl
        case kzz112 =>
          go_simp
          refine (K2.out _).mono ?_
          rintro e w2 ⟨rfl, q2⟩
          go_wp2_with fail
          refine hK.out _ _ ?Szz112 (fun hHeld => ?Rzz112)
          case Szz112 =>
            exact hHeld.trans q2
          case Rzz112 =>
            clear hK K
            try simp only [Act.put, List.setIfInBounds_toArray, List.set_cons_zero, List.set_cons_succ]
            refine wpAnyH_take (i := 10) (oi := ?ozz95) (v := ?vzz95) ?hzz95 ?azz95 ?bzz95 ?czz95 ?qzz95 ?yzz95 ?szz95 ?rzz95
            case hzz95 => simp only [List.getElem?_toArray, List.getElem?_cons_zero, List.getElem?_cons_succ]; rfl
            case azz95 => kernel_rfl
            case bzz95 => kernel_rfl
            case czz95 => kernel_rfl
            case yzz95 =>
              refine Or.inl ⟨by rfl, ?_⟩
              intro w hSw
              skip
              go_simp
              try with_reducible rfl
            case qzz95 => exact fun _ _ _ h => h
            case szz95 => first | assumption | trivial
            case' rzz95 => simp only [Act.put, List.setIfInBounds_toArray, List.set_cons_zero, List.set_cons_succ]
            refine wpAnyH_take (i := 11) (oi := ?ozz96) (v := ?vzz96) ?hzz96 ?azz96 ?bzz96 ?czz96 ?qzz96 ?yzz96 ?szz96 ?rzz96
            case hzz96 => simp only [List.getElem?_toArray, List.getElem?_cons_zero, List.getElem?_cons_succ]; rfl
            case azz96 => kernel_rfl
            case bzz96 => kernel_rfl
            case czz96 => kernel_rfl
            case yzz96 =>
              refine Or.inl ⟨by rfl, ?_⟩
              intro w hSw
              skip
              go_simp
              try with_reducible rfl
            case qzz96 => exact fun _ _ _ h => h
            case szz96 => first | assumption | trivial
            case' rzz96 => simp only [Act.put, List.setIfInBounds_toArray, List.set_cons_zero, List.set_cons_succ]
            refine wpAnyH_take (i := 12) (oi := ?ozz97) (v := ?vzz97) ?hzz97 ?azz97 ?bzz97 ?czz97 ?qzz97 ?yzz97 ?szz97 ?rzz97
            case hzz97 => simp only [List.getElem?_toArray, List.getElem?_cons_zero, List.getElem?_cons_succ]; rfl
            case azz97 => kernel_rfl
            case bzz97 => kernel_rfl
            case czz97 => kernel_rfl
            case yzz97 =>
              refine Or.inl ⟨by rfl, ?_⟩
              intro w hSw
              skip
              go_simp
              try with_reducible rfl
            case qzz97 => exact fun _ _ _ h => h
            case szz97 => first | assumption | trivial
            case' rzz97 => simp only [Act.put, List.setIfInBounds_toArray, List.set_cons_zero, List.set_cons_succ]
            refine wpAnyH_take (i := 13) (oi := ?ozz98) (v := ?vzz98) ?hzz98 ?azz98 ?bzz98 ?czz98 ?qzz98 ?yzz98 ?szz98 ?rzz98
            case hzz98 => simp only [List.getElem?_toArray, List.getElem?_cons_zero, List.getElem?_cons_succ]; rfl
            case azz98 => kernel_rfl
            case bzz98 => kernel_rfl
            case czz98 => kernel_rfl
            case yzz98 =>
              refine Or.inl ⟨by rfl, ?_⟩
              intro w hSw
              have x0 := box_ hSw c0; have x1 := box_ hSw c1; have x2 := box_ hSw c2; have x3 := box_ hSw c3; have x4 := box_ hSw c4; have x5 := box_ hSw c5; have x6 := box_ hSw c6; have x7 := box_ hSw c7; have x8 := box_ hSw c8; clear hSw
              go_simp
              try with_reducible rfl
            case qzz98 => exact fun _ _ _ h => h
            case szz98 => first | assumption | trivial
            case' rzz98 => simp only [Act.put, List.setIfInBounds_toArray, List.set_cons_zero, List.set_cons_succ]
            refine wpAnyH_take (i := 14) (oi := ?ozz99) (v := ?vzz99) ?hzz99 ?azz99 ?bzz99 ?czz99 ?qzz99 ?yzz99 ?szz99 ?rzz99
            case hzz99 => simp only [List.getElem?_toArray, List.getElem?_cons_zero, List.getElem?_cons_succ]; rfl
            case azz99 => kernel_rfl
            case bzz99 => kernel_rfl
            case czz99 => kernel_rfl
            case yzz99 =>
              refine Or.inl ⟨by rfl, ?_⟩
              intro w hSw
              have x0 := box_ hSw c0; have x1 := box_ hSw c1; have x2 := box_ hSw c2; have x3 := box_ hSw c3; have x4 := box_ hSw c4; have x5 := box_ hSw c5; have x6 := box_ hSw c6; have x7 := box_ hSw c7; have x8 := box_ hSw c8; clear hSw
              go_simp
              try with_reducible rfl
            case qzz99 => exact fun _ _ _ h => h
            case szz99 => first | assumption | trivial
            case' rzz99 => simp only [Act.put, List.setIfInBounds_toArray, List.set_cons_zero, List.set_cons_succ]
            refine wpAnyH_ready (rs := [15]) (by kernel_rfl) (by simp) ?_
            refine AllReadyH.cons (o := ?ozz111) ?hzz111 (fun K hK => ?kzz111) ?mzz111
            case hzz111 => simp only [List.getElem?_toArray, List.getElem?_cons_zero, List.getElem?_cons_succ]; rfl
            case kzz111 =>
              go_simp
              refine (K3.out _).mono ?_
              rintro e w3 ⟨rfl, q3⟩
              go_wp2_with fail
              refine hK.out _ _ ?Szz111 (fun hHeld => ?Rzz111)
              case Szz111 =>
                exact hHeld.trans q3
              case Rzz111 =>
                clear hK K
                try simp only [Act.put, List.setIfInBounds_toArray, List.set_cons_zero, List.set_cons_succ]
                refine wpAnyH_take (i := 16) (oi := ?ozz100) (v := ?vzz100) ?hzz100 ?azz100 ?bzz100 ?czz100 ?qzz100 ?yzz100 ?szz100 ?rzz100
                case hzz100 => simp only [List.getElem?_toArray, List.getElem?_cons_zero, List.getElem?_cons_succ]; rfl
                case azz100 => kernel_rfl
                case bzz100 => kernel_rfl
                case czz100 => kernel_rfl
                case yzz100 =>
                  refine Or.inl ⟨by rfl, ?_⟩
                  intro w hSw
                  skip
                  go_simp
                  try with_reducible rfl
                case qzz100 => exact fun _ _ _ h => h
                case szz100 => first | assumption | trivial
                case' rzz100 => simp only [Act.put, List.setIfInBounds_toArray, List.set_cons_zero, List.set_cons_succ]
                refine wpAnyH_take (i := 17) (oi := ?ozz101) (v := ?vzz101) ?hzz101 ?azz101 ?bzz101 ?czz101 ?qzz101 ?yzz101 ?szz101 ?rzz101
                case hzz101 => simp only [List.getElem?_toArray, List.getElem?_cons_zero, List.getElem?_cons_succ]; rfl
                case azz101 => kernel_rfl
                case bzz101 => kernel_rfl
                case czz101 => kernel_rfl
                case yzz101 =>
                  refine Or.inl ⟨by rfl, ?_⟩
                  intro w hSw
                  skip
                  go_simp
                  try with_reducible rfl
                case qzz101 => exact fun _ _ _ h => h
                case szz101 => first | assumption | trivial
                case' rzz101 => simp only [Act.put, List.setIfInBounds_toArray, List.set_cons_zero, List.set_cons_succ]
                refine wpAnyH_take (i := 18) (oi := ?ozz102) (v := ?vzz102) ?hzz102 ?azz102 ?bzz102 ?czz102 ?qzz102 ?yzz102 ?szz102 ?rzz102
                case hzz102 => simp only [List.getElem?_toArray, List.getElem?_cons_zero, List.getElem?_cons_succ]; rfl
                case azz102 => kernel_rfl
                case bzz102 => kernel_rfl
                case czz102 => kernel_rfl
                case yzz102 =>
                  refine Or.inl ⟨by rfl, ?_⟩
                  intro w hSw
                  skip
                  go_simp
                  try with_reducible rfl
                case qzz102 => exact fun _ _ _ h => h
                case szz102 => first | assumption | trivial
                case' rzz102 => simp only [Act.put, List.setIfInBounds_toArray, List.set_cons_zero, List.set_cons_succ]
                refine wpAnyH_take (i := 19) (oi := ?ozz103) (v := ?vzz103) ?hzz103 ?azz103 ?bzz103 ?czz103 ?qzz103 ?yzz103 ?szz103 ?rzz103
                case hzz103 => simp only [List.getElem?_toArray, List.getElem?_cons_zero, List.getElem?_cons_succ]; rfl
                case azz103 => kernel_rfl
                case bzz103 => kernel_rfl
                case czz103 => kernel_rfl
                case yzz103 =>
                  refine Or.inl ⟨by rfl, ?_⟩
                  intro w hSw
                  have x0 := box_ hSw c0; have x1 := box_ hSw c1; have x2 := box_ hSw c2; have x3 := box_ hSw c3; have x4 := box_ hSw c4; have x5 := box_ hSw c5; have x6 := box_ hSw c6; have x7 := box_ hSw c7; have x8 := box_ hSw c8; clear hSw
                  go_simp
                  try with_reducible rfl
                case qzz103 => exact fun _ _ _ h => h
                case szz103 => first | assumption | trivial
                case' rzz103 => simp only [Act.put, List.setIfInBounds_toArray, List.set_cons_zero, List.set_cons_succ]
                refine wpAnyH_take (i := 20) (oi := ?ozz104) (v := ?vzz104) ?hzz104 ?azz104 ?bzz104 ?czz104 ?qzz104 ?yzz104 ?szz104 ?rzz104
                case hzz104 => simp only [List.getElem?_toArray, List.getElem?_cons_zero, List.getElem?_cons_succ]; rfl
                case azz104 => kernel_rfl
                case bzz104 => kernel_rfl
                case czz104 => kernel_rfl
                case yzz104 =>
                  refine Or.inl ⟨by rfl, ?_⟩
                  intro w hSw
                  have x0 := box_ hSw c0; have x1 := box_ hSw c1; have x2 := box_ hSw c2; have x3 := box_ hSw c3; have x4 := box_ hSw c4; have x5 := box_ hSw c5; have x6 := box_ hSw c6; have x7 := box_ hSw c7; have x8 := box_ hSw c8; clear hSw
                  go_simp
                  try with_reducible rfl
                case qzz104 => exact fun _ _ _ h => h
                case szz104 => first | assumption | trivial
                case' rzz104 => simp only [Act.put, List.setIfInBounds_toArray, List.set_cons_zero, List.set_cons_succ]
                refine wpAnyH_take (i := 22) (oi := ?ozz105) (v := ?vzz105) ?hzz105 ?azz105 ?bzz105 ?czz105 ?qzz105 ?yzz105 ?szz105 ?rzz105
                case hzz105 => simp only [List.getElem?_toArray, List.getElem?_cons_zero, List.getElem?_cons_succ]; rfl
                case azz105 => kernel_rfl
                case bzz105 => kernel_rfl
                case czz105 => kernel_rfl
                case yzz105 =>
                  refine Or.inl ⟨by rfl, ?_⟩
                  intro w hSw
                  have x0 := box_ hSw c0; have x1 := box_ hSw c1; have x2 := box_ hSw c2; have x3 := box_ hSw c3; have x4 := box_ hSw c4; have x5 := box_ hSw c5; have x6 := box_ hSw c6; have x7 := box_ hSw c7; have x8 := box_ hSw c8; clear hSw
                  go_simp
                  try with_reducible rfl
                case qzz105 => exact fun _ _ _ h => h
                case szz105 => first | assumption | trivial
                case' rzz105 => simp only [Act.put, List.setIfInBounds_toArray, List.set_cons_zero, List.set_cons_succ]
                refine wpAnyH_ready (rs := [21]) (by kernel_rfl) (by simp) ?_
                refine AllReadyH.cons (o := ?ozz110) ?hzz110 (fun K hK => ?kzz110) ?mzz110
                case hzz110 => simp only [List.getElem?_toArray, List.getElem?_cons_zero, List.getElem?_cons_succ]; rfl
                case kzz110 =>
                  go_simp
                  refine (K4.out _).mono ?_
                  rintro e w4 ⟨rfl, q4⟩
                  go_wp2_with fail
                  refine hK.out _ _ ?Szz110 (fun hHeld => ?Rzz110)
                  case Szz110 =>
                    exact hHeld.trans q4
                  case Rzz110 =>
                    clear hK K
                    try simp only [Act.put, List.setIfInBounds_toArray, List.set_cons_zero, List.set_cons_succ]
                    refine wpAnyH_ready (rs := [23]) (by kernel_rfl) (by simp) ?_
                    refine AllReadyH.cons (o := ?ozz109) ?hzz109 (fun K hK => ?kzz109) ?mzz109
                    case hzz109 => simp only [List.getElem?_toArray, List.getElem?_cons_zero, List.getElem?_cons_succ]; rfl
                    case kzz109 =>
                      go_simp
                      refine (K5.out _).mono ?_
                      rintro e w5 ⟨rfl, q5⟩
                      go_wp2_with fail
                      refine hK.out _ _ ?Szz109 (fun hHeld => ?Rzz109)
                      case Szz109 =>
                        exact hHeld.trans q5
                      case Rzz109 =>
                        clear hK K
                        try simp only [Act.put, List.setIfInBounds_toArray, List.set_cons_zero, List.set_cons_succ]
                        refine wpAnyH_take (i := 24) (oi := ?ozz106) (v := ?vzz106) ?hzz106 ?azz106 ?bzz106 ?czz106 ?qzz106 ?yzz106 ?szz106 ?rzz106
                        case hzz106 => simp only [List.getElem?_toArray, List.getElem?_cons_zero, List.getElem?_cons_succ]; rfl
                        case azz106 => kernel_rfl
                        case bzz106 => kernel_rfl
                        case czz106 => kernel_rfl
                        case yzz106 =>
                          refine Or.inl ⟨by rfl, ?_⟩
                          intro w hSw
                          skip
                          go_simp
                          try with_reducible rfl
                        case qzz106 => exact fun _ _ _ h => h
                        case szz106 => first | assumption | trivial
                        case' rzz106 => simp only [Act.put, List.setIfInBounds_toArray, List.set_cons_zero, List.set_cons_succ]
                        refine wpAnyH_take (i := 25) (oi := ?ozz107) (v := ?vzz107) ?hzz107 ?azz107 ?bzz107 ?czz107 ?qzz107 ?yzz107 ?szz107 ?rzz107
                        case hzz107 => simp only [List.getElem?_toArray, List.getElem?_cons_zero, List.getElem?_cons_succ]; rfl
                        case azz107 => kernel_rfl
                        case bzz107 => kernel_rfl
                        case czz107 => kernel_rfl
                        case yzz107 =>
                          refine Or.inl ⟨by rfl, ?_⟩
                          intro w hSw
                          skip
                          go_simp
                          try with_reducible rfl
                        case qzz107 => exact fun _ _ _ h => h
                        case szz107 => first | assumption | trivial
                        case' rzz107 => simp only [Act.put, List.setIfInBounds_toArray, List.set_cons_zero, List.set_cons_succ]
                        refine wpAnyH_take (i := 26) (oi := ?ozz108) (v := ?vzz108) ?hzz108 ?azz108 ?bzz108 ?czz108 ?qzz108 ?yzz108 ?szz108 ?rzz108
                        case hzz108 => simp only [List.getElem?_toArray, List.getElem?_cons_zero, List.getElem?_cons_succ]; rfl
                        case azz108 => kernel_rfl
                        case bzz108 => kernel_rfl
                        case czz108 => kernel_rfl
                        case yzz108 =>
                          refine Or.inl ⟨by rfl, ?_⟩
                          intro w hSw
                          skip
                          go_simp
                          try with_reducible rfl
                        case qzz108 => exact fun _ _ _ h => h
                        case szz108 => first | assumption | trivial
                        case' rzz108 => simp only [Act.put, List.setIfInBounds_toArray, List.set_cons_zero, List.set_cons_succ]
                        refine wpAnyH_done (by kernel_rfl) ?_ _
                        go_wp2
                        go_ret
                        exact ⟨by first | rfl | (simp; done), BQ.out.trans hHeld⟩
                    case' mzz109 => skip
                    exact AllReadyH.nil
                case' mzz110 => skip
                exact AllReadyH.nil
            case' mzz111 => skip
            exact AllReadyH.nil
        case' mzz112 => skip
        exact AllReadyH.nil
    case' mzz113 => skip
    exact AllReadyH.nil

theorem opened (W : World) (args : Array Value) (hn : args.size = 3) (h : ∀ (j : Nat) t v, Try.f8.params[j]? = some t → args[j]? = some v → RdV W t v) :
    Calls Try.prog 8 args W fun e W' => e = .returned (.bool true) ∧ Q W W' := by
  obtain ⟨v0, v1, v2, rfl⟩ := args3 hn
  rw [Try.params8] at h
  obtain ⟨cs0, rfl, hr0⟩ := (h 0 23 v0 rfl rfl).struct Try.underlying23
  obtain ⟨a, rfl, a0, a1, a2, a3⟩ := open_want hr0
  obtain ⟨cs1, rfl, hr1⟩ := (h 1 23 v1 rfl rfl).struct Try.underlying23
  obtain ⟨b, rfl, b0, b1, b2, b3⟩ := open_want hr1
  obtain ⟨cs2, rfl, hr2⟩ := (h 2 23 v2 rfl rfl).struct Try.underlying23
  obtain ⟨c, rfl, c0, c1, c2, c3⟩ := open_want hr2
  exact walk a b c W

set_option maxRecDepth 100000 in
theorem lifted (os : Os) (started : os.Started) (H : Type) (enc : TypeId × Value → H) :
    ReturnsInHanded {} Try.checked os 8 .any (Rows.spanOrderSpec.pre6 enc Try.prog Try.f8 Rows.spanOrderRow.domain false) (Rows.spanOrderSpec.post enc Try.prog Try.f8 false true false false) :=
  framed 3 Try.func8 (by rw [Try.params8]; rfl) rfl (by kernel_rfl) (by kernel_rfl) (by kernel_rfl)
    (fun H ds h => by match ds, h with | [d0, d1, d2], _ => exact ⟨rfl, rfl, rfl⟩)
    opened os started H enc
    (ChangeSpec.witness6 (enc := enc) (C := Try.checked) false ⟨#[], #[.agg #[.int .i64 0, .string ByteArray.empty, .string ByteArray.empty], .agg #[.int .i64 0, .string ByteArray.empty, .string ByteArray.empty], .agg #[.int .i64 0, .string ByteArray.empty, .string ByteArray.empty]], []⟩ 8 (by kernel_rfl) (by kernel_rfl) (by kernel_rfl) (by kernel_rfl))

theorem over : Rows.spanOrderRow.holds Try.pinned (OpenSpec.ofChange Rows.spanOrderSpec) :=
  OpenClaim.holds_of_wide 8 Try.f8 rfl rfl rfl rfl rfl rfl rfl ⟨rfl, rfl, rfl, rfl, rfl⟩ rfl rfl rfl rfl rfl (by kernel_rfl) Try.func8 (by kernel_rfl)
    (of_decide_eq_true (by kernel_rfl)) (by unfold Func.isWrapper; first | (rw [if_pos (by decide +kernel)]; kernel_rfl) | (rw [if_neg (by decide +kernel)]; exact ⟨rfl, rfl⟩))
    (fun os started H enc _ => lifted os started H enc)

theorem proved : Rows.SpanOrderSaid := over
end Go.Proofs.Ytjbjkmbipdbejaa.spanOrder
