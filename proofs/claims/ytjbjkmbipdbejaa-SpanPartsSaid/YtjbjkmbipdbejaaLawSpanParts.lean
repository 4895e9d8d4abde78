/- For every span, key and span: a span that is cut in two at a key of it overlaps another one just if a part does. No condition. -/
import Derived.Test.YtjbjkmbipdbejaaSpanIn
namespace Go.Proofs.Ytjbjkmbipdbejaa.spanParts
set_option maxRecDepth 100000
open Go.ChangeShapes Go.WideShapes Go.ChangeAt Go.RowKit Prm Sm
set_option linter.unusedVariables false
set_option linter.unusedSimpArgs false

set_option maxHeartbeats 4000000 in
theorem walk_none (a : Wn) (mid : ByteArray) (b : Wn) (w : World) (h0 : mid = ⟨#[]⟩) :
    Calls Try.prog 9 #[wnV a, .string mid, wnV b] w fun e w' => e = .returned (.bool true) ∧ Q w w' := by
  subst h0
  have B := wn_box2 w a b
  try unfold wnV at *
  go_enter Try.func9, Try.ntmps9
  go_wp2_with fail
  generalize ((w.alloc (.cells #[.int .i64 a.mode, .string a.lo, .string a.hi] 23)).alloc (.cells #[.int .i64 b.mode, .string b.lo, .string b.hi] 23)) = W0 at B ⊢
  obtain ⟨⟨c0, c1, c2⟩, ⟨c3, c4, c5⟩, bq⟩ := B
  change _ at bq
  refine (spshown_any _).mono ?_
  rintro e W ⟨rfl, q0⟩
  have c0 := box_ q0 c0
  have c1 := box_ q0 c1
  have c2 := box_ q0 c2
  have c3 := box_ q0 c3
  have c4 := box_ q0 c4
  have c5 := box_ q0 c5
  have BQ := Lib.hid (bq.trans q0)
  clear bq q0
  go_wp2
  go_ret
  exact ⟨rfl, BQ.out⟩
set_option maxHeartbeats 4000000 in
theorem walk_out (a : Wn) (mid : ByteArray) (b : Wn) (w : World) (h0 : ¬ mid = ⟨#[]⟩) (h1 : inS a mid = false) :
    Calls Try.prog 9 #[wnV a, .string mid, wnV b] w fun e w' => e = .returned (.bool true) ∧ Q w w' := by
  have K1 := Lib.hid (fun W => sin_any a mid W)
  rw [h1] at K1
  obtain ⟨n1, n2, n3⟩ := no_empty h0
  clear h0 h1
  have B := wn_box2 w a b
  try unfold wnV at *
  go_enter Try.func9, Try.ntmps9
  go_wp2_with fail
  generalize ((w.alloc (.cells #[.int .i64 a.mode, .string a.lo, .string a.hi] 23)).alloc (.cells #[.int .i64 b.mode, .string b.lo, .string b.hi] 23)) = W0 at B ⊢
  obtain ⟨⟨c0, c1, c2⟩, ⟨c3, c4, c5⟩, bq⟩ := B
  change _ at bq
  refine (spshown_any _).mono ?_
  rintro e W ⟨rfl, q0⟩
  have c0 := box_ q0 c0
  have c1 := box_ q0 c1
  have c2 := box_ q0 c2
  have c3 := box_ q0 c3
  have c4 := box_ q0 c4
  have c5 := box_ q0 c5
  have BQ := Lib.hid (bq.trans q0)
  clear bq q0
  go_wp2_with fail
  refine (K1.out _).mono ?_
  rintro e w1 ⟨rfl, q1⟩
  go_wp2
  go_ret
  exact ⟨rfl, BQ.out.trans q1⟩
set_option maxHeartbeats 4000000 in
theorem walk_in (a : Wn) (mid : ByteArray) (b : Wn) (w : World) (h0 : ¬ mid = ⟨#[]⟩) (h1 : inS a mid = true) :
    Calls Try.prog 9 #[wnV a, .string mid, wnV b] w fun e w' => e = .returned (.bool true) ∧ Q w w' := by
  have K1 := Lib.hid (fun W => sin_any a mid W)
  rw [h1] at K1
  have K2 := Lib.hid (fun W => sover_any a b W)
  have K3 := Lib.hid (fun W => sover_any ⟨a.mode, a.lo, mid⟩ b W)
  have K4 := Lib.hid (fun W => sover_any ⟨a.mode, mid, a.hi⟩ b W)
  have K5 := Lib.hid (fun W => sover_any ⟨a.mode, a.lo, mid⟩ ⟨a.mode, mid, a.hi⟩ W)
  rw [parts_apart a.mode a.lo mid a.hi h0] at K5
  rw [parts a b mid h0 h1] at K2
  obtain ⟨n1, n2, n3⟩ := no_empty h0
  clear h0 h1
  generalize over ⟨a.mode, mid, a.hi⟩ b = y at *
  have r1 := beq_rr y
  cases h2 : over ⟨a.mode, a.lo, mid⟩ b
  case false =>
    rw [h2, Bool.false_or] at K2
    rw [h2] at K3
    clear h2
    have B := wn_box2 w a b
    try unfold wnV at *
    go_enter Try.func9, Try.ntmps9
    go_wp2_with fail
    generalize ((w.alloc (.cells #[.int .i64 a.mode, .string a.lo, .string a.hi] 23)).alloc (.cells #[.int .i64 b.mode, .string b.lo, .string b.hi] 23)) = W0 at B ⊢
    obtain ⟨⟨c0, c1, c2⟩, ⟨c3, c4, c5⟩, bq⟩ := B
    change _ at bq
    refine (spshown_any _).mono ?_
    rintro e W ⟨rfl, q0⟩
    have c0 := box_ q0 c0
    have c1 := box_ q0 c1
    have c2 := box_ q0 c2
    have c3 := box_ q0 c3
    have c4 := box_ q0 c4
    have c5 := box_ q0 c5
    have BQ := Lib.hid (bq.trans q0)
    clear bq q0
    go_wp2_with fail
    refine (K1.out _).mono ?_
    rintro e w1 ⟨rfl, q1⟩
    have c0 := box_ q1 c0
    have c1 := box_ q1 c1
    have c2 := box_ q1 c2
    have c3 := box_ q1 c3
    have c4 := box_ q1 c4
    have c5 := box_ q1 c5
    have BQ := Lib.hid (BQ.out.trans q1)
    clear q1
    have B := wn_box2 w1 ⟨a.mode, a.lo, mid⟩ ⟨a.mode, mid, a.hi⟩
    simp only at B
    have f0 := (Q.refl w1).alloc (.cells #[.int .i64 a.mode, .string a.lo, .string mid] 23)
    have e0 := box_ f0 c0
    have e1 := box_ f0 c1
    have e2 := box_ f0 c2
    have e3 := box_ f0 c3
    have e4 := box_ f0 c4
    have e5 := box_ f0 c5
    clear f0
    go_wp2
    clear e0 e1 e2 e3 e4 e5
    generalize (w1.alloc (.cells #[.int .i64 a.mode, .string a.lo, .string mid] 23)).alloc (.cells #[.int .i64 a.mode, .string mid, .string a.hi] 23) = W2 at B ⊢
    obtain ⟨⟨c6, c7, c8⟩, ⟨c9, c10, c11⟩, bq⟩ := B
    have c0 := box_ bq c0
    have c1 := box_ bq c1
    have c2 := box_ bq c2
    have c3 := box_ bq c3
    have c4 := box_ bq c4
    have c5 := box_ bq c5
    have BQ := Lib.hid (BQ.out.trans bq)
    clear bq
    refine wp_region_held_drew (S := Q W2) (by kernel_rfl) ?szz114 (fun hHeld => ?rzz114)
    case szz114 =>
      exact (Q.refl W2).drew
    case' rzz114 => skip
    refine wpAnyH_take (i := 0) (oi := ?ozz115) (v := ?vzz115) ?hzz115 ?azz115 ?bzz115 ?czz115 ?qzz115 ?yzz115 ?szz115 ?rzz115
    case hzz115 => simp only [List.getElem?_toArray, List.getElem?_cons_zero]; rfl
    case azz115 => kernel_rfl
    case bzz115 => kernel_rfl
    case czz115 => kernel_rfl
    case yzz115 =>
      refine Or.inl ⟨by rfl, ?_⟩
      intro w hSw
      skip
      go_simp
      try with_reducible rfl
    case qzz115 => exact fun _ _ _ h => h
    case szz115 => first | assumption | trivial
    case' rzz115 => simp only [Act.put, List.setIfInBounds_toArray, List.set_cons_zero, List.set_cons_succ]
    refine wpAnyH_take (i := 1) (oi := ?ozz116) (v := ?vzz116) ?hzz116 ?azz116 ?bzz116 ?czz116 ?qzz116 ?yzz116 ?szz116 ?rzz116
    case hzz116 => simp only [List.getElem?_toArray, List.getElem?_cons_zero, List.getElem?_cons_succ]; rfl
    case azz116 => kernel_rfl
    case bzz116 => kernel_rfl
    case czz116 => kernel_rfl
    case yzz116 =>
      refine Or.inl ⟨by rfl, ?_⟩
      intro w hSw
      skip
      go_simp
      try with_reducible rfl
    case qzz116 => exact fun _ _ _ h => h
    case szz116 => first | assumption | trivial
    case' rzz116 => simp only [Act.put, List.setIfInBounds_toArray, List.set_cons_zero, List.set_cons_succ]
    refine wpAnyH_take (i := 2) (oi := ?ozz117) (v := ?vzz117) ?hzz117 ?azz117 ?bzz117 ?czz117 ?qzz117 ?yzz117 ?szz117 ?rzz117
    case hzz117 => simp only [List.getElem?_toArray, List.getElem?_cons_zero, List.getElem?_cons_succ]; rfl
    case azz117 => kernel_rfl
    case bzz117 => kernel_rfl
    case czz117 => kernel_rfl
    case yzz117 =>
      refine Or.inl ⟨by rfl, ?_⟩
      intro w hSw
      have x0 := box_ hSw c0; have x1 := box_ hSw c1; have x2 := box_ hSw c2; have x3 := box_ hSw c3; have x4 := box_ hSw c4; have x5 := box_ hSw c5; have x6 := box_ hSw c6; have x7 := box_ hSw c7; have x8 := box_ hSw c8; have x9 := box_ hSw c9; have x10 := box_ hSw c10; have x11 := box_ hSw c11; clear hSw
      go_simp
      try with_reducible rfl
    case qzz117 => exact fun _ _ _ h => h
    case szz117 => first | assumption | trivial
    case' rzz117 => simp only [Act.put, List.setIfInBounds_toArray, List.set_cons_zero, List.set_cons_succ]
    refine wpAnyH_take (i := 3) (oi := ?ozz118) (v := ?vzz118) ?hzz118 ?azz118 ?bzz118 ?czz118 ?qzz118 ?yzz118 ?szz118 ?rzz118
    case hzz118 => simp only [List.getElem?_toArray, List.getElem?_cons_zero, List.getElem?_cons_succ]; rfl
    case azz118 => kernel_rfl
    case bzz118 => kernel_rfl
    case czz118 => kernel_rfl
    case yzz118 =>
      refine Or.inl ⟨by rfl, ?_⟩
      intro w hSw
      have x0 := box_ hSw c0; have x1 := box_ hSw c1; have x2 := box_ hSw c2; have x3 := box_ hSw c3; have x4 := box_ hSw c4; have x5 := box_ hSw c5; have x6 := box_ hSw c6; have x7 := box_ hSw c7; have x8 := box_ hSw c8; have x9 := box_ hSw c9; have x10 := box_ hSw c10; have x11 := box_ hSw c11; clear hSw
      go_simp
      try with_reducible rfl
    case qzz118 => exact fun _ _ _ h => h
    case szz118 => first | assumption | trivial
    case' rzz118 => simp only [Act.put, List.setIfInBounds_toArray, List.set_cons_zero, List.set_cons_succ]
    refine wpAnyH_take (i := 5) (oi := ?ozz119) (v := ?vzz119) ?hzz119 ?azz119 ?bzz119 ?czz119 ?qzz119 ?yzz119 ?szz119 ?rzz119
    case hzz119 => simp only [List.getElem?_toArray, List.getElem?_cons_zero, List.getElem?_cons_succ]; rfl
    case azz119 => kernel_rfl
    case bzz119 => kernel_rfl
    case czz119 => kernel_rfl
    case yzz119 =>
      refine Or.inl ⟨by rfl, ?_⟩
      intro w hSw
      have x0 := box_ hSw c0; have x1 := box_ hSw c1; have x2 := box_ hSw c2; have x3 := box_ hSw c3; have x4 := box_ hSw c4; have x5 := box_ hSw c5; have x6 := box_ hSw c6; have x7 := box_ hSw c7; have x8 := box_ hSw c8; have x9 := box_ hSw c9; have x10 := box_ hSw c10; have x11 := box_ hSw c11; clear hSw
      go_simp
      try with_reducible rfl
    case qzz119 => exact fun _ _ _ h => h
    case szz119 => first | assumption | trivial
    case' rzz119 => simp only [Act.put, List.setIfInBounds_toArray, List.set_cons_zero, List.set_cons_succ]
    refine wpAnyH_take (i := 6) (oi := ?ozz120) (v := ?vzz120) ?hzz120 ?azz120 ?bzz120 ?czz120 ?qzz120 ?yzz120 ?szz120 ?rzz120
    case hzz120 => simp only [List.getElem?_toArray, List.getElem?_cons_zero, List.getElem?_cons_succ]; rfl
    case azz120 => kernel_rfl
    case bzz120 => kernel_rfl
    case czz120 => kernel_rfl
    case yzz120 =>
      refine Or.inl ⟨by rfl, ?_⟩
      intro w hSw
      have x0 := box_ hSw c0; have x1 := box_ hSw c1; have x2 := box_ hSw c2; have x3 := box_ hSw c3; have x4 := box_ hSw c4; have x5 := box_ hSw c5; have x6 := box_ hSw c6; have x7 := box_ hSw c7; have x8 := box_ hSw c8; have x9 := box_ hSw c9; have x10 := box_ hSw c10; have x11 := box_ hSw c11; clear hSw
      go_simp
      try with_reducible rfl
    case qzz120 => exact fun _ _ _ h => h
    case szz120 => first | assumption | trivial
    case' rzz120 => simp only [Act.put, List.setIfInBounds_toArray, List.set_cons_zero, List.set_cons_succ]
    refine wpAnyH_ready (rs := [4]) (by kernel_rfl) (by simp) ?_
    refine AllReadyH.cons (o := ?ozz136) ?hzz136 (fun K hK => ?kzz136) ?mzz136
    case hzz136 => simp only [List.getElem?_toArray, List.getElem?_cons_zero, List.getElem?_cons_succ]; rfl
    case kzz136 =>
      go_simp
      refine (K2.out _).mono ?_
      rintro e v2 ⟨rfl, q2⟩
      go_wp2_with fail
      refine hK.out _ _ ?Szz136 (fun hHeld => ?Rzz136)
      case Szz136 =>
        exact hHeld.trans q2
      case Rzz136 =>
        clear hK K
        try simp only [Act.put, List.setIfInBounds_toArray, List.set_cons_zero, List.set_cons_succ]
        refine wpAnyH_ready (rs := [7]) (by kernel_rfl) (by simp) ?_
        refine AllReadyH.cons (o := ?ozz135) ?hzz135 (fun K hK => ?kzz135) ?mzz135
        case hzz135 => simp only [List.getElem?_toArray, List.getElem?_cons_zero, List.getElem?_cons_succ]; rfl
        case kzz135 =>
          go_simp
          refine (K3.out _).mono ?_
          rintro e v3 ⟨rfl, q3⟩
          go_wp2_with fail
          refine hK.out _ _ ?Szz135 (fun hHeld => ?Rzz135)
          case Szz135 =>
            exact hHeld.trans q3
          case Rzz135 =>
            clear hK K
            try simp only [Act.put, List.setIfInBounds_toArray, List.set_cons_zero, List.set_cons_succ]
            refine wpAnyH_take (i := 8) (oi := ?ozz121) (v := ?vzz121) ?hzz121 ?azz121 ?bzz121 ?czz121 ?qzz121 ?yzz121 ?szz121 ?rzz121
            case hzz121 => simp only [List.getElem?_toArray, List.getElem?_cons_zero, List.getElem?_cons_succ]; rfl
            case azz121 => kernel_rfl
            case bzz121 => kernel_rfl
            case czz121 => kernel_rfl
            case yzz121 =>
              refine Or.inl ⟨by rfl, ?_⟩
              intro w hSw
              skip
              go_simp
              try with_reducible rfl
            case qzz121 => exact fun _ _ _ h => h
            case szz121 => first | assumption | trivial
            case' rzz121 => simp only [Act.put, List.setIfInBounds_toArray, List.set_cons_zero, List.set_cons_succ]
            refine wpAnyH_take (i := 9) (oi := ?ozz122) (v := ?vzz122) ?hzz122 ?azz122 ?bzz122 ?czz122 ?qzz122 ?yzz122 ?szz122 ?rzz122
            case hzz122 => simp only [List.getElem?_toArray, List.getElem?_cons_zero, List.getElem?_cons_succ]; rfl
            case azz122 => kernel_rfl
            case bzz122 => kernel_rfl
            case czz122 => kernel_rfl
            case yzz122 =>
              refine Or.inl ⟨by rfl, ?_⟩
              intro w hSw
              have x0 := box_ hSw c0; have x1 := box_ hSw c1; have x2 := box_ hSw c2; have x3 := box_ hSw c3; have x4 := box_ hSw c4; have x5 := box_ hSw c5; have x6 := box_ hSw c6; have x7 := box_ hSw c7; have x8 := box_ hSw c8; have x9 := box_ hSw c9; have x10 := box_ hSw c10; have x11 := box_ hSw c11; clear hSw
              go_simp
              try with_reducible rfl
            case qzz122 => exact fun _ _ _ h => h
            case szz122 => first | assumption | trivial
            case' rzz122 => simp only [Act.put, List.setIfInBounds_toArray, List.set_cons_zero, List.set_cons_succ]
            refine wpAnyH_take (i := 10) (oi := ?ozz123) (v := ?vzz123) ?hzz123 ?azz123 ?bzz123 ?czz123 ?qzz123 ?yzz123 ?szz123 ?rzz123
            case hzz123 => simp only [List.getElem?_toArray, List.getElem?_cons_zero, List.getElem?_cons_succ]; rfl
            case azz123 => kernel_rfl
            case bzz123 => kernel_rfl
            case czz123 => kernel_rfl
            case yzz123 =>
              refine Or.inl ⟨by rfl, ?_⟩
              intro w hSw
              have x0 := box_ hSw c0; have x1 := box_ hSw c1; have x2 := box_ hSw c2; have x3 := box_ hSw c3; have x4 := box_ hSw c4; have x5 := box_ hSw c5; have x6 := box_ hSw c6; have x7 := box_ hSw c7; have x8 := box_ hSw c8; have x9 := box_ hSw c9; have x10 := box_ hSw c10; have x11 := box_ hSw c11; clear hSw
              go_simp
              try with_reducible rfl
            case qzz123 => exact fun _ _ _ h => h
            case szz123 => first | assumption | trivial
            case' rzz123 => simp only [Act.put, List.setIfInBounds_toArray, List.set_cons_zero, List.set_cons_succ]
            refine wpAnyH_ready (rs := [11]) (by kernel_rfl) (by simp) ?_
            refine AllReadyH.cons (o := ?ozz134) ?hzz134 (fun K hK => ?kzz134) ?mzz134
            case hzz134 => simp only [List.getElem?_toArray, List.getElem?_cons_zero, List.getElem?_cons_succ]; rfl
            case kzz134 =>
              go_simp
              refine (K4.out _).mono ?_
              rintro e v4 ⟨rfl, q4⟩
              go_wp2_with fail
              refine hK.out _ _ ?Szz134 (fun hHeld => ?Rzz134)
              case Szz134 =>
                exact hHeld.trans q4
              case Rzz134 =>
                clear hK K
                try simp only [Act.put, List.setIfInBounds_toArray, List.set_cons_zero, List.set_cons_succ]
                refine wpAnyH_take (i := 12) (oi := ?ozz124) (v := ?vzz124) ?hzz124 ?azz124 ?bzz124 ?czz124 ?qzz124 ?yzz124 ?szz124 ?rzz124
                case hzz124 => simp only [List.getElem?_toArray, List.getElem?_cons_zero, List.getElem?_cons_succ]; rfl
                case azz124 => kernel_rfl
                case bzz124 => kernel_rfl
                case czz124 => kernel_rfl
                case yzz124 =>
                  refine Or.inl ⟨by rfl, ?_⟩
                  intro w hSw
                  skip
                  go_simp
                  try with_reducible rfl
                case qzz124 => exact fun _ _ _ h => h
                case szz124 => first | assumption | trivial
                case' rzz124 => simp only [Act.put, List.setIfInBounds_toArray, List.set_cons_zero, List.set_cons_succ]
                refine wpAnyH_take (i := 13) (oi := ?ozz125) (v := ?vzz125) ?hzz125 ?azz125 ?bzz125 ?czz125 ?qzz125 ?yzz125 ?szz125 ?rzz125
                case hzz125 => simp only [List.getElem?_toArray, List.getElem?_cons_zero, List.getElem?_cons_succ]; rfl
                case azz125 => kernel_rfl
                case bzz125 => kernel_rfl
                case czz125 => kernel_rfl
                case yzz125 =>
                  refine Or.inl ⟨by rfl, ?_⟩
                  intro w hSw
                  skip
                  go_simp
                  try with_reducible rfl
                case qzz125 => exact fun _ _ _ h => h
                case szz125 => first | assumption | trivial
                case' rzz125 => simp only [Act.put, List.setIfInBounds_toArray, List.set_cons_zero, List.set_cons_succ]
                refine wpAnyH_take (i := 14) (oi := ?ozz126) (v := ?vzz126) ?hzz126 ?azz126 ?bzz126 ?czz126 ?qzz126 ?yzz126 ?szz126 ?rzz126
                case hzz126 => simp only [List.getElem?_toArray, List.getElem?_cons_zero, List.getElem?_cons_succ]; rfl
                case azz126 => kernel_rfl
                case bzz126 => kernel_rfl
                case czz126 => kernel_rfl
                case yzz126 =>
                  refine Or.inl ⟨by rfl, ?_⟩
                  intro w hSw
                  skip
                  go_simp
                  try with_reducible rfl
                case qzz126 => exact fun _ _ _ h => h
                case szz126 => first | assumption | trivial
                case' rzz126 => simp only [Act.put, List.setIfInBounds_toArray, List.set_cons_zero, List.set_cons_succ]
                refine wpAnyH_take (i := 15) (oi := ?ozz127) (v := ?vzz127) ?hzz127 ?azz127 ?bzz127 ?czz127 ?qzz127 ?yzz127 ?szz127 ?rzz127
                case hzz127 => simp only [List.getElem?_toArray, List.getElem?_cons_zero, List.getElem?_cons_succ]; rfl
                case azz127 => kernel_rfl
                case bzz127 => kernel_rfl
                case czz127 => kernel_rfl
                case yzz127 =>
                  refine Or.inl ⟨by rfl, ?_⟩
                  intro w hSw
                  skip
                  go_simp
                  try with_reducible rfl
                case qzz127 => exact fun _ _ _ h => h
                case szz127 => first | assumption | trivial
                case' rzz127 => simp only [Act.put, List.setIfInBounds_toArray, List.set_cons_zero, List.set_cons_succ]
                refine wpAnyH_take (i := 16) (oi := ?ozz128) (v := ?vzz128) ?hzz128 ?azz128 ?bzz128 ?czz128 ?qzz128 ?yzz128 ?szz128 ?rzz128
                case hzz128 => simp only [List.getElem?_toArray, List.getElem?_cons_zero, List.getElem?_cons_succ]; rfl
                case azz128 => kernel_rfl
                case bzz128 => kernel_rfl
                case czz128 => kernel_rfl
                case yzz128 =>
                  refine Or.inl ⟨by rfl, ?_⟩
                  intro w hSw
                  have x0 := box_ hSw c0; have x1 := box_ hSw c1; have x2 := box_ hSw c2; have x3 := box_ hSw c3; have x4 := box_ hSw c4; have x5 := box_ hSw c5; have x6 := box_ hSw c6; have x7 := box_ hSw c7; have x8 := box_ hSw c8; have x9 := box_ hSw c9; have x10 := box_ hSw c10; have x11 := box_ hSw c11; clear hSw
                  go_simp
                  try with_reducible rfl
                case qzz128 => exact fun _ _ _ h => h
                case szz128 => first | assumption | trivial
                case' rzz128 => simp only [Act.put, List.setIfInBounds_toArray, List.set_cons_zero, List.set_cons_succ]
                refine wpAnyH_take (i := 17) (oi := ?ozz129) (v := ?vzz129) ?hzz129 ?azz129 ?bzz129 ?czz129 ?qzz129 ?yzz129 ?szz129 ?rzz129
                case hzz129 => simp only [List.getElem?_toArray, List.getElem?_cons_zero, List.getElem?_cons_succ]; rfl
                case azz129 => kernel_rfl
                case bzz129 => kernel_rfl
                case czz129 => kernel_rfl
                case yzz129 =>
                  refine Or.inl ⟨by rfl, ?_⟩
                  intro w hSw
                  have x0 := box_ hSw c0; have x1 := box_ hSw c1; have x2 := box_ hSw c2; have x3 := box_ hSw c3; have x4 := box_ hSw c4; have x5 := box_ hSw c5; have x6 := box_ hSw c6; have x7 := box_ hSw c7; have x8 := box_ hSw c8; have x9 := box_ hSw c9; have x10 := box_ hSw c10; have x11 := box_ hSw c11; clear hSw
                  go_simp
                  try with_reducible rfl
                case qzz129 => exact fun _ _ _ h => h
                case szz129 => first | assumption | trivial
                case' rzz129 => simp only [Act.put, List.setIfInBounds_toArray, List.set_cons_zero, List.set_cons_succ]
                refine wpAnyH_ready (rs := [18]) (by kernel_rfl) (by simp) ?_
                refine AllReadyH.cons (o := ?ozz133) ?hzz133 (fun K hK => ?kzz133) ?mzz133
                case hzz133 => simp only [List.getElem?_toArray, List.getElem?_cons_zero, List.getElem?_cons_succ]; rfl
                case kzz133 =>
                  go_simp
                  refine (K5.out _).mono ?_
                  rintro e v5 ⟨rfl, q5⟩
                  go_wp2_with fail
                  refine hK.out _ _ ?Szz133 (fun hHeld => ?Rzz133)
                  case Szz133 =>
                    exact hHeld.trans q5
                  case Rzz133 =>
                    clear hK K
                    try simp only [Act.put, List.setIfInBounds_toArray, List.set_cons_zero, List.set_cons_succ]
                    refine wpAnyH_take (i := 19) (oi := ?ozz130) (v := ?vzz130) ?hzz130 ?azz130 ?bzz130 ?czz130 ?qzz130 ?yzz130 ?szz130 ?rzz130
                    case hzz130 => simp only [List.getElem?_toArray, List.getElem?_cons_zero, List.getElem?_cons_succ]; rfl
                    case azz130 => kernel_rfl
                    case bzz130 => kernel_rfl
                    case czz130 => kernel_rfl
                    case yzz130 =>
                      refine Or.inl ⟨by rfl, ?_⟩
                      intro w hSw
                      skip
                      go_simp
                      try with_reducible rfl
                    case qzz130 => exact fun _ _ _ h => h
                    case szz130 => first | assumption | trivial
                    case' rzz130 => simp only [Act.put, List.setIfInBounds_toArray, List.set_cons_zero, List.set_cons_succ]
                    refine wpAnyH_take (i := 20) (oi := ?ozz131) (v := ?vzz131) ?hzz131 ?azz131 ?bzz131 ?czz131 ?qzz131 ?yzz131 ?szz131 ?rzz131
                    case hzz131 => simp only [List.getElem?_toArray, List.getElem?_cons_zero, List.getElem?_cons_succ]; rfl
                    case azz131 => kernel_rfl
                    case bzz131 => kernel_rfl
                    case czz131 => kernel_rfl
                    case yzz131 =>
                      refine Or.inl ⟨by rfl, ?_⟩
                      intro w hSw
                      skip
                      go_simp
                      try with_reducible rfl
                    case qzz131 => exact fun _ _ _ h => h
                    case szz131 => first | assumption | trivial
                    case' rzz131 => simp only [Act.put, List.setIfInBounds_toArray, List.set_cons_zero, List.set_cons_succ]
                    refine wpAnyH_take (i := 21) (oi := ?ozz132) (v := ?vzz132) ?hzz132 ?azz132 ?bzz132 ?czz132 ?qzz132 ?yzz132 ?szz132 ?rzz132
                    case hzz132 => simp only [List.getElem?_toArray, List.getElem?_cons_zero, List.getElem?_cons_succ]; rfl
                    case azz132 => kernel_rfl
                    case bzz132 => kernel_rfl
                    case czz132 => kernel_rfl
                    case yzz132 =>
                      refine Or.inl ⟨by rfl, ?_⟩
                      intro w hSw
                      skip
                      go_simp
                      try with_reducible rfl
                    case qzz132 => exact fun _ _ _ h => h
                    case szz132 => first | assumption | trivial
                    case' rzz132 => simp only [Act.put, List.setIfInBounds_toArray, List.set_cons_zero, List.set_cons_succ]
                    refine wpAnyH_done (by kernel_rfl) ?_ _
                    go_wp2
                    go_ret
                    exact ⟨by first | rfl | (simp; done), BQ.out.trans hHeld⟩
                case' mzz133 => skip
                exact AllReadyH.nil
            case' mzz134 => skip
            exact AllReadyH.nil
        case' mzz135 => skip
        exact AllReadyH.nil
    case' mzz136 => skip
    exact AllReadyH.nil
  case true =>
    rw [h2, Bool.true_or] at K2
    rw [h2] at K3
    clear h2
    have B := wn_box2 w a b
    try unfold wnV at *
    go_enter Try.func9, Try.ntmps9
    go_wp2_with fail
    generalize ((w.alloc (.cells #[.int .i64 a.mode, .string a.lo, .string a.hi] 23)).alloc (.cells #[.int .i64 b.mode, .string b.lo, .string b.hi] 23)) = W0 at B ⊢
    obtain ⟨⟨c0, c1, c2⟩, ⟨c3, c4, c5⟩, bq⟩ := B
    change _ at bq
    refine (spshown_any _).mono ?_
    rintro e W ⟨rfl, q0⟩
    have c0 := box_ q0 c0
    have c1 := box_ q0 c1
    have c2 := box_ q0 c2
    have c3 := box_ q0 c3
    have c4 := box_ q0 c4
    have c5 := box_ q0 c5
    have BQ := Lib.hid (bq.trans q0)
    clear bq q0
    go_wp2_with fail
    refine (K1.out _).mono ?_
    rintro e w1 ⟨rfl, q1⟩
    have c0 := box_ q1 c0
    have c1 := box_ q1 c1
    have c2 := box_ q1 c2
    have c3 := box_ q1 c3
    have c4 := box_ q1 c4
    have c5 := box_ q1 c5
    have BQ := Lib.hid (BQ.out.trans q1)
    clear q1
    have B := wn_box2 w1 ⟨a.mode, a.lo, mid⟩ ⟨a.mode, mid, a.hi⟩
    simp only at B
    have f0 := (Q.refl w1).alloc (.cells #[.int .i64 a.mode, .string a.lo, .string mid] 23)
    have e0 := box_ f0 c0
    have e1 := box_ f0 c1
    have e2 := box_ f0 c2
    have e3 := box_ f0 c3
    have e4 := box_ f0 c4
    have e5 := box_ f0 c5
    clear f0
    go_wp2
    clear e0 e1 e2 e3 e4 e5
    generalize (w1.alloc (.cells #[.int .i64 a.mode, .string a.lo, .string mid] 23)).alloc (.cells #[.int .i64 a.mode, .string mid, .string a.hi] 23) = W2 at B ⊢
    obtain ⟨⟨c6, c7, c8⟩, ⟨c9, c10, c11⟩, bq⟩ := B
    have c0 := box_ bq c0
    have c1 := box_ bq c1
    have c2 := box_ bq c2
    have c3 := box_ bq c3
    have c4 := box_ bq c4
    have c5 := box_ bq c5
    have BQ := Lib.hid (BQ.out.trans bq)
    clear bq
    refine wp_region_held_drew (S := Q W2) (by kernel_rfl) ?szz137 (fun hHeld => ?rzz137)
    case szz137 =>
      exact (Q.refl W2).drew
    case' rzz137 => skip
    refine wpAnyH_take (i := 0) (oi := ?ozz138) (v := ?vzz138) ?hzz138 ?azz138 ?bzz138 ?czz138 ?qzz138 ?yzz138 ?szz138 ?rzz138
    case hzz138 => simp only [List.getElem?_toArray, List.getElem?_cons_zero]; rfl
    case azz138 => kernel_rfl
    case bzz138 => kernel_rfl
    case czz138 => kernel_rfl
    case yzz138 =>
      refine Or.inl ⟨by rfl, ?_⟩
      intro w hSw
      skip
      go_simp
      try with_reducible rfl
    case qzz138 => exact fun _ _ _ h => h
    case szz138 => first | assumption | trivial
    case' rzz138 => simp only [Act.put, List.setIfInBounds_toArray, List.set_cons_zero, List.set_cons_succ]
    refine wpAnyH_take (i := 1) (oi := ?ozz139) (v := ?vzz139) ?hzz139 ?azz139 ?bzz139 ?czz139 ?qzz139 ?yzz139 ?szz139 ?rzz139
    case hzz139 => simp only [List.getElem?_toArray, List.getElem?_cons_zero, List.getElem?_cons_succ]; rfl
    case azz139 => kernel_rfl
    case bzz139 => kernel_rfl
    case czz139 => kernel_rfl
    case yzz139 =>
      refine Or.inl ⟨by rfl, ?_⟩
      intro w hSw
      skip
      go_simp
      try with_reducible rfl
    case qzz139 => exact fun _ _ _ h => h
    case szz139 => first | assumption | trivial
    case' rzz139 => simp only [Act.put, List.setIfInBounds_toArray, List.set_cons_zero, List.set_cons_succ]
    refine wpAnyH_take (i := 2) (oi := ?ozz140) (v := ?vzz140) ?hzz140 ?azz140 ?bzz140 ?czz140 ?qzz140 ?yzz140 ?szz140 ?rzz140
    case hzz140 => simp only [List.getElem?_toArray, List.getElem?_cons_zero, List.getElem?_cons_succ]; rfl
    case azz140 => kernel_rfl
    case bzz140 => kernel_rfl
    case czz140 => kernel_rfl
    case yzz140 =>
      refine Or.inl ⟨by rfl, ?_⟩
      intro w hSw
      have x0 := box_ hSw c0; have x1 := box_ hSw c1; have x2 := box_ hSw c2; have x3 := box_ hSw c3; have x4 := box_ hSw c4; have x5 := box_ hSw c5; have x6 := box_ hSw c6; have x7 := box_ hSw c7; have x8 := box_ hSw c8; have x9 := box_ hSw c9; have x10 := box_ hSw c10; have x11 := box_ hSw c11; clear hSw
      go_simp
      try with_reducible rfl
    case qzz140 => exact fun _ _ _ h => h
    case szz140 => first | assumption | trivial
    case' rzz140 => simp only [Act.put, List.setIfInBounds_toArray, List.set_cons_zero, List.set_cons_succ]
    refine wpAnyH_take (i := 3) (oi := ?ozz141) (v := ?vzz141) ?hzz141 ?azz141 ?bzz141 ?czz141 ?qzz141 ?yzz141 ?szz141 ?rzz141
    case hzz141 => simp only [List.getElem?_toArray, List.getElem?_cons_zero, List.getElem?_cons_succ]; rfl
    case azz141 => kernel_rfl
    case bzz141 => kernel_rfl
    case czz141 => kernel_rfl
    case yzz141 =>
      refine Or.inl ⟨by rfl, ?_⟩
      intro w hSw
      have x0 := box_ hSw c0; have x1 := box_ hSw c1; have x2 := box_ hSw c2; have x3 := box_ hSw c3; have x4 := box_ hSw c4; have x5 := box_ hSw c5; have x6 := box_ hSw c6; have x7 := box_ hSw c7; have x8 := box_ hSw c8; have x9 := box_ hSw c9; have x10 := box_ hSw c10; have x11 := box_ hSw c11; clear hSw
      go_simp
      try with_reducible rfl
    case qzz141 => exact fun _ _ _ h => h
    case szz141 => first | assumption | trivial
    case' rzz141 => simp only [Act.put, List.setIfInBounds_toArray, List.set_cons_zero, List.set_cons_succ]
    refine wpAnyH_take (i := 5) (oi := ?ozz142) (v := ?vzz142) ?hzz142 ?azz142 ?bzz142 ?czz142 ?qzz142 ?yzz142 ?szz142 ?rzz142
    case hzz142 => simp only [List.getElem?_toArray, List.getElem?_cons_zero, List.getElem?_cons_succ]; rfl
    case azz142 => kernel_rfl
    case bzz142 => kernel_rfl
    case czz142 => kernel_rfl
    case yzz142 =>
      refine Or.inl ⟨by rfl, ?_⟩
      intro w hSw
      have x0 := box_ hSw c0; have x1 := box_ hSw c1; have x2 := box_ hSw c2; have x3 := box_ hSw c3; have x4 := box_ hSw c4; have x5 := box_ hSw c5; have x6 := box_ hSw c6; have x7 := box_ hSw c7; have x8 := box_ hSw c8; have x9 := box_ hSw c9; have x10 := box_ hSw c10; have x11 := box_ hSw c11; clear hSw
      go_simp
      try with_reducible rfl
    case qzz142 => exact fun _ _ _ h => h
    case szz142 => first | assumption | trivial
    case' rzz142 => simp only [Act.put, List.setIfInBounds_toArray, List.set_cons_zero, List.set_cons_succ]
    refine wpAnyH_take (i := 6) (oi := ?ozz143) (v := ?vzz143) ?hzz143 ?azz143 ?bzz143 ?czz143 ?qzz143 ?yzz143 ?szz143 ?rzz143
    case hzz143 => simp only [List.getElem?_toArray, List.getElem?_cons_zero, List.getElem?_cons_succ]; rfl
    case azz143 => kernel_rfl
    case bzz143 => kernel_rfl
    case czz143 => kernel_rfl
    case yzz143 =>
      refine Or.inl ⟨by rfl, ?_⟩
      intro w hSw
      have x0 := box_ hSw c0; have x1 := box_ hSw c1; have x2 := box_ hSw c2; have x3 := box_ hSw c3; have x4 := box_ hSw c4; have x5 := box_ hSw c5; have x6 := box_ hSw c6; have x7 := box_ hSw c7; have x8 := box_ hSw c8; have x9 := box_ hSw c9; have x10 := box_ hSw c10; have x11 := box_ hSw c11; clear hSw
      go_simp
      try with_reducible rfl
    case qzz143 => exact fun _ _ _ h => h
    case szz143 => first | assumption | trivial
    case' rzz143 => simp only [Act.put, List.setIfInBounds_toArray, List.set_cons_zero, List.set_cons_succ]
    refine wpAnyH_ready (rs := [4]) (by kernel_rfl) (by simp) ?_
    refine AllReadyH.cons (o := ?ozz159) ?hzz159 (fun K hK => ?kzz159) ?mzz159
    case hzz159 => simp only [List.getElem?_toArray, List.getElem?_cons_zero, List.getElem?_cons_succ]; rfl
    case kzz159 =>
      go_simp
      refine (K2.out _).mono ?_
      rintro e v2 ⟨rfl, q2⟩
      go_wp2_with fail
      refine hK.out _ _ ?Szz159 (fun hHeld => ?Rzz159)
      case Szz159 =>
        exact hHeld.trans q2
      case Rzz159 =>
        clear hK K
        try simp only [Act.put, List.setIfInBounds_toArray, List.set_cons_zero, List.set_cons_succ]
        refine wpAnyH_ready (rs := [7]) (by kernel_rfl) (by simp) ?_
        refine AllReadyH.cons (o := ?ozz158) ?hzz158 (fun K hK => ?kzz158) ?mzz158
        case hzz158 => simp only [List.getElem?_toArray, List.getElem?_cons_zero, List.getElem?_cons_succ]; rfl
        case kzz158 =>
          go_simp
          refine (K3.out _).mono ?_
          rintro e v3 ⟨rfl, q3⟩
          go_wp2_with fail
          refine hK.out _ _ ?Szz158 (fun hHeld => ?Rzz158)
          case Szz158 =>
            exact hHeld.trans q3
          case Rzz158 =>
            clear hK K
            try simp only [Act.put, List.setIfInBounds_toArray, List.set_cons_zero, List.set_cons_succ]
            refine wpAnyH_take (i := 8) (oi := ?ozz144) (v := ?vzz144) ?hzz144 ?azz144 ?bzz144 ?czz144 ?qzz144 ?yzz144 ?szz144 ?rzz144
            case hzz144 => simp only [List.getElem?_toArray, List.getElem?_cons_zero, List.getElem?_cons_succ]; rfl
            case azz144 => kernel_rfl
            case bzz144 => kernel_rfl
            case czz144 => kernel_rfl
            case yzz144 =>
              refine Or.inl ⟨by rfl, ?_⟩
              intro w hSw
              skip
              go_simp
              try with_reducible rfl
            case qzz144 => exact fun _ _ _ h => h
            case szz144 => first | assumption | trivial
            case' rzz144 => simp only [Act.put, List.setIfInBounds_toArray, List.set_cons_zero, List.set_cons_succ]
            refine wpAnyH_take (i := 9) (oi := ?ozz145) (v := undef) ?hzz145 ?azz145 ?bzz145 ?czz145 ?qzz145 ?yzz145 ?szz145 ?rzz145
            case hzz145 => simp only [List.getElem?_toArray, List.getElem?_cons_zero, List.getElem?_cons_succ]; rfl
            case azz145 => kernel_rfl
            case bzz145 => kernel_rfl
            case czz145 => kernel_rfl
            case yzz145 => exact Or.inr ⟨by rfl, rfl⟩
            case qzz145 => exact fun _ _ _ h => h
            case szz145 => first | assumption | trivial
            case' rzz145 => simp only [Act.put, List.setIfInBounds_toArray, List.set_cons_zero, List.set_cons_succ]
            refine wpAnyH_take (i := 10) (oi := ?ozz146) (v := undef) ?hzz146 ?azz146 ?bzz146 ?czz146 ?qzz146 ?yzz146 ?szz146 ?rzz146
            case hzz146 => simp only [List.getElem?_toArray, List.getElem?_cons_zero, List.getElem?_cons_succ]; rfl
            case azz146 => kernel_rfl
            case bzz146 => kernel_rfl
            case czz146 => kernel_rfl
            case yzz146 => exact Or.inr ⟨by rfl, rfl⟩
            case qzz146 => exact fun _ _ _ h => h
            case szz146 => first | assumption | trivial
            case' rzz146 => simp only [Act.put, List.setIfInBounds_toArray, List.set_cons_zero, List.set_cons_succ]
            refine wpAnyH_take (i := 11) (oi := ?ozz147) (v := undef) ?hzz147 ?azz147 ?bzz147 ?czz147 ?qzz147 ?yzz147 ?szz147 ?rzz147
            case hzz147 => simp only [List.getElem?_toArray, List.getElem?_cons_zero, List.getElem?_cons_succ]; rfl
            case azz147 => kernel_rfl
            case bzz147 => kernel_rfl
            case czz147 => kernel_rfl
            case yzz147 => exact Or.inr ⟨by rfl, rfl⟩
            case qzz147 => exact fun _ _ _ h => h
            case szz147 => first | assumption | trivial
            case' rzz147 => simp only [Act.put, List.setIfInBounds_toArray, List.set_cons_zero, List.set_cons_succ]
            refine wpAnyH_take (i := 12) (oi := ?ozz148) (v := ?vzz148) ?hzz148 ?azz148 ?bzz148 ?czz148 ?qzz148 ?yzz148 ?szz148 ?rzz148
            case hzz148 => simp only [List.getElem?_toArray, List.getElem?_cons_zero, List.getElem?_cons_succ]; rfl
            case azz148 => kernel_rfl
            case bzz148 => kernel_rfl
            case czz148 => kernel_rfl
            case yzz148 =>
              refine Or.inl ⟨by rfl, ?_⟩
              intro w hSw
              skip
              go_simp
              try with_reducible rfl
            case qzz148 => exact fun _ _ _ h => h
            case szz148 => first | assumption | trivial
            case' rzz148 => simp only [Act.put, List.setIfInBounds_toArray, List.set_cons_zero, List.set_cons_succ]
            refine wpAnyH_take (i := 13) (oi := ?ozz149) (v := ?vzz149) ?hzz149 ?azz149 ?bzz149 ?czz149 ?qzz149 ?yzz149 ?szz149 ?rzz149
            case hzz149 => simp only [List.getElem?_toArray, List.getElem?_cons_zero, List.getElem?_cons_succ]; rfl
            case azz149 => kernel_rfl
            case bzz149 => kernel_rfl
            case czz149 => kernel_rfl
            case yzz149 =>
              refine Or.inl ⟨by rfl, ?_⟩
              intro w hSw
              skip
              go_simp
              try with_reducible rfl
            case qzz149 => exact fun _ _ _ h => h
            case szz149 => first | assumption | trivial
            case' rzz149 => simp only [Act.put, List.setIfInBounds_toArray, List.set_cons_zero, List.set_cons_succ]
            refine wpAnyH_take (i := 14) (oi := ?ozz150) (v := ?vzz150) ?hzz150 ?azz150 ?bzz150 ?czz150 ?qzz150 ?yzz150 ?szz150 ?rzz150
            case hzz150 => simp only [List.getElem?_toArray, List.getElem?_cons_zero, List.getElem?_cons_succ]; rfl
            case azz150 => kernel_rfl
            case bzz150 => kernel_rfl
            case czz150 => kernel_rfl
            case yzz150 =>
              refine Or.inl ⟨by rfl, ?_⟩
              intro w hSw
              skip
              go_simp
              try with_reducible rfl
            case qzz150 => exact fun _ _ _ h => h
            case szz150 => first | assumption | trivial
            case' rzz150 => simp only [Act.put, List.setIfInBounds_toArray, List.set_cons_zero, List.set_cons_succ]
            refine wpAnyH_take (i := 15) (oi := ?ozz151) (v := ?vzz151) ?hzz151 ?azz151 ?bzz151 ?czz151 ?qzz151 ?yzz151 ?szz151 ?rzz151
            case hzz151 => simp only [List.getElem?_toArray, List.getElem?_cons_zero, List.getElem?_cons_succ]; rfl
            case azz151 => kernel_rfl
            case bzz151 => kernel_rfl
            case czz151 => kernel_rfl
            case yzz151 =>
              refine Or.inl ⟨by rfl, ?_⟩
              intro w hSw
              skip
              go_simp
              try with_reducible rfl
            case qzz151 => exact fun _ _ _ h => h
            case szz151 => first | assumption | trivial
            case' rzz151 => simp only [Act.put, List.setIfInBounds_toArray, List.set_cons_zero, List.set_cons_succ]
            refine wpAnyH_take (i := 16) (oi := ?ozz152) (v := ?vzz152) ?hzz152 ?azz152 ?bzz152 ?czz152 ?qzz152 ?yzz152 ?szz152 ?rzz152
            case hzz152 => simp only [List.getElem?_toArray, List.getElem?_cons_zero, List.getElem?_cons_succ]; rfl
            case azz152 => kernel_rfl
            case bzz152 => kernel_rfl
            case czz152 => kernel_rfl
            case yzz152 =>
              refine Or.inl ⟨by rfl, ?_⟩
              intro w hSw
              have x0 := box_ hSw c0; have x1 := box_ hSw c1; have x2 := box_ hSw c2; have x3 := box_ hSw c3; have x4 := box_ hSw c4; have x5 := box_ hSw c5; have x6 := box_ hSw c6; have x7 := box_ hSw c7; have x8 := box_ hSw c8; have x9 := box_ hSw c9; have x10 := box_ hSw c10; have x11 := box_ hSw c11; clear hSw
              go_simp
              try with_reducible rfl
            case qzz152 => exact fun _ _ _ h => h
            case szz152 => first | assumption | trivial
            case' rzz152 => simp only [Act.put, List.setIfInBounds_toArray, List.set_cons_zero, List.set_cons_succ]
            refine wpAnyH_take (i := 17) (oi := ?ozz153) (v := ?vzz153) ?hzz153 ?azz153 ?bzz153 ?czz153 ?qzz153 ?yzz153 ?szz153 ?rzz153
            case hzz153 => simp only [List.getElem?_toArray, List.getElem?_cons_zero, List.getElem?_cons_succ]; rfl
            case azz153 => kernel_rfl
            case bzz153 => kernel_rfl
            case czz153 => kernel_rfl
            case yzz153 =>
              refine Or.inl ⟨by rfl, ?_⟩
              intro w hSw
              have x0 := box_ hSw c0; have x1 := box_ hSw c1; have x2 := box_ hSw c2; have x3 := box_ hSw c3; have x4 := box_ hSw c4; have x5 := box_ hSw c5; have x6 := box_ hSw c6; have x7 := box_ hSw c7; have x8 := box_ hSw c8; have x9 := box_ hSw c9; have x10 := box_ hSw c10; have x11 := box_ hSw c11; clear hSw
              go_simp
              try with_reducible rfl
            case qzz153 => exact fun _ _ _ h => h
            case szz153 => first | assumption | trivial
            case' rzz153 => simp only [Act.put, List.setIfInBounds_toArray, List.set_cons_zero, List.set_cons_succ]
            refine wpAnyH_ready (rs := [18]) (by kernel_rfl) (by simp) ?_
            refine AllReadyH.cons (o := ?ozz157) ?hzz157 (fun K hK => ?kzz157) ?mzz157
            case hzz157 => simp only [List.getElem?_toArray, List.getElem?_cons_zero, List.getElem?_cons_succ]; rfl
            case kzz157 =>
              go_simp
              refine (K5.out _).mono ?_
              rintro e v5 ⟨rfl, q5⟩
              go_wp2_with fail
              refine hK.out _ _ ?Szz157 (fun hHeld => ?Rzz157)
              case Szz157 =>
                exact hHeld.trans q5
              case Rzz157 =>
                clear hK K
                try simp only [Act.put, List.setIfInBounds_toArray, List.set_cons_zero, List.set_cons_succ]
                refine wpAnyH_take (i := 19) (oi := ?ozz154) (v := ?vzz154) ?hzz154 ?azz154 ?bzz154 ?czz154 ?qzz154 ?yzz154 ?szz154 ?rzz154
                case hzz154 => simp only [List.getElem?_toArray, List.getElem?_cons_zero, List.getElem?_cons_succ]; rfl
                case azz154 => kernel_rfl
                case bzz154 => kernel_rfl
                case czz154 => kernel_rfl
                case yzz154 =>
                  refine Or.inl ⟨by rfl, ?_⟩
                  intro w hSw
                  skip
                  go_simp
                  try with_reducible rfl
                case qzz154 => exact fun _ _ _ h => h
                case szz154 => first | assumption | trivial
                case' rzz154 => simp only [Act.put, List.setIfInBounds_toArray, List.set_cons_zero, List.set_cons_succ]
                refine wpAnyH_take (i := 20) (oi := ?ozz155) (v := ?vzz155) ?hzz155 ?azz155 ?bzz155 ?czz155 ?qzz155 ?yzz155 ?szz155 ?rzz155
                case hzz155 => simp only [List.getElem?_toArray, List.getElem?_cons_zero, List.getElem?_cons_succ]; rfl
                case azz155 => kernel_rfl
                case bzz155 => kernel_rfl
                case czz155 => kernel_rfl
                case yzz155 =>
                  refine Or.inl ⟨by rfl, ?_⟩
                  intro w hSw
                  skip
                  go_simp
                  try with_reducible rfl
                case qzz155 => exact fun _ _ _ h => h
                case szz155 => first | assumption | trivial
                case' rzz155 => simp only [Act.put, List.setIfInBounds_toArray, List.set_cons_zero, List.set_cons_succ]
                refine wpAnyH_take (i := 21) (oi := ?ozz156) (v := ?vzz156) ?hzz156 ?azz156 ?bzz156 ?czz156 ?qzz156 ?yzz156 ?szz156 ?rzz156
                case hzz156 => simp only [List.getElem?_toArray, List.getElem?_cons_zero, List.getElem?_cons_succ]; rfl
                case azz156 => kernel_rfl
                case bzz156 => kernel_rfl
                case czz156 => kernel_rfl
                case yzz156 =>
                  refine Or.inl ⟨by rfl, ?_⟩
                  intro w hSw
                  skip
                  go_simp
                  try with_reducible rfl
                case qzz156 => exact fun _ _ _ h => h
                case szz156 => first | assumption | trivial
                case' rzz156 => simp only [Act.put, List.setIfInBounds_toArray, List.set_cons_zero, List.set_cons_succ]
                refine wpAnyH_done (by kernel_rfl) ?_ _
                go_wp2
                go_ret
                exact ⟨by first | rfl | (simp; done), BQ.out.trans hHeld⟩
            case' mzz157 => skip
            exact AllReadyH.nil
        case' mzz158 => skip
        exact AllReadyH.nil
    case' mzz159 => skip
    exact AllReadyH.nil
set_option maxHeartbeats 4000000 in
theorem walk (a : Wn) (mid : ByteArray) (b : Wn) (w : World) :
    Calls Try.prog 9 #[wnV a, .string mid, wnV b] w fun e w' => e = .returned (.bool true) ∧ Q w w' := by
  by_cases h0 : mid = ⟨#[]⟩
  · exact walk_none a mid b w h0
  · cases h1 : inS a mid with
    | false => exact walk_out a mid b w h0 h1
    | true => exact walk_in a mid b w h0 h1

theorem opened (W : World) (args : Array Value) (hn : args.size = 3) (h : ∀ (j : Nat) t v, Try.f9.params[j]? = some t → args[j]? = some v → RdV W t v) :
    Calls Try.prog 9 args W fun e W' => e = .returned (.bool true) ∧ Q W W' := by
  obtain ⟨v0, v1, v2, rfl⟩ := args3 hn
  rw [Try.params9] at h
  obtain ⟨cs0, rfl, hr0⟩ := (h 0 23 v0 rfl rfl).struct Try.underlying23
  obtain ⟨a, rfl, a0, a1, a2, a3⟩ := open_want hr0
  obtain ⟨mid, rfl, mid0⟩ := (h 1 9 v1 rfl rfl).string Try.underlying9
  obtain ⟨cs2, rfl, hr2⟩ := (h 2 23 v2 rfl rfl).struct Try.underlying23
  obtain ⟨b, rfl, b0, b1, b2, b3⟩ := open_want hr2
  exact walk a mid b W

set_option maxRecDepth 100000 in
theorem lifted (os : Os) (started : os.Started) (H : Type) (enc : TypeId × Value → H) :
    ReturnsInHanded {} Try.checked os 9 .any (Rows.spanPartsSpec.pre6 enc Try.prog Try.f9 Rows.spanPartsRow.domain false) (Rows.spanPartsSpec.post enc Try.prog Try.f9 false true false false) :=
  framed 3 Try.func9 (by rw [Try.params9]; rfl) rfl (by kernel_rfl) (by kernel_rfl) (by kernel_rfl)
    (fun H ds h => by match ds, h with | [d0, d1, d2], _ => exact ⟨rfl, rfl, rfl⟩)
    opened os started H enc
    (ChangeSpec.witness6 (enc := enc) (C := Try.checked) false ⟨#[], #[.agg #[.int .i64 0, .string ByteArray.empty, .string ByteArray.empty], .string ByteArray.empty, .agg #[.int .i64 0, .string ByteArray.empty, .string ByteArray.empty]], []⟩ 8 (by kernel_rfl) (by kernel_rfl) (by kernel_rfl) (by kernel_rfl))

theorem over : Rows.spanPartsRow.holds Try.pinned (OpenSpec.ofChange Rows.spanPartsSpec) :=
  OpenClaim.holds_of_wide 9 Try.f9 rfl rfl rfl rfl rfl rfl rfl ⟨rfl, rfl, rfl, rfl, rfl⟩ rfl rfl rfl rfl rfl (by kernel_rfl) Try.func9 (by kernel_rfl)
    (of_decide_eq_true (by kernel_rfl)) (by unfold Func.isWrapper; first | (rw [if_pos (by decide +kernel)]; kernel_rfl) | (rw [if_neg (by decide +kernel)]; exact ⟨rfl, rfl⟩))
    (fun os started H enc _ => lifted os started H enc)

theorem proved : Rows.SpanPartsSaid := over
end Go.Proofs.Ytjbjkmbipdbejaa.spanParts
