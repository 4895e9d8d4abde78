/- For every span, key and span: a span that is cut in two at a key of it overlaps another one just if a part does. No condition. -/
import Derived.Test.YtjbjkmbipdbejaaSpanIn
namespace Go.Proofs.Ytjbjkmbipdbejaa.spanParts
set_option maxRecDepth 100000
open Go.ChangeShapes Go.WideShapes Go.ChangeAt Go.RowKit Prm Sm
set_option linter.unusedVariables false
set_option linter.unusedSimpArgs false

set_option maxHeartbeats 4000000 in
theorem walk_none (a : Wn) (mid : ByteArray) (b : Wn) (w : World) (h0 : mid = ⟨#[]⟩) :
    Calls Try.prog 9 #[wnV a, .string mid, wnV b] w fun e w' => e = .returned (.bool true) ∧ Q w w' := by
  subst h0
  have B := wn_box2 w a b
  try unfold wnV at *
  go_enter Try.func9, Try.ntmps9
  go_wp2_with fail
  generalize ((w.alloc (.cells #[.int .i64 a.mode, .string a.lo, .string a.hi] 23)).alloc (.cells #[.int .i64 b.mode, .string b.lo, .string b.hi] 23)) = W0 at B ⊢
  obtain ⟨⟨c0, c1, c2⟩, ⟨c3, c4, c5⟩, bq⟩ := B
  change _ at bq
  refine (spshown_any _).mono ?_
  rintro e W ⟨rfl, q0⟩
  have c0 := box_ q0 c0
  have c1 := box_ q0 c1
  have c2 := box_ q0 c2
  have c3 := box_ q0 c3
  have c4 := box_ q0 c4
  have c5 := box_ q0 c5
  have BQ := Lib.hid (bq.trans q0)
  clear bq q0
  go_wp2
  go_ret
  exact ⟨rfl, BQ.out⟩
set_option maxHeartbeats 4000000 in
theorem walk_out (a : Wn) (mid : ByteArray) (b : Wn) (w : World) (h0 : ¬ mid = ⟨#[]⟩) (h1 : inS a mid = false) :
    Calls Try.prog 9 #[wnV a, .string mid, wnV b] w fun e w' => e = .returned (.bool true) ∧ Q w w' := by
  have K1 := Lib.hid (fun W => sin_any a mid W)
  rw [h1] at K1
  obtain ⟨n1, n2, n3⟩ := no_empty h0
  clear h0 h1
  have B := wn_box2 w a b
  try unfold wnV at *
  go_enter Try.func9, Try.ntmps9
  go_wp2_with fail
  generalize ((w.alloc (.cells #[.int .i64 a.mode, .string a.lo, .string a.hi] 23)).alloc (.cells #[.int .i64 b.mode, .string b.lo, .string b.hi] 23)) = W0 at B ⊢
  obtain ⟨⟨c0, c1, c2⟩, ⟨c3, c4, c5⟩, bq⟩ := B
  change _ at bq
  refine (spshown_any _).mono ?_
  rintro e W ⟨rfl, q0⟩
  have c0 := box_ q0 c0
  have c1 := box_ q0 c1
  have c2 := box_ q0 c2
  have c3 := box_ q0 c3
  have c4 := box_ q0 c4
  have c5 := box_ q0 c5
  have BQ := Lib.hid (bq.trans q0)
  clear bq q0
  go_wp2_with fail
  refine (K1.out _).mono ?_
  rintro e w1 ⟨rfl, q1⟩
  go_wp2
  go_ret
  exact ⟨rfl, BQ.out.trans q1⟩
set_option maxHeartbeats 4000000 in
theorem walk_mid (a : Wn) (mid : ByteArray) (b : Wn) (w : World) (h0 : ¬ mid = ⟨#[]⟩) (h1 : inS a mid = true) :
    Calls Try.prog 9 #[wnV a, .string mid, wnV b] w fun e w' => e = .returned (.bool true) ∧ Q w w' := by
  have K1 := Lib.hid (fun W => sin_any a mid W)
  rw [h1] at K1
  have K2 := Lib.hid (fun W => sover_any a b W)
  have K3 := Lib.hid (fun W => sover_any ⟨a.mode, a.lo, mid⟩ b W)
  have K4 := Lib.hid (fun W => sover_any ⟨a.mode, mid, a.hi⟩ b W)
  have K5 := Lib.hid (fun W => sover_any ⟨a.mode, a.lo, mid⟩ ⟨a.mode, mid, a.hi⟩ W)
  rw [parts_apart a.mode a.lo mid a.hi h0] at K5
  rw [parts a b mid h0 h1] at K2
  obtain ⟨n1, n2, n3⟩ := no_empty h0
  clear h0 h1
  generalize over ⟨a.mode, mid, a.hi⟩ b = y at *
  have r1 := beq_rr y
  cases h2 : over ⟨a.mode, a.lo, mid⟩ b
  case false =>
    rw [h2, Bool.false_or] at K2
    rw [h2] at K3
    clear h2
    have B := wn_box2 w a b
    try unfold wnV at *
    go_enter Try.func9, Try.ntmps9
    go_wp2_with fail
    generalize ((w.alloc (.cells #[.int .i64 a.mode, .string a.lo, .string a.hi] 23)).alloc (.cells #[.int .i64 b.mode, .string b.lo, .string b.hi] 23)) = W0 at B ⊢
    obtain ⟨⟨c0, c1, c2⟩, ⟨c3, c4, c5⟩, bq⟩ := B
    change _ at bq
    refine (spshown_any _).mono ?_
    rintro e W ⟨rfl, q0⟩
    have c0 := box_ q0 c0
    have c1 := box_ q0 c1
    have c2 := box_ q0 c2
    have c3 := box_ q0 c3
    have c4 := box_ q0 c4
    have c5 := box_ q0 c5
    have BQ := Lib.hid (bq.trans q0)
    clear bq q0
    go_wp2_with fail
    refine (K1.out _).mono ?_
    rintro e w1 ⟨rfl, q1⟩
    have c0 := box_ q1 c0
    have c1 := box_ q1 c1
    have c2 := box_ q1 c2
    have c3 := box_ q1 c3
    have c4 := box_ q1 c4
    have c5 := box_ q1 c5
    have BQ := Lib.hid (BQ.out.trans q1)
    clear q1
    have B := wn_box2 w1 ⟨a.mode, a.lo, mid⟩ ⟨a.mode, mid, a.hi⟩
    simp only at B
    have f0 := (Q.refl w1).alloc (.cells #[.int .i64 a.mode, .string a.lo, .string mid] 23)
    have e0 := box_ f0 c0
    have e1 := box_ f0 c1
    have e2 := box_ f0 c2
    have e3 := box_ f0 c3
    have e4 := box_ f0 c4
    have e5 := box_ f0 c5
    clear f0
    go_wp2
    clear e0 e1 e2 e3 e4 e5
    generalize (w1.alloc (.cells #[.int .i64 a.mode, .string a.lo, .string mid] 23)).alloc (.cells #[.int .i64 a.mode, .string mid, .string a.hi] 23) = W2 at B ⊢
    obtain ⟨⟨c6, c7, c8⟩, ⟨c9, c10, c11⟩, bq⟩ := B
    have c0 := box_ bq c0
    have c1 := box_ bq c1
    have c2 := box_ bq c2
    have c3 := box_ bq c3
    have c4 := box_ bq c4
    have c5 := box_ bq c5
    have BQ := Lib.hid (BQ.out.trans bq)
    clear bq
    refine wp_region_held_drew (S := Q W2) (by kernel_rfl) ?szz0 (fun hHeld => ?rzz0)
    case szz0 =>
      exact (Q.refl W2).drew
    case' rzz0 => skip
    refine wpAnyH_take (i := 0) (oi := ?ozz1) (v := ?vzz1) ?hzz1 ?azz1 ?bzz1 ?czz1 ?qzz1 ?yzz1 ?szz1 ?rzz1
    case hzz1 => simp only [List.getElem?_toArray, List.getElem?_cons_zero]; rfl
    case azz1 => kernel_rfl
    case bzz1 => kernel_rfl
    case czz1 => kernel_rfl
    case yzz1 =>
      refine Or.inl ⟨by rfl, ?_⟩
      intro w hSw
      skip
      go_simp
      try with_reducible rfl
    case qzz1 => exact fun _ _ _ h => h
    case szz1 => first | assumption | trivial
    case' rzz1 => simp only [Act.put, List.setIfInBounds_toArray, List.set_cons_zero, List.set_cons_succ]
    refine wpAnyH_take (i := 1) (oi := ?ozz2) (v := ?vzz2) ?hzz2 ?azz2 ?bzz2 ?czz2 ?qzz2 ?yzz2 ?szz2 ?rzz2
    case hzz2 => simp only [List.getElem?_toArray, List.getElem?_cons_zero, List.getElem?_cons_succ]; rfl
    case azz2 => kernel_rfl
    case bzz2 => kernel_rfl
    case czz2 => kernel_rfl
    case yzz2 =>
      refine Or.inl ⟨by rfl, ?_⟩
      intro w hSw
      skip
      go_simp
      try with_reducible rfl
    case qzz2 => exact fun _ _ _ h => h
    case szz2 => first | assumption | trivial
    case' rzz2 => simp only [Act.put, List.setIfInBounds_toArray, List.set_cons_zero, List.set_cons_succ]
    refine wpAnyH_take (i := 2) (oi := ?ozz3) (v := ?vzz3) ?hzz3 ?azz3 ?bzz3 ?czz3 ?qzz3 ?yzz3 ?szz3 ?rzz3
    case hzz3 => simp only [List.getElem?_toArray, List.getElem?_cons_zero, List.getElem?_cons_succ]; rfl
    case azz3 => kernel_rfl
    case bzz3 => kernel_rfl
    case czz3 => kernel_rfl
    case yzz3 =>
      refine Or.inl ⟨by rfl, ?_⟩
      intro w hSw
      have x0 := box_ hSw c0; have x1 := box_ hSw c1; have x2 := box_ hSw c2; have x3 := box_ hSw c3; have x4 := box_ hSw c4; have x5 := box_ hSw c5; have x6 := box_ hSw c6; have x7 := box_ hSw c7; have x8 := box_ hSw c8; have x9 := box_ hSw c9; have x10 := box_ hSw c10; have x11 := box_ hSw c11; clear hSw
      go_simp
      try with_reducible rfl
    case qzz3 => exact fun _ _ _ h => h
    case szz3 => first | assumption | trivial
    case' rzz3 => simp only [Act.put, List.setIfInBounds_toArray, List.set_cons_zero, List.set_cons_succ]
    refine wpAnyH_take (i := 3) (oi := ?ozz4) (v := ?vzz4) ?hzz4 ?azz4 ?bzz4 ?czz4 ?qzz4 ?yzz4 ?szz4 ?rzz4
    case hzz4 => simp only [List.getElem?_toArray, List.getElem?_cons_zero, List.getElem?_cons_succ]; rfl
    case azz4 => kernel_rfl
    case bzz4 => kernel_rfl
    case czz4 => kernel_rfl
    case yzz4 =>
      refine Or.inl ⟨by rfl, ?_⟩
      intro w hSw
      have x0 := box_ hSw c0; have x1 := box_ hSw c1; have x2 := box_ hSw c2; have x3 := box_ hSw c3; have x4 := box_ hSw c4; have x5 := box_ hSw c5; have x6 := box_ hSw c6; have x7 := box_ hSw c7; have x8 := box_ hSw c8; have x9 := box_ hSw c9; have x10 := box_ hSw c10; have x11 := box_ hSw c11; clear hSw
      go_simp
      try with_reducible rfl
    case qzz4 => exact fun _ _ _ h => h
    case szz4 => first | assumption | trivial
    case' rzz4 => simp only [Act.put, List.setIfInBounds_toArray, List.set_cons_zero, List.set_cons_succ]
    refine wpAnyH_take (i := 5) (oi := ?ozz5) (v := ?vzz5) ?hzz5 ?azz5 ?bzz5 ?czz5 ?qzz5 ?yzz5 ?szz5 ?rzz5
    case hzz5 => simp only [List.getElem?_toArray, List.getElem?_cons_zero, List.getElem?_cons_succ]; rfl
    case azz5 => kernel_rfl
    case bzz5 => kernel_rfl
    case czz5 => kernel_rfl
    case yzz5 =>
      refine Or.inl ⟨by rfl, ?_⟩
      intro w hSw
      have x0 := box_ hSw c0; have x1 := box_ hSw c1; have x2 := box_ hSw c2; have x3 := box_ hSw c3; have x4 := box_ hSw c4; have x5 := box_ hSw c5; have x6 := box_ hSw c6; have x7 := box_ hSw c7; have x8 := box_ hSw c8; have x9 := box_ hSw c9; have x10 := box_ hSw c10; have x11 := box_ hSw c11; clear hSw
      go_simp
      try with_reducible rfl
    case qzz5 => exact fun _ _ _ h => h
    case szz5 => first | assumption | trivial
    case' rzz5 => simp only [Act.put, List.setIfInBounds_toArray, List.set_cons_zero, List.set_cons_succ]
    refine wpAnyH_take (i := 6) (oi := ?ozz6) (v := ?vzz6) ?hzz6 ?azz6 ?bzz6 ?czz6 ?qzz6 ?yzz6 ?szz6 ?rzz6
    case hzz6 => simp only [List.getElem?_toArray, List.getElem?_cons_zero, List.getElem?_cons_succ]; rfl
    case azz6 => kernel_rfl
    case bzz6 => kernel_rfl
    case czz6 => kernel_rfl
    case yzz6 =>
      refine Or.inl ⟨by rfl, ?_⟩
      intro w hSw
      have x0 := box_ hSw c0; have x1 := box_ hSw c1; have x2 := box_ hSw c2; have x3 := box_ hSw c3; have x4 := box_ hSw c4; have x5 := box_ hSw c5; have x6 := box_ hSw c6; have x7 := box_ hSw c7; have x8 := box_ hSw c8; have x9 := box_ hSw c9; have x10 := box_ hSw c10; have x11 := box_ hSw c11; clear hSw
      go_simp
      try with_reducible rfl
    case qzz6 => exact fun _ _ _ h => h
    case szz6 => first | assumption | trivial
    case' rzz6 => simp only [Act.put, List.setIfInBounds_toArray, List.set_cons_zero, List.set_cons_succ]
    refine wpAnyH_ready (rs := [4]) (by kernel_rfl) (by simp) ?_
    refine AllReadyH.cons (o := ?ozz22) ?hzz22 (fun K hK => ?kzz22) ?mzz22
    case hzz22 => simp only [List.getElem?_toArray, List.getElem?_cons_zero, List.getElem?_cons_succ]; rfl
    case kzz22 =>
      go_simp
      refine (K2.out _).mono ?_
      rintro e v2 ⟨rfl, q2⟩
      go_wp2_with fail
      refine hK.out _ _ ?Szz22 (fun hHeld => ?Rzz22)
      case Szz22 =>
        exact hHeld.trans q2
      case Rzz22 =>
        clear hK K
        try simp only [Act.put, List.setIfInBounds_toArray, List.set_cons_zero, List.set_cons_succ]
        refine wpAnyH_ready (rs := [7]) (by kernel_rfl) (by simp) ?_
        refine AllReadyH.cons (o := ?ozz21) ?hzz21 (fun K hK => ?kzz21) ?mzz21
        case hzz21 => simp only [List.getElem?_toArray, List.getElem?_cons_zero, List.getElem?_cons_succ]; rfl
        case kzz21 =>
          go_simp
          refine (K3.out _).mono ?_
          rintro e v3 ⟨rfl, q3⟩
          go_wp2_with fail
          refine hK.out _ _ ?Szz21 (fun hHeld => ?Rzz21)
          case Szz21 =>
            exact hHeld.trans q3
          case Rzz21 =>
            clear hK K
            try simp only [Act.put, List.setIfInBounds_toArray, List.set_cons_zero, List.set_cons_succ]
            refine wpAnyH_take (i := 8) (oi := ?ozz7) (v := ?vzz7) ?hzz7 ?azz7 ?bzz7 ?czz7 ?qzz7 ?yzz7 ?szz7 ?rzz7
            case hzz7 => simp only [List.getElem?_toArray, List.getElem?_cons_zero, List.getElem?_cons_succ]; rfl
            case azz7 => kernel_rfl
            case bzz7 => kernel_rfl
            case czz7 => kernel_rfl
            case yzz7 =>
              refine Or.inl ⟨by rfl, ?_⟩
              intro w hSw
              skip
              go_simp
              try with_reducible rfl
            case qzz7 => exact fun _ _ _ h => h
            case szz7 => first | assumption | trivial
            case' rzz7 => simp only [Act.put, List.setIfInBounds_toArray, List.set_cons_zero, List.set_cons_succ]
            refine wpAnyH_take (i := 9) (oi := ?ozz8) (v := ?vzz8) ?hzz8 ?azz8 ?bzz8 ?czz8 ?qzz8 ?yzz8 ?szz8 ?rzz8
            case hzz8 => simp only [List.getElem?_toArray, List.getElem?_cons_zero, List.getElem?_cons_succ]; rfl
            case azz8 => kernel_rfl
            case bzz8 => kernel_rfl
            case czz8 => kernel_rfl
            case yzz8 =>
              refine Or.inl ⟨by rfl, ?_⟩
              intro w hSw
              have x0 := box_ hSw c0; have x1 := box_ hSw c1; have x2 := box_ hSw c2; have x3 := box_ hSw c3; have x4 := box_ hSw c4; have x5 := box_ hSw c5; have x6 := box_ hSw c6; have x7 := box_ hSw c7; have x8 := box_ hSw c8; have x9 := box_ hSw c9; have x10 := box_ hSw c10; have x11 := box_ hSw c11; clear hSw
              go_simp
              try with_reducible rfl
            case qzz8 => exact fun _ _ _ h => h
            case szz8 => first | assumption | trivial
            case' rzz8 => simp only [Act.put, List.setIfInBounds_toArray, List.set_cons_zero, List.set_cons_succ]
            refine wpAnyH_take (i := 10) (oi := ?ozz9) (v := ?vzz9) ?hzz9 ?azz9 ?bzz9 ?czz9 ?qzz9 ?yzz9 ?szz9 ?rzz9
            case hzz9 => simp only [List.getElem?_toArray, List.getElem?_cons_zero, List.getElem?_cons_succ]; rfl
            case azz9 => kernel_rfl
            case bzz9 => kernel_rfl
            case czz9 => kernel_rfl
            case yzz9 =>
              refine Or.inl ⟨by rfl, ?_⟩
              intro w hSw
              have x0 := box_ hSw c0; have x1 := box_ hSw c1; have x2 := box_ hSw c2; have x3 := box_ hSw c3; have x4 := box_ hSw c4; have x5 := box_ hSw c5; have x6 := box_ hSw c6; have x7 := box_ hSw c7; have x8 := box_ hSw c8; have x9 := box_ hSw c9; have x10 := box_ hSw c10; have x11 := box_ hSw c11; clear hSw
              go_simp
              try with_reducible rfl
            case qzz9 => exact fun _ _ _ h => h
            case szz9 => first | assumption | trivial
            case' rzz9 => simp only [Act.put, List.setIfInBounds_toArray, List.set_cons_zero, List.set_cons_succ]
            refine wpAnyH_ready (rs := [11]) (by kernel_rfl) (by simp) ?_
            refine AllReadyH.cons (o := ?ozz20) ?hzz20 (fun K hK => ?kzz20) ?mzz20
            case hzz20 => simp only [List.getElem?_toArray, List.getElem?_cons_zero, List.getElem?_cons_succ]; rfl
            case kzz20 =>
              go_simp
              refine (K4.out _).mono ?_
              rintro e v4 ⟨rfl, q4⟩
              go_wp2_with fail
              refine hK.out _ _ ?Szz20 (fun hHeld => ?Rzz20)
              case Szz20 =>
                exact hHeld.trans q4
              case Rzz20 =>
                clear hK K
                try simp only [Act.put, List.setIfInBounds_toArray, List.set_cons_zero, List.set_cons_succ]
                refine wpAnyH_take (i := 12) (oi := ?ozz10) (v := ?vzz10) ?hzz10 ?azz10 ?bzz10 ?czz10 ?qzz10 ?yzz10 ?szz10 ?rzz10
                case hzz10 => simp only [List.getElem?_toArray, List.getElem?_cons_zero, List.getElem?_cons_succ]; rfl
                case azz10 => kernel_rfl
                case bzz10 => kernel_rfl
                case czz10 => kernel_rfl
                case yzz10 =>
                  refine Or.inl ⟨by rfl, ?_⟩
                  intro w hSw
                  skip
                  go_simp
                  try with_reducible rfl
                case qzz10 => exact fun _ _ _ h => h
                case szz10 => first | assumption | trivial
                case' rzz10 => simp only [Act.put, List.setIfInBounds_toArray, List.set_cons_zero, List.set_cons_succ]
                refine wpAnyH_take (i := 13) (oi := ?ozz11) (v := ?vzz11) ?hzz11 ?azz11 ?bzz11 ?czz11 ?qzz11 ?yzz11 ?szz11 ?rzz11
                case hzz11 => simp only [List.getElem?_toArray, List.getElem?_cons_zero, List.getElem?_cons_succ]; rfl
                case azz11 => kernel_rfl
                case bzz11 => kernel_rfl
                case czz11 => kernel_rfl
                case yzz11 =>
                  refine Or.inl ⟨by rfl, ?_⟩
                  intro w hSw
                  skip
                  go_simp
                  try with_reducible rfl
                case qzz11 => exact fun _ _ _ h => h
                case szz11 => first | assumption | trivial
                case' rzz11 => simp only [Act.put, List.setIfInBounds_toArray, List.set_cons_zero, List.set_cons_succ]
                refine wpAnyH_take (i := 14) (oi := ?ozz12) (v := ?vzz12) ?hzz12 ?azz12 ?bzz12 ?czz12 ?qzz12 ?yzz12 ?szz12 ?rzz12
                case hzz12 => simp only [List.getElem?_toArray, List.getElem?_cons_zero, List.getElem?_cons_succ]; rfl
                case azz12 => kernel_rfl
                case bzz12 => kernel_rfl
                case czz12 => kernel_rfl
                case yzz12 =>
                  refine Or.inl ⟨by rfl, ?_⟩
                  intro w hSw
                  skip
                  go_simp
                  try with_reducible rfl
                case qzz12 => exact fun _ _ _ h => h
                case szz12 => first | assumption | trivial
                case' rzz12 => simp only [Act.put, List.setIfInBounds_toArray, List.set_cons_zero, List.set_cons_succ]
                refine wpAnyH_take (i := 15) (oi := ?ozz13) (v := ?vzz13) ?hzz13 ?azz13 ?bzz13 ?czz13 ?qzz13 ?yzz13 ?szz13 ?rzz13
                case hzz13 => simp only [List.getElem?_toArray, List.getElem?_cons_zero, List.getElem?_cons_succ]; rfl
                case azz13 => kernel_rfl
                case bzz13 => kernel_rfl
                case czz13 => kernel_rfl
                case yzz13 =>
                  refine Or.inl ⟨by rfl, ?_⟩
                  intro w hSw
                  skip
                  go_simp
                  try with_reducible rfl
                case qzz13 => exact fun _ _ _ h => h
                case szz13 => first | assumption | trivial
                case' rzz13 => simp only [Act.put, List.setIfInBounds_toArray, List.set_cons_zero, List.set_cons_succ]
                refine wpAnyH_take (i := 16) (oi := ?ozz14) (v := ?vzz14) ?hzz14 ?azz14 ?bzz14 ?czz14 ?qzz14 ?yzz14 ?szz14 ?rzz14
                case hzz14 => simp only [List.getElem?_toArray, List.getElem?_cons_zero, List.getElem?_cons_succ]; rfl
                case azz14 => kernel_rfl
                case bzz14 => kernel_rfl
                case czz14 => kernel_rfl
                case yzz14 =>
                  refine Or.inl ⟨by rfl, ?_⟩
                  intro w hSw
                  have x0 := box_ hSw c0; have x1 := box_ hSw c1; have x2 := box_ hSw c2; have x3 := box_ hSw c3; have x4 := box_ hSw c4; have x5 := box_ hSw c5; have x6 := box_ hSw c6; have x7 := box_ hSw c7; have x8 := box_ hSw c8; have x9 := box_ hSw c9; have x10 := box_ hSw c10; have x11 := box_ hSw c11; clear hSw
                  go_simp
                  try with_reducible rfl
                case qzz14 => exact fun _ _ _ h => h
                case szz14 => first | assumption | trivial
                case' rzz14 => simp only [Act.put, List.setIfInBounds_toArray, List.set_cons_zero, List.set_cons_succ]
                refine wpAnyH_take (i := 17) (oi := ?ozz15) (v := ?vzz15) ?hzz15 ?azz15 ?bzz15 ?czz15 ?qzz15 ?yzz15 ?szz15 ?rzz15
                case hzz15 => simp only [List.getElem?_toArray, List.getElem?_cons_zero, List.getElem?_cons_succ]; rfl
                case azz15 => kernel_rfl
                case bzz15 => kernel_rfl
                case czz15 => kernel_rfl
                case yzz15 =>
                  refine Or.inl ⟨by rfl, ?_⟩
                  intro w hSw
                  have x0 := box_ hSw c0; have x1 := box_ hSw c1; have x2 := box_ hSw c2; have x3 := box_ hSw c3; have x4 := box_ hSw c4; have x5 := box_ hSw c5; have x6 := box_ hSw c6; have x7 := box_ hSw c7; have x8 := box_ hSw c8; have x9 := box_ hSw c9; have x10 := box_ hSw c10; have x11 := box_ hSw c11; clear hSw
                  go_simp
                  try with_reducible rfl
                case qzz15 => exact fun _ _ _ h => h
                case szz15 => first | assumption | trivial
                case' rzz15 => simp only [Act.put, List.setIfInBounds_toArray, List.set_cons_zero, List.set_cons_succ]
                refine wpAnyH_ready (rs := [18]) (by kernel_rfl) (by simp) ?_
                refine AllReadyH.cons (o := ?ozz19) ?hzz19 (fun K hK => ?kzz19) ?mzz19
                case hzz19 => simp only [List.getElem?_toArray, List.getElem?_cons_zero, List.getElem?_cons_succ]; rfl
                case kzz19 =>
                  go_simp
                  refine (K5.out _).mono ?_
                  rintro e v5 ⟨rfl, q5⟩
                  go_wp2_with fail
                  refine hK.out _ _ ?Szz19 (fun hHeld => ?Rzz19)
                  case Szz19 =>
                    exact hHeld.trans q5
                  case Rzz19 =>
                    clear hK K
                    try simp only [Act.put, List.setIfInBounds_toArray, List.set_cons_zero, List.set_cons_succ]
                    refine wpAnyH_take (i := 19) (oi := ?ozz16) (v := ?vzz16) ?hzz16 ?azz16 ?bzz16 ?czz16 ?qzz16 ?yzz16 ?szz16 ?rzz16
                    case hzz16 => simp only [List.getElem?_toArray, List.getElem?_cons_zero, List.getElem?_cons_succ]; rfl
                    case azz16 => kernel_rfl
                    case bzz16 => kernel_rfl
                    case czz16 => kernel_rfl
                    case yzz16 =>
                      refine Or.inl ⟨by rfl, ?_⟩
                      intro w hSw
                      skip
                      go_simp
                      try with_reducible rfl
                    case qzz16 => exact fun _ _ _ h => h
                    case szz16 => first | assumption | trivial
                    case' rzz16 => simp only [Act.put, List.setIfInBounds_toArray, List.set_cons_zero, List.set_cons_succ]
                    refine wpAnyH_take (i := 20) (oi := ?ozz17) (v := ?vzz17) ?hzz17 ?azz17 ?bzz17 ?czz17 ?qzz17 ?yzz17 ?szz17 ?rzz17
                    case hzz17 => simp only [List.getElem?_toArray, List.getElem?_cons_zero, List.getElem?_cons_succ]; rfl
                    case azz17 => kernel_rfl
                    case bzz17 => kernel_rfl
                    case czz17 => kernel_rfl
                    case yzz17 =>
                      refine Or.inl ⟨by rfl, ?_⟩
                      intro w hSw
                      skip
                      go_simp
                      try with_reducible rfl
                    case qzz17 => exact fun _ _ _ h => h
                    case szz17 => first | assumption | trivial
                    case' rzz17 => simp only [Act.put, List.setIfInBounds_toArray, List.set_cons_zero, List.set_cons_succ]
                    refine wpAnyH_take (i := 21) (oi := ?ozz18) (v := ?vzz18) ?hzz18 ?azz18 ?bzz18 ?czz18 ?qzz18 ?yzz18 ?szz18 ?rzz18
                    case hzz18 => simp only [List.getElem?_toArray, List.getElem?_cons_zero, List.getElem?_cons_succ]; rfl
                    case azz18 => kernel_rfl
                    case bzz18 => kernel_rfl
                    case czz18 => kernel_rfl
                    case yzz18 =>
                      refine Or.inl ⟨by rfl, ?_⟩
                      intro w hSw
                      skip
                      go_simp
                      try with_reducible rfl
                    case qzz18 => exact fun _ _ _ h => h
                    case szz18 => first | assumption | trivial
                    case' rzz18 => simp only [Act.put, List.setIfInBounds_toArray, List.set_cons_zero, List.set_cons_succ]
                    refine wpAnyH_done (by kernel_rfl) ?_ _
                    go_wp2
                    go_ret
                    exact ⟨by first | rfl | (simp; done), BQ.out.trans hHeld⟩
                case' mzz19 => skip
                exact AllReadyH.nil
            case' mzz20 => skip
            exact AllReadyH.nil
        case' mzz21 => skip
        exact AllReadyH.nil
    case' mzz22 => skip
    exact AllReadyH.nil
  case true =>
    rw [h2, Bool.true_or] at K2
    rw [h2] at K3
    clear h2
    have B := wn_box2 w a b
    try unfold wnV at *
    go_enter Try.func9, Try.ntmps9
    go_wp2_with fail
    generalize ((w.alloc (.cells #[.int .i64 a.mode, .string a.lo, .string a.hi] 23)).alloc (.cells #[.int .i64 b.mode, .string b.lo, .string b.hi] 23)) = W0 at B ⊢
    obtain ⟨⟨c0, c1, c2⟩, ⟨c3, c4, c5⟩, bq⟩ := B
    change _ at bq
    refine (spshown_any _).mono ?_
    rintro e W ⟨rfl, q0⟩
    have c0 := box_ q0 c0
    have c1 := box_ q0 c1
    have c2 := box_ q0 c2
    have c3 := box_ q0 c3
    have c4 := box_ q0 c4
    have c5 := box_ q0 c5
    have BQ := Lib.hid (bq.trans q0)
    clear bq q0
    go_wp2_with fail
    refine (K1.out _).mono ?_
    rintro e w1 ⟨rfl, q1⟩
    have c0 := box_ q1 c0
    have c1 := box_ q1 c1
    have c2 := box_ q1 c2
    have c3 := box_ q1 c3
    have c4 := box_ q1 c4
    have c5 := box_ q1 c5
    have BQ := Lib.hid (BQ.out.trans q1)
    clear q1
    have B := wn_box2 w1 ⟨a.mode, a.lo, mid⟩ ⟨a.mode, mid, a.hi⟩
    simp only at B
    have f0 := (Q.refl w1).alloc (.cells #[.int .i64 a.mode, .string a.lo, .string mid] 23)
    have e0 := box_ f0 c0
    have e1 := box_ f0 c1
    have e2 := box_ f0 c2
    have e3 := box_ f0 c3
    have e4 := box_ f0 c4
    have e5 := box_ f0 c5
    clear f0
    go_wp2
    clear e0 e1 e2 e3 e4 e5
    generalize (w1.alloc (.cells #[.int .i64 a.mode, .string a.lo, .string mid] 23)).alloc (.cells #[.int .i64 a.mode, .string mid, .string a.hi] 23) = W2 at B ⊢
    obtain ⟨⟨c6, c7, c8⟩, ⟨c9, c10, c11⟩, bq⟩ := B
    have c0 := box_ bq c0
    have c1 := box_ bq c1
    have c2 := box_ bq c2
    have c3 := box_ bq c3
    have c4 := box_ bq c4
    have c5 := box_ bq c5
    have BQ := Lib.hid (BQ.out.trans bq)
    clear bq
    refine wp_region_held_drew (S := Q W2) (by kernel_rfl) ?szz23 (fun hHeld => ?rzz23)
    case szz23 =>
      exact (Q.refl W2).drew
    case' rzz23 => skip
    refine wpAnyH_take (i := 0) (oi := ?ozz24) (v := ?vzz24) ?hzz24 ?azz24 ?bzz24 ?czz24 ?qzz24 ?yzz24 ?szz24 ?rzz24
    case hzz24 => simp only [List.getElem?_toArray, List.getElem?_cons_zero]; rfl
    case azz24 => kernel_rfl
    case bzz24 => kernel_rfl
    case czz24 => kernel_rfl
    case yzz24 =>
      refine Or.inl ⟨by rfl, ?_⟩
      intro w hSw
      skip
      go_simp
      try with_reducible rfl
    case qzz24 => exact fun _ _ _ h => h
    case szz24 => first | assumption | trivial
    case' rzz24 => simp only [Act.put, List.setIfInBounds_toArray, List.set_cons_zero, List.set_cons_succ]
    refine wpAnyH_take (i := 1) (oi := ?ozz25) (v := ?vzz25) ?hzz25 ?azz25 ?bzz25 ?czz25 ?qzz25 ?yzz25 ?szz25 ?rzz25
    case hzz25 => simp only [List.getElem?_toArray, List.getElem?_cons_zero, List.getElem?_cons_succ]; rfl
    case azz25 => kernel_rfl
    case bzz25 => kernel_rfl
    case czz25 => kernel_rfl
    case yzz25 =>
      refine Or.inl ⟨by rfl, ?_⟩
      intro w hSw
      skip
      go_simp
      try with_reducible rfl
    case qzz25 => exact fun _ _ _ h => h
    case szz25 => first | assumption | trivial
    case' rzz25 => simp only [Act.put, List.setIfInBounds_toArray, List.set_cons_zero, List.set_cons_succ]
    refine wpAnyH_take (i := 2) (oi := ?ozz26) (v := ?vzz26) ?hzz26 ?azz26 ?bzz26 ?czz26 ?qzz26 ?yzz26 ?szz26 ?rzz26
    case hzz26 => simp only [List.getElem?_toArray, List.getElem?_cons_zero, List.getElem?_cons_succ]; rfl
    case azz26 => kernel_rfl
    case bzz26 => kernel_rfl
    case czz26 => kernel_rfl
    case yzz26 =>
      refine Or.inl ⟨by rfl, ?_⟩
      intro w hSw
      have x0 := box_ hSw c0; have x1 := box_ hSw c1; have x2 := box_ hSw c2; have x3 := box_ hSw c3; have x4 := box_ hSw c4; have x5 := box_ hSw c5; have x6 := box_ hSw c6; have x7 := box_ hSw c7; have x8 := box_ hSw c8; have x9 := box_ hSw c9; have x10 := box_ hSw c10; have x11 := box_ hSw c11; clear hSw
      go_simp
      try with_reducible rfl
    case qzz26 => exact fun _ _ _ h => h
    case szz26 => first | assumption | trivial
    case' rzz26 => simp only [Act.put, List.setIfInBounds_toArray, List.set_cons_zero, List.set_cons_succ]
    refine wpAnyH_take (i := 3) (oi := ?ozz27) (v := ?vzz27) ?hzz27 ?azz27 ?bzz27 ?czz27 ?qzz27 ?yzz27 ?szz27 ?rzz27
    case hzz27 => simp only [List.getElem?_toArray, List.getElem?_cons_zero, List.getElem?_cons_succ]; rfl
    case azz27 => kernel_rfl
    case bzz27 => kernel_rfl
    case czz27 => kernel_rfl
    case yzz27 =>
      refine Or.inl ⟨by rfl, ?_⟩
      intro w hSw
      have x0 := box_ hSw c0; have x1 := box_ hSw c1; have x2 := box_ hSw c2; have x3 := box_ hSw c3; have x4 := box_ hSw c4; have x5 := box_ hSw c5; have x6 := box_ hSw c6; have x7 := box_ hSw c7; have x8 := box_ hSw c8; have x9 := box_ hSw c9; have x10 := box_ hSw c10; have x11 := box_ hSw c11; clear hSw
      go_simp
      try with_reducible rfl
    case qzz27 => exact fun _ _ _ h => h
    case szz27 => first | assumption | trivial
    case' rzz27 => simp only [Act.put, List.setIfInBounds_toArray, List.set_cons_zero, List.set_cons_succ]
    refine wpAnyH_take (i := 5) (oi := ?ozz28) (v := ?vzz28) ?hzz28 ?azz28 ?bzz28 ?czz28 ?qzz28 ?yzz28 ?szz28 ?rzz28
    case hzz28 => simp only [List.getElem?_toArray, List.getElem?_cons_zero, List.getElem?_cons_succ]; rfl
    case azz28 => kernel_rfl
    case bzz28 => kernel_rfl
    case czz28 => kernel_rfl
    case yzz28 =>
      refine Or.inl ⟨by rfl, ?_⟩
      intro w hSw
      have x0 := box_ hSw c0; have x1 := box_ hSw c1; have x2 := box_ hSw c2; have x3 := box_ hSw c3; have x4 := box_ hSw c4; have x5 := box_ hSw c5; have x6 := box_ hSw c6; have x7 := box_ hSw c7; have x8 := box_ hSw c8; have x9 := box_ hSw c9; have x10 := box_ hSw c10; have x11 := box_ hSw c11; clear hSw
      go_simp
      try with_reducible rfl
    case qzz28 => exact fun _ _ _ h => h
    case szz28 => first | assumption | trivial
    case' rzz28 => simp only [Act.put, List.setIfInBounds_toArray, List.set_cons_zero, List.set_cons_succ]
    refine wpAnyH_take (i := 6) (oi := ?ozz29) (v := ?vzz29) ?hzz29 ?azz29 ?bzz29 ?czz29 ?qzz29 ?yzz29 ?szz29 ?rzz29
    case hzz29 => simp only [List.getElem?_toArray, List.getElem?_cons_zero, List.getElem?_cons_succ]; rfl
    case azz29 => kernel_rfl
    case bzz29 => kernel_rfl
    case czz29 => kernel_rfl
    case yzz29 =>
      refine Or.inl ⟨by rfl, ?_⟩
      intro w hSw
      have x0 := box_ hSw c0; have x1 := box_ hSw c1; have x2 := box_ hSw c2; have x3 := box_ hSw c3; have x4 := box_ hSw c4; have x5 := box_ hSw c5; have x6 := box_ hSw c6; have x7 := box_ hSw c7; have x8 := box_ hSw c8; have x9 := box_ hSw c9; have x10 := box_ hSw c10; have x11 := box_ hSw c11; clear hSw
      go_simp
      try with_reducible rfl
    case qzz29 => exact fun _ _ _ h => h
    case szz29 => first | assumption | trivial
    case' rzz29 => simp only [Act.put, List.setIfInBounds_toArray, List.set_cons_zero, List.set_cons_succ]
    refine wpAnyH_ready (rs := [4]) (by kernel_rfl) (by simp) ?_
    refine AllReadyH.cons (o := ?ozz45) ?hzz45 (fun K hK => ?kzz45) ?mzz45
    case hzz45 => simp only [List.getElem?_toArray, List.getElem?_cons_zero, List.getElem?_cons_succ]; rfl
    case kzz45 =>
      go_simp
      refine (K2.out _).mono ?_
      rintro e v2 ⟨rfl, q2⟩
      go_wp2_with fail
      refine hK.out _ _ ?Szz45 (fun hHeld => ?Rzz45)
      case Szz45 =>
        exact hHeld.trans q2
      case Rzz45 =>
        clear hK K
        try simp only [Act.put, List.setIfInBounds_toArray, List.set_cons_zero, List.set_cons_succ]
        refine wpAnyH_ready (rs := [7]) (by kernel_rfl) (by simp) ?_
        refine AllReadyH.cons (o := ?ozz44) ?hzz44 (fun K hK => ?kzz44) ?mzz44
        case hzz44 => simp only [List.getElem?_toArray, List.getElem?_cons_zero, List.getElem?_cons_succ]; rfl
        case kzz44 =>
          go_simp
          refine (K3.out _).mono ?_
          rintro e v3 ⟨rfl, q3⟩
          go_wp2_with fail
          refine hK.out _ _ ?Szz44 (fun hHeld => ?Rzz44)
          case Szz44 =>
            exact hHeld.trans q3
          case Rzz44 =>
            clear hK K
            try simp only [Act.put, List.setIfInBounds_toArray, List.set_cons_zero, List.set_cons_succ]
            refine wpAnyH_take (i := 8) (oi := ?ozz30) (v := ?vzz30) ?hzz30 ?azz30 ?bzz30 ?czz30 ?qzz30 ?yzz30 ?szz30 ?rzz30
            case hzz30 => simp only [List.getElem?_toArray, List.getElem?_cons_zero, List.getElem?_cons_succ]; rfl
            case azz30 => kernel_rfl
            case bzz30 => kernel_rfl
            case czz30 => kernel_rfl
            case yzz30 =>
              refine Or.inl ⟨by rfl, ?_⟩
              intro w hSw
              skip
              go_simp
              try with_reducible rfl
            case qzz30 => exact fun _ _ _ h => h
            case szz30 => first | assumption | trivial
            case' rzz30 => simp only [Act.put, List.setIfInBounds_toArray, List.set_cons_zero, List.set_cons_succ]
            refine wpAnyH_take (i := 9) (oi := ?ozz31) (v := undef) ?hzz31 ?azz31 ?bzz31 ?czz31 ?qzz31 ?yzz31 ?szz31 ?rzz31
            case hzz31 => simp only [List.getElem?_toArray, List.getElem?_cons_zero, List.getElem?_cons_succ]; rfl
            case azz31 => kernel_rfl
            case bzz31 => kernel_rfl
            case czz31 => kernel_rfl
            case yzz31 => exact Or.inr ⟨by rfl, rfl⟩
            case qzz31 => exact fun _ _ _ h => h
            case szz31 => first | assumption | trivial
            case' rzz31 => simp only [Act.put, List.setIfInBounds_toArray, List.set_cons_zero, List.set_cons_succ]
            refine wpAnyH_take (i := 10) (oi := ?ozz32) (v := undef) ?hzz32 ?azz32 ?bzz32 ?czz32 ?qzz32 ?yzz32 ?szz32 ?rzz32
            case hzz32 => simp only [List.getElem?_toArray, List.getElem?_cons_zero, List.getElem?_cons_succ]; rfl
            case azz32 => kernel_rfl
            case bzz32 => kernel_rfl
            case czz32 => kernel_rfl
            case yzz32 => exact Or.inr ⟨by rfl, rfl⟩
            case qzz32 => exact fun _ _ _ h => h
            case szz32 => first | assumption | trivial
            case' rzz32 => simp only [Act.put, List.setIfInBounds_toArray, List.set_cons_zero, List.set_cons_succ]
            refine wpAnyH_take (i := 11) (oi := ?ozz33) (v := undef) ?hzz33 ?azz33 ?bzz33 ?czz33 ?qzz33 ?yzz33 ?szz33 ?rzz33
            case hzz33 => simp only [List.getElem?_toArray, List.getElem?_cons_zero, List.getElem?_cons_succ]; rfl
            case azz33 => kernel_rfl
            case bzz33 => kernel_rfl
            case czz33 => kernel_rfl
            case yzz33 => exact Or.inr ⟨by rfl, rfl⟩
            case qzz33 => exact fun _ _ _ h => h
            case szz33 => first | assumption | trivial
            case' rzz33 => simp only [Act.put, List.setIfInBounds_toArray, List.set_cons_zero, List.set_cons_succ]
            refine wpAnyH_take (i := 12) (oi := ?ozz34) (v := ?vzz34) ?hzz34 ?azz34 ?bzz34 ?czz34 ?qzz34 ?yzz34 ?szz34 ?rzz34
            case hzz34 => simp only [List.getElem?_toArray, List.getElem?_cons_zero, List.getElem?_cons_succ]; rfl
            case azz34 => kernel_rfl
            case bzz34 => kernel_rfl
            case czz34 => kernel_rfl
            case yzz34 =>
              refine Or.inl ⟨by rfl, ?_⟩
              intro w hSw
              skip
              go_simp
              try with_reducible rfl
            case qzz34 => exact fun _ _ _ h => h
            case szz34 => first | assumption | trivial
            case' rzz34 => simp only [Act.put, List.setIfInBounds_toArray, List.set_cons_zero, List.set_cons_succ]
            refine wpAnyH_take (i := 13) (oi := ?ozz35) (v := ?vzz35) ?hzz35 ?azz35 ?bzz35 ?czz35 ?qzz35 ?yzz35 ?szz35 ?rzz35
            case hzz35 => simp only [List.getElem?_toArray, List.getElem?_cons_zero, List.getElem?_cons_succ]; rfl
            case azz35 => kernel_rfl
            case bzz35 => kernel_rfl
            case czz35 => kernel_rfl
            case yzz35 =>
              refine Or.inl ⟨by rfl, ?_⟩
              intro w hSw
              skip
              go_simp
              try with_reducible rfl
            case qzz35 => exact fun _ _ _ h => h
            case szz35 => first | assumption | trivial
            case' rzz35 => simp only [Act.put, List.setIfInBounds_toArray, List.set_cons_zero, List.set_cons_succ]
            refine wpAnyH_take (i := 14) (oi := ?ozz36) (v := ?vzz36) ?hzz36 ?azz36 ?bzz36 ?czz36 ?qzz36 ?yzz36 ?szz36 ?rzz36
            case hzz36 => simp only [List.getElem?_toArray, List.getElem?_cons_zero, List.getElem?_cons_succ]; rfl
            case azz36 => kernel_rfl
            case bzz36 => kernel_rfl
            case czz36 => kernel_rfl
            case yzz36 =>
              refine Or.inl ⟨by rfl, ?_⟩
              intro w hSw
              skip
              go_simp
              try with_reducible rfl
            case qzz36 => exact fun _ _ _ h => h
            case szz36 => first | assumption | trivial
            case' rzz36 => simp only [Act.put, List.setIfInBounds_toArray, List.set_cons_zero, List.set_cons_succ]
            refine wpAnyH_take (i := 15) (oi := ?ozz37) (v := ?vzz37) ?hzz37 ?azz37 ?bzz37 ?czz37 ?qzz37 ?yzz37 ?szz37 ?rzz37
            case hzz37 => simp only [List.getElem?_toArray, List.getElem?_cons_zero, List.getElem?_cons_succ]; rfl
            case azz37 => kernel_rfl
            case bzz37 => kernel_rfl
            case czz37 => kernel_rfl
            case yzz37 =>
              refine Or.inl ⟨by rfl, ?_⟩
              intro w hSw
              skip
              go_simp
              try with_reducible rfl
            case qzz37 => exact fun _ _ _ h => h
            case szz37 => first | assumption | trivial
            case' rzz37 => simp only [Act.put, List.setIfInBounds_toArray, List.set_cons_zero, List.set_cons_succ]
            refine wpAnyH_take (i := 16) (oi := ?ozz38) (v := ?vzz38) ?hzz38 ?azz38 ?bzz38 ?czz38 ?qzz38 ?yzz38 ?szz38 ?rzz38
            case hzz38 => simp only [List.getElem?_toArray, List.getElem?_cons_zero, List.getElem?_cons_succ]; rfl
            case azz38 => kernel_rfl
            case bzz38 => kernel_rfl
            case czz38 => kernel_rfl
            case yzz38 =>
              refine Or.inl ⟨by rfl, ?_⟩
              intro w hSw
              have x0 := box_ hSw c0; have x1 := box_ hSw c1; have x2 := box_ hSw c2; have x3 := box_ hSw c3; have x4 := box_ hSw c4; have x5 := box_ hSw c5; have x6 := box_ hSw c6; have x7 := box_ hSw c7; have x8 := box_ hSw c8; have x9 := box_ hSw c9; have x10 := box_ hSw c10; have x11 := box_ hSw c11; clear hSw
              go_simp
              try with_reducible rfl
            case qzz38 => exact fun _ _ _ h => h
            case szz38 => first | assumption | trivial
            case' rzz38 => simp only [Act.put, List.setIfInBounds_toArray, List.set_cons_zero, List.set_cons_succ]
            refine wpAnyH_take (i := 17) (oi := ?ozz39) (v := ?vzz39) ?hzz39 ?azz39 ?bzz39 ?czz39 ?qzz39 ?yzz39 ?szz39 ?rzz39
            case hzz39 => simp only [List.getElem?_toArray, List.getElem?_cons_zero, List.getElem?_cons_succ]; rfl
            case azz39 => kernel_rfl
            case bzz39 => kernel_rfl
            case czz39 => kernel_rfl
            case yzz39 =>
              refine Or.inl ⟨by rfl, ?_⟩
              intro w hSw
              have x0 := box_ hSw c0; have x1 := box_ hSw c1; have x2 := box_ hSw c2; have x3 := box_ hSw c3; have x4 := box_ hSw c4; have x5 := box_ hSw c5; have x6 := box_ hSw c6; have x7 := box_ hSw c7; have x8 := box_ hSw c8; have x9 := box_ hSw c9; have x10 := box_ hSw c10; have x11 := box_ hSw c11; clear hSw
              go_simp
              try with_reducible rfl
            case qzz39 => exact fun _ _ _ h => h
            case szz39 => first | assumption | trivial
            case' rzz39 => simp only [Act.put, List.setIfInBounds_toArray, List.set_cons_zero, List.set_cons_succ]
            refine wpAnyH_ready (rs := [18]) (by kernel_rfl) (by simp) ?_
            refine AllReadyH.cons (o := ?ozz43) ?hzz43 (fun K hK => ?kzz43) ?mzz43
            case hzz43 => simp only [List.getElem?_toArray, List.getElem?_cons_zero, List.getElem?_cons_succ]; rfl
            case kzz43 =>
              go_simp
              refine (K5.out _).mono ?_
              rintro e v5 ⟨rfl, q5⟩
              go_wp2_with fail
              refine hK.out _ _ ?Szz43 (fun hHeld => ?Rzz43)
              case Szz43 =>
                exact hHeld.trans q5
              case Rzz43 =>
                clear hK K
                try simp only [Act.put, List.setIfInBounds_toArray, List.set_cons_zero, List.set_cons_succ]
                refine wpAnyH_take (i := 19) (oi := ?ozz40) (v := ?vzz40) ?hzz40 ?azz40 ?bzz40 ?czz40 ?qzz40 ?yzz40 ?szz40 ?rzz40
                case hzz40 => simp only [List.getElem?_toArray, List.getElem?_cons_zero, List.getElem?_cons_succ]; rfl
                case azz40 => kernel_rfl
                case bzz40 => kernel_rfl
                case czz40 => kernel_rfl
                case yzz40 =>
                  refine Or.inl ⟨by rfl, ?_⟩
                  intro w hSw
                  skip
                  go_simp
                  try with_reducible rfl
                case qzz40 => exact fun _ _ _ h => h
                case szz40 => first | assumption | trivial
                case' rzz40 => simp only [Act.put, List.setIfInBounds_toArray, List.set_cons_zero, List.set_cons_succ]
                refine wpAnyH_take (i := 20) (oi := ?ozz41) (v := ?vzz41) ?hzz41 ?azz41 ?bzz41 ?czz41 ?qzz41 ?yzz41 ?szz41 ?rzz41
                case hzz41 => simp only [List.getElem?_toArray, List.getElem?_cons_zero, List.getElem?_cons_succ]; rfl
                case azz41 => kernel_rfl
                case bzz41 => kernel_rfl
                case czz41 => kernel_rfl
                case yzz41 =>
                  refine Or.inl ⟨by rfl, ?_⟩
                  intro w hSw
                  skip
                  go_simp
                  try with_reducible rfl
                case qzz41 => exact fun _ _ _ h => h
                case szz41 => first | assumption | trivial
                case' rzz41 => simp only [Act.put, List.setIfInBounds_toArray, List.set_cons_zero, List.set_cons_succ]
                refine wpAnyH_take (i := 21) (oi := ?ozz42) (v := ?vzz42) ?hzz42 ?azz42 ?bzz42 ?czz42 ?qzz42 ?yzz42 ?szz42 ?rzz42
                case hzz42 => simp only [List.getElem?_toArray, List.getElem?_cons_zero, List.getElem?_cons_succ]; rfl
                case azz42 => kernel_rfl
                case bzz42 => kernel_rfl
                case czz42 => kernel_rfl
                case yzz42 =>
                  refine Or.inl ⟨by rfl, ?_⟩
                  intro w hSw
                  skip
                  go_simp
                  try with_reducible rfl
                case qzz42 => exact fun _ _ _ h => h
                case szz42 => first | assumption | trivial
                case' rzz42 => simp only [Act.put, List.setIfInBounds_toArray, List.set_cons_zero, List.set_cons_succ]
                refine wpAnyH_done (by kernel_rfl) ?_ _
                go_wp2
                go_ret
                exact ⟨by first | rfl | (simp; done), BQ.out.trans hHeld⟩
            case' mzz43 => skip
            exact AllReadyH.nil
        case' mzz44 => skip
        exact AllReadyH.nil
    case' mzz45 => skip
    exact AllReadyH.nil
set_option maxHeartbeats 4000000 in
theorem walk (a : Wn) (mid : ByteArray) (b : Wn) (w : World) :
    Calls Try.prog 9 #[wnV a, .string mid, wnV b] w fun e w' => e = .returned (.bool true) ∧ Q w w' := by
  by_cases h0 : mid = ⟨#[]⟩
  · exact walk_none a mid b w h0
  · cases h1 : inS a mid with
    | false => exact walk_out a mid b w h0 h1
    | true => exact walk_mid a mid b w h0 h1

theorem opened (W : World) (args : Array Value) (hn : args.size = 3) (h : ∀ (j : Nat) t v, Try.f9.params[j]? = some t → args[j]? = some v → RdV W t v) :
    Calls Try.prog 9 args W fun e W' => e = .returned (.bool true) ∧ Q W W' := by
  obtain ⟨v0, v1, v2, rfl⟩ := args3 hn
  rw [Try.params9] at h
  obtain ⟨cs0, rfl, hr0⟩ := (h 0 23 v0 rfl rfl).struct Try.underlying23
  obtain ⟨a, rfl, a0, a1, a2, a3⟩ := open_want hr0
  obtain ⟨mid, rfl, mid0⟩ := (h 1 9 v1 rfl rfl).string Try.underlying9
  obtain ⟨cs2, rfl, hr2⟩ := (h 2 23 v2 rfl rfl).struct Try.underlying23
  obtain ⟨b, rfl, b0, b1, b2, b3⟩ := open_want hr2
  exact walk a mid b W

set_option maxRecDepth 100000 in
theorem lifted (os : Os) (started : os.Started) (H : Type) (enc : TypeId × Value → H) :
    ReturnsInHanded {} Try.checked os 9 .any (Rows.spanPartsSpec.pre6 enc Try.prog Try.f9 Rows.spanPartsRow.domain false) (Rows.spanPartsSpec.post enc Try.prog Try.f9 false true false false) :=
  framed 3 Try.func9 (by rw [Try.params9]; rfl) rfl (by kernel_rfl) (by kernel_rfl) (by kernel_rfl)
    (fun H ds h => by match ds, h with | [d0, d1, d2], _ => exact ⟨rfl, rfl, rfl⟩)
    opened os started H enc
    (ChangeSpec.witness6 (enc := enc) (C := Try.checked) false ⟨#[], #[.agg #[.int .i64 0, .string ByteArray.empty, .string ByteArray.empty], .string ByteArray.empty, .agg #[.int .i64 0, .string ByteArray.empty, .string ByteArray.empty]], []⟩ 8 (by kernel_rfl) (by kernel_rfl) (by kernel_rfl) (by kernel_rfl))

theorem over : Rows.spanPartsRow.holds Try.pinned (OpenSpec.ofChange Rows.spanPartsSpec) :=
  OpenClaim.holds_of_wide 9 Try.f9 rfl rfl rfl rfl rfl rfl rfl ⟨rfl, rfl, rfl, rfl, rfl⟩ rfl rfl rfl rfl rfl (by kernel_rfl) Try.func9 (by kernel_rfl)
    (of_decide_eq_true (by kernel_rfl)) (by unfold Func.isWrapper; first | (rw [if_pos (by decide +kernel)]; kernel_rfl) | (rw [if_neg (by decide +kernel)]; exact ⟨rfl, rfl⟩))
    (fun os started H enc _ => lifted os started H enc)

theorem proved : Rows.SpanPartsSaid := over
end Go.Proofs.Ytjbjkmbipdbejaa.spanParts
