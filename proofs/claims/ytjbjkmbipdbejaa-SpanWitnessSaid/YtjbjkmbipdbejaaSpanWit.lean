/- SpanWitness: the walks where the key is not in the first span. -/
import Derived.Test.YtjbjkmbipdbejaaSpanIn
namespace Go.Proofs.Ytjbjkmbipdbejaa.spanWitness
set_option maxRecDepth 100000
open Go.ChangeShapes Go.WideShapes Go.ChangeAt Go.RowKit Prm Sm
set_option linter.unusedVariables false
set_option linter.unusedSimpArgs false

set_option maxHeartbeats 4000000 in
theorem walk_0x00 (a : Wn) (b : Wn) (key : ByteArray) (w : World) (h1 : inS a key = false) (h3 : over a b = false) (h4 : lt a.lo b.lo = false) :
    Calls Try.prog 5 #[wnV a, wnV b, .string key] w fun e w' => e = .returned (.bool true) ∧ Q w w' := by
  have K1 := Lib.hid (fun W => sin_any a key W)
  rw [h1] at K1
  have K2 := Lib.hid (fun W => sin_any b key W)
  have K3 := Lib.hid (fun W => sover_any a b W)
  rw [h3] at K3
  have K4 := Lib.hid (fun W => sover_any b a W)
  rw [over_comm b a, h3] at K4
  have K5 := Lib.hid (fun W => sclash_any a b W)
  have K6 := Lib.hid (fun W => sclash_any b a W)
  rw [clash_comm b a] at K6
  have KA := Lib.hid (fun W => sin_any a (mx a.lo b.lo) W)
  have KB := Lib.hid (fun W => sin_any b (mx a.lo b.lo) W)
  rw [show mx a.lo b.lo = a.lo by unfold mx; rw [h4]; rfl] at KA KB
  have e4 := lt_data a.lo b.lo
  rw [h4] at e4
  have r1 := beq_rr (clash a b)
  generalize clash a b = y at *
  clear h1 h3 h4
  have B := wn_box2 w a b
  try unfold wnV at *
  go_enter Try.func5, Try.ntmps5
  go_wp2_with fail
  generalize ((w.alloc (.cells #[.int .i64 a.mode, .string a.lo, .string a.hi] 23)).alloc (.cells #[.int .i64 b.mode, .string b.lo, .string b.hi] 23)) = W0 at B ⊢
  obtain ⟨⟨c0, c1, c2⟩, ⟨c3, c4, c5⟩, bq⟩ := B
  change _ at bq
  refine (spshown_any _).mono ?_
  rintro e W ⟨rfl, q0⟩
  have c0 := box_ q0 c0
  have c1 := box_ q0 c1
  have c2 := box_ q0 c2
  have c3 := box_ q0 c3
  have c4 := box_ q0 c4
  have c5 := box_ q0 c5
  have BQ := Lib.hid (bq.trans q0)
  clear bq q0
  go_wp2_with fail
  refine (K1.out _).mono ?_
  rintro e w1 ⟨rfl, q1⟩
  have c0 := box_ q1 c0
  have c1 := box_ q1 c1
  have c2 := box_ q1 c2
  have c3 := box_ q1 c3
  have c4 := box_ q1 c4
  have c5 := box_ q1 c5
  have BQ := Lib.hid (BQ.out.trans q1)
  clear q1
  go_wp2
  refine wp_region_held_drew (S := Q w1) (by kernel_rfl) ?szz0 (fun hHeld => ?rzz0)
  case szz0 =>
    exact (Q.refl w1).drew
  case' rzz0 => skip
  refine wpAnyH_take (i := 0) (oi := ?ozz1) (v := ?vzz1) ?hzz1 ?azz1 ?bzz1 ?czz1 ?qzz1 ?yzz1 ?szz1 ?rzz1
  case hzz1 => simp only [List.getElem?_toArray, List.getElem?_cons_zero]; rfl
  case azz1 => kernel_rfl
  case bzz1 => kernel_rfl
  case czz1 => kernel_rfl
  case yzz1 =>
    refine Or.inl ⟨by rfl, ?_⟩
    intro w hSw
    skip
    go_simp
    try with_reducible rfl
  case qzz1 => exact fun _ _ _ h => h
  case szz1 => first | assumption | trivial
  case' rzz1 => simp only [Act.put, List.setIfInBounds_toArray, List.set_cons_zero, List.set_cons_succ]
  refine wpAnyH_take (i := 1) (oi := ?ozz2) (v := ?vzz2) ?hzz2 ?azz2 ?bzz2 ?czz2 ?qzz2 ?yzz2 ?szz2 ?rzz2
  case hzz2 => simp only [List.getElem?_toArray, List.getElem?_cons_zero, List.getElem?_cons_succ]; rfl
  case azz2 => kernel_rfl
  case bzz2 => kernel_rfl
  case czz2 => kernel_rfl
  case yzz2 =>
    refine Or.inl ⟨by rfl, ?_⟩
    intro w hSw
    skip
    go_simp
    try with_reducible rfl
  case qzz2 => exact fun _ _ _ h => h
  case szz2 => first | assumption | trivial
  case' rzz2 => simp only [Act.put, List.setIfInBounds_toArray, List.set_cons_zero, List.set_cons_succ]
  refine wpAnyH_take (i := 2) (oi := ?ozz3) (v := ?vzz3) ?hzz3 ?azz3 ?bzz3 ?czz3 ?qzz3 ?yzz3 ?szz3 ?rzz3
  case hzz3 => simp only [List.getElem?_toArray, List.getElem?_cons_zero, List.getElem?_cons_succ]; rfl
  case azz3 => kernel_rfl
  case bzz3 => kernel_rfl
  case czz3 => kernel_rfl
  case yzz3 =>
    refine Or.inl ⟨by rfl, ?_⟩
    intro w hSw
    have x0 := box_ hSw c0; have x1 := box_ hSw c1; have x2 := box_ hSw c2; have x3 := box_ hSw c3; have x4 := box_ hSw c4; have x5 := box_ hSw c5; clear hSw
    go_simp
    try with_reducible rfl
  case qzz3 => exact fun _ _ _ h => h
  case szz3 => first | assumption | trivial
  case' rzz3 => simp only [Act.put, List.setIfInBounds_toArray, List.set_cons_zero, List.set_cons_succ]
  refine wpAnyH_take (i := 3) (oi := ?ozz4) (v := ?vzz4) ?hzz4 ?azz4 ?bzz4 ?czz4 ?qzz4 ?yzz4 ?szz4 ?rzz4
  case hzz4 => simp only [List.getElem?_toArray, List.getElem?_cons_zero, List.getElem?_cons_succ]; rfl
  case azz4 => kernel_rfl
  case bzz4 => kernel_rfl
  case czz4 => kernel_rfl
  case yzz4 =>
    refine Or.inl ⟨by rfl, ?_⟩
    intro w hSw
    have x0 := box_ hSw c0; have x1 := box_ hSw c1; have x2 := box_ hSw c2; have x3 := box_ hSw c3; have x4 := box_ hSw c4; have x5 := box_ hSw c5; clear hSw
    go_simp
    try with_reducible rfl
  case qzz4 => exact fun _ _ _ h => h
  case szz4 => first | assumption | trivial
  case' rzz4 => simp only [Act.put, List.setIfInBounds_toArray, List.set_cons_zero, List.set_cons_succ]
  refine wpAnyH_ready (rs := [4]) (by kernel_rfl) (by simp) ?_
  refine AllReadyH.cons (o := ?ozz36) ?hzz36 (fun K hK => ?kzz36) ?mzz36
  case hzz36 => simp only [List.getElem?_toArray, List.getElem?_cons_zero, List.getElem?_cons_succ]; rfl
  case kzz36 =>
    go_simp
    refine (K3.out _).mono ?_
    rintro e v1 ⟨rfl, q1⟩
    go_wp2_with fail
    refine hK.out _ _ ?Szz36 (fun hHeld => ?Rzz36)
    case Szz36 =>
      exact hHeld.trans q1
    case Rzz36 =>
      clear hK K
      try simp only [Act.put, List.setIfInBounds_toArray, List.set_cons_zero, List.set_cons_succ]
      refine wpAnyH_take (i := 5) (oi := ?ozz5) (v := ?vzz5) ?hzz5 ?azz5 ?bzz5 ?czz5 ?qzz5 ?yzz5 ?szz5 ?rzz5
      case hzz5 => simp only [List.getElem?_toArray, List.getElem?_cons_zero, List.getElem?_cons_succ]; rfl
      case azz5 => kernel_rfl
      case bzz5 => kernel_rfl
      case czz5 => kernel_rfl
      case yzz5 =>
        refine Or.inl ⟨by rfl, ?_⟩
        intro w hSw
        skip
        go_simp
        try with_reducible rfl
      case qzz5 => exact fun _ _ _ h => h
      case szz5 => first | assumption | trivial
      case' rzz5 => simp only [Act.put, List.setIfInBounds_toArray, List.set_cons_zero, List.set_cons_succ]
      refine wpAnyH_take (i := 6) (oi := ?ozz6) (v := ?vzz6) ?hzz6 ?azz6 ?bzz6 ?czz6 ?qzz6 ?yzz6 ?szz6 ?rzz6
      case hzz6 => simp only [List.getElem?_toArray, List.getElem?_cons_zero, List.getElem?_cons_succ]; rfl
      case azz6 => kernel_rfl
      case bzz6 => kernel_rfl
      case czz6 => kernel_rfl
      case yzz6 =>
        refine Or.inl ⟨by rfl, ?_⟩
        intro w hSw
        skip
        go_simp
        try with_reducible rfl
      case qzz6 => exact fun _ _ _ h => h
      case szz6 => first | assumption | trivial
      case' rzz6 => simp only [Act.put, List.setIfInBounds_toArray, List.set_cons_zero, List.set_cons_succ]
      refine wpAnyH_take (i := 7) (oi := ?ozz7) (v := undef) ?hzz7 ?azz7 ?bzz7 ?czz7 ?qzz7 ?yzz7 ?szz7 ?rzz7
      case hzz7 => simp only [List.getElem?_toArray, List.getElem?_cons_zero, List.getElem?_cons_succ]; rfl
      case azz7 => kernel_rfl
      case bzz7 => kernel_rfl
      case czz7 => kernel_rfl
      case yzz7 => exact Or.inr ⟨by rfl, rfl⟩
      case qzz7 => exact fun _ _ _ h => h
      case szz7 => first | assumption | trivial
      case' rzz7 => simp only [Act.put, List.setIfInBounds_toArray, List.set_cons_zero, List.set_cons_succ]
      refine wpAnyH_take (i := 8) (oi := ?ozz8) (v := undef) ?hzz8 ?azz8 ?bzz8 ?czz8 ?qzz8 ?yzz8 ?szz8 ?rzz8
      case hzz8 => simp only [List.getElem?_toArray, List.getElem?_cons_zero, List.getElem?_cons_succ]; rfl
      case azz8 => kernel_rfl
      case bzz8 => kernel_rfl
      case czz8 => kernel_rfl
      case yzz8 => exact Or.inr ⟨by rfl, rfl⟩
      case qzz8 => exact fun _ _ _ h => h
      case szz8 => first | assumption | trivial
      case' rzz8 => simp only [Act.put, List.setIfInBounds_toArray, List.set_cons_zero, List.set_cons_succ]
      refine wpAnyH_take (i := 9) (oi := ?ozz9) (v := undef) ?hzz9 ?azz9 ?bzz9 ?czz9 ?qzz9 ?yzz9 ?szz9 ?rzz9
      case hzz9 => simp only [List.getElem?_toArray, List.getElem?_cons_zero, List.getElem?_cons_succ]; rfl
      case azz9 => kernel_rfl
      case bzz9 => kernel_rfl
      case czz9 => kernel_rfl
      case yzz9 => exact Or.inr ⟨by rfl, rfl⟩
      case qzz9 => exact fun _ _ _ h => h
      case szz9 => first | assumption | trivial
      case' rzz9 => simp only [Act.put, List.setIfInBounds_toArray, List.set_cons_zero, List.set_cons_succ]
      refine wpAnyH_take (i := 10) (oi := ?ozz10) (v := undef) ?hzz10 ?azz10 ?bzz10 ?czz10 ?qzz10 ?yzz10 ?szz10 ?rzz10
      case hzz10 => simp only [List.getElem?_toArray, List.getElem?_cons_zero, List.getElem?_cons_succ]; rfl
      case azz10 => kernel_rfl
      case bzz10 => kernel_rfl
      case czz10 => kernel_rfl
      case yzz10 => exact Or.inr ⟨by rfl, rfl⟩
      case qzz10 => exact fun _ _ _ h => h
      case szz10 => first | assumption | trivial
      case' rzz10 => simp only [Act.put, List.setIfInBounds_toArray, List.set_cons_zero, List.set_cons_succ]
      refine wpAnyH_take (i := 11) (oi := ?ozz11) (v := undef) ?hzz11 ?azz11 ?bzz11 ?czz11 ?qzz11 ?yzz11 ?szz11 ?rzz11
      case hzz11 => simp only [List.getElem?_toArray, List.getElem?_cons_zero, List.getElem?_cons_succ]; rfl
      case azz11 => kernel_rfl
      case bzz11 => kernel_rfl
      case czz11 => kernel_rfl
      case yzz11 => exact Or.inr ⟨by rfl, rfl⟩
      case qzz11 => exact fun _ _ _ h => h
      case szz11 => first | assumption | trivial
      case' rzz11 => simp only [Act.put, List.setIfInBounds_toArray, List.set_cons_zero, List.set_cons_succ]
      refine wpAnyH_take (i := 12) (oi := ?ozz12) (v := undef) ?hzz12 ?azz12 ?bzz12 ?czz12 ?qzz12 ?yzz12 ?szz12 ?rzz12
      case hzz12 => simp only [List.getElem?_toArray, List.getElem?_cons_zero, List.getElem?_cons_succ]; rfl
      case azz12 => kernel_rfl
      case bzz12 => kernel_rfl
      case czz12 => kernel_rfl
      case yzz12 => exact Or.inr ⟨by rfl, rfl⟩
      case qzz12 => exact fun _ _ _ h => h
      case szz12 => first | assumption | trivial
      case' rzz12 => simp only [Act.put, List.setIfInBounds_toArray, List.set_cons_zero, List.set_cons_succ]
      refine wpAnyH_take (i := 13) (oi := ?ozz13) (v := undef) ?hzz13 ?azz13 ?bzz13 ?czz13 ?qzz13 ?yzz13 ?szz13 ?rzz13
      case hzz13 => simp only [List.getElem?_toArray, List.getElem?_cons_zero, List.getElem?_cons_succ]; rfl
      case azz13 => kernel_rfl
      case bzz13 => kernel_rfl
      case czz13 => kernel_rfl
      case yzz13 => exact Or.inr ⟨by rfl, rfl⟩
      case qzz13 => exact fun _ _ _ h => h
      case szz13 => first | assumption | trivial
      case' rzz13 => simp only [Act.put, List.setIfInBounds_toArray, List.set_cons_zero, List.set_cons_succ]
      refine wpAnyH_take (i := 14) (oi := ?ozz14) (v := undef) ?hzz14 ?azz14 ?bzz14 ?czz14 ?qzz14 ?yzz14 ?szz14 ?rzz14
      case hzz14 => simp only [List.getElem?_toArray, List.getElem?_cons_zero, List.getElem?_cons_succ]; rfl
      case azz14 => kernel_rfl
      case bzz14 => kernel_rfl
      case czz14 => kernel_rfl
      case yzz14 => exact Or.inr ⟨by rfl, rfl⟩
      case qzz14 => exact fun _ _ _ h => h
      case szz14 => first | assumption | trivial
      case' rzz14 => simp only [Act.put, List.setIfInBounds_toArray, List.set_cons_zero, List.set_cons_succ]
      refine wpAnyH_take (i := 15) (oi := ?ozz15) (v := ?vzz15) ?hzz15 ?azz15 ?bzz15 ?czz15 ?qzz15 ?yzz15 ?szz15 ?rzz15
      case hzz15 => simp only [List.getElem?_toArray, List.getElem?_cons_zero, List.getElem?_cons_succ]; rfl
      case azz15 => kernel_rfl
      case bzz15 => kernel_rfl
      case czz15 => kernel_rfl
      case yzz15 =>
        refine Or.inl ⟨by rfl, ?_⟩
        intro w hSw
        skip
        go_simp
        try with_reducible rfl
      case qzz15 => exact fun _ _ _ h => h
      case szz15 => first | assumption | trivial
      case' rzz15 => simp only [Act.put, List.setIfInBounds_toArray, List.set_cons_zero, List.set_cons_succ]
      refine wpAnyH_take (i := 16) (oi := ?ozz16) (v := ?vzz16) ?hzz16 ?azz16 ?bzz16 ?czz16 ?qzz16 ?yzz16 ?szz16 ?rzz16
      case hzz16 => simp only [List.getElem?_toArray, List.getElem?_cons_zero, List.getElem?_cons_succ]; rfl
      case azz16 => kernel_rfl
      case bzz16 => kernel_rfl
      case czz16 => kernel_rfl
      case yzz16 =>
        refine Or.inl ⟨by rfl, ?_⟩
        intro w hSw
        skip
        go_simp
        try with_reducible rfl
      case qzz16 => exact fun _ _ _ h => h
      case szz16 => first | assumption | trivial
      case' rzz16 => simp only [Act.put, List.setIfInBounds_toArray, List.set_cons_zero, List.set_cons_succ]
      refine wpAnyH_take (i := 17) (oi := ?ozz17) (v := ?vzz17) ?hzz17 ?azz17 ?bzz17 ?czz17 ?qzz17 ?yzz17 ?szz17 ?rzz17
      case hzz17 => simp only [List.getElem?_toArray, List.getElem?_cons_zero, List.getElem?_cons_succ]; rfl
      case azz17 => kernel_rfl
      case bzz17 => kernel_rfl
      case czz17 => kernel_rfl
      case yzz17 =>
        refine Or.inl ⟨by rfl, ?_⟩
        intro w hSw
        skip
        go_simp
        try with_reducible rfl
      case qzz17 => exact fun _ _ _ h => h
      case szz17 => first | assumption | trivial
      case' rzz17 => simp only [Act.put, List.setIfInBounds_toArray, List.set_cons_zero, List.set_cons_succ]
      refine wpAnyH_take (i := 18) (oi := ?ozz18) (v := ?vzz18) ?hzz18 ?azz18 ?bzz18 ?czz18 ?qzz18 ?yzz18 ?szz18 ?rzz18
      case hzz18 => simp only [List.getElem?_toArray, List.getElem?_cons_zero, List.getElem?_cons_succ]; rfl
      case azz18 => kernel_rfl
      case bzz18 => kernel_rfl
      case czz18 => kernel_rfl
      case yzz18 =>
        refine Or.inl ⟨by rfl, ?_⟩
        intro w hSw
        have x0 := box_ hSw c0; have x1 := box_ hSw c1; have x2 := box_ hSw c2; have x3 := box_ hSw c3; have x4 := box_ hSw c4; have x5 := box_ hSw c5; clear hSw
        go_simp
        try with_reducible rfl
      case qzz18 => exact fun _ _ _ h => h
      case szz18 => first | assumption | trivial
      case' rzz18 => simp only [Act.put, List.setIfInBounds_toArray, List.set_cons_zero, List.set_cons_succ]
      refine wpAnyH_take (i := 19) (oi := ?ozz19) (v := ?vzz19) ?hzz19 ?azz19 ?bzz19 ?czz19 ?qzz19 ?yzz19 ?szz19 ?rzz19
      case hzz19 => simp only [List.getElem?_toArray, List.getElem?_cons_zero, List.getElem?_cons_succ]; rfl
      case azz19 => kernel_rfl
      case bzz19 => kernel_rfl
      case czz19 => kernel_rfl
      case yzz19 =>
        refine Or.inl ⟨by rfl, ?_⟩
        intro w hSw
        have x0 := box_ hSw c0; have x1 := box_ hSw c1; have x2 := box_ hSw c2; have x3 := box_ hSw c3; have x4 := box_ hSw c4; have x5 := box_ hSw c5; clear hSw
        go_simp
        try with_reducible rfl
      case qzz19 => exact fun _ _ _ h => h
      case szz19 => first | assumption | trivial
      case' rzz19 => simp only [Act.put, List.setIfInBounds_toArray, List.set_cons_zero, List.set_cons_succ]
      refine wpAnyH_take (i := 21) (oi := ?ozz20) (v := ?vzz20) ?hzz20 ?azz20 ?bzz20 ?czz20 ?qzz20 ?yzz20 ?szz20 ?rzz20
      case hzz20 => simp only [List.getElem?_toArray, List.getElem?_cons_zero, List.getElem?_cons_succ]; rfl
      case azz20 => kernel_rfl
      case bzz20 => kernel_rfl
      case czz20 => kernel_rfl
      case yzz20 =>
        refine Or.inl ⟨by rfl, ?_⟩
        intro w hSw
        have x0 := box_ hSw c0; have x1 := box_ hSw c1; have x2 := box_ hSw c2; have x3 := box_ hSw c3; have x4 := box_ hSw c4; have x5 := box_ hSw c5; clear hSw
        go_simp
        try with_reducible rfl
      case qzz20 => exact fun _ _ _ h => h
      case szz20 => first | assumption | trivial
      case' rzz20 => simp only [Act.put, List.setIfInBounds_toArray, List.set_cons_zero, List.set_cons_succ]
      refine wpAnyH_take (i := 22) (oi := ?ozz21) (v := ?vzz21) ?hzz21 ?azz21 ?bzz21 ?czz21 ?qzz21 ?yzz21 ?szz21 ?rzz21
      case hzz21 => simp only [List.getElem?_toArray, List.getElem?_cons_zero, List.getElem?_cons_succ]; rfl
      case azz21 => kernel_rfl
      case bzz21 => kernel_rfl
      case czz21 => kernel_rfl
      case yzz21 =>
        refine Or.inl ⟨by rfl, ?_⟩
        intro w hSw
        have x0 := box_ hSw c0; have x1 := box_ hSw c1; have x2 := box_ hSw c2; have x3 := box_ hSw c3; have x4 := box_ hSw c4; have x5 := box_ hSw c5; clear hSw
        go_simp
        try with_reducible rfl
      case qzz21 => exact fun _ _ _ h => h
      case szz21 => first | assumption | trivial
      case' rzz21 => simp only [Act.put, List.setIfInBounds_toArray, List.set_cons_zero, List.set_cons_succ]
      refine wpAnyH_ready (rs := [20]) (by kernel_rfl) (by simp) ?_
      refine AllReadyH.cons (o := ?ozz35) ?hzz35 (fun K hK => ?kzz35) ?mzz35
      case hzz35 => simp only [List.getElem?_toArray, List.getElem?_cons_zero, List.getElem?_cons_succ]; rfl
      case kzz35 =>
        go_simp
        refine (K3.out _).mono ?_
        rintro e v4 ⟨rfl, q4⟩
        go_wp2_with fail
        refine hK.out _ _ ?Szz35 (fun hHeld => ?Rzz35)
        case Szz35 =>
          exact hHeld.trans q4
        case Rzz35 =>
          clear hK K
          try simp only [Act.put, List.setIfInBounds_toArray, List.set_cons_zero, List.set_cons_succ]
          refine wpAnyH_ready (rs := [23]) (by kernel_rfl) (by simp) ?_
          refine AllReadyH.cons (o := ?ozz34) ?hzz34 (fun K hK => ?kzz34) ?mzz34
          case hzz34 => simp only [List.getElem?_toArray, List.getElem?_cons_zero, List.getElem?_cons_succ]; rfl
          case kzz34 =>
            go_simp
            refine (K4.out _).mono ?_
            rintro e v5 ⟨rfl, q5⟩
            go_wp2_with fail
            refine hK.out _ _ ?Szz34 (fun hHeld => ?Rzz34)
            case Szz34 =>
              exact hHeld.trans q5
            case Rzz34 =>
              clear hK K
              try simp only [Act.put, List.setIfInBounds_toArray, List.set_cons_zero, List.set_cons_succ]
              refine wpAnyH_take (i := 24) (oi := ?ozz22) (v := ?vzz22) ?hzz22 ?azz22 ?bzz22 ?czz22 ?qzz22 ?yzz22 ?szz22 ?rzz22
              case hzz22 => simp only [List.getElem?_toArray, List.getElem?_cons_zero, List.getElem?_cons_succ]; rfl
              case azz22 => kernel_rfl
              case bzz22 => kernel_rfl
              case czz22 => kernel_rfl
              case yzz22 =>
                refine Or.inl ⟨by rfl, ?_⟩
                intro w hSw
                skip
                go_simp
                try with_reducible rfl
              case qzz22 => exact fun _ _ _ h => h
              case szz22 => first | assumption | trivial
              case' rzz22 => simp only [Act.put, List.setIfInBounds_toArray, List.set_cons_zero, List.set_cons_succ]
              refine wpAnyH_take (i := 25) (oi := ?ozz23) (v := ?vzz23) ?hzz23 ?azz23 ?bzz23 ?czz23 ?qzz23 ?yzz23 ?szz23 ?rzz23
              case hzz23 => simp only [List.getElem?_toArray, List.getElem?_cons_zero, List.getElem?_cons_succ]; rfl
              case azz23 => kernel_rfl
              case bzz23 => kernel_rfl
              case czz23 => kernel_rfl
              case yzz23 =>
                refine Or.inl ⟨by rfl, ?_⟩
                intro w hSw
                skip
                go_simp
                try with_reducible rfl
              case qzz23 => exact fun _ _ _ h => h
              case szz23 => first | assumption | trivial
              case' rzz23 => simp only [Act.put, List.setIfInBounds_toArray, List.set_cons_zero, List.set_cons_succ]
              refine wpAnyH_take (i := 26) (oi := ?ozz24) (v := ?vzz24) ?hzz24 ?azz24 ?bzz24 ?czz24 ?qzz24 ?yzz24 ?szz24 ?rzz24
              case hzz24 => simp only [List.getElem?_toArray, List.getElem?_cons_zero, List.getElem?_cons_succ]; rfl
              case azz24 => kernel_rfl
              case bzz24 => kernel_rfl
              case czz24 => kernel_rfl
              case yzz24 =>
                refine Or.inl ⟨by rfl, ?_⟩
                intro w hSw
                skip
                go_simp
                try with_reducible rfl
              case qzz24 => exact fun _ _ _ h => h
              case szz24 => first | assumption | trivial
              case' rzz24 => simp only [Act.put, List.setIfInBounds_toArray, List.set_cons_zero, List.set_cons_succ]
              refine wpAnyH_take (i := 27) (oi := ?ozz25) (v := ?vzz25) ?hzz25 ?azz25 ?bzz25 ?czz25 ?qzz25 ?yzz25 ?szz25 ?rzz25
              case hzz25 => simp only [List.getElem?_toArray, List.getElem?_cons_zero, List.getElem?_cons_succ]; rfl
              case azz25 => kernel_rfl
              case bzz25 => kernel_rfl
              case czz25 => kernel_rfl
              case yzz25 =>
                refine Or.inl ⟨by rfl, ?_⟩
                intro w hSw
                have x0 := box_ hSw c0; have x1 := box_ hSw c1; have x2 := box_ hSw c2; have x3 := box_ hSw c3; have x4 := box_ hSw c4; have x5 := box_ hSw c5; clear hSw
                go_simp
                try with_reducible rfl
              case qzz25 => exact fun _ _ _ h => h
              case szz25 => first | assumption | trivial
              case' rzz25 => simp only [Act.put, List.setIfInBounds_toArray, List.set_cons_zero, List.set_cons_succ]
              refine wpAnyH_take (i := 28) (oi := ?ozz26) (v := ?vzz26) ?hzz26 ?azz26 ?bzz26 ?czz26 ?qzz26 ?yzz26 ?szz26 ?rzz26
              case hzz26 => simp only [List.getElem?_toArray, List.getElem?_cons_zero, List.getElem?_cons_succ]; rfl
              case azz26 => kernel_rfl
              case bzz26 => kernel_rfl
              case czz26 => kernel_rfl
              case yzz26 =>
                refine Or.inl ⟨by rfl, ?_⟩
                intro w hSw
                have x0 := box_ hSw c0; have x1 := box_ hSw c1; have x2 := box_ hSw c2; have x3 := box_ hSw c3; have x4 := box_ hSw c4; have x5 := box_ hSw c5; clear hSw
                go_simp
                try with_reducible rfl
              case qzz26 => exact fun _ _ _ h => h
              case szz26 => first | assumption | trivial
              case' rzz26 => simp only [Act.put, List.setIfInBounds_toArray, List.set_cons_zero, List.set_cons_succ]
              refine wpAnyH_take (i := 30) (oi := ?ozz27) (v := ?vzz27) ?hzz27 ?azz27 ?bzz27 ?czz27 ?qzz27 ?yzz27 ?szz27 ?rzz27
              case hzz27 => simp only [List.getElem?_toArray, List.getElem?_cons_zero, List.getElem?_cons_succ]; rfl
              case azz27 => kernel_rfl
              case bzz27 => kernel_rfl
              case czz27 => kernel_rfl
              case yzz27 =>
                refine Or.inl ⟨by rfl, ?_⟩
                intro w hSw
                have x0 := box_ hSw c0; have x1 := box_ hSw c1; have x2 := box_ hSw c2; have x3 := box_ hSw c3; have x4 := box_ hSw c4; have x5 := box_ hSw c5; clear hSw
                go_simp
                try with_reducible rfl
              case qzz27 => exact fun _ _ _ h => h
              case szz27 => first | assumption | trivial
              case' rzz27 => simp only [Act.put, List.setIfInBounds_toArray, List.set_cons_zero, List.set_cons_succ]
              refine wpAnyH_take (i := 31) (oi := ?ozz28) (v := ?vzz28) ?hzz28 ?azz28 ?bzz28 ?czz28 ?qzz28 ?yzz28 ?szz28 ?rzz28
              case hzz28 => simp only [List.getElem?_toArray, List.getElem?_cons_zero, List.getElem?_cons_succ]; rfl
              case azz28 => kernel_rfl
              case bzz28 => kernel_rfl
              case czz28 => kernel_rfl
              case yzz28 =>
                refine Or.inl ⟨by rfl, ?_⟩
                intro w hSw
                have x0 := box_ hSw c0; have x1 := box_ hSw c1; have x2 := box_ hSw c2; have x3 := box_ hSw c3; have x4 := box_ hSw c4; have x5 := box_ hSw c5; clear hSw
                go_simp
                try with_reducible rfl
              case qzz28 => exact fun _ _ _ h => h
              case szz28 => first | assumption | trivial
              case' rzz28 => simp only [Act.put, List.setIfInBounds_toArray, List.set_cons_zero, List.set_cons_succ]
              refine wpAnyH_ready (rs := [29]) (by kernel_rfl) (by simp) ?_
              refine AllReadyH.cons (o := ?ozz33) ?hzz33 (fun K hK => ?kzz33) ?mzz33
              case hzz33 => simp only [List.getElem?_toArray, List.getElem?_cons_zero, List.getElem?_cons_succ]; rfl
              case kzz33 =>
                go_simp
                refine (K5.out _).mono ?_
                rintro e v6 ⟨rfl, q6⟩
                go_wp2_with fail
                refine hK.out _ _ ?Szz33 (fun hHeld => ?Rzz33)
                case Szz33 =>
                  exact hHeld.trans q6
                case Rzz33 =>
                  clear hK K
                  try simp only [Act.put, List.setIfInBounds_toArray, List.set_cons_zero, List.set_cons_succ]
                  refine wpAnyH_ready (rs := [32]) (by kernel_rfl) (by simp) ?_
                  refine AllReadyH.cons (o := ?ozz32) ?hzz32 (fun K hK => ?kzz32) ?mzz32
                  case hzz32 => simp only [List.getElem?_toArray, List.getElem?_cons_zero, List.getElem?_cons_succ]; rfl
                  case kzz32 =>
                    go_simp
                    refine (K6.out _).mono ?_
                    rintro e v7 ⟨rfl, q7⟩
                    go_wp2_with fail
                    refine hK.out _ _ ?Szz32 (fun hHeld => ?Rzz32)
                    case Szz32 =>
                      exact hHeld.trans q7
                    case Rzz32 =>
                      clear hK K
                      try simp only [Act.put, List.setIfInBounds_toArray, List.set_cons_zero, List.set_cons_succ]
                      refine wpAnyH_take (i := 33) (oi := ?ozz29) (v := ?vzz29) ?hzz29 ?azz29 ?bzz29 ?czz29 ?qzz29 ?yzz29 ?szz29 ?rzz29
                      case hzz29 => simp only [List.getElem?_toArray, List.getElem?_cons_zero, List.getElem?_cons_succ]; rfl
                      case azz29 => kernel_rfl
                      case bzz29 => kernel_rfl
                      case czz29 => kernel_rfl
                      case yzz29 =>
                        refine Or.inl ⟨by rfl, ?_⟩
                        intro w hSw
                        skip
                        go_simp
                        try with_reducible rfl
                      case qzz29 => exact fun _ _ _ h => h
                      case szz29 => first | assumption | trivial
                      case' rzz29 => simp only [Act.put, List.setIfInBounds_toArray, List.set_cons_zero, List.set_cons_succ]
                      refine wpAnyH_take (i := 34) (oi := ?ozz30) (v := ?vzz30) ?hzz30 ?azz30 ?bzz30 ?czz30 ?qzz30 ?yzz30 ?szz30 ?rzz30
                      case hzz30 => simp only [List.getElem?_toArray, List.getElem?_cons_zero, List.getElem?_cons_succ]; rfl
                      case azz30 => kernel_rfl
                      case bzz30 => kernel_rfl
                      case czz30 => kernel_rfl
                      case yzz30 =>
                        refine Or.inl ⟨by rfl, ?_⟩
                        intro w hSw
                        skip
                        go_simp
                        try with_reducible rfl
                      case qzz30 => exact fun _ _ _ h => h
                      case szz30 => first | assumption | trivial
                      case' rzz30 => simp only [Act.put, List.setIfInBounds_toArray, List.set_cons_zero, List.set_cons_succ]
                      refine wpAnyH_take (i := 35) (oi := ?ozz31) (v := ?vzz31) ?hzz31 ?azz31 ?bzz31 ?czz31 ?qzz31 ?yzz31 ?szz31 ?rzz31
                      case hzz31 => simp only [List.getElem?_toArray, List.getElem?_cons_zero, List.getElem?_cons_succ]; rfl
                      case azz31 => kernel_rfl
                      case bzz31 => kernel_rfl
                      case czz31 => kernel_rfl
                      case yzz31 =>
                        refine Or.inl ⟨by rfl, ?_⟩
                        intro w hSw
                        skip
                        go_simp
                        try with_reducible rfl
                      case qzz31 => exact fun _ _ _ h => h
                      case szz31 => first | assumption | trivial
                      case' rzz31 => simp only [Act.put, List.setIfInBounds_toArray, List.set_cons_zero, List.set_cons_succ]
                      refine wpAnyH_done (by kernel_rfl) ?_ _
                      go_wp2
                      go_ret
                      exact ⟨by first | rfl | (simp; done), BQ.out.trans hHeld⟩
                  case' mzz32 => skip
                  exact AllReadyH.nil
              case' mzz33 => skip
              exact AllReadyH.nil
          case' mzz34 => skip
          exact AllReadyH.nil
      case' mzz35 => skip
      exact AllReadyH.nil
  case' mzz36 => skip
  exact AllReadyH.nil
set_option maxHeartbeats 4000000 in
theorem walk_0x01 (a : Wn) (b : Wn) (key : ByteArray) (w : World) (h1 : inS a key = false) (h3 : over a b = false) (h4 : lt a.lo b.lo = true) :
    Calls Try.prog 5 #[wnV a, wnV b, .string key] w fun e w' => e = .returned (.bool true) ∧ Q w w' := by
  have K1 := Lib.hid (fun W => sin_any a key W)
  rw [h1] at K1
  have K2 := Lib.hid (fun W => sin_any b key W)
  have K3 := Lib.hid (fun W => sover_any a b W)
  rw [h3] at K3
  have K4 := Lib.hid (fun W => sover_any b a W)
  rw [over_comm b a, h3] at K4
  have K5 := Lib.hid (fun W => sclash_any a b W)
  have K6 := Lib.hid (fun W => sclash_any b a W)
  rw [clash_comm b a] at K6
  have KA := Lib.hid (fun W => sin_any a (mx a.lo b.lo) W)
  have KB := Lib.hid (fun W => sin_any b (mx a.lo b.lo) W)
  rw [show mx a.lo b.lo = b.lo by unfold mx; rw [h4]; rfl] at KA KB
  have e4 := lt_data a.lo b.lo
  rw [h4] at e4
  have r1 := beq_rr (clash a b)
  generalize clash a b = y at *
  clear h1 h3 h4
  have B := wn_box2 w a b
  try unfold wnV at *
  go_enter Try.func5, Try.ntmps5
  go_wp2_with fail
  generalize ((w.alloc (.cells #[.int .i64 a.mode, .string a.lo, .string a.hi] 23)).alloc (.cells #[.int .i64 b.mode, .string b.lo, .string b.hi] 23)) = W0 at B ⊢
  obtain ⟨⟨c0, c1, c2⟩, ⟨c3, c4, c5⟩, bq⟩ := B
  change _ at bq
  refine (spshown_any _).mono ?_
  rintro e W ⟨rfl, q0⟩
  have c0 := box_ q0 c0
  have c1 := box_ q0 c1
  have c2 := box_ q0 c2
  have c3 := box_ q0 c3
  have c4 := box_ q0 c4
  have c5 := box_ q0 c5
  have BQ := Lib.hid (bq.trans q0)
  clear bq q0
  go_wp2_with fail
  refine (K1.out _).mono ?_
  rintro e w1 ⟨rfl, q1⟩
  have c0 := box_ q1 c0
  have c1 := box_ q1 c1
  have c2 := box_ q1 c2
  have c3 := box_ q1 c3
  have c4 := box_ q1 c4
  have c5 := box_ q1 c5
  have BQ := Lib.hid (BQ.out.trans q1)
  clear q1
  go_wp2
  refine wp_region_held_drew (S := Q w1) (by kernel_rfl) ?szz37 (fun hHeld => ?rzz37)
  case szz37 =>
    exact (Q.refl w1).drew
  case' rzz37 => skip
  refine wpAnyH_take (i := 0) (oi := ?ozz38) (v := ?vzz38) ?hzz38 ?azz38 ?bzz38 ?czz38 ?qzz38 ?yzz38 ?szz38 ?rzz38
  case hzz38 => simp only [List.getElem?_toArray, List.getElem?_cons_zero]; rfl
  case azz38 => kernel_rfl
  case bzz38 => kernel_rfl
  case czz38 => kernel_rfl
  case yzz38 =>
    refine Or.inl ⟨by rfl, ?_⟩
    intro w hSw
    skip
    go_simp
    try with_reducible rfl
  case qzz38 => exact fun _ _ _ h => h
  case szz38 => first | assumption | trivial
  case' rzz38 => simp only [Act.put, List.setIfInBounds_toArray, List.set_cons_zero, List.set_cons_succ]
  refine wpAnyH_take (i := 1) (oi := ?ozz39) (v := ?vzz39) ?hzz39 ?azz39 ?bzz39 ?czz39 ?qzz39 ?yzz39 ?szz39 ?rzz39
  case hzz39 => simp only [List.getElem?_toArray, List.getElem?_cons_zero, List.getElem?_cons_succ]; rfl
  case azz39 => kernel_rfl
  case bzz39 => kernel_rfl
  case czz39 => kernel_rfl
  case yzz39 =>
    refine Or.inl ⟨by rfl, ?_⟩
    intro w hSw
    skip
    go_simp
    try with_reducible rfl
  case qzz39 => exact fun _ _ _ h => h
  case szz39 => first | assumption | trivial
  case' rzz39 => simp only [Act.put, List.setIfInBounds_toArray, List.set_cons_zero, List.set_cons_succ]
  refine wpAnyH_take (i := 2) (oi := ?ozz40) (v := ?vzz40) ?hzz40 ?azz40 ?bzz40 ?czz40 ?qzz40 ?yzz40 ?szz40 ?rzz40
  case hzz40 => simp only [List.getElem?_toArray, List.getElem?_cons_zero, List.getElem?_cons_succ]; rfl
  case azz40 => kernel_rfl
  case bzz40 => kernel_rfl
  case czz40 => kernel_rfl
  case yzz40 =>
    refine Or.inl ⟨by rfl, ?_⟩
    intro w hSw
    have x0 := box_ hSw c0; have x1 := box_ hSw c1; have x2 := box_ hSw c2; have x3 := box_ hSw c3; have x4 := box_ hSw c4; have x5 := box_ hSw c5; clear hSw
    go_simp
    try with_reducible rfl
  case qzz40 => exact fun _ _ _ h => h
  case szz40 => first | assumption | trivial
  case' rzz40 => simp only [Act.put, List.setIfInBounds_toArray, List.set_cons_zero, List.set_cons_succ]
  refine wpAnyH_take (i := 3) (oi := ?ozz41) (v := ?vzz41) ?hzz41 ?azz41 ?bzz41 ?czz41 ?qzz41 ?yzz41 ?szz41 ?rzz41
  case hzz41 => simp only [List.getElem?_toArray, List.getElem?_cons_zero, List.getElem?_cons_succ]; rfl
  case azz41 => kernel_rfl
  case bzz41 => kernel_rfl
  case czz41 => kernel_rfl
  case yzz41 =>
    refine Or.inl ⟨by rfl, ?_⟩
    intro w hSw
    have x0 := box_ hSw c0; have x1 := box_ hSw c1; have x2 := box_ hSw c2; have x3 := box_ hSw c3; have x4 := box_ hSw c4; have x5 := box_ hSw c5; clear hSw
    go_simp
    try with_reducible rfl
  case qzz41 => exact fun _ _ _ h => h
  case szz41 => first | assumption | trivial
  case' rzz41 => simp only [Act.put, List.setIfInBounds_toArray, List.set_cons_zero, List.set_cons_succ]
  refine wpAnyH_ready (rs := [4]) (by kernel_rfl) (by simp) ?_
  refine AllReadyH.cons (o := ?ozz73) ?hzz73 (fun K hK => ?kzz73) ?mzz73
  case hzz73 => simp only [List.getElem?_toArray, List.getElem?_cons_zero, List.getElem?_cons_succ]; rfl
  case kzz73 =>
    go_simp
    refine (K3.out _).mono ?_
    rintro e v1 ⟨rfl, q1⟩
    go_wp2_with fail
    refine hK.out _ _ ?Szz73 (fun hHeld => ?Rzz73)
    case Szz73 =>
      exact hHeld.trans q1
    case Rzz73 =>
      clear hK K
      try simp only [Act.put, List.setIfInBounds_toArray, List.set_cons_zero, List.set_cons_succ]
      refine wpAnyH_take (i := 5) (oi := ?ozz42) (v := ?vzz42) ?hzz42 ?azz42 ?bzz42 ?czz42 ?qzz42 ?yzz42 ?szz42 ?rzz42
      case hzz42 => simp only [List.getElem?_toArray, List.getElem?_cons_zero, List.getElem?_cons_succ]; rfl
      case azz42 => kernel_rfl
      case bzz42 => kernel_rfl
      case czz42 => kernel_rfl
      case yzz42 =>
        refine Or.inl ⟨by rfl, ?_⟩
        intro w hSw
        skip
        go_simp
        try with_reducible rfl
      case qzz42 => exact fun _ _ _ h => h
      case szz42 => first | assumption | trivial
      case' rzz42 => simp only [Act.put, List.setIfInBounds_toArray, List.set_cons_zero, List.set_cons_succ]
      refine wpAnyH_take (i := 6) (oi := ?ozz43) (v := ?vzz43) ?hzz43 ?azz43 ?bzz43 ?czz43 ?qzz43 ?yzz43 ?szz43 ?rzz43
      case hzz43 => simp only [List.getElem?_toArray, List.getElem?_cons_zero, List.getElem?_cons_succ]; rfl
      case azz43 => kernel_rfl
      case bzz43 => kernel_rfl
      case czz43 => kernel_rfl
      case yzz43 =>
        refine Or.inl ⟨by rfl, ?_⟩
        intro w hSw
        skip
        go_simp
        try with_reducible rfl
      case qzz43 => exact fun _ _ _ h => h
      case szz43 => first | assumption | trivial
      case' rzz43 => simp only [Act.put, List.setIfInBounds_toArray, List.set_cons_zero, List.set_cons_succ]
      refine wpAnyH_take (i := 7) (oi := ?ozz44) (v := undef) ?hzz44 ?azz44 ?bzz44 ?czz44 ?qzz44 ?yzz44 ?szz44 ?rzz44
      case hzz44 => simp only [List.getElem?_toArray, List.getElem?_cons_zero, List.getElem?_cons_succ]; rfl
      case azz44 => kernel_rfl
      case bzz44 => kernel_rfl
      case czz44 => kernel_rfl
      case yzz44 => exact Or.inr ⟨by rfl, rfl⟩
      case qzz44 => exact fun _ _ _ h => h
      case szz44 => first | assumption | trivial
      case' rzz44 => simp only [Act.put, List.setIfInBounds_toArray, List.set_cons_zero, List.set_cons_succ]
      refine wpAnyH_take (i := 8) (oi := ?ozz45) (v := undef) ?hzz45 ?azz45 ?bzz45 ?czz45 ?qzz45 ?yzz45 ?szz45 ?rzz45
      case hzz45 => simp only [List.getElem?_toArray, List.getElem?_cons_zero, List.getElem?_cons_succ]; rfl
      case azz45 => kernel_rfl
      case bzz45 => kernel_rfl
      case czz45 => kernel_rfl
      case yzz45 => exact Or.inr ⟨by rfl, rfl⟩
      case qzz45 => exact fun _ _ _ h => h
      case szz45 => first | assumption | trivial
      case' rzz45 => simp only [Act.put, List.setIfInBounds_toArray, List.set_cons_zero, List.set_cons_succ]
      refine wpAnyH_take (i := 9) (oi := ?ozz46) (v := undef) ?hzz46 ?azz46 ?bzz46 ?czz46 ?qzz46 ?yzz46 ?szz46 ?rzz46
      case hzz46 => simp only [List.getElem?_toArray, List.getElem?_cons_zero, List.getElem?_cons_succ]; rfl
      case azz46 => kernel_rfl
      case bzz46 => kernel_rfl
      case czz46 => kernel_rfl
      case yzz46 => exact Or.inr ⟨by rfl, rfl⟩
      case qzz46 => exact fun _ _ _ h => h
      case szz46 => first | assumption | trivial
      case' rzz46 => simp only [Act.put, List.setIfInBounds_toArray, List.set_cons_zero, List.set_cons_succ]
      refine wpAnyH_take (i := 10) (oi := ?ozz47) (v := undef) ?hzz47 ?azz47 ?bzz47 ?czz47 ?qzz47 ?yzz47 ?szz47 ?rzz47
      case hzz47 => simp only [List.getElem?_toArray, List.getElem?_cons_zero, List.getElem?_cons_succ]; rfl
      case azz47 => kernel_rfl
      case bzz47 => kernel_rfl
      case czz47 => kernel_rfl
      case yzz47 => exact Or.inr ⟨by rfl, rfl⟩
      case qzz47 => exact fun _ _ _ h => h
      case szz47 => first | assumption | trivial
      case' rzz47 => simp only [Act.put, List.setIfInBounds_toArray, List.set_cons_zero, List.set_cons_succ]
      refine wpAnyH_take (i := 11) (oi := ?ozz48) (v := undef) ?hzz48 ?azz48 ?bzz48 ?czz48 ?qzz48 ?yzz48 ?szz48 ?rzz48
      case hzz48 => simp only [List.getElem?_toArray, List.getElem?_cons_zero, List.getElem?_cons_succ]; rfl
      case azz48 => kernel_rfl
      case bzz48 => kernel_rfl
      case czz48 => kernel_rfl
      case yzz48 => exact Or.inr ⟨by rfl, rfl⟩
      case qzz48 => exact fun _ _ _ h => h
      case szz48 => first | assumption | trivial
      case' rzz48 => simp only [Act.put, List.setIfInBounds_toArray, List.set_cons_zero, List.set_cons_succ]
      refine wpAnyH_take (i := 12) (oi := ?ozz49) (v := undef) ?hzz49 ?azz49 ?bzz49 ?czz49 ?qzz49 ?yzz49 ?szz49 ?rzz49
      case hzz49 => simp only [List.getElem?_toArray, List.getElem?_cons_zero, List.getElem?_cons_succ]; rfl
      case azz49 => kernel_rfl
      case bzz49 => kernel_rfl
      case czz49 => kernel_rfl
      case yzz49 => exact Or.inr ⟨by rfl, rfl⟩
      case qzz49 => exact fun _ _ _ h => h
      case szz49 => first | assumption | trivial
      case' rzz49 => simp only [Act.put, List.setIfInBounds_toArray, List.set_cons_zero, List.set_cons_succ]
      refine wpAnyH_take (i := 13) (oi := ?ozz50) (v := undef) ?hzz50 ?azz50 ?bzz50 ?czz50 ?qzz50 ?yzz50 ?szz50 ?rzz50
      case hzz50 => simp only [List.getElem?_toArray, List.getElem?_cons_zero, List.getElem?_cons_succ]; rfl
      case azz50 => kernel_rfl
      case bzz50 => kernel_rfl
      case czz50 => kernel_rfl
      case yzz50 => exact Or.inr ⟨by rfl, rfl⟩
      case qzz50 => exact fun _ _ _ h => h
      case szz50 => first | assumption | trivial
      case' rzz50 => simp only [Act.put, List.setIfInBounds_toArray, List.set_cons_zero, List.set_cons_succ]
      refine wpAnyH_take (i := 14) (oi := ?ozz51) (v := undef) ?hzz51 ?azz51 ?bzz51 ?czz51 ?qzz51 ?yzz51 ?szz51 ?rzz51
      case hzz51 => simp only [List.getElem?_toArray, List.getElem?_cons_zero, List.getElem?_cons_succ]; rfl
      case azz51 => kernel_rfl
      case bzz51 => kernel_rfl
      case czz51 => kernel_rfl
      case yzz51 => exact Or.inr ⟨by rfl, rfl⟩
      case qzz51 => exact fun _ _ _ h => h
      case szz51 => first | assumption | trivial
      case' rzz51 => simp only [Act.put, List.setIfInBounds_toArray, List.set_cons_zero, List.set_cons_succ]
      refine wpAnyH_take (i := 15) (oi := ?ozz52) (v := ?vzz52) ?hzz52 ?azz52 ?bzz52 ?czz52 ?qzz52 ?yzz52 ?szz52 ?rzz52
      case hzz52 => simp only [List.getElem?_toArray, List.getElem?_cons_zero, List.getElem?_cons_succ]; rfl
      case azz52 => kernel_rfl
      case bzz52 => kernel_rfl
      case czz52 => kernel_rfl
      case yzz52 =>
        refine Or.inl ⟨by rfl, ?_⟩
        intro w hSw
        skip
        go_simp
        try with_reducible rfl
      case qzz52 => exact fun _ _ _ h => h
      case szz52 => first | assumption | trivial
      case' rzz52 => simp only [Act.put, List.setIfInBounds_toArray, List.set_cons_zero, List.set_cons_succ]
      refine wpAnyH_take (i := 16) (oi := ?ozz53) (v := ?vzz53) ?hzz53 ?azz53 ?bzz53 ?czz53 ?qzz53 ?yzz53 ?szz53 ?rzz53
      case hzz53 => simp only [List.getElem?_toArray, List.getElem?_cons_zero, List.getElem?_cons_succ]; rfl
      case azz53 => kernel_rfl
      case bzz53 => kernel_rfl
      case czz53 => kernel_rfl
      case yzz53 =>
        refine Or.inl ⟨by rfl, ?_⟩
        intro w hSw
        skip
        go_simp
        try with_reducible rfl
      case qzz53 => exact fun _ _ _ h => h
      case szz53 => first | assumption | trivial
      case' rzz53 => simp only [Act.put, List.setIfInBounds_toArray, List.set_cons_zero, List.set_cons_succ]
      refine wpAnyH_take (i := 17) (oi := ?ozz54) (v := ?vzz54) ?hzz54 ?azz54 ?bzz54 ?czz54 ?qzz54 ?yzz54 ?szz54 ?rzz54
      case hzz54 => simp only [List.getElem?_toArray, List.getElem?_cons_zero, List.getElem?_cons_succ]; rfl
      case azz54 => kernel_rfl
      case bzz54 => kernel_rfl
      case czz54 => kernel_rfl
      case yzz54 =>
        refine Or.inl ⟨by rfl, ?_⟩
        intro w hSw
        skip
        go_simp
        try with_reducible rfl
      case qzz54 => exact fun _ _ _ h => h
      case szz54 => first | assumption | trivial
      case' rzz54 => simp only [Act.put, List.setIfInBounds_toArray, List.set_cons_zero, List.set_cons_succ]
      refine wpAnyH_take (i := 18) (oi := ?ozz55) (v := ?vzz55) ?hzz55 ?azz55 ?bzz55 ?czz55 ?qzz55 ?yzz55 ?szz55 ?rzz55
      case hzz55 => simp only [List.getElem?_toArray, List.getElem?_cons_zero, List.getElem?_cons_succ]; rfl
      case azz55 => kernel_rfl
      case bzz55 => kernel_rfl
      case czz55 => kernel_rfl
      case yzz55 =>
        refine Or.inl ⟨by rfl, ?_⟩
        intro w hSw
        have x0 := box_ hSw c0; have x1 := box_ hSw c1; have x2 := box_ hSw c2; have x3 := box_ hSw c3; have x4 := box_ hSw c4; have x5 := box_ hSw c5; clear hSw
        go_simp
        try with_reducible rfl
      case qzz55 => exact fun _ _ _ h => h
      case szz55 => first | assumption | trivial
      case' rzz55 => simp only [Act.put, List.setIfInBounds_toArray, List.set_cons_zero, List.set_cons_succ]
      refine wpAnyH_take (i := 19) (oi := ?ozz56) (v := ?vzz56) ?hzz56 ?azz56 ?bzz56 ?czz56 ?qzz56 ?yzz56 ?szz56 ?rzz56
      case hzz56 => simp only [List.getElem?_toArray, List.getElem?_cons_zero, List.getElem?_cons_succ]; rfl
      case azz56 => kernel_rfl
      case bzz56 => kernel_rfl
      case czz56 => kernel_rfl
      case yzz56 =>
        refine Or.inl ⟨by rfl, ?_⟩
        intro w hSw
        have x0 := box_ hSw c0; have x1 := box_ hSw c1; have x2 := box_ hSw c2; have x3 := box_ hSw c3; have x4 := box_ hSw c4; have x5 := box_ hSw c5; clear hSw
        go_simp
        try with_reducible rfl
      case qzz56 => exact fun _ _ _ h => h
      case szz56 => first | assumption | trivial
      case' rzz56 => simp only [Act.put, List.setIfInBounds_toArray, List.set_cons_zero, List.set_cons_succ]
      refine wpAnyH_take (i := 21) (oi := ?ozz57) (v := ?vzz57) ?hzz57 ?azz57 ?bzz57 ?czz57 ?qzz57 ?yzz57 ?szz57 ?rzz57
      case hzz57 => simp only [List.getElem?_toArray, List.getElem?_cons_zero, List.getElem?_cons_succ]; rfl
      case azz57 => kernel_rfl
      case bzz57 => kernel_rfl
      case czz57 => kernel_rfl
      case yzz57 =>
        refine Or.inl ⟨by rfl, ?_⟩
        intro w hSw
        have x0 := box_ hSw c0; have x1 := box_ hSw c1; have x2 := box_ hSw c2; have x3 := box_ hSw c3; have x4 := box_ hSw c4; have x5 := box_ hSw c5; clear hSw
        go_simp
        try with_reducible rfl
      case qzz57 => exact fun _ _ _ h => h
      case szz57 => first | assumption | trivial
      case' rzz57 => simp only [Act.put, List.setIfInBounds_toArray, List.set_cons_zero, List.set_cons_succ]
      refine wpAnyH_take (i := 22) (oi := ?ozz58) (v := ?vzz58) ?hzz58 ?azz58 ?bzz58 ?czz58 ?qzz58 ?yzz58 ?szz58 ?rzz58
      case hzz58 => simp only [List.getElem?_toArray, List.getElem?_cons_zero, List.getElem?_cons_succ]; rfl
      case azz58 => kernel_rfl
      case bzz58 => kernel_rfl
      case czz58 => kernel_rfl
      case yzz58 =>
        refine Or.inl ⟨by rfl, ?_⟩
        intro w hSw
        have x0 := box_ hSw c0; have x1 := box_ hSw c1; have x2 := box_ hSw c2; have x3 := box_ hSw c3; have x4 := box_ hSw c4; have x5 := box_ hSw c5; clear hSw
        go_simp
        try with_reducible rfl
      case qzz58 => exact fun _ _ _ h => h
      case szz58 => first | assumption | trivial
      case' rzz58 => simp only [Act.put, List.setIfInBounds_toArray, List.set_cons_zero, List.set_cons_succ]
      refine wpAnyH_ready (rs := [20]) (by kernel_rfl) (by simp) ?_
      refine AllReadyH.cons (o := ?ozz72) ?hzz72 (fun K hK => ?kzz72) ?mzz72
      case hzz72 => simp only [List.getElem?_toArray, List.getElem?_cons_zero, List.getElem?_cons_succ]; rfl
      case kzz72 =>
        go_simp
        refine (K3.out _).mono ?_
        rintro e v4 ⟨rfl, q4⟩
        go_wp2_with fail
        refine hK.out _ _ ?Szz72 (fun hHeld => ?Rzz72)
        case Szz72 =>
          exact hHeld.trans q4
        case Rzz72 =>
          clear hK K
          try simp only [Act.put, List.setIfInBounds_toArray, List.set_cons_zero, List.set_cons_succ]
          refine wpAnyH_ready (rs := [23]) (by kernel_rfl) (by simp) ?_
          refine AllReadyH.cons (o := ?ozz71) ?hzz71 (fun K hK => ?kzz71) ?mzz71
          case hzz71 => simp only [List.getElem?_toArray, List.getElem?_cons_zero, List.getElem?_cons_succ]; rfl
          case kzz71 =>
            go_simp
            refine (K4.out _).mono ?_
            rintro e v5 ⟨rfl, q5⟩
            go_wp2_with fail
            refine hK.out _ _ ?Szz71 (fun hHeld => ?Rzz71)
            case Szz71 =>
              exact hHeld.trans q5
            case Rzz71 =>
              clear hK K
              try simp only [Act.put, List.setIfInBounds_toArray, List.set_cons_zero, List.set_cons_succ]
              refine wpAnyH_take (i := 24) (oi := ?ozz59) (v := ?vzz59) ?hzz59 ?azz59 ?bzz59 ?czz59 ?qzz59 ?yzz59 ?szz59 ?rzz59
              case hzz59 => simp only [List.getElem?_toArray, List.getElem?_cons_zero, List.getElem?_cons_succ]; rfl
              case azz59 => kernel_rfl
              case bzz59 => kernel_rfl
              case czz59 => kernel_rfl
              case yzz59 =>
                refine Or.inl ⟨by rfl, ?_⟩
                intro w hSw
                skip
                go_simp
                try with_reducible rfl
              case qzz59 => exact fun _ _ _ h => h
              case szz59 => first | assumption | trivial
              case' rzz59 => simp only [Act.put, List.setIfInBounds_toArray, List.set_cons_zero, List.set_cons_succ]
              refine wpAnyH_take (i := 25) (oi := ?ozz60) (v := ?vzz60) ?hzz60 ?azz60 ?bzz60 ?czz60 ?qzz60 ?yzz60 ?szz60 ?rzz60
              case hzz60 => simp only [List.getElem?_toArray, List.getElem?_cons_zero, List.getElem?_cons_succ]; rfl
              case azz60 => kernel_rfl
              case bzz60 => kernel_rfl
              case czz60 => kernel_rfl
              case yzz60 =>
                refine Or.inl ⟨by rfl, ?_⟩
                intro w hSw
                skip
                go_simp
                try with_reducible rfl
              case qzz60 => exact fun _ _ _ h => h
              case szz60 => first | assumption | trivial
              case' rzz60 => simp only [Act.put, List.setIfInBounds_toArray, List.set_cons_zero, List.set_cons_succ]
              refine wpAnyH_take (i := 26) (oi := ?ozz61) (v := ?vzz61) ?hzz61 ?azz61 ?bzz61 ?czz61 ?qzz61 ?yzz61 ?szz61 ?rzz61
              case hzz61 => simp only [List.getElem?_toArray, List.getElem?_cons_zero, List.getElem?_cons_succ]; rfl
              case azz61 => kernel_rfl
              case bzz61 => kernel_rfl
              case czz61 => kernel_rfl
              case yzz61 =>
                refine Or.inl ⟨by rfl, ?_⟩
                intro w hSw
                skip
                go_simp
                try with_reducible rfl
              case qzz61 => exact fun _ _ _ h => h
              case szz61 => first | assumption | trivial
              case' rzz61 => simp only [Act.put, List.setIfInBounds_toArray, List.set_cons_zero, List.set_cons_succ]
              refine wpAnyH_take (i := 27) (oi := ?ozz62) (v := ?vzz62) ?hzz62 ?azz62 ?bzz62 ?czz62 ?qzz62 ?yzz62 ?szz62 ?rzz62
              case hzz62 => simp only [List.getElem?_toArray, List.getElem?_cons_zero, List.getElem?_cons_succ]; rfl
              case azz62 => kernel_rfl
              case bzz62 => kernel_rfl
              case czz62 => kernel_rfl
              case yzz62 =>
                refine Or.inl ⟨by rfl, ?_⟩
                intro w hSw
                have x0 := box_ hSw c0; have x1 := box_ hSw c1; have x2 := box_ hSw c2; have x3 := box_ hSw c3; have x4 := box_ hSw c4; have x5 := box_ hSw c5; clear hSw
                go_simp
                try with_reducible rfl
              case qzz62 => exact fun _ _ _ h => h
              case szz62 => first | assumption | trivial
              case' rzz62 => simp only [Act.put, List.setIfInBounds_toArray, List.set_cons_zero, List.set_cons_succ]
              refine wpAnyH_take (i := 28) (oi := ?ozz63) (v := ?vzz63) ?hzz63 ?azz63 ?bzz63 ?czz63 ?qzz63 ?yzz63 ?szz63 ?rzz63
              case hzz63 => simp only [List.getElem?_toArray, List.getElem?_cons_zero, List.getElem?_cons_succ]; rfl
              case azz63 => kernel_rfl
              case bzz63 => kernel_rfl
              case czz63 => kernel_rfl
              case yzz63 =>
                refine Or.inl ⟨by rfl, ?_⟩
                intro w hSw
                have x0 := box_ hSw c0; have x1 := box_ hSw c1; have x2 := box_ hSw c2; have x3 := box_ hSw c3; have x4 := box_ hSw c4; have x5 := box_ hSw c5; clear hSw
                go_simp
                try with_reducible rfl
              case qzz63 => exact fun _ _ _ h => h
              case szz63 => first | assumption | trivial
              case' rzz63 => simp only [Act.put, List.setIfInBounds_toArray, List.set_cons_zero, List.set_cons_succ]
              refine wpAnyH_take (i := 30) (oi := ?ozz64) (v := ?vzz64) ?hzz64 ?azz64 ?bzz64 ?czz64 ?qzz64 ?yzz64 ?szz64 ?rzz64
              case hzz64 => simp only [List.getElem?_toArray, List.getElem?_cons_zero, List.getElem?_cons_succ]; rfl
              case azz64 => kernel_rfl
              case bzz64 => kernel_rfl
              case czz64 => kernel_rfl
              case yzz64 =>
                refine Or.inl ⟨by rfl, ?_⟩
                intro w hSw
                have x0 := box_ hSw c0; have x1 := box_ hSw c1; have x2 := box_ hSw c2; have x3 := box_ hSw c3; have x4 := box_ hSw c4; have x5 := box_ hSw c5; clear hSw
                go_simp
                try with_reducible rfl
              case qzz64 => exact fun _ _ _ h => h
              case szz64 => first | assumption | trivial
              case' rzz64 => simp only [Act.put, List.setIfInBounds_toArray, List.set_cons_zero, List.set_cons_succ]
              refine wpAnyH_take (i := 31) (oi := ?ozz65) (v := ?vzz65) ?hzz65 ?azz65 ?bzz65 ?czz65 ?qzz65 ?yzz65 ?szz65 ?rzz65
              case hzz65 => simp only [List.getElem?_toArray, List.getElem?_cons_zero, List.getElem?_cons_succ]; rfl
              case azz65 => kernel_rfl
              case bzz65 => kernel_rfl
              case czz65 => kernel_rfl
              case yzz65 =>
                refine Or.inl ⟨by rfl, ?_⟩
                intro w hSw
                have x0 := box_ hSw c0; have x1 := box_ hSw c1; have x2 := box_ hSw c2; have x3 := box_ hSw c3; have x4 := box_ hSw c4; have x5 := box_ hSw c5; clear hSw
                go_simp
                try with_reducible rfl
              case qzz65 => exact fun _ _ _ h => h
              case szz65 => first | assumption | trivial
              case' rzz65 => simp only [Act.put, List.setIfInBounds_toArray, List.set_cons_zero, List.set_cons_succ]
              refine wpAnyH_ready (rs := [29]) (by kernel_rfl) (by simp) ?_
              refine AllReadyH.cons (o := ?ozz70) ?hzz70 (fun K hK => ?kzz70) ?mzz70
              case hzz70 => simp only [List.getElem?_toArray, List.getElem?_cons_zero, List.getElem?_cons_succ]; rfl
              case kzz70 =>
                go_simp
                refine (K5.out _).mono ?_
                rintro e v6 ⟨rfl, q6⟩
                go_wp2_with fail
                refine hK.out _ _ ?Szz70 (fun hHeld => ?Rzz70)
                case Szz70 =>
                  exact hHeld.trans q6
                case Rzz70 =>
                  clear hK K
                  try simp only [Act.put, List.setIfInBounds_toArray, List.set_cons_zero, List.set_cons_succ]
                  refine wpAnyH_ready (rs := [32]) (by kernel_rfl) (by simp) ?_
                  refine AllReadyH.cons (o := ?ozz69) ?hzz69 (fun K hK => ?kzz69) ?mzz69
                  case hzz69 => simp only [List.getElem?_toArray, List.getElem?_cons_zero, List.getElem?_cons_succ]; rfl
                  case kzz69 =>
                    go_simp
                    refine (K6.out _).mono ?_
                    rintro e v7 ⟨rfl, q7⟩
                    go_wp2_with fail
                    refine hK.out _ _ ?Szz69 (fun hHeld => ?Rzz69)
                    case Szz69 =>
                      exact hHeld.trans q7
                    case Rzz69 =>
                      clear hK K
                      try simp only [Act.put, List.setIfInBounds_toArray, List.set_cons_zero, List.set_cons_succ]
                      refine wpAnyH_take (i := 33) (oi := ?ozz66) (v := ?vzz66) ?hzz66 ?azz66 ?bzz66 ?czz66 ?qzz66 ?yzz66 ?szz66 ?rzz66
                      case hzz66 => simp only [List.getElem?_toArray, List.getElem?_cons_zero, List.getElem?_cons_succ]; rfl
                      case azz66 => kernel_rfl
                      case bzz66 => kernel_rfl
                      case czz66 => kernel_rfl
                      case yzz66 =>
                        refine Or.inl ⟨by rfl, ?_⟩
                        intro w hSw
                        skip
                        go_simp
                        try with_reducible rfl
                      case qzz66 => exact fun _ _ _ h => h
                      case szz66 => first | assumption | trivial
                      case' rzz66 => simp only [Act.put, List.setIfInBounds_toArray, List.set_cons_zero, List.set_cons_succ]
                      refine wpAnyH_take (i := 34) (oi := ?ozz67) (v := ?vzz67) ?hzz67 ?azz67 ?bzz67 ?czz67 ?qzz67 ?yzz67 ?szz67 ?rzz67
                      case hzz67 => simp only [List.getElem?_toArray, List.getElem?_cons_zero, List.getElem?_cons_succ]; rfl
                      case azz67 => kernel_rfl
                      case bzz67 => kernel_rfl
                      case czz67 => kernel_rfl
                      case yzz67 =>
                        refine Or.inl ⟨by rfl, ?_⟩
                        intro w hSw
                        skip
                        go_simp
                        try with_reducible rfl
                      case qzz67 => exact fun _ _ _ h => h
                      case szz67 => first | assumption | trivial
                      case' rzz67 => simp only [Act.put, List.setIfInBounds_toArray, List.set_cons_zero, List.set_cons_succ]
                      refine wpAnyH_take (i := 35) (oi := ?ozz68) (v := ?vzz68) ?hzz68 ?azz68 ?bzz68 ?czz68 ?qzz68 ?yzz68 ?szz68 ?rzz68
                      case hzz68 => simp only [List.getElem?_toArray, List.getElem?_cons_zero, List.getElem?_cons_succ]; rfl
                      case azz68 => kernel_rfl
                      case bzz68 => kernel_rfl
                      case czz68 => kernel_rfl
                      case yzz68 =>
                        refine Or.inl ⟨by rfl, ?_⟩
                        intro w hSw
                        skip
                        go_simp
                        try with_reducible rfl
                      case qzz68 => exact fun _ _ _ h => h
                      case szz68 => first | assumption | trivial
                      case' rzz68 => simp only [Act.put, List.setIfInBounds_toArray, List.set_cons_zero, List.set_cons_succ]
                      refine wpAnyH_done (by kernel_rfl) ?_ _
                      go_wp2
                      go_ret
                      exact ⟨by first | rfl | (simp; done), BQ.out.trans hHeld⟩
                  case' mzz69 => skip
                  exact AllReadyH.nil
              case' mzz70 => skip
              exact AllReadyH.nil
          case' mzz71 => skip
          exact AllReadyH.nil
      case' mzz72 => skip
      exact AllReadyH.nil
  case' mzz73 => skip
  exact AllReadyH.nil
set_option maxHeartbeats 4000000 in
theorem walk_0x10 (a : Wn) (b : Wn) (key : ByteArray) (w : World) (h1 : inS a key = false) (h3 : over a b = true) (h4 : lt a.lo b.lo = false) :
    Calls Try.prog 5 #[wnV a, wnV b, .string key] w fun e w' => e = .returned (.bool true) ∧ Q w w' := by
  have K1 := Lib.hid (fun W => sin_any a key W)
  rw [h1] at K1
  have K2 := Lib.hid (fun W => sin_any b key W)
  have K3 := Lib.hid (fun W => sover_any a b W)
  rw [h3] at K3
  have K4 := Lib.hid (fun W => sover_any b a W)
  rw [over_comm b a, h3] at K4
  have K5 := Lib.hid (fun W => sclash_any a b W)
  have K6 := Lib.hid (fun W => sclash_any b a W)
  rw [clash_comm b a] at K6
  have KA := Lib.hid (fun W => sin_any a (mx a.lo b.lo) W)
  have KB := Lib.hid (fun W => sin_any b (mx a.lo b.lo) W)
  have hw := witness2 a b
  rw [h3, Bool.not_true, Bool.false_or, Bool.and_eq_true] at hw
  rw [hw.1] at KA
  rw [hw.2] at KB
  clear hw
  rw [show mx a.lo b.lo = a.lo by unfold mx; rw [h4]; rfl] at KA KB
  have e4 := lt_data a.lo b.lo
  rw [h4] at e4
  have r1 := beq_rr (clash a b)
  generalize clash a b = y at *
  clear h1 h3 h4
  have B := wn_box2 w a b
  try unfold wnV at *
  go_enter Try.func5, Try.ntmps5
  go_wp2_with fail
  generalize ((w.alloc (.cells #[.int .i64 a.mode, .string a.lo, .string a.hi] 23)).alloc (.cells #[.int .i64 b.mode, .string b.lo, .string b.hi] 23)) = W0 at B ⊢
  obtain ⟨⟨c0, c1, c2⟩, ⟨c3, c4, c5⟩, bq⟩ := B
  change _ at bq
  refine (spshown_any _).mono ?_
  rintro e W ⟨rfl, q0⟩
  have c0 := box_ q0 c0
  have c1 := box_ q0 c1
  have c2 := box_ q0 c2
  have c3 := box_ q0 c3
  have c4 := box_ q0 c4
  have c5 := box_ q0 c5
  have BQ := Lib.hid (bq.trans q0)
  clear bq q0
  go_wp2_with fail
  refine (K1.out _).mono ?_
  rintro e w1 ⟨rfl, q1⟩
  have c0 := box_ q1 c0
  have c1 := box_ q1 c1
  have c2 := box_ q1 c2
  have c3 := box_ q1 c3
  have c4 := box_ q1 c4
  have c5 := box_ q1 c5
  have BQ := Lib.hid (BQ.out.trans q1)
  clear q1
  go_wp2
  refine wp_region_held_drew (S := Q w1) (by kernel_rfl) ?szz74 (fun hHeld => ?rzz74)
  case szz74 =>
    exact (Q.refl w1).drew
  case' rzz74 => skip
  refine wpAnyH_take (i := 0) (oi := ?ozz75) (v := ?vzz75) ?hzz75 ?azz75 ?bzz75 ?czz75 ?qzz75 ?yzz75 ?szz75 ?rzz75
  case hzz75 => simp only [List.getElem?_toArray, List.getElem?_cons_zero]; rfl
  case azz75 => kernel_rfl
  case bzz75 => kernel_rfl
  case czz75 => kernel_rfl
  case yzz75 =>
    refine Or.inl ⟨by rfl, ?_⟩
    intro w hSw
    skip
    go_simp
    try with_reducible rfl
  case qzz75 => exact fun _ _ _ h => h
  case szz75 => first | assumption | trivial
  case' rzz75 => simp only [Act.put, List.setIfInBounds_toArray, List.set_cons_zero, List.set_cons_succ]
  refine wpAnyH_take (i := 1) (oi := ?ozz76) (v := ?vzz76) ?hzz76 ?azz76 ?bzz76 ?czz76 ?qzz76 ?yzz76 ?szz76 ?rzz76
  case hzz76 => simp only [List.getElem?_toArray, List.getElem?_cons_zero, List.getElem?_cons_succ]; rfl
  case azz76 => kernel_rfl
  case bzz76 => kernel_rfl
  case czz76 => kernel_rfl
  case yzz76 =>
    refine Or.inl ⟨by rfl, ?_⟩
    intro w hSw
    skip
    go_simp
    try with_reducible rfl
  case qzz76 => exact fun _ _ _ h => h
  case szz76 => first | assumption | trivial
  case' rzz76 => simp only [Act.put, List.setIfInBounds_toArray, List.set_cons_zero, List.set_cons_succ]
  refine wpAnyH_take (i := 2) (oi := ?ozz77) (v := ?vzz77) ?hzz77 ?azz77 ?bzz77 ?czz77 ?qzz77 ?yzz77 ?szz77 ?rzz77
  case hzz77 => simp only [List.getElem?_toArray, List.getElem?_cons_zero, List.getElem?_cons_succ]; rfl
  case azz77 => kernel_rfl
  case bzz77 => kernel_rfl
  case czz77 => kernel_rfl
  case yzz77 =>
    refine Or.inl ⟨by rfl, ?_⟩
    intro w hSw
    have x0 := box_ hSw c0; have x1 := box_ hSw c1; have x2 := box_ hSw c2; have x3 := box_ hSw c3; have x4 := box_ hSw c4; have x5 := box_ hSw c5; clear hSw
    go_simp
    try with_reducible rfl
  case qzz77 => exact fun _ _ _ h => h
  case szz77 => first | assumption | trivial
  case' rzz77 => simp only [Act.put, List.setIfInBounds_toArray, List.set_cons_zero, List.set_cons_succ]
  refine wpAnyH_take (i := 3) (oi := ?ozz78) (v := ?vzz78) ?hzz78 ?azz78 ?bzz78 ?czz78 ?qzz78 ?yzz78 ?szz78 ?rzz78
  case hzz78 => simp only [List.getElem?_toArray, List.getElem?_cons_zero, List.getElem?_cons_succ]; rfl
  case azz78 => kernel_rfl
  case bzz78 => kernel_rfl
  case czz78 => kernel_rfl
  case yzz78 =>
    refine Or.inl ⟨by rfl, ?_⟩
    intro w hSw
    have x0 := box_ hSw c0; have x1 := box_ hSw c1; have x2 := box_ hSw c2; have x3 := box_ hSw c3; have x4 := box_ hSw c4; have x5 := box_ hSw c5; clear hSw
    go_simp
    try with_reducible rfl
  case qzz78 => exact fun _ _ _ h => h
  case szz78 => first | assumption | trivial
  case' rzz78 => simp only [Act.put, List.setIfInBounds_toArray, List.set_cons_zero, List.set_cons_succ]
  refine wpAnyH_ready (rs := [4]) (by kernel_rfl) (by simp) ?_
  refine AllReadyH.cons (o := ?ozz110) ?hzz110 (fun K hK => ?kzz110) ?mzz110
  case hzz110 => simp only [List.getElem?_toArray, List.getElem?_cons_zero, List.getElem?_cons_succ]; rfl
  case kzz110 =>
    go_simp
    refine (K3.out _).mono ?_
    rintro e v1 ⟨rfl, q1⟩
    go_wp2_with fail
    refine hK.out _ _ ?Szz110 (fun hHeld => ?Rzz110)
    case Szz110 =>
      exact hHeld.trans q1
    case Rzz110 =>
      clear hK K
      try simp only [Act.put, List.setIfInBounds_toArray, List.set_cons_zero, List.set_cons_succ]
      refine wpAnyH_take (i := 5) (oi := ?ozz79) (v := ?vzz79) ?hzz79 ?azz79 ?bzz79 ?czz79 ?qzz79 ?yzz79 ?szz79 ?rzz79
      case hzz79 => simp only [List.getElem?_toArray, List.getElem?_cons_zero, List.getElem?_cons_succ]; rfl
      case azz79 => kernel_rfl
      case bzz79 => kernel_rfl
      case czz79 => kernel_rfl
      case yzz79 =>
        refine Or.inl ⟨by rfl, ?_⟩
        intro w hSw
        skip
        go_simp
        try with_reducible rfl
      case qzz79 => exact fun _ _ _ h => h
      case szz79 => first | assumption | trivial
      case' rzz79 => simp only [Act.put, List.setIfInBounds_toArray, List.set_cons_zero, List.set_cons_succ]
      refine wpAnyH_take (i := 6) (oi := ?ozz80) (v := ?vzz80) ?hzz80 ?azz80 ?bzz80 ?czz80 ?qzz80 ?yzz80 ?szz80 ?rzz80
      case hzz80 => simp only [List.getElem?_toArray, List.getElem?_cons_zero, List.getElem?_cons_succ]; rfl
      case azz80 => kernel_rfl
      case bzz80 => kernel_rfl
      case czz80 => kernel_rfl
      case yzz80 =>
        refine Or.inl ⟨by rfl, ?_⟩
        intro w hSw
        skip
        go_simp
        try with_reducible rfl
      case qzz80 => exact fun _ _ _ h => h
      case szz80 => first | assumption | trivial
      case' rzz80 => simp only [Act.put, List.setIfInBounds_toArray, List.set_cons_zero, List.set_cons_succ]
      refine wpAnyH_take (i := 7) (oi := ?ozz81) (v := ?vzz81) ?hzz81 ?azz81 ?bzz81 ?czz81 ?qzz81 ?yzz81 ?szz81 ?rzz81
      case hzz81 => simp only [List.getElem?_toArray, List.getElem?_cons_zero, List.getElem?_cons_succ]; rfl
      case azz81 => kernel_rfl
      case bzz81 => kernel_rfl
      case czz81 => kernel_rfl
      case yzz81 =>
        refine Or.inl ⟨by rfl, ?_⟩
        intro w hSw
        have x0 := box_ hSw c0; have x1 := box_ hSw c1; have x2 := box_ hSw c2; have x3 := box_ hSw c3; have x4 := box_ hSw c4; have x5 := box_ hSw c5; clear hSw
        go_simp
        try with_reducible rfl
      case qzz81 => exact fun _ _ _ h => h
      case szz81 => first | assumption | trivial
      case' rzz81 => simp only [Act.put, List.setIfInBounds_toArray, List.set_cons_zero, List.set_cons_succ]
      refine wpAnyH_take (i := 8) (oi := ?ozz82) (v := ?vzz82) ?hzz82 ?azz82 ?bzz82 ?czz82 ?qzz82 ?yzz82 ?szz82 ?rzz82
      case hzz82 => simp only [List.getElem?_toArray, List.getElem?_cons_zero, List.getElem?_cons_succ]; rfl
      case azz82 => kernel_rfl
      case bzz82 => kernel_rfl
      case czz82 => kernel_rfl
      case yzz82 =>
        refine Or.inl ⟨by rfl, ?_⟩
        intro w hSw
        skip
        go_simp
        try with_reducible rfl
      case qzz82 => exact fun _ _ _ h => h
      case szz82 => first | assumption | trivial
      case' rzz82 => simp only [Act.put, List.setIfInBounds_toArray, List.set_cons_zero, List.set_cons_succ]
      refine wpAnyH_ready (rs := [9]) (by kernel_rfl) (by simp) ?_
      refine AllReadyH.cons (o := ?ozz109) ?hzz109 (fun K hK => ?kzz109) ?mzz109
      case hzz109 => simp only [List.getElem?_toArray, List.getElem?_cons_zero, List.getElem?_cons_succ]; rfl
      case kzz109 =>
        go_simp
        refine (KA.out _).mono ?_
        rintro e v2 ⟨rfl, q2⟩
        go_wp2_with fail
        refine hK.out _ _ ?Szz109 (fun hHeld => ?Rzz109)
        case Szz109 =>
          exact hHeld.trans q2
        case Rzz109 =>
          clear hK K
          try simp only [Act.put, List.setIfInBounds_toArray, List.set_cons_zero, List.set_cons_succ]
          refine wpAnyH_take (i := 10) (oi := ?ozz83) (v := ?vzz83) ?hzz83 ?azz83 ?bzz83 ?czz83 ?qzz83 ?yzz83 ?szz83 ?rzz83
          case hzz83 => simp only [List.getElem?_toArray, List.getElem?_cons_zero, List.getElem?_cons_succ]; rfl
          case azz83 => kernel_rfl
          case bzz83 => kernel_rfl
          case czz83 => kernel_rfl
          case yzz83 =>
            refine Or.inl ⟨by rfl, ?_⟩
            intro w hSw
            skip
            go_simp
            try with_reducible rfl
          case qzz83 => exact fun _ _ _ h => h
          case szz83 => first | assumption | trivial
          case' rzz83 => simp only [Act.put, List.setIfInBounds_toArray, List.set_cons_zero, List.set_cons_succ]
          refine wpAnyH_take (i := 11) (oi := ?ozz84) (v := ?vzz84) ?hzz84 ?azz84 ?bzz84 ?czz84 ?qzz84 ?yzz84 ?szz84 ?rzz84
          case hzz84 => simp only [List.getElem?_toArray, List.getElem?_cons_zero, List.getElem?_cons_succ]; rfl
          case azz84 => kernel_rfl
          case bzz84 => kernel_rfl
          case czz84 => kernel_rfl
          case yzz84 =>
            refine Or.inl ⟨by rfl, ?_⟩
            intro w hSw
            have x0 := box_ hSw c0; have x1 := box_ hSw c1; have x2 := box_ hSw c2; have x3 := box_ hSw c3; have x4 := box_ hSw c4; have x5 := box_ hSw c5; clear hSw
            go_simp
            try with_reducible rfl
          case qzz84 => exact fun _ _ _ h => h
          case szz84 => first | assumption | trivial
          case' rzz84 => simp only [Act.put, List.setIfInBounds_toArray, List.set_cons_zero, List.set_cons_succ]
          refine wpAnyH_take (i := 12) (oi := ?ozz85) (v := ?vzz85) ?hzz85 ?azz85 ?bzz85 ?czz85 ?qzz85 ?yzz85 ?szz85 ?rzz85
          case hzz85 => simp only [List.getElem?_toArray, List.getElem?_cons_zero, List.getElem?_cons_succ]; rfl
          case azz85 => kernel_rfl
          case bzz85 => kernel_rfl
          case czz85 => kernel_rfl
          case yzz85 =>
            refine Or.inl ⟨by rfl, ?_⟩
            intro w hSw
            skip
            go_simp
            try with_reducible rfl
          case qzz85 => exact fun _ _ _ h => h
          case szz85 => first | assumption | trivial
          case' rzz85 => simp only [Act.put, List.setIfInBounds_toArray, List.set_cons_zero, List.set_cons_succ]
          refine wpAnyH_ready (rs := [13]) (by kernel_rfl) (by simp) ?_
          refine AllReadyH.cons (o := ?ozz108) ?hzz108 (fun K hK => ?kzz108) ?mzz108
          case hzz108 => simp only [List.getElem?_toArray, List.getElem?_cons_zero, List.getElem?_cons_succ]; rfl
          case kzz108 =>
            go_simp
            refine (KB.out _).mono ?_
            rintro e v3 ⟨rfl, q3⟩
            go_wp2_with fail
            refine hK.out _ _ ?Szz108 (fun hHeld => ?Rzz108)
            case Szz108 =>
              exact hHeld.trans q3
            case Rzz108 =>
              clear hK K
              try simp only [Act.put, List.setIfInBounds_toArray, List.set_cons_zero, List.set_cons_succ]
              refine wpAnyH_take (i := 14) (oi := ?ozz86) (v := ?vzz86) ?hzz86 ?azz86 ?bzz86 ?czz86 ?qzz86 ?yzz86 ?szz86 ?rzz86
              case hzz86 => simp only [List.getElem?_toArray, List.getElem?_cons_zero, List.getElem?_cons_succ]; rfl
              case azz86 => kernel_rfl
              case bzz86 => kernel_rfl
              case czz86 => kernel_rfl
              case yzz86 =>
                refine Or.inl ⟨by rfl, ?_⟩
                intro w hSw
                skip
                go_simp
                try with_reducible rfl
              case qzz86 => exact fun _ _ _ h => h
              case szz86 => first | assumption | trivial
              case' rzz86 => simp only [Act.put, List.setIfInBounds_toArray, List.set_cons_zero, List.set_cons_succ]
              refine wpAnyH_take (i := 15) (oi := ?ozz87) (v := ?vzz87) ?hzz87 ?azz87 ?bzz87 ?czz87 ?qzz87 ?yzz87 ?szz87 ?rzz87
              case hzz87 => simp only [List.getElem?_toArray, List.getElem?_cons_zero, List.getElem?_cons_succ]; rfl
              case azz87 => kernel_rfl
              case bzz87 => kernel_rfl
              case czz87 => kernel_rfl
              case yzz87 =>
                refine Or.inl ⟨by rfl, ?_⟩
                intro w hSw
                skip
                go_simp
                try with_reducible rfl
              case qzz87 => exact fun _ _ _ h => h
              case szz87 => first | assumption | trivial
              case' rzz87 => simp only [Act.put, List.setIfInBounds_toArray, List.set_cons_zero, List.set_cons_succ]
              refine wpAnyH_take (i := 16) (oi := ?ozz88) (v := ?vzz88) ?hzz88 ?azz88 ?bzz88 ?czz88 ?qzz88 ?yzz88 ?szz88 ?rzz88
              case hzz88 => simp only [List.getElem?_toArray, List.getElem?_cons_zero, List.getElem?_cons_succ]; rfl
              case azz88 => kernel_rfl
              case bzz88 => kernel_rfl
              case czz88 => kernel_rfl
              case yzz88 =>
                refine Or.inl ⟨by rfl, ?_⟩
                intro w hSw
                skip
                go_simp
                try with_reducible rfl
              case qzz88 => exact fun _ _ _ h => h
              case szz88 => first | assumption | trivial
              case' rzz88 => simp only [Act.put, List.setIfInBounds_toArray, List.set_cons_zero, List.set_cons_succ]
              refine wpAnyH_take (i := 17) (oi := ?ozz89) (v := ?vzz89) ?hzz89 ?azz89 ?bzz89 ?czz89 ?qzz89 ?yzz89 ?szz89 ?rzz89
              case hzz89 => simp only [List.getElem?_toArray, List.getElem?_cons_zero, List.getElem?_cons_succ]; rfl
              case azz89 => kernel_rfl
              case bzz89 => kernel_rfl
              case czz89 => kernel_rfl
              case yzz89 =>
                refine Or.inl ⟨by rfl, ?_⟩
                intro w hSw
                skip
                go_simp
                try with_reducible rfl
              case qzz89 => exact fun _ _ _ h => h
              case szz89 => first | assumption | trivial
              case' rzz89 => simp only [Act.put, List.setIfInBounds_toArray, List.set_cons_zero, List.set_cons_succ]
              refine wpAnyH_take (i := 18) (oi := ?ozz90) (v := ?vzz90) ?hzz90 ?azz90 ?bzz90 ?czz90 ?qzz90 ?yzz90 ?szz90 ?rzz90
              case hzz90 => simp only [List.getElem?_toArray, List.getElem?_cons_zero, List.getElem?_cons_succ]; rfl
              case azz90 => kernel_rfl
              case bzz90 => kernel_rfl
              case czz90 => kernel_rfl
              case yzz90 =>
                refine Or.inl ⟨by rfl, ?_⟩
                intro w hSw
                have x0 := box_ hSw c0; have x1 := box_ hSw c1; have x2 := box_ hSw c2; have x3 := box_ hSw c3; have x4 := box_ hSw c4; have x5 := box_ hSw c5; clear hSw
                go_simp
                try with_reducible rfl
              case qzz90 => exact fun _ _ _ h => h
              case szz90 => first | assumption | trivial
              case' rzz90 => simp only [Act.put, List.setIfInBounds_toArray, List.set_cons_zero, List.set_cons_succ]
              refine wpAnyH_take (i := 19) (oi := ?ozz91) (v := ?vzz91) ?hzz91 ?azz91 ?bzz91 ?czz91 ?qzz91 ?yzz91 ?szz91 ?rzz91
              case hzz91 => simp only [List.getElem?_toArray, List.getElem?_cons_zero, List.getElem?_cons_succ]; rfl
              case azz91 => kernel_rfl
              case bzz91 => kernel_rfl
              case czz91 => kernel_rfl
              case yzz91 =>
                refine Or.inl ⟨by rfl, ?_⟩
                intro w hSw
                have x0 := box_ hSw c0; have x1 := box_ hSw c1; have x2 := box_ hSw c2; have x3 := box_ hSw c3; have x4 := box_ hSw c4; have x5 := box_ hSw c5; clear hSw
                go_simp
                try with_reducible rfl
              case qzz91 => exact fun _ _ _ h => h
              case szz91 => first | assumption | trivial
              case' rzz91 => simp only [Act.put, List.setIfInBounds_toArray, List.set_cons_zero, List.set_cons_succ]
              refine wpAnyH_take (i := 21) (oi := ?ozz92) (v := ?vzz92) ?hzz92 ?azz92 ?bzz92 ?czz92 ?qzz92 ?yzz92 ?szz92 ?rzz92
              case hzz92 => simp only [List.getElem?_toArray, List.getElem?_cons_zero, List.getElem?_cons_succ]; rfl
              case azz92 => kernel_rfl
              case bzz92 => kernel_rfl
              case czz92 => kernel_rfl
              case yzz92 =>
                refine Or.inl ⟨by rfl, ?_⟩
                intro w hSw
                have x0 := box_ hSw c0; have x1 := box_ hSw c1; have x2 := box_ hSw c2; have x3 := box_ hSw c3; have x4 := box_ hSw c4; have x5 := box_ hSw c5; clear hSw
                go_simp
                try with_reducible rfl
              case qzz92 => exact fun _ _ _ h => h
              case szz92 => first | assumption | trivial
              case' rzz92 => simp only [Act.put, List.setIfInBounds_toArray, List.set_cons_zero, List.set_cons_succ]
              refine wpAnyH_take (i := 22) (oi := ?ozz93) (v := ?vzz93) ?hzz93 ?azz93 ?bzz93 ?czz93 ?qzz93 ?yzz93 ?szz93 ?rzz93
              case hzz93 => simp only [List.getElem?_toArray, List.getElem?_cons_zero, List.getElem?_cons_succ]; rfl
              case azz93 => kernel_rfl
              case bzz93 => kernel_rfl
              case czz93 => kernel_rfl
              case yzz93 =>
                refine Or.inl ⟨by rfl, ?_⟩
                intro w hSw
                have x0 := box_ hSw c0; have x1 := box_ hSw c1; have x2 := box_ hSw c2; have x3 := box_ hSw c3; have x4 := box_ hSw c4; have x5 := box_ hSw c5; clear hSw
                go_simp
                try with_reducible rfl
              case qzz93 => exact fun _ _ _ h => h
              case szz93 => first | assumption | trivial
              case' rzz93 => simp only [Act.put, List.setIfInBounds_toArray, List.set_cons_zero, List.set_cons_succ]
              refine wpAnyH_ready (rs := [20]) (by kernel_rfl) (by simp) ?_
              refine AllReadyH.cons (o := ?ozz107) ?hzz107 (fun K hK => ?kzz107) ?mzz107
              case hzz107 => simp only [List.getElem?_toArray, List.getElem?_cons_zero, List.getElem?_cons_succ]; rfl
              case kzz107 =>
                go_simp
                refine (K3.out _).mono ?_
                rintro e v4 ⟨rfl, q4⟩
                go_wp2_with fail
                refine hK.out _ _ ?Szz107 (fun hHeld => ?Rzz107)
                case Szz107 =>
                  exact hHeld.trans q4
                case Rzz107 =>
                  clear hK K
                  try simp only [Act.put, List.setIfInBounds_toArray, List.set_cons_zero, List.set_cons_succ]
                  refine wpAnyH_ready (rs := [23]) (by kernel_rfl) (by simp) ?_
                  refine AllReadyH.cons (o := ?ozz106) ?hzz106 (fun K hK => ?kzz106) ?mzz106
                  case hzz106 => simp only [List.getElem?_toArray, List.getElem?_cons_zero, List.getElem?_cons_succ]; rfl
                  case kzz106 =>
                    go_simp
                    refine (K4.out _).mono ?_
                    rintro e v5 ⟨rfl, q5⟩
                    go_wp2_with fail
                    refine hK.out _ _ ?Szz106 (fun hHeld => ?Rzz106)
                    case Szz106 =>
                      exact hHeld.trans q5
                    case Rzz106 =>
                      clear hK K
                      try simp only [Act.put, List.setIfInBounds_toArray, List.set_cons_zero, List.set_cons_succ]
                      refine wpAnyH_take (i := 24) (oi := ?ozz94) (v := ?vzz94) ?hzz94 ?azz94 ?bzz94 ?czz94 ?qzz94 ?yzz94 ?szz94 ?rzz94
                      case hzz94 => simp only [List.getElem?_toArray, List.getElem?_cons_zero, List.getElem?_cons_succ]; rfl
                      case azz94 => kernel_rfl
                      case bzz94 => kernel_rfl
                      case czz94 => kernel_rfl
                      case yzz94 =>
                        refine Or.inl ⟨by rfl, ?_⟩
                        intro w hSw
                        skip
                        go_simp
                        try with_reducible rfl
                      case qzz94 => exact fun _ _ _ h => h
                      case szz94 => first | assumption | trivial
                      case' rzz94 => simp only [Act.put, List.setIfInBounds_toArray, List.set_cons_zero, List.set_cons_succ]
                      refine wpAnyH_take (i := 25) (oi := ?ozz95) (v := ?vzz95) ?hzz95 ?azz95 ?bzz95 ?czz95 ?qzz95 ?yzz95 ?szz95 ?rzz95
                      case hzz95 => simp only [List.getElem?_toArray, List.getElem?_cons_zero, List.getElem?_cons_succ]; rfl
                      case azz95 => kernel_rfl
                      case bzz95 => kernel_rfl
                      case czz95 => kernel_rfl
                      case yzz95 =>
                        refine Or.inl ⟨by rfl, ?_⟩
                        intro w hSw
                        skip
                        go_simp
                        try with_reducible rfl
                      case qzz95 => exact fun _ _ _ h => h
                      case szz95 => first | assumption | trivial
                      case' rzz95 => simp only [Act.put, List.setIfInBounds_toArray, List.set_cons_zero, List.set_cons_succ]
                      refine wpAnyH_take (i := 26) (oi := ?ozz96) (v := ?vzz96) ?hzz96 ?azz96 ?bzz96 ?czz96 ?qzz96 ?yzz96 ?szz96 ?rzz96
                      case hzz96 => simp only [List.getElem?_toArray, List.getElem?_cons_zero, List.getElem?_cons_succ]; rfl
                      case azz96 => kernel_rfl
                      case bzz96 => kernel_rfl
                      case czz96 => kernel_rfl
                      case yzz96 =>
                        refine Or.inl ⟨by rfl, ?_⟩
                        intro w hSw
                        skip
                        go_simp
                        try with_reducible rfl
                      case qzz96 => exact fun _ _ _ h => h
                      case szz96 => first | assumption | trivial
                      case' rzz96 => simp only [Act.put, List.setIfInBounds_toArray, List.set_cons_zero, List.set_cons_succ]
                      refine wpAnyH_take (i := 27) (oi := ?ozz97) (v := ?vzz97) ?hzz97 ?azz97 ?bzz97 ?czz97 ?qzz97 ?yzz97 ?szz97 ?rzz97
                      case hzz97 => simp only [List.getElem?_toArray, List.getElem?_cons_zero, List.getElem?_cons_succ]; rfl
                      case azz97 => kernel_rfl
                      case bzz97 => kernel_rfl
                      case czz97 => kernel_rfl
                      case yzz97 =>
                        refine Or.inl ⟨by rfl, ?_⟩
                        intro w hSw
                        have x0 := box_ hSw c0; have x1 := box_ hSw c1; have x2 := box_ hSw c2; have x3 := box_ hSw c3; have x4 := box_ hSw c4; have x5 := box_ hSw c5; clear hSw
                        go_simp
                        try with_reducible rfl
                      case qzz97 => exact fun _ _ _ h => h
                      case szz97 => first | assumption | trivial
                      case' rzz97 => simp only [Act.put, List.setIfInBounds_toArray, List.set_cons_zero, List.set_cons_succ]
                      refine wpAnyH_take (i := 28) (oi := ?ozz98) (v := ?vzz98) ?hzz98 ?azz98 ?bzz98 ?czz98 ?qzz98 ?yzz98 ?szz98 ?rzz98
                      case hzz98 => simp only [List.getElem?_toArray, List.getElem?_cons_zero, List.getElem?_cons_succ]; rfl
                      case azz98 => kernel_rfl
                      case bzz98 => kernel_rfl
                      case czz98 => kernel_rfl
                      case yzz98 =>
                        refine Or.inl ⟨by rfl, ?_⟩
                        intro w hSw
                        have x0 := box_ hSw c0; have x1 := box_ hSw c1; have x2 := box_ hSw c2; have x3 := box_ hSw c3; have x4 := box_ hSw c4; have x5 := box_ hSw c5; clear hSw
                        go_simp
                        try with_reducible rfl
                      case qzz98 => exact fun _ _ _ h => h
                      case szz98 => first | assumption | trivial
                      case' rzz98 => simp only [Act.put, List.setIfInBounds_toArray, List.set_cons_zero, List.set_cons_succ]
                      refine wpAnyH_take (i := 30) (oi := ?ozz99) (v := ?vzz99) ?hzz99 ?azz99 ?bzz99 ?czz99 ?qzz99 ?yzz99 ?szz99 ?rzz99
                      case hzz99 => simp only [List.getElem?_toArray, List.getElem?_cons_zero, List.getElem?_cons_succ]; rfl
                      case azz99 => kernel_rfl
                      case bzz99 => kernel_rfl
                      case czz99 => kernel_rfl
                      case yzz99 =>
                        refine Or.inl ⟨by rfl, ?_⟩
                        intro w hSw
                        have x0 := box_ hSw c0; have x1 := box_ hSw c1; have x2 := box_ hSw c2; have x3 := box_ hSw c3; have x4 := box_ hSw c4; have x5 := box_ hSw c5; clear hSw
                        go_simp
                        try with_reducible rfl
                      case qzz99 => exact fun _ _ _ h => h
                      case szz99 => first | assumption | trivial
                      case' rzz99 => simp only [Act.put, List.setIfInBounds_toArray, List.set_cons_zero, List.set_cons_succ]
                      refine wpAnyH_take (i := 31) (oi := ?ozz100) (v := ?vzz100) ?hzz100 ?azz100 ?bzz100 ?czz100 ?qzz100 ?yzz100 ?szz100 ?rzz100
                      case hzz100 => simp only [List.getElem?_toArray, List.getElem?_cons_zero, List.getElem?_cons_succ]; rfl
                      case azz100 => kernel_rfl
                      case bzz100 => kernel_rfl
                      case czz100 => kernel_rfl
                      case yzz100 =>
                        refine Or.inl ⟨by rfl, ?_⟩
                        intro w hSw
                        have x0 := box_ hSw c0; have x1 := box_ hSw c1; have x2 := box_ hSw c2; have x3 := box_ hSw c3; have x4 := box_ hSw c4; have x5 := box_ hSw c5; clear hSw
                        go_simp
                        try with_reducible rfl
                      case qzz100 => exact fun _ _ _ h => h
                      case szz100 => first | assumption | trivial
                      case' rzz100 => simp only [Act.put, List.setIfInBounds_toArray, List.set_cons_zero, List.set_cons_succ]
                      refine wpAnyH_ready (rs := [29]) (by kernel_rfl) (by simp) ?_
                      refine AllReadyH.cons (o := ?ozz105) ?hzz105 (fun K hK => ?kzz105) ?mzz105
                      case hzz105 => simp only [List.getElem?_toArray, List.getElem?_cons_zero, List.getElem?_cons_succ]; rfl
                      case kzz105 =>
                        go_simp
                        refine (K5.out _).mono ?_
                        rintro e v6 ⟨rfl, q6⟩
                        go_wp2_with fail
                        refine hK.out _ _ ?Szz105 (fun hHeld => ?Rzz105)
                        case Szz105 =>
                          exact hHeld.trans q6
                        case Rzz105 =>
                          clear hK K
                          try simp only [Act.put, List.setIfInBounds_toArray, List.set_cons_zero, List.set_cons_succ]
                          refine wpAnyH_ready (rs := [32]) (by kernel_rfl) (by simp) ?_
                          refine AllReadyH.cons (o := ?ozz104) ?hzz104 (fun K hK => ?kzz104) ?mzz104
                          case hzz104 => simp only [List.getElem?_toArray, List.getElem?_cons_zero, List.getElem?_cons_succ]; rfl
                          case kzz104 =>
                            go_simp
                            refine (K6.out _).mono ?_
                            rintro e v7 ⟨rfl, q7⟩
                            go_wp2_with fail
                            refine hK.out _ _ ?Szz104 (fun hHeld => ?Rzz104)
                            case Szz104 =>
                              exact hHeld.trans q7
                            case Rzz104 =>
                              clear hK K
                              try simp only [Act.put, List.setIfInBounds_toArray, List.set_cons_zero, List.set_cons_succ]
                              refine wpAnyH_take (i := 33) (oi := ?ozz101) (v := ?vzz101) ?hzz101 ?azz101 ?bzz101 ?czz101 ?qzz101 ?yzz101 ?szz101 ?rzz101
                              case hzz101 => simp only [List.getElem?_toArray, List.getElem?_cons_zero, List.getElem?_cons_succ]; rfl
                              case azz101 => kernel_rfl
                              case bzz101 => kernel_rfl
                              case czz101 => kernel_rfl
                              case yzz101 =>
                                refine Or.inl ⟨by rfl, ?_⟩
                                intro w hSw
                                skip
                                go_simp
                                try with_reducible rfl
                              case qzz101 => exact fun _ _ _ h => h
                              case szz101 => first | assumption | trivial
                              case' rzz101 => simp only [Act.put, List.setIfInBounds_toArray, List.set_cons_zero, List.set_cons_succ]
                              refine wpAnyH_take (i := 34) (oi := ?ozz102) (v := ?vzz102) ?hzz102 ?azz102 ?bzz102 ?czz102 ?qzz102 ?yzz102 ?szz102 ?rzz102
                              case hzz102 => simp only [List.getElem?_toArray, List.getElem?_cons_zero, List.getElem?_cons_succ]; rfl
                              case azz102 => kernel_rfl
                              case bzz102 => kernel_rfl
                              case czz102 => kernel_rfl
                              case yzz102 =>
                                refine Or.inl ⟨by rfl, ?_⟩
                                intro w hSw
                                skip
                                go_simp
                                try with_reducible rfl
                              case qzz102 => exact fun _ _ _ h => h
                              case szz102 => first | assumption | trivial
                              case' rzz102 => simp only [Act.put, List.setIfInBounds_toArray, List.set_cons_zero, List.set_cons_succ]
                              refine wpAnyH_take (i := 35) (oi := ?ozz103) (v := ?vzz103) ?hzz103 ?azz103 ?bzz103 ?czz103 ?qzz103 ?yzz103 ?szz103 ?rzz103
                              case hzz103 => simp only [List.getElem?_toArray, List.getElem?_cons_zero, List.getElem?_cons_succ]; rfl
                              case azz103 => kernel_rfl
                              case bzz103 => kernel_rfl
                              case czz103 => kernel_rfl
                              case yzz103 =>
                                refine Or.inl ⟨by rfl, ?_⟩
                                intro w hSw
                                skip
                                go_simp
                                try with_reducible rfl
                              case qzz103 => exact fun _ _ _ h => h
                              case szz103 => first | assumption | trivial
                              case' rzz103 => simp only [Act.put, List.setIfInBounds_toArray, List.set_cons_zero, List.set_cons_succ]
                              refine wpAnyH_done (by kernel_rfl) ?_ _
                              go_wp2
                              go_ret
                              exact ⟨by first | rfl | (simp; done), BQ.out.trans hHeld⟩
                          case' mzz104 => skip
                          exact AllReadyH.nil
                      case' mzz105 => skip
                      exact AllReadyH.nil
                  case' mzz106 => skip
                  exact AllReadyH.nil
              case' mzz107 => skip
              exact AllReadyH.nil
          case' mzz108 => skip
          exact AllReadyH.nil
      case' mzz109 => skip
      exact AllReadyH.nil
  case' mzz110 => skip
  exact AllReadyH.nil
set_option maxHeartbeats 4000000 in
theorem walk_0x11 (a : Wn) (b : Wn) (key : ByteArray) (w : World) (h1 : inS a key = false) (h3 : over a b = true) (h4 : lt a.lo b.lo = true) :
    Calls Try.prog 5 #[wnV a, wnV b, .string key] w fun e w' => e = .returned (.bool true) ∧ Q w w' := by
  have K1 := Lib.hid (fun W => sin_any a key W)
  rw [h1] at K1
  have K2 := Lib.hid (fun W => sin_any b key W)
  have K3 := Lib.hid (fun W => sover_any a b W)
  rw [h3] at K3
  have K4 := Lib.hid (fun W => sover_any b a W)
  rw [over_comm b a, h3] at K4
  have K5 := Lib.hid (fun W => sclash_any a b W)
  have K6 := Lib.hid (fun W => sclash_any b a W)
  rw [clash_comm b a] at K6
  have KA := Lib.hid (fun W => sin_any a (mx a.lo b.lo) W)
  have KB := Lib.hid (fun W => sin_any b (mx a.lo b.lo) W)
  have hw := witness2 a b
  rw [h3, Bool.not_true, Bool.false_or, Bool.and_eq_true] at hw
  rw [hw.1] at KA
  rw [hw.2] at KB
  clear hw
  rw [show mx a.lo b.lo = b.lo by unfold mx; rw [h4]; rfl] at KA KB
  have e4 := lt_data a.lo b.lo
  rw [h4] at e4
  have r1 := beq_rr (clash a b)
  generalize clash a b = y at *
  clear h1 h3 h4
  have B := wn_box2 w a b
  try unfold wnV at *
  go_enter Try.func5, Try.ntmps5
  go_wp2_with fail
  generalize ((w.alloc (.cells #[.int .i64 a.mode, .string a.lo, .string a.hi] 23)).alloc (.cells #[.int .i64 b.mode, .string b.lo, .string b.hi] 23)) = W0 at B ⊢
  obtain ⟨⟨c0, c1, c2⟩, ⟨c3, c4, c5⟩, bq⟩ := B
  change _ at bq
  refine (spshown_any _).mono ?_
  rintro e W ⟨rfl, q0⟩
  have c0 := box_ q0 c0
  have c1 := box_ q0 c1
  have c2 := box_ q0 c2
  have c3 := box_ q0 c3
  have c4 := box_ q0 c4
  have c5 := box_ q0 c5
  have BQ := Lib.hid (bq.trans q0)
  clear bq q0
  go_wp2_with fail
  refine (K1.out _).mono ?_
  rintro e w1 ⟨rfl, q1⟩
  have c0 := box_ q1 c0
  have c1 := box_ q1 c1
  have c2 := box_ q1 c2
  have c3 := box_ q1 c3
  have c4 := box_ q1 c4
  have c5 := box_ q1 c5
  have BQ := Lib.hid (BQ.out.trans q1)
  clear q1
  go_wp2
  refine wp_region_held_drew (S := Q w1) (by kernel_rfl) ?szz111 (fun hHeld => ?rzz111)
  case szz111 =>
    exact (Q.refl w1).drew
  case' rzz111 => skip
  refine wpAnyH_take (i := 0) (oi := ?ozz112) (v := ?vzz112) ?hzz112 ?azz112 ?bzz112 ?czz112 ?qzz112 ?yzz112 ?szz112 ?rzz112
  case hzz112 => simp only [List.getElem?_toArray, List.getElem?_cons_zero]; rfl
  case azz112 => kernel_rfl
  case bzz112 => kernel_rfl
  case czz112 => kernel_rfl
  case yzz112 =>
    refine Or.inl ⟨by rfl, ?_⟩
    intro w hSw
    skip
    go_simp
    try with_reducible rfl
  case qzz112 => exact fun _ _ _ h => h
  case szz112 => first | assumption | trivial
  case' rzz112 => simp only [Act.put, List.setIfInBounds_toArray, List.set_cons_zero, List.set_cons_succ]
  refine wpAnyH_take (i := 1) (oi := ?ozz113) (v := ?vzz113) ?hzz113 ?azz113 ?bzz113 ?czz113 ?qzz113 ?yzz113 ?szz113 ?rzz113
  case hzz113 => simp only [List.getElem?_toArray, List.getElem?_cons_zero, List.getElem?_cons_succ]; rfl
  case azz113 => kernel_rfl
  case bzz113 => kernel_rfl
  case czz113 => kernel_rfl
  case yzz113 =>
    refine Or.inl ⟨by rfl, ?_⟩
    intro w hSw
    skip
    go_simp
    try with_reducible rfl
  case qzz113 => exact fun _ _ _ h => h
  case szz113 => first | assumption | trivial
  case' rzz113 => simp only [Act.put, List.setIfInBounds_toArray, List.set_cons_zero, List.set_cons_succ]
  refine wpAnyH_take (i := 2) (oi := ?ozz114) (v := ?vzz114) ?hzz114 ?azz114 ?bzz114 ?czz114 ?qzz114 ?yzz114 ?szz114 ?rzz114
  case hzz114 => simp only [List.getElem?_toArray, List.getElem?_cons_zero, List.getElem?_cons_succ]; rfl
  case azz114 => kernel_rfl
  case bzz114 => kernel_rfl
  case czz114 => kernel_rfl
  case yzz114 =>
    refine Or.inl ⟨by rfl, ?_⟩
    intro w hSw
    have x0 := box_ hSw c0; have x1 := box_ hSw c1; have x2 := box_ hSw c2; have x3 := box_ hSw c3; have x4 := box_ hSw c4; have x5 := box_ hSw c5; clear hSw
    go_simp
    try with_reducible rfl
  case qzz114 => exact fun _ _ _ h => h
  case szz114 => first | assumption | trivial
  case' rzz114 => simp only [Act.put, List.setIfInBounds_toArray, List.set_cons_zero, List.set_cons_succ]
  refine wpAnyH_take (i := 3) (oi := ?ozz115) (v := ?vzz115) ?hzz115 ?azz115 ?bzz115 ?czz115 ?qzz115 ?yzz115 ?szz115 ?rzz115
  case hzz115 => simp only [List.getElem?_toArray, List.getElem?_cons_zero, List.getElem?_cons_succ]; rfl
  case azz115 => kernel_rfl
  case bzz115 => kernel_rfl
  case czz115 => kernel_rfl
  case yzz115 =>
    refine Or.inl ⟨by rfl, ?_⟩
    intro w hSw
    have x0 := box_ hSw c0; have x1 := box_ hSw c1; have x2 := box_ hSw c2; have x3 := box_ hSw c3; have x4 := box_ hSw c4; have x5 := box_ hSw c5; clear hSw
    go_simp
    try with_reducible rfl
  case qzz115 => exact fun _ _ _ h => h
  case szz115 => first | assumption | trivial
  case' rzz115 => simp only [Act.put, List.setIfInBounds_toArray, List.set_cons_zero, List.set_cons_succ]
  refine wpAnyH_ready (rs := [4]) (by kernel_rfl) (by simp) ?_
  refine AllReadyH.cons (o := ?ozz147) ?hzz147 (fun K hK => ?kzz147) ?mzz147
  case hzz147 => simp only [List.getElem?_toArray, List.getElem?_cons_zero, List.getElem?_cons_succ]; rfl
  case kzz147 =>
    go_simp
    refine (K3.out _).mono ?_
    rintro e v1 ⟨rfl, q1⟩
    go_wp2_with fail
    refine hK.out _ _ ?Szz147 (fun hHeld => ?Rzz147)
    case Szz147 =>
      exact hHeld.trans q1
    case Rzz147 =>
      clear hK K
      try simp only [Act.put, List.setIfInBounds_toArray, List.set_cons_zero, List.set_cons_succ]
      refine wpAnyH_take (i := 5) (oi := ?ozz116) (v := ?vzz116) ?hzz116 ?azz116 ?bzz116 ?czz116 ?qzz116 ?yzz116 ?szz116 ?rzz116
      case hzz116 => simp only [List.getElem?_toArray, List.getElem?_cons_zero, List.getElem?_cons_succ]; rfl
      case azz116 => kernel_rfl
      case bzz116 => kernel_rfl
      case czz116 => kernel_rfl
      case yzz116 =>
        refine Or.inl ⟨by rfl, ?_⟩
        intro w hSw
        skip
        go_simp
        try with_reducible rfl
      case qzz116 => exact fun _ _ _ h => h
      case szz116 => first | assumption | trivial
      case' rzz116 => simp only [Act.put, List.setIfInBounds_toArray, List.set_cons_zero, List.set_cons_succ]
      refine wpAnyH_take (i := 6) (oi := ?ozz117) (v := ?vzz117) ?hzz117 ?azz117 ?bzz117 ?czz117 ?qzz117 ?yzz117 ?szz117 ?rzz117
      case hzz117 => simp only [List.getElem?_toArray, List.getElem?_cons_zero, List.getElem?_cons_succ]; rfl
      case azz117 => kernel_rfl
      case bzz117 => kernel_rfl
      case czz117 => kernel_rfl
      case yzz117 =>
        refine Or.inl ⟨by rfl, ?_⟩
        intro w hSw
        skip
        go_simp
        try with_reducible rfl
      case qzz117 => exact fun _ _ _ h => h
      case szz117 => first | assumption | trivial
      case' rzz117 => simp only [Act.put, List.setIfInBounds_toArray, List.set_cons_zero, List.set_cons_succ]
      refine wpAnyH_take (i := 7) (oi := ?ozz118) (v := ?vzz118) ?hzz118 ?azz118 ?bzz118 ?czz118 ?qzz118 ?yzz118 ?szz118 ?rzz118
      case hzz118 => simp only [List.getElem?_toArray, List.getElem?_cons_zero, List.getElem?_cons_succ]; rfl
      case azz118 => kernel_rfl
      case bzz118 => kernel_rfl
      case czz118 => kernel_rfl
      case yzz118 =>
        refine Or.inl ⟨by rfl, ?_⟩
        intro w hSw
        have x0 := box_ hSw c0; have x1 := box_ hSw c1; have x2 := box_ hSw c2; have x3 := box_ hSw c3; have x4 := box_ hSw c4; have x5 := box_ hSw c5; clear hSw
        go_simp
        try with_reducible rfl
      case qzz118 => exact fun _ _ _ h => h
      case szz118 => first | assumption | trivial
      case' rzz118 => simp only [Act.put, List.setIfInBounds_toArray, List.set_cons_zero, List.set_cons_succ]
      refine wpAnyH_take (i := 8) (oi := ?ozz119) (v := ?vzz119) ?hzz119 ?azz119 ?bzz119 ?czz119 ?qzz119 ?yzz119 ?szz119 ?rzz119
      case hzz119 => simp only [List.getElem?_toArray, List.getElem?_cons_zero, List.getElem?_cons_succ]; rfl
      case azz119 => kernel_rfl
      case bzz119 => kernel_rfl
      case czz119 => kernel_rfl
      case yzz119 =>
        refine Or.inl ⟨by rfl, ?_⟩
        intro w hSw
        skip
        go_simp
        try with_reducible rfl
      case qzz119 => exact fun _ _ _ h => h
      case szz119 => first | assumption | trivial
      case' rzz119 => simp only [Act.put, List.setIfInBounds_toArray, List.set_cons_zero, List.set_cons_succ]
      refine wpAnyH_ready (rs := [9]) (by kernel_rfl) (by simp) ?_
      refine AllReadyH.cons (o := ?ozz146) ?hzz146 (fun K hK => ?kzz146) ?mzz146
      case hzz146 => simp only [List.getElem?_toArray, List.getElem?_cons_zero, List.getElem?_cons_succ]; rfl
      case kzz146 =>
        go_simp
        refine (KA.out _).mono ?_
        rintro e v2 ⟨rfl, q2⟩
        go_wp2_with fail
        refine hK.out _ _ ?Szz146 (fun hHeld => ?Rzz146)
        case Szz146 =>
          exact hHeld.trans q2
        case Rzz146 =>
          clear hK K
          try simp only [Act.put, List.setIfInBounds_toArray, List.set_cons_zero, List.set_cons_succ]
          refine wpAnyH_take (i := 10) (oi := ?ozz120) (v := ?vzz120) ?hzz120 ?azz120 ?bzz120 ?czz120 ?qzz120 ?yzz120 ?szz120 ?rzz120
          case hzz120 => simp only [List.getElem?_toArray, List.getElem?_cons_zero, List.getElem?_cons_succ]; rfl
          case azz120 => kernel_rfl
          case bzz120 => kernel_rfl
          case czz120 => kernel_rfl
          case yzz120 =>
            refine Or.inl ⟨by rfl, ?_⟩
            intro w hSw
            skip
            go_simp
            try with_reducible rfl
          case qzz120 => exact fun _ _ _ h => h
          case szz120 => first | assumption | trivial
          case' rzz120 => simp only [Act.put, List.setIfInBounds_toArray, List.set_cons_zero, List.set_cons_succ]
          refine wpAnyH_take (i := 11) (oi := ?ozz121) (v := ?vzz121) ?hzz121 ?azz121 ?bzz121 ?czz121 ?qzz121 ?yzz121 ?szz121 ?rzz121
          case hzz121 => simp only [List.getElem?_toArray, List.getElem?_cons_zero, List.getElem?_cons_succ]; rfl
          case azz121 => kernel_rfl
          case bzz121 => kernel_rfl
          case czz121 => kernel_rfl
          case yzz121 =>
            refine Or.inl ⟨by rfl, ?_⟩
            intro w hSw
            have x0 := box_ hSw c0; have x1 := box_ hSw c1; have x2 := box_ hSw c2; have x3 := box_ hSw c3; have x4 := box_ hSw c4; have x5 := box_ hSw c5; clear hSw
            go_simp
            try with_reducible rfl
          case qzz121 => exact fun _ _ _ h => h
          case szz121 => first | assumption | trivial
          case' rzz121 => simp only [Act.put, List.setIfInBounds_toArray, List.set_cons_zero, List.set_cons_succ]
          refine wpAnyH_take (i := 12) (oi := ?ozz122) (v := ?vzz122) ?hzz122 ?azz122 ?bzz122 ?czz122 ?qzz122 ?yzz122 ?szz122 ?rzz122
          case hzz122 => simp only [List.getElem?_toArray, List.getElem?_cons_zero, List.getElem?_cons_succ]; rfl
          case azz122 => kernel_rfl
          case bzz122 => kernel_rfl
          case czz122 => kernel_rfl
          case yzz122 =>
            refine Or.inl ⟨by rfl, ?_⟩
            intro w hSw
            skip
            go_simp
            try with_reducible rfl
          case qzz122 => exact fun _ _ _ h => h
          case szz122 => first | assumption | trivial
          case' rzz122 => simp only [Act.put, List.setIfInBounds_toArray, List.set_cons_zero, List.set_cons_succ]
          refine wpAnyH_ready (rs := [13]) (by kernel_rfl) (by simp) ?_
          refine AllReadyH.cons (o := ?ozz145) ?hzz145 (fun K hK => ?kzz145) ?mzz145
          case hzz145 => simp only [List.getElem?_toArray, List.getElem?_cons_zero, List.getElem?_cons_succ]; rfl
          case kzz145 =>
            go_simp
            refine (KB.out _).mono ?_
            rintro e v3 ⟨rfl, q3⟩
            go_wp2_with fail
            refine hK.out _ _ ?Szz145 (fun hHeld => ?Rzz145)
            case Szz145 =>
              exact hHeld.trans q3
            case Rzz145 =>
              clear hK K
              try simp only [Act.put, List.setIfInBounds_toArray, List.set_cons_zero, List.set_cons_succ]
              refine wpAnyH_take (i := 14) (oi := ?ozz123) (v := ?vzz123) ?hzz123 ?azz123 ?bzz123 ?czz123 ?qzz123 ?yzz123 ?szz123 ?rzz123
              case hzz123 => simp only [List.getElem?_toArray, List.getElem?_cons_zero, List.getElem?_cons_succ]; rfl
              case azz123 => kernel_rfl
              case bzz123 => kernel_rfl
              case czz123 => kernel_rfl
              case yzz123 =>
                refine Or.inl ⟨by rfl, ?_⟩
                intro w hSw
                skip
                go_simp
                try with_reducible rfl
              case qzz123 => exact fun _ _ _ h => h
              case szz123 => first | assumption | trivial
              case' rzz123 => simp only [Act.put, List.setIfInBounds_toArray, List.set_cons_zero, List.set_cons_succ]
              refine wpAnyH_take (i := 15) (oi := ?ozz124) (v := ?vzz124) ?hzz124 ?azz124 ?bzz124 ?czz124 ?qzz124 ?yzz124 ?szz124 ?rzz124
              case hzz124 => simp only [List.getElem?_toArray, List.getElem?_cons_zero, List.getElem?_cons_succ]; rfl
              case azz124 => kernel_rfl
              case bzz124 => kernel_rfl
              case czz124 => kernel_rfl
              case yzz124 =>
                refine Or.inl ⟨by rfl, ?_⟩
                intro w hSw
                skip
                go_simp
                try with_reducible rfl
              case qzz124 => exact fun _ _ _ h => h
              case szz124 => first | assumption | trivial
              case' rzz124 => simp only [Act.put, List.setIfInBounds_toArray, List.set_cons_zero, List.set_cons_succ]
              refine wpAnyH_take (i := 16) (oi := ?ozz125) (v := ?vzz125) ?hzz125 ?azz125 ?bzz125 ?czz125 ?qzz125 ?yzz125 ?szz125 ?rzz125
              case hzz125 => simp only [List.getElem?_toArray, List.getElem?_cons_zero, List.getElem?_cons_succ]; rfl
              case azz125 => kernel_rfl
              case bzz125 => kernel_rfl
              case czz125 => kernel_rfl
              case yzz125 =>
                refine Or.inl ⟨by rfl, ?_⟩
                intro w hSw
                skip
                go_simp
                try with_reducible rfl
              case qzz125 => exact fun _ _ _ h => h
              case szz125 => first | assumption | trivial
              case' rzz125 => simp only [Act.put, List.setIfInBounds_toArray, List.set_cons_zero, List.set_cons_succ]
              refine wpAnyH_take (i := 17) (oi := ?ozz126) (v := ?vzz126) ?hzz126 ?azz126 ?bzz126 ?czz126 ?qzz126 ?yzz126 ?szz126 ?rzz126
              case hzz126 => simp only [List.getElem?_toArray, List.getElem?_cons_zero, List.getElem?_cons_succ]; rfl
              case azz126 => kernel_rfl
              case bzz126 => kernel_rfl
              case czz126 => kernel_rfl
              case yzz126 =>
                refine Or.inl ⟨by rfl, ?_⟩
                intro w hSw
                skip
                go_simp
                try with_reducible rfl
              case qzz126 => exact fun _ _ _ h => h
              case szz126 => first | assumption | trivial
              case' rzz126 => simp only [Act.put, List.setIfInBounds_toArray, List.set_cons_zero, List.set_cons_succ]
              refine wpAnyH_take (i := 18) (oi := ?ozz127) (v := ?vzz127) ?hzz127 ?azz127 ?bzz127 ?czz127 ?qzz127 ?yzz127 ?szz127 ?rzz127
              case hzz127 => simp only [List.getElem?_toArray, List.getElem?_cons_zero, List.getElem?_cons_succ]; rfl
              case azz127 => kernel_rfl
              case bzz127 => kernel_rfl
              case czz127 => kernel_rfl
              case yzz127 =>
                refine Or.inl ⟨by rfl, ?_⟩
                intro w hSw
                have x0 := box_ hSw c0; have x1 := box_ hSw c1; have x2 := box_ hSw c2; have x3 := box_ hSw c3; have x4 := box_ hSw c4; have x5 := box_ hSw c5; clear hSw
                go_simp
                try with_reducible rfl
              case qzz127 => exact fun _ _ _ h => h
              case szz127 => first | assumption | trivial
              case' rzz127 => simp only [Act.put, List.setIfInBounds_toArray, List.set_cons_zero, List.set_cons_succ]
              refine wpAnyH_take (i := 19) (oi := ?ozz128) (v := ?vzz128) ?hzz128 ?azz128 ?bzz128 ?czz128 ?qzz128 ?yzz128 ?szz128 ?rzz128
              case hzz128 => simp only [List.getElem?_toArray, List.getElem?_cons_zero, List.getElem?_cons_succ]; rfl
              case azz128 => kernel_rfl
              case bzz128 => kernel_rfl
              case czz128 => kernel_rfl
              case yzz128 =>
                refine Or.inl ⟨by rfl, ?_⟩
                intro w hSw
                have x0 := box_ hSw c0; have x1 := box_ hSw c1; have x2 := box_ hSw c2; have x3 := box_ hSw c3; have x4 := box_ hSw c4; have x5 := box_ hSw c5; clear hSw
                go_simp
                try with_reducible rfl
              case qzz128 => exact fun _ _ _ h => h
              case szz128 => first | assumption | trivial
              case' rzz128 => simp only [Act.put, List.setIfInBounds_toArray, List.set_cons_zero, List.set_cons_succ]
              refine wpAnyH_take (i := 21) (oi := ?ozz129) (v := ?vzz129) ?hzz129 ?azz129 ?bzz129 ?czz129 ?qzz129 ?yzz129 ?szz129 ?rzz129
              case hzz129 => simp only [List.getElem?_toArray, List.getElem?_cons_zero, List.getElem?_cons_succ]; rfl
              case azz129 => kernel_rfl
              case bzz129 => kernel_rfl
              case czz129 => kernel_rfl
              case yzz129 =>
                refine Or.inl ⟨by rfl, ?_⟩
                intro w hSw
                have x0 := box_ hSw c0; have x1 := box_ hSw c1; have x2 := box_ hSw c2; have x3 := box_ hSw c3; have x4 := box_ hSw c4; have x5 := box_ hSw c5; clear hSw
                go_simp
                try with_reducible rfl
              case qzz129 => exact fun _ _ _ h => h
              case szz129 => first | assumption | trivial
              case' rzz129 => simp only [Act.put, List.setIfInBounds_toArray, List.set_cons_zero, List.set_cons_succ]
              refine wpAnyH_take (i := 22) (oi := ?ozz130) (v := ?vzz130) ?hzz130 ?azz130 ?bzz130 ?czz130 ?qzz130 ?yzz130 ?szz130 ?rzz130
              case hzz130 => simp only [List.getElem?_toArray, List.getElem?_cons_zero, List.getElem?_cons_succ]; rfl
              case azz130 => kernel_rfl
              case bzz130 => kernel_rfl
              case czz130 => kernel_rfl
              case yzz130 =>
                refine Or.inl ⟨by rfl, ?_⟩
                intro w hSw
                have x0 := box_ hSw c0; have x1 := box_ hSw c1; have x2 := box_ hSw c2; have x3 := box_ hSw c3; have x4 := box_ hSw c4; have x5 := box_ hSw c5; clear hSw
                go_simp
                try with_reducible rfl
              case qzz130 => exact fun _ _ _ h => h
              case szz130 => first | assumption | trivial
              case' rzz130 => simp only [Act.put, List.setIfInBounds_toArray, List.set_cons_zero, List.set_cons_succ]
              refine wpAnyH_ready (rs := [20]) (by kernel_rfl) (by simp) ?_
              refine AllReadyH.cons (o := ?ozz144) ?hzz144 (fun K hK => ?kzz144) ?mzz144
              case hzz144 => simp only [List.getElem?_toArray, List.getElem?_cons_zero, List.getElem?_cons_succ]; rfl
              case kzz144 =>
                go_simp
                refine (K3.out _).mono ?_
                rintro e v4 ⟨rfl, q4⟩
                go_wp2_with fail
                refine hK.out _ _ ?Szz144 (fun hHeld => ?Rzz144)
                case Szz144 =>
                  exact hHeld.trans q4
                case Rzz144 =>
                  clear hK K
                  try simp only [Act.put, List.setIfInBounds_toArray, List.set_cons_zero, List.set_cons_succ]
                  refine wpAnyH_ready (rs := [23]) (by kernel_rfl) (by simp) ?_
                  refine AllReadyH.cons (o := ?ozz143) ?hzz143 (fun K hK => ?kzz143) ?mzz143
                  case hzz143 => simp only [List.getElem?_toArray, List.getElem?_cons_zero, List.getElem?_cons_succ]; rfl
                  case kzz143 =>
                    go_simp
                    refine (K4.out _).mono ?_
                    rintro e v5 ⟨rfl, q5⟩
                    go_wp2_with fail
                    refine hK.out _ _ ?Szz143 (fun hHeld => ?Rzz143)
                    case Szz143 =>
                      exact hHeld.trans q5
                    case Rzz143 =>
                      clear hK K
                      try simp only [Act.put, List.setIfInBounds_toArray, List.set_cons_zero, List.set_cons_succ]
                      refine wpAnyH_take (i := 24) (oi := ?ozz131) (v := ?vzz131) ?hzz131 ?azz131 ?bzz131 ?czz131 ?qzz131 ?yzz131 ?szz131 ?rzz131
                      case hzz131 => simp only [List.getElem?_toArray, List.getElem?_cons_zero, List.getElem?_cons_succ]; rfl
                      case azz131 => kernel_rfl
                      case bzz131 => kernel_rfl
                      case czz131 => kernel_rfl
                      case yzz131 =>
                        refine Or.inl ⟨by rfl, ?_⟩
                        intro w hSw
                        skip
                        go_simp
                        try with_reducible rfl
                      case qzz131 => exact fun _ _ _ h => h
                      case szz131 => first | assumption | trivial
                      case' rzz131 => simp only [Act.put, List.setIfInBounds_toArray, List.set_cons_zero, List.set_cons_succ]
                      refine wpAnyH_take (i := 25) (oi := ?ozz132) (v := ?vzz132) ?hzz132 ?azz132 ?bzz132 ?czz132 ?qzz132 ?yzz132 ?szz132 ?rzz132
                      case hzz132 => simp only [List.getElem?_toArray, List.getElem?_cons_zero, List.getElem?_cons_succ]; rfl
                      case azz132 => kernel_rfl
                      case bzz132 => kernel_rfl
                      case czz132 => kernel_rfl
                      case yzz132 =>
                        refine Or.inl ⟨by rfl, ?_⟩
                        intro w hSw
                        skip
                        go_simp
                        try with_reducible rfl
                      case qzz132 => exact fun _ _ _ h => h
                      case szz132 => first | assumption | trivial
                      case' rzz132 => simp only [Act.put, List.setIfInBounds_toArray, List.set_cons_zero, List.set_cons_succ]
                      refine wpAnyH_take (i := 26) (oi := ?ozz133) (v := ?vzz133) ?hzz133 ?azz133 ?bzz133 ?czz133 ?qzz133 ?yzz133 ?szz133 ?rzz133
                      case hzz133 => simp only [List.getElem?_toArray, List.getElem?_cons_zero, List.getElem?_cons_succ]; rfl
                      case azz133 => kernel_rfl
                      case bzz133 => kernel_rfl
                      case czz133 => kernel_rfl
                      case yzz133 =>
                        refine Or.inl ⟨by rfl, ?_⟩
                        intro w hSw
                        skip
                        go_simp
                        try with_reducible rfl
                      case qzz133 => exact fun _ _ _ h => h
                      case szz133 => first | assumption | trivial
                      case' rzz133 => simp only [Act.put, List.setIfInBounds_toArray, List.set_cons_zero, List.set_cons_succ]
                      refine wpAnyH_take (i := 27) (oi := ?ozz134) (v := ?vzz134) ?hzz134 ?azz134 ?bzz134 ?czz134 ?qzz134 ?yzz134 ?szz134 ?rzz134
                      case hzz134 => simp only [List.getElem?_toArray, List.getElem?_cons_zero, List.getElem?_cons_succ]; rfl
                      case azz134 => kernel_rfl
                      case bzz134 => kernel_rfl
                      case czz134 => kernel_rfl
                      case yzz134 =>
                        refine Or.inl ⟨by rfl, ?_⟩
                        intro w hSw
                        have x0 := box_ hSw c0; have x1 := box_ hSw c1; have x2 := box_ hSw c2; have x3 := box_ hSw c3; have x4 := box_ hSw c4; have x5 := box_ hSw c5; clear hSw
                        go_simp
                        try with_reducible rfl
                      case qzz134 => exact fun _ _ _ h => h
                      case szz134 => first | assumption | trivial
                      case' rzz134 => simp only [Act.put, List.setIfInBounds_toArray, List.set_cons_zero, List.set_cons_succ]
                      refine wpAnyH_take (i := 28) (oi := ?ozz135) (v := ?vzz135) ?hzz135 ?azz135 ?bzz135 ?czz135 ?qzz135 ?yzz135 ?szz135 ?rzz135
                      case hzz135 => simp only [List.getElem?_toArray, List.getElem?_cons_zero, List.getElem?_cons_succ]; rfl
                      case azz135 => kernel_rfl
                      case bzz135 => kernel_rfl
                      case czz135 => kernel_rfl
                      case yzz135 =>
                        refine Or.inl ⟨by rfl, ?_⟩
                        intro w hSw
                        have x0 := box_ hSw c0; have x1 := box_ hSw c1; have x2 := box_ hSw c2; have x3 := box_ hSw c3; have x4 := box_ hSw c4; have x5 := box_ hSw c5; clear hSw
                        go_simp
                        try with_reducible rfl
                      case qzz135 => exact fun _ _ _ h => h
                      case szz135 => first | assumption | trivial
                      case' rzz135 => simp only [Act.put, List.setIfInBounds_toArray, List.set_cons_zero, List.set_cons_succ]
                      refine wpAnyH_take (i := 30) (oi := ?ozz136) (v := ?vzz136) ?hzz136 ?azz136 ?bzz136 ?czz136 ?qzz136 ?yzz136 ?szz136 ?rzz136
                      case hzz136 => simp only [List.getElem?_toArray, List.getElem?_cons_zero, List.getElem?_cons_succ]; rfl
                      case azz136 => kernel_rfl
                      case bzz136 => kernel_rfl
                      case czz136 => kernel_rfl
                      case yzz136 =>
                        refine Or.inl ⟨by rfl, ?_⟩
                        intro w hSw
                        have x0 := box_ hSw c0; have x1 := box_ hSw c1; have x2 := box_ hSw c2; have x3 := box_ hSw c3; have x4 := box_ hSw c4; have x5 := box_ hSw c5; clear hSw
                        go_simp
                        try with_reducible rfl
                      case qzz136 => exact fun _ _ _ h => h
                      case szz136 => first | assumption | trivial
                      case' rzz136 => simp only [Act.put, List.setIfInBounds_toArray, List.set_cons_zero, List.set_cons_succ]
                      refine wpAnyH_take (i := 31) (oi := ?ozz137) (v := ?vzz137) ?hzz137 ?azz137 ?bzz137 ?czz137 ?qzz137 ?yzz137 ?szz137 ?rzz137
                      case hzz137 => simp only [List.getElem?_toArray, List.getElem?_cons_zero, List.getElem?_cons_succ]; rfl
                      case azz137 => kernel_rfl
                      case bzz137 => kernel_rfl
                      case czz137 => kernel_rfl
                      case yzz137 =>
                        refine Or.inl ⟨by rfl, ?_⟩
                        intro w hSw
                        have x0 := box_ hSw c0; have x1 := box_ hSw c1; have x2 := box_ hSw c2; have x3 := box_ hSw c3; have x4 := box_ hSw c4; have x5 := box_ hSw c5; clear hSw
                        go_simp
                        try with_reducible rfl
                      case qzz137 => exact fun _ _ _ h => h
                      case szz137 => first | assumption | trivial
                      case' rzz137 => simp only [Act.put, List.setIfInBounds_toArray, List.set_cons_zero, List.set_cons_succ]
                      refine wpAnyH_ready (rs := [29]) (by kernel_rfl) (by simp) ?_
                      refine AllReadyH.cons (o := ?ozz142) ?hzz142 (fun K hK => ?kzz142) ?mzz142
                      case hzz142 => simp only [List.getElem?_toArray, List.getElem?_cons_zero, List.getElem?_cons_succ]; rfl
                      case kzz142 =>
                        go_simp
                        refine (K5.out _).mono ?_
                        rintro e v6 ⟨rfl, q6⟩
                        go_wp2_with fail
                        refine hK.out _ _ ?Szz142 (fun hHeld => ?Rzz142)
                        case Szz142 =>
                          exact hHeld.trans q6
                        case Rzz142 =>
                          clear hK K
                          try simp only [Act.put, List.setIfInBounds_toArray, List.set_cons_zero, List.set_cons_succ]
                          refine wpAnyH_ready (rs := [32]) (by kernel_rfl) (by simp) ?_
                          refine AllReadyH.cons (o := ?ozz141) ?hzz141 (fun K hK => ?kzz141) ?mzz141
                          case hzz141 => simp only [List.getElem?_toArray, List.getElem?_cons_zero, List.getElem?_cons_succ]; rfl
                          case kzz141 =>
                            go_simp
                            refine (K6.out _).mono ?_
                            rintro e v7 ⟨rfl, q7⟩
                            go_wp2_with fail
                            refine hK.out _ _ ?Szz141 (fun hHeld => ?Rzz141)
                            case Szz141 =>
                              exact hHeld.trans q7
                            case Rzz141 =>
                              clear hK K
                              try simp only [Act.put, List.setIfInBounds_toArray, List.set_cons_zero, List.set_cons_succ]
                              refine wpAnyH_take (i := 33) (oi := ?ozz138) (v := ?vzz138) ?hzz138 ?azz138 ?bzz138 ?czz138 ?qzz138 ?yzz138 ?szz138 ?rzz138
                              case hzz138 => simp only [List.getElem?_toArray, List.getElem?_cons_zero, List.getElem?_cons_succ]; rfl
                              case azz138 => kernel_rfl
                              case bzz138 => kernel_rfl
                              case czz138 => kernel_rfl
                              case yzz138 =>
                                refine Or.inl ⟨by rfl, ?_⟩
                                intro w hSw
                                skip
                                go_simp
                                try with_reducible rfl
                              case qzz138 => exact fun _ _ _ h => h
                              case szz138 => first | assumption | trivial
                              case' rzz138 => simp only [Act.put, List.setIfInBounds_toArray, List.set_cons_zero, List.set_cons_succ]
                              refine wpAnyH_take (i := 34) (oi := ?ozz139) (v := ?vzz139) ?hzz139 ?azz139 ?bzz139 ?czz139 ?qzz139 ?yzz139 ?szz139 ?rzz139
                              case hzz139 => simp only [List.getElem?_toArray, List.getElem?_cons_zero, List.getElem?_cons_succ]; rfl
                              case azz139 => kernel_rfl
                              case bzz139 => kernel_rfl
                              case czz139 => kernel_rfl
                              case yzz139 =>
                                refine Or.inl ⟨by rfl, ?_⟩
                                intro w hSw
                                skip
                                go_simp
                                try with_reducible rfl
                              case qzz139 => exact fun _ _ _ h => h
                              case szz139 => first | assumption | trivial
                              case' rzz139 => simp only [Act.put, List.setIfInBounds_toArray, List.set_cons_zero, List.set_cons_succ]
                              refine wpAnyH_take (i := 35) (oi := ?ozz140) (v := ?vzz140) ?hzz140 ?azz140 ?bzz140 ?czz140 ?qzz140 ?yzz140 ?szz140 ?rzz140
                              case hzz140 => simp only [List.getElem?_toArray, List.getElem?_cons_zero, List.getElem?_cons_succ]; rfl
                              case azz140 => kernel_rfl
                              case bzz140 => kernel_rfl
                              case czz140 => kernel_rfl
                              case yzz140 =>
                                refine Or.inl ⟨by rfl, ?_⟩
                                intro w hSw
                                skip
                                go_simp
                                try with_reducible rfl
                              case qzz140 => exact fun _ _ _ h => h
                              case szz140 => first | assumption | trivial
                              case' rzz140 => simp only [Act.put, List.setIfInBounds_toArray, List.set_cons_zero, List.set_cons_succ]
                              refine wpAnyH_done (by kernel_rfl) ?_ _
                              go_wp2
                              go_ret
                              exact ⟨by first | rfl | (simp; done), BQ.out.trans hHeld⟩
                          case' mzz141 => skip
                          exact AllReadyH.nil
                      case' mzz142 => skip
                      exact AllReadyH.nil
                  case' mzz143 => skip
                  exact AllReadyH.nil
              case' mzz144 => skip
              exact AllReadyH.nil
          case' mzz145 => skip
          exact AllReadyH.nil
      case' mzz146 => skip
      exact AllReadyH.nil
  case' mzz147 => skip
  exact AllReadyH.nil
end Go.Proofs.Ytjbjkmbipdbejaa.spanWitness
