/- For every two keys and every mode: their spans overlap just if they are the same; a key has its span, and no other one is in it. No condition. -/
import Derived.Test.YtjbjkmbipdbejaaSpanIn
namespace Go.Proofs.Ytjbjkmbipdbejaa.spanKeys
set_option maxRecDepth 100000
open Go.ChangeShapes Go.WideShapes Go.ChangeAt Go.RowKit Prm Sm
set_option linter.unusedVariables false
set_option linter.unusedSimpArgs false

set_option maxHeartbeats 4000000 in
theorem walk_s1 (a : ByteArray) (b : ByteArray) (m : Int) (w : World) (ha : a.size ≤ 140737488351232) (hb : b.size ≤ 140737488351232) (hab : a = b) (hm : m = 1) :
    Calls Try.prog 6 #[.string a, .string b, .int .i64 m] w fun e w' => e = .returned (.bool true) ∧ Q w w' := by
  have K1 := Lib.hid (fun W => skey_any m a W ha)
  have K2 := Lib.hid (fun W => skey_any m b W hb)
  have K3 := Lib.hid (fun W => over_keys m a b ▸ sover_any (key m a) (key m b) W)
  have K4 := Lib.hid (fun W => in_key m a b ▸ sin_any (key m a) b W)
  have K5 := Lib.hid (fun W => may_key m a ▸ smay_any (key m a) W)
  subst hab
  rw [decide_eq_true rfl] at K3 K4
  subst hm
  simp only [decide_true, Bool.true_or] at K5
  clear ha hb
  unfold wnV Sm.key at *
  simp only at K1 K2 K3 K4 K5
  generalize a ++ (⟨#[0]⟩ : ByteArray) = ab at *
  try unfold wnV at *
  go_enter Try.func6, Try.ntmps6
  go_wp2_with fail
  refine (spshown_any _).mono ?_
  rintro e W ⟨rfl, q0⟩
  have BQ := Lib.hid q0
  clear q0
  go_wp2_with fail
  refine (K1.out _).mono ?_
  rintro e w1 ⟨rfl, q1⟩
  have BQ := Lib.hid (BQ.out.trans q1)
  clear q1
  have c := (Bx.new w1 [.int .i64 1, .string a, .string ab] 23).get3.1
  have bq := (Q.refl w1).alloc (.cells #[.int .i64 1, .string a, .string ab] 23)
  change (w1.alloc (.cells #[.int .i64 1, .string a, .string ab] 23)).cell? _ = _ ∧ (w1.alloc (.cells #[.int .i64 1, .string a, .string ab] 23)).cell? _ = _ ∧ (w1.alloc (.cells #[.int .i64 1, .string a, .string ab] 23)).cell? _ = _ at c
  go_wp2
  generalize w1.alloc (.cells #[.int .i64 1, .string a, .string ab] 23) = W2 at c bq ⊢
  obtain ⟨c0, c1, c2⟩ := c
  have BQ := Lib.hid (BQ.out.trans bq)
  clear bq
  refine wp_region_held_drew (S := Q W2) (by kernel_rfl) ?szz0 (fun hHeld => ?rzz0)
  case szz0 =>
    exact (Q.refl W2).drew
  case' rzz0 => skip
  refine wpAnyH_take (i := 0) (oi := ?ozz1) (v := ?vzz1) ?hzz1 ?azz1 ?bzz1 ?czz1 ?qzz1 ?yzz1 ?szz1 ?rzz1
  case hzz1 => simp only [List.getElem?_toArray, List.getElem?_cons_zero]; rfl
  case azz1 => kernel_rfl
  case bzz1 => kernel_rfl
  case czz1 => kernel_rfl
  case yzz1 =>
    refine Or.inl ⟨by rfl, ?_⟩
    intro w hSw
    skip
    go_simp
    try with_reducible rfl
  case qzz1 => exact fun _ _ _ h => h
  case szz1 => first | assumption | trivial
  case' rzz1 => simp only [Act.put, List.setIfInBounds_toArray, List.set_cons_zero, List.set_cons_succ]
  refine wpAnyH_take (i := 1) (oi := ?ozz2) (v := ?vzz2) ?hzz2 ?azz2 ?bzz2 ?czz2 ?qzz2 ?yzz2 ?szz2 ?rzz2
  case hzz2 => simp only [List.getElem?_toArray, List.getElem?_cons_zero, List.getElem?_cons_succ]; rfl
  case azz2 => kernel_rfl
  case bzz2 => kernel_rfl
  case czz2 => kernel_rfl
  case yzz2 =>
    refine Or.inl ⟨by rfl, ?_⟩
    intro w hSw
    skip
    go_simp
    try with_reducible rfl
  case qzz2 => exact fun _ _ _ h => h
  case szz2 => first | assumption | trivial
  case' rzz2 => simp only [Act.put, List.setIfInBounds_toArray, List.set_cons_zero, List.set_cons_succ]
  refine wpAnyH_take (i := 2) (oi := ?ozz3) (v := ?vzz3) ?hzz3 ?azz3 ?bzz3 ?czz3 ?qzz3 ?yzz3 ?szz3 ?rzz3
  case hzz3 => simp only [List.getElem?_toArray, List.getElem?_cons_zero, List.getElem?_cons_succ]; rfl
  case azz3 => kernel_rfl
  case bzz3 => kernel_rfl
  case czz3 => kernel_rfl
  case yzz3 =>
    refine Or.inl ⟨by rfl, ?_⟩
    intro w hSw
    have x0 := box_ hSw c0; have x1 := box_ hSw c1; have x2 := box_ hSw c2; clear hSw
    go_simp
    try with_reducible rfl
  case qzz3 => exact fun _ _ _ h => h
  case szz3 => first | assumption | trivial
  case' rzz3 => simp only [Act.put, List.setIfInBounds_toArray, List.set_cons_zero, List.set_cons_succ]
  refine wpAnyH_take (i := 3) (oi := ?ozz4) (v := ?vzz4) ?hzz4 ?azz4 ?bzz4 ?czz4 ?qzz4 ?yzz4 ?szz4 ?rzz4
  case hzz4 => simp only [List.getElem?_toArray, List.getElem?_cons_zero, List.getElem?_cons_succ]; rfl
  case azz4 => kernel_rfl
  case bzz4 => kernel_rfl
  case czz4 => kernel_rfl
  case yzz4 =>
    refine Or.inl ⟨by rfl, ?_⟩
    intro w hSw
    skip
    go_simp
    try with_reducible rfl
  case qzz4 => exact fun _ _ _ h => h
  case szz4 => first | assumption | trivial
  case' rzz4 => simp only [Act.put, List.setIfInBounds_toArray, List.set_cons_zero, List.set_cons_succ]
  refine wpAnyH_take (i := 4) (oi := ?ozz5) (v := ?vzz5) ?hzz5 ?azz5 ?bzz5 ?czz5 ?qzz5 ?yzz5 ?szz5 ?rzz5
  case hzz5 => simp only [List.getElem?_toArray, List.getElem?_cons_zero, List.getElem?_cons_succ]; rfl
  case azz5 => kernel_rfl
  case bzz5 => kernel_rfl
  case czz5 => kernel_rfl
  case yzz5 =>
    refine Or.inl ⟨by rfl, ?_⟩
    intro w hSw
    skip
    go_simp
    try with_reducible rfl
  case qzz5 => exact fun _ _ _ h => h
  case szz5 => first | assumption | trivial
  case' rzz5 => simp only [Act.put, List.setIfInBounds_toArray, List.set_cons_zero, List.set_cons_succ]
  refine wpAnyH_take (i := 7) (oi := ?ozz6) (v := ?vzz6) ?hzz6 ?azz6 ?bzz6 ?czz6 ?qzz6 ?yzz6 ?szz6 ?rzz6
  case hzz6 => simp only [List.getElem?_toArray, List.getElem?_cons_zero, List.getElem?_cons_succ]; rfl
  case azz6 => kernel_rfl
  case bzz6 => kernel_rfl
  case czz6 => kernel_rfl
  case yzz6 =>
    refine Or.inl ⟨by rfl, ?_⟩
    intro w hSw
    skip
    go_simp
    try with_reducible rfl
  case qzz6 => exact fun _ _ _ h => h
  case szz6 => first | assumption | trivial
  case' rzz6 => simp only [Act.put, List.setIfInBounds_toArray, List.set_cons_zero, List.set_cons_succ]
  refine wpAnyH_take (i := 8) (oi := ?ozz7) (v := ?vzz7) ?hzz7 ?azz7 ?bzz7 ?czz7 ?qzz7 ?yzz7 ?szz7 ?rzz7
  case hzz7 => simp only [List.getElem?_toArray, List.getElem?_cons_zero, List.getElem?_cons_succ]; rfl
  case azz7 => kernel_rfl
  case bzz7 => kernel_rfl
  case czz7 => kernel_rfl
  case yzz7 =>
    refine Or.inl ⟨by rfl, ?_⟩
    intro w hSw
    skip
    go_simp
    try with_reducible rfl
  case qzz7 => exact fun _ _ _ h => h
  case szz7 => first | assumption | trivial
  case' rzz7 => simp only [Act.put, List.setIfInBounds_toArray, List.set_cons_zero, List.set_cons_succ]
  refine wpAnyH_take (i := 9) (oi := ?ozz8) (v := ?vzz8) ?hzz8 ?azz8 ?bzz8 ?czz8 ?qzz8 ?yzz8 ?szz8 ?rzz8
  case hzz8 => simp only [List.getElem?_toArray, List.getElem?_cons_zero, List.getElem?_cons_succ]; rfl
  case azz8 => kernel_rfl
  case bzz8 => kernel_rfl
  case czz8 => kernel_rfl
  case yzz8 =>
    refine Or.inl ⟨by rfl, ?_⟩
    intro w hSw
    skip
    go_simp
    try with_reducible rfl
  case qzz8 => exact fun _ _ _ h => h
  case szz8 => first | assumption | trivial
  case' rzz8 => simp only [Act.put, List.setIfInBounds_toArray, List.set_cons_zero, List.set_cons_succ]
  refine wpAnyH_ready (rs := [5]) (by kernel_rfl) (by simp) ?_
  refine AllReadyH.cons (o := ?ozz33) ?hzz33 (fun K hK => ?kzz33) ?mzz33
  case hzz33 => simp only [List.getElem?_toArray, List.getElem?_cons_zero, List.getElem?_cons_succ]; rfl
  case kzz33 =>
    go_simp
    refine (K2.out _).mono ?_
    rintro e v1 ⟨rfl, q1⟩
    go_wp2_with fail
    refine hK.out _ _ ?Szz33 (fun hHeld => ?Rzz33)
    case Szz33 =>
      exact hHeld.trans q1
    case Rzz33 =>
      clear hK K
      try simp only [Act.put, List.setIfInBounds_toArray, List.set_cons_zero, List.set_cons_succ]
      refine wpAnyH_ready (rs := [6]) (by kernel_rfl) (by simp) ?_
      refine AllReadyH.cons (o := ?ozz32) ?hzz32 (fun K hK => ?kzz32) ?mzz32
      case hzz32 => simp only [List.getElem?_toArray, List.getElem?_cons_zero, List.getElem?_cons_succ]; rfl
      case kzz32 =>
        go_simp
        refine (K3.out _).mono ?_
        rintro e v2 ⟨rfl, q2⟩
        go_wp2_with fail
        refine hK.out _ _ ?Szz32 (fun hHeld => ?Rzz32)
        case Szz32 =>
          exact hHeld.trans q2
        case Rzz32 =>
          clear hK K
          try simp only [Act.put, List.setIfInBounds_toArray, List.set_cons_zero, List.set_cons_succ]
          refine wpAnyH_take (i := 10) (oi := ?ozz9) (v := ?vzz9) ?hzz9 ?azz9 ?bzz9 ?czz9 ?qzz9 ?yzz9 ?szz9 ?rzz9
          case hzz9 => simp only [List.getElem?_toArray, List.getElem?_cons_zero, List.getElem?_cons_succ]; rfl
          case azz9 => kernel_rfl
          case bzz9 => kernel_rfl
          case czz9 => kernel_rfl
          case yzz9 =>
            refine Or.inl ⟨by rfl, ?_⟩
            intro w hSw
            skip
            go_simp
            try with_reducible rfl
          case qzz9 => exact fun _ _ _ h => h
          case szz9 => first | assumption | trivial
          case' rzz9 => simp only [Act.put, List.setIfInBounds_toArray, List.set_cons_zero, List.set_cons_succ]
          refine wpAnyH_take (i := 11) (oi := ?ozz10) (v := ?vzz10) ?hzz10 ?azz10 ?bzz10 ?czz10 ?qzz10 ?yzz10 ?szz10 ?rzz10
          case hzz10 => simp only [List.getElem?_toArray, List.getElem?_cons_zero, List.getElem?_cons_succ]; rfl
          case azz10 => kernel_rfl
          case bzz10 => kernel_rfl
          case czz10 => kernel_rfl
          case yzz10 =>
            refine Or.inl ⟨by rfl, ?_⟩
            intro w hSw
            skip
            go_simp
            try with_reducible rfl
          case qzz10 => exact fun _ _ _ h => h
          case szz10 => first | assumption | trivial
          case' rzz10 => simp only [Act.put, List.setIfInBounds_toArray, List.set_cons_zero, List.set_cons_succ]
          refine wpAnyH_take (i := 12) (oi := ?ozz11) (v := ?vzz11) ?hzz11 ?azz11 ?bzz11 ?czz11 ?qzz11 ?yzz11 ?szz11 ?rzz11
          case hzz11 => simp only [List.getElem?_toArray, List.getElem?_cons_zero, List.getElem?_cons_succ]; rfl
          case azz11 => kernel_rfl
          case bzz11 => kernel_rfl
          case czz11 => kernel_rfl
          case yzz11 =>
            refine Or.inl ⟨by rfl, ?_⟩
            intro w hSw
            skip
            go_simp
            try with_reducible rfl
          case qzz11 => exact fun _ _ _ h => h
          case szz11 => first | assumption | trivial
          case' rzz11 => simp only [Act.put, List.setIfInBounds_toArray, List.set_cons_zero, List.set_cons_succ]
          refine wpAnyH_take (i := 13) (oi := ?ozz12) (v := ?vzz12) ?hzz12 ?azz12 ?bzz12 ?czz12 ?qzz12 ?yzz12 ?szz12 ?rzz12
          case hzz12 => simp only [List.getElem?_toArray, List.getElem?_cons_zero, List.getElem?_cons_succ]; rfl
          case azz12 => kernel_rfl
          case bzz12 => kernel_rfl
          case czz12 => kernel_rfl
          case yzz12 =>
            refine Or.inl ⟨by rfl, ?_⟩
            intro w hSw
            have x0 := box_ hSw c0; have x1 := box_ hSw c1; have x2 := box_ hSw c2; clear hSw
            go_simp
            try with_reducible rfl
          case qzz12 => exact fun _ _ _ h => h
          case szz12 => first | assumption | trivial
          case' rzz12 => simp only [Act.put, List.setIfInBounds_toArray, List.set_cons_zero, List.set_cons_succ]
          refine wpAnyH_take (i := 14) (oi := ?ozz13) (v := ?vzz13) ?hzz13 ?azz13 ?bzz13 ?czz13 ?qzz13 ?yzz13 ?szz13 ?rzz13
          case hzz13 => simp only [List.getElem?_toArray, List.getElem?_cons_zero, List.getElem?_cons_succ]; rfl
          case azz13 => kernel_rfl
          case bzz13 => kernel_rfl
          case czz13 => kernel_rfl
          case yzz13 =>
            refine Or.inl ⟨by rfl, ?_⟩
            intro w hSw
            skip
            go_simp
            try with_reducible rfl
          case qzz13 => exact fun _ _ _ h => h
          case szz13 => first | assumption | trivial
          case' rzz13 => simp only [Act.put, List.setIfInBounds_toArray, List.set_cons_zero, List.set_cons_succ]
          refine wpAnyH_take (i := 16) (oi := ?ozz14) (v := ?vzz14) ?hzz14 ?azz14 ?bzz14 ?czz14 ?qzz14 ?yzz14 ?szz14 ?rzz14
          case hzz14 => simp only [List.getElem?_toArray, List.getElem?_cons_zero, List.getElem?_cons_succ]; rfl
          case azz14 => kernel_rfl
          case bzz14 => kernel_rfl
          case czz14 => kernel_rfl
          case yzz14 =>
            refine Or.inl ⟨by rfl, ?_⟩
            intro w hSw
            skip
            go_simp
            try with_reducible rfl
          case qzz14 => exact fun _ _ _ h => h
          case szz14 => first | assumption | trivial
          case' rzz14 => simp only [Act.put, List.setIfInBounds_toArray, List.set_cons_zero, List.set_cons_succ]
          refine wpAnyH_take (i := 17) (oi := ?ozz15) (v := ?vzz15) ?hzz15 ?azz15 ?bzz15 ?czz15 ?qzz15 ?yzz15 ?szz15 ?rzz15
          case hzz15 => simp only [List.getElem?_toArray, List.getElem?_cons_zero, List.getElem?_cons_succ]; rfl
          case azz15 => kernel_rfl
          case bzz15 => kernel_rfl
          case czz15 => kernel_rfl
          case yzz15 =>
            refine Or.inl ⟨by rfl, ?_⟩
            intro w hSw
            skip
            go_simp
            try with_reducible rfl
          case qzz15 => exact fun _ _ _ h => h
          case szz15 => first | assumption | trivial
          case' rzz15 => simp only [Act.put, List.setIfInBounds_toArray, List.set_cons_zero, List.set_cons_succ]
          refine wpAnyH_take (i := 18) (oi := ?ozz16) (v := ?vzz16) ?hzz16 ?azz16 ?bzz16 ?czz16 ?qzz16 ?yzz16 ?szz16 ?rzz16
          case hzz16 => simp only [List.getElem?_toArray, List.getElem?_cons_zero, List.getElem?_cons_succ]; rfl
          case azz16 => kernel_rfl
          case bzz16 => kernel_rfl
          case czz16 => kernel_rfl
          case yzz16 =>
            refine Or.inl ⟨by rfl, ?_⟩
            intro w hSw
            skip
            go_simp
            try with_reducible rfl
          case qzz16 => exact fun _ _ _ h => h
          case szz16 => first | assumption | trivial
          case' rzz16 => simp only [Act.put, List.setIfInBounds_toArray, List.set_cons_zero, List.set_cons_succ]
          refine wpAnyH_ready (rs := [15]) (by kernel_rfl) (by simp) ?_
          refine AllReadyH.cons (o := ?ozz31) ?hzz31 (fun K hK => ?kzz31) ?mzz31
          case hzz31 => simp only [List.getElem?_toArray, List.getElem?_cons_zero, List.getElem?_cons_succ]; rfl
          case kzz31 =>
            go_simp
            refine (K4.out _).mono ?_
            rintro e v3 ⟨rfl, q3⟩
            go_wp2_with fail
            refine hK.out _ _ ?Szz31 (fun hHeld => ?Rzz31)
            case Szz31 =>
              exact hHeld.trans q3
            case Rzz31 =>
              clear hK K
              try simp only [Act.put, List.setIfInBounds_toArray, List.set_cons_zero, List.set_cons_succ]
              refine wpAnyH_take (i := 19) (oi := ?ozz17) (v := ?vzz17) ?hzz17 ?azz17 ?bzz17 ?czz17 ?qzz17 ?yzz17 ?szz17 ?rzz17
              case hzz17 => simp only [List.getElem?_toArray, List.getElem?_cons_zero, List.getElem?_cons_succ]; rfl
              case azz17 => kernel_rfl
              case bzz17 => kernel_rfl
              case czz17 => kernel_rfl
              case yzz17 =>
                refine Or.inl ⟨by rfl, ?_⟩
                intro w hSw
                skip
                go_simp
                try with_reducible rfl
              case qzz17 => exact fun _ _ _ h => h
              case szz17 => first | assumption | trivial
              case' rzz17 => simp only [Act.put, List.setIfInBounds_toArray, List.set_cons_zero, List.set_cons_succ]
              refine wpAnyH_take (i := 20) (oi := ?ozz18) (v := ?vzz18) ?hzz18 ?azz18 ?bzz18 ?czz18 ?qzz18 ?yzz18 ?szz18 ?rzz18
              case hzz18 => simp only [List.getElem?_toArray, List.getElem?_cons_zero, List.getElem?_cons_succ]; rfl
              case azz18 => kernel_rfl
              case bzz18 => kernel_rfl
              case czz18 => kernel_rfl
              case yzz18 =>
                refine Or.inl ⟨by rfl, ?_⟩
                intro w hSw
                skip
                go_simp
                try with_reducible rfl
              case qzz18 => exact fun _ _ _ h => h
              case szz18 => first | assumption | trivial
              case' rzz18 => simp only [Act.put, List.setIfInBounds_toArray, List.set_cons_zero, List.set_cons_succ]
              refine wpAnyH_take (i := 21) (oi := ?ozz19) (v := ?vzz19) ?hzz19 ?azz19 ?bzz19 ?czz19 ?qzz19 ?yzz19 ?szz19 ?rzz19
              case hzz19 => simp only [List.getElem?_toArray, List.getElem?_cons_zero, List.getElem?_cons_succ]; rfl
              case azz19 => kernel_rfl
              case bzz19 => kernel_rfl
              case czz19 => kernel_rfl
              case yzz19 =>
                refine Or.inl ⟨by rfl, ?_⟩
                intro w hSw
                skip
                go_simp
                try with_reducible rfl
              case qzz19 => exact fun _ _ _ h => h
              case szz19 => first | assumption | trivial
              case' rzz19 => simp only [Act.put, List.setIfInBounds_toArray, List.set_cons_zero, List.set_cons_succ]
              refine wpAnyH_take (i := 22) (oi := ?ozz20) (v := ?vzz20) ?hzz20 ?azz20 ?bzz20 ?czz20 ?qzz20 ?yzz20 ?szz20 ?rzz20
              case hzz20 => simp only [List.getElem?_toArray, List.getElem?_cons_zero, List.getElem?_cons_succ]; rfl
              case azz20 => kernel_rfl
              case bzz20 => kernel_rfl
              case czz20 => kernel_rfl
              case yzz20 =>
                refine Or.inl ⟨by rfl, ?_⟩
                intro w hSw
                have x0 := box_ hSw c0; have x1 := box_ hSw c1; have x2 := box_ hSw c2; clear hSw
                go_simp
                try with_reducible rfl
              case qzz20 => exact fun _ _ _ h => h
              case szz20 => first | assumption | trivial
              case' rzz20 => simp only [Act.put, List.setIfInBounds_toArray, List.set_cons_zero, List.set_cons_succ]
              refine wpAnyH_take (i := 24) (oi := ?ozz21) (v := ?vzz21) ?hzz21 ?azz21 ?bzz21 ?czz21 ?qzz21 ?yzz21 ?szz21 ?rzz21
              case hzz21 => simp only [List.getElem?_toArray, List.getElem?_cons_zero, List.getElem?_cons_succ]; rfl
              case azz21 => kernel_rfl
              case bzz21 => kernel_rfl
              case czz21 => kernel_rfl
              case yzz21 =>
                refine Or.inl ⟨by rfl, ?_⟩
                intro w hSw
                skip
                go_simp
                try with_reducible rfl
              case qzz21 => exact fun _ _ _ h => h
              case szz21 => first | assumption | trivial
              case' rzz21 => simp only [Act.put, List.setIfInBounds_toArray, List.set_cons_zero, List.set_cons_succ]
              refine wpAnyH_take (i := 25) (oi := ?ozz22) (v := ?vzz22) ?hzz22 ?azz22 ?bzz22 ?czz22 ?qzz22 ?yzz22 ?szz22 ?rzz22
              case hzz22 => simp only [List.getElem?_toArray, List.getElem?_cons_zero, List.getElem?_cons_succ]; rfl
              case azz22 => kernel_rfl
              case bzz22 => kernel_rfl
              case czz22 => kernel_rfl
              case yzz22 =>
                refine Or.inl ⟨by rfl, ?_⟩
                intro w hSw
                skip
                go_simp
                try with_reducible rfl
              case qzz22 => exact fun _ _ _ h => h
              case szz22 => first | assumption | trivial
              case' rzz22 => simp only [Act.put, List.setIfInBounds_toArray, List.set_cons_zero, List.set_cons_succ]
              refine wpAnyH_ready (rs := [23]) (by kernel_rfl) (by simp) ?_
              refine AllReadyH.cons (o := ?ozz30) ?hzz30 (fun K hK => ?kzz30) ?mzz30
              case hzz30 => simp only [List.getElem?_toArray, List.getElem?_cons_zero, List.getElem?_cons_succ]; rfl
              case kzz30 =>
                go_simp
                refine (K5.out _).mono ?_
                rintro e v4 ⟨rfl, q4⟩
                go_wp2_with fail
                refine hK.out _ _ ?Szz30 (fun hHeld => ?Rzz30)
                case Szz30 =>
                  exact hHeld.trans q4
                case Rzz30 =>
                  clear hK K
                  try simp only [Act.put, List.setIfInBounds_toArray, List.set_cons_zero, List.set_cons_succ]
                  refine wpAnyH_take (i := 26) (oi := ?ozz23) (v := ?vzz23) ?hzz23 ?azz23 ?bzz23 ?czz23 ?qzz23 ?yzz23 ?szz23 ?rzz23
                  case hzz23 => simp only [List.getElem?_toArray, List.getElem?_cons_zero, List.getElem?_cons_succ]; rfl
                  case azz23 => kernel_rfl
                  case bzz23 => kernel_rfl
                  case czz23 => kernel_rfl
                  case yzz23 =>
                    refine Or.inl ⟨by rfl, ?_⟩
                    intro w hSw
                    skip
                    go_simp
                    try with_reducible rfl
                  case qzz23 => exact fun _ _ _ h => h
                  case szz23 => first | assumption | trivial
                  case' rzz23 => simp only [Act.put, List.setIfInBounds_toArray, List.set_cons_zero, List.set_cons_succ]
                  refine wpAnyH_take (i := 27) (oi := ?ozz24) (v := undef) ?hzz24 ?azz24 ?bzz24 ?czz24 ?qzz24 ?yzz24 ?szz24 ?rzz24
                  case hzz24 => simp only [List.getElem?_toArray, List.getElem?_cons_zero, List.getElem?_cons_succ]; rfl
                  case azz24 => kernel_rfl
                  case bzz24 => kernel_rfl
                  case czz24 => kernel_rfl
                  case yzz24 => exact Or.inr ⟨by rfl, rfl⟩
                  case qzz24 => exact fun _ _ _ h => h
                  case szz24 => first | assumption | trivial
                  case' rzz24 => simp only [Act.put, List.setIfInBounds_toArray, List.set_cons_zero, List.set_cons_succ]
                  refine wpAnyH_take (i := 28) (oi := ?ozz25) (v := undef) ?hzz25 ?azz25 ?bzz25 ?czz25 ?qzz25 ?yzz25 ?szz25 ?rzz25
                  case hzz25 => simp only [List.getElem?_toArray, List.getElem?_cons_zero, List.getElem?_cons_succ]; rfl
                  case azz25 => kernel_rfl
                  case bzz25 => kernel_rfl
                  case czz25 => kernel_rfl
                  case yzz25 => exact Or.inr ⟨by rfl, rfl⟩
                  case qzz25 => exact fun _ _ _ h => h
                  case szz25 => first | assumption | trivial
                  case' rzz25 => simp only [Act.put, List.setIfInBounds_toArray, List.set_cons_zero, List.set_cons_succ]
                  refine wpAnyH_take (i := 29) (oi := ?ozz26) (v := ?vzz26) ?hzz26 ?azz26 ?bzz26 ?czz26 ?qzz26 ?yzz26 ?szz26 ?rzz26
                  case hzz26 => simp only [List.getElem?_toArray, List.getElem?_cons_zero, List.getElem?_cons_succ]; rfl
                  case azz26 => kernel_rfl
                  case bzz26 => kernel_rfl
                  case czz26 => kernel_rfl
                  case yzz26 =>
                    refine Or.inl ⟨by rfl, ?_⟩
                    intro w hSw
                    skip
                    go_simp
                    try with_reducible rfl
                  case qzz26 => exact fun _ _ _ h => h
                  case szz26 => first | assumption | trivial
                  case' rzz26 => simp only [Act.put, List.setIfInBounds_toArray, List.set_cons_zero, List.set_cons_succ]
                  refine wpAnyH_take (i := 30) (oi := ?ozz27) (v := ?vzz27) ?hzz27 ?azz27 ?bzz27 ?czz27 ?qzz27 ?yzz27 ?szz27 ?rzz27
                  case hzz27 => simp only [List.getElem?_toArray, List.getElem?_cons_zero, List.getElem?_cons_succ]; rfl
                  case azz27 => kernel_rfl
                  case bzz27 => kernel_rfl
                  case czz27 => kernel_rfl
                  case yzz27 =>
                    refine Or.inl ⟨by rfl, ?_⟩
                    intro w hSw
                    skip
                    go_simp
                    try with_reducible rfl
                  case qzz27 => exact fun _ _ _ h => h
                  case szz27 => first | assumption | trivial
                  case' rzz27 => simp only [Act.put, List.setIfInBounds_toArray, List.set_cons_zero, List.set_cons_succ]
                  refine wpAnyH_take (i := 31) (oi := ?ozz28) (v := ?vzz28) ?hzz28 ?azz28 ?bzz28 ?czz28 ?qzz28 ?yzz28 ?szz28 ?rzz28
                  case hzz28 => simp only [List.getElem?_toArray, List.getElem?_cons_zero, List.getElem?_cons_succ]; rfl
                  case azz28 => kernel_rfl
                  case bzz28 => kernel_rfl
                  case czz28 => kernel_rfl
                  case yzz28 =>
                    refine Or.inl ⟨by rfl, ?_⟩
                    intro w hSw
                    skip
                    go_simp
                    try with_reducible rfl
                  case qzz28 => exact fun _ _ _ h => h
                  case szz28 => first | assumption | trivial
                  case' rzz28 => simp only [Act.put, List.setIfInBounds_toArray, List.set_cons_zero, List.set_cons_succ]
                  refine wpAnyH_take (i := 32) (oi := ?ozz29) (v := ?vzz29) ?hzz29 ?azz29 ?bzz29 ?czz29 ?qzz29 ?yzz29 ?szz29 ?rzz29
                  case hzz29 => simp only [List.getElem?_toArray, List.getElem?_cons_zero, List.getElem?_cons_succ]; rfl
                  case azz29 => kernel_rfl
                  case bzz29 => kernel_rfl
                  case czz29 => kernel_rfl
                  case yzz29 =>
                    refine Or.inl ⟨by rfl, ?_⟩
                    intro w hSw
                    skip
                    go_simp
                    try with_reducible rfl
                  case qzz29 => exact fun _ _ _ h => h
                  case szz29 => first | assumption | trivial
                  case' rzz29 => simp only [Act.put, List.setIfInBounds_toArray, List.set_cons_zero, List.set_cons_succ]
                  refine wpAnyH_done (by kernel_rfl) ?_ _
                  go_wp2
                  go_ret
                  exact ⟨by first | rfl | (simp; done), BQ.out.trans hHeld⟩
              case' mzz30 => skip
              exact AllReadyH.nil
          case' mzz31 => skip
          exact AllReadyH.nil
      case' mzz32 => skip
      exact AllReadyH.nil
  case' mzz33 => skip
  exact AllReadyH.nil
set_option maxHeartbeats 4000000 in
theorem walk_s2 (a : ByteArray) (b : ByteArray) (m : Int) (w : World) (ha : a.size ≤ 140737488351232) (hb : b.size ≤ 140737488351232) (hab : a = b) (hm : m = 2) :
    Calls Try.prog 6 #[.string a, .string b, .int .i64 m] w fun e w' => e = .returned (.bool true) ∧ Q w w' := by
  have K1 := Lib.hid (fun W => skey_any m a W ha)
  have K2 := Lib.hid (fun W => skey_any m b W hb)
  have K3 := Lib.hid (fun W => over_keys m a b ▸ sover_any (key m a) (key m b) W)
  have K4 := Lib.hid (fun W => in_key m a b ▸ sin_any (key m a) b W)
  have K5 := Lib.hid (fun W => may_key m a ▸ smay_any (key m a) W)
  subst hab
  rw [decide_eq_true rfl] at K3 K4
  subst hm
  rw [show (decide ((2 : Int) = 1) || decide ((2 : Int) = 2)) = true by rfl] at K5
  clear ha hb
  unfold wnV Sm.key at *
  simp only at K1 K2 K3 K4 K5
  generalize a ++ (⟨#[0]⟩ : ByteArray) = ab at *
  try unfold wnV at *
  go_enter Try.func6, Try.ntmps6
  go_wp2_with fail
  refine (spshown_any _).mono ?_
  rintro e W ⟨rfl, q0⟩
  have BQ := Lib.hid q0
  clear q0
  go_wp2_with fail
  refine (K1.out _).mono ?_
  rintro e w1 ⟨rfl, q1⟩
  have BQ := Lib.hid (BQ.out.trans q1)
  clear q1
  have c := (Bx.new w1 [.int .i64 2, .string a, .string ab] 23).get3.1
  have bq := (Q.refl w1).alloc (.cells #[.int .i64 2, .string a, .string ab] 23)
  change (w1.alloc (.cells #[.int .i64 2, .string a, .string ab] 23)).cell? _ = _ ∧ (w1.alloc (.cells #[.int .i64 2, .string a, .string ab] 23)).cell? _ = _ ∧ (w1.alloc (.cells #[.int .i64 2, .string a, .string ab] 23)).cell? _ = _ at c
  go_wp2
  generalize w1.alloc (.cells #[.int .i64 2, .string a, .string ab] 23) = W2 at c bq ⊢
  obtain ⟨c0, c1, c2⟩ := c
  have BQ := Lib.hid (BQ.out.trans bq)
  clear bq
  refine wp_region_held_drew (S := Q W2) (by kernel_rfl) ?szz34 (fun hHeld => ?rzz34)
  case szz34 =>
    exact (Q.refl W2).drew
  case' rzz34 => skip
  refine wpAnyH_take (i := 0) (oi := ?ozz35) (v := ?vzz35) ?hzz35 ?azz35 ?bzz35 ?czz35 ?qzz35 ?yzz35 ?szz35 ?rzz35
  case hzz35 => simp only [List.getElem?_toArray, List.getElem?_cons_zero]; rfl
  case azz35 => kernel_rfl
  case bzz35 => kernel_rfl
  case czz35 => kernel_rfl
  case yzz35 =>
    refine Or.inl ⟨by rfl, ?_⟩
    intro w hSw
    skip
    go_simp
    try with_reducible rfl
  case qzz35 => exact fun _ _ _ h => h
  case szz35 => first | assumption | trivial
  case' rzz35 => simp only [Act.put, List.setIfInBounds_toArray, List.set_cons_zero, List.set_cons_succ]
  refine wpAnyH_take (i := 1) (oi := ?ozz36) (v := ?vzz36) ?hzz36 ?azz36 ?bzz36 ?czz36 ?qzz36 ?yzz36 ?szz36 ?rzz36
  case hzz36 => simp only [List.getElem?_toArray, List.getElem?_cons_zero, List.getElem?_cons_succ]; rfl
  case azz36 => kernel_rfl
  case bzz36 => kernel_rfl
  case czz36 => kernel_rfl
  case yzz36 =>
    refine Or.inl ⟨by rfl, ?_⟩
    intro w hSw
    skip
    go_simp
    try with_reducible rfl
  case qzz36 => exact fun _ _ _ h => h
  case szz36 => first | assumption | trivial
  case' rzz36 => simp only [Act.put, List.setIfInBounds_toArray, List.set_cons_zero, List.set_cons_succ]
  refine wpAnyH_take (i := 2) (oi := ?ozz37) (v := ?vzz37) ?hzz37 ?azz37 ?bzz37 ?czz37 ?qzz37 ?yzz37 ?szz37 ?rzz37
  case hzz37 => simp only [List.getElem?_toArray, List.getElem?_cons_zero, List.getElem?_cons_succ]; rfl
  case azz37 => kernel_rfl
  case bzz37 => kernel_rfl
  case czz37 => kernel_rfl
  case yzz37 =>
    refine Or.inl ⟨by rfl, ?_⟩
    intro w hSw
    have x0 := box_ hSw c0; have x1 := box_ hSw c1; have x2 := box_ hSw c2; clear hSw
    go_simp
    try with_reducible rfl
  case qzz37 => exact fun _ _ _ h => h
  case szz37 => first | assumption | trivial
  case' rzz37 => simp only [Act.put, List.setIfInBounds_toArray, List.set_cons_zero, List.set_cons_succ]
  refine wpAnyH_take (i := 3) (oi := ?ozz38) (v := ?vzz38) ?hzz38 ?azz38 ?bzz38 ?czz38 ?qzz38 ?yzz38 ?szz38 ?rzz38
  case hzz38 => simp only [List.getElem?_toArray, List.getElem?_cons_zero, List.getElem?_cons_succ]; rfl
  case azz38 => kernel_rfl
  case bzz38 => kernel_rfl
  case czz38 => kernel_rfl
  case yzz38 =>
    refine Or.inl ⟨by rfl, ?_⟩
    intro w hSw
    skip
    go_simp
    try with_reducible rfl
  case qzz38 => exact fun _ _ _ h => h
  case szz38 => first | assumption | trivial
  case' rzz38 => simp only [Act.put, List.setIfInBounds_toArray, List.set_cons_zero, List.set_cons_succ]
  refine wpAnyH_take (i := 4) (oi := ?ozz39) (v := ?vzz39) ?hzz39 ?azz39 ?bzz39 ?czz39 ?qzz39 ?yzz39 ?szz39 ?rzz39
  case hzz39 => simp only [List.getElem?_toArray, List.getElem?_cons_zero, List.getElem?_cons_succ]; rfl
  case azz39 => kernel_rfl
  case bzz39 => kernel_rfl
  case czz39 => kernel_rfl
  case yzz39 =>
    refine Or.inl ⟨by rfl, ?_⟩
    intro w hSw
    skip
    go_simp
    try with_reducible rfl
  case qzz39 => exact fun _ _ _ h => h
  case szz39 => first | assumption | trivial
  case' rzz39 => simp only [Act.put, List.setIfInBounds_toArray, List.set_cons_zero, List.set_cons_succ]
  refine wpAnyH_take (i := 7) (oi := ?ozz40) (v := ?vzz40) ?hzz40 ?azz40 ?bzz40 ?czz40 ?qzz40 ?yzz40 ?szz40 ?rzz40
  case hzz40 => simp only [List.getElem?_toArray, List.getElem?_cons_zero, List.getElem?_cons_succ]; rfl
  case azz40 => kernel_rfl
  case bzz40 => kernel_rfl
  case czz40 => kernel_rfl
  case yzz40 =>
    refine Or.inl ⟨by rfl, ?_⟩
    intro w hSw
    skip
    go_simp
    try with_reducible rfl
  case qzz40 => exact fun _ _ _ h => h
  case szz40 => first | assumption | trivial
  case' rzz40 => simp only [Act.put, List.setIfInBounds_toArray, List.set_cons_zero, List.set_cons_succ]
  refine wpAnyH_take (i := 8) (oi := ?ozz41) (v := ?vzz41) ?hzz41 ?azz41 ?bzz41 ?czz41 ?qzz41 ?yzz41 ?szz41 ?rzz41
  case hzz41 => simp only [List.getElem?_toArray, List.getElem?_cons_zero, List.getElem?_cons_succ]; rfl
  case azz41 => kernel_rfl
  case bzz41 => kernel_rfl
  case czz41 => kernel_rfl
  case yzz41 =>
    refine Or.inl ⟨by rfl, ?_⟩
    intro w hSw
    skip
    go_simp
    try with_reducible rfl
  case qzz41 => exact fun _ _ _ h => h
  case szz41 => first | assumption | trivial
  case' rzz41 => simp only [Act.put, List.setIfInBounds_toArray, List.set_cons_zero, List.set_cons_succ]
  refine wpAnyH_take (i := 9) (oi := ?ozz42) (v := ?vzz42) ?hzz42 ?azz42 ?bzz42 ?czz42 ?qzz42 ?yzz42 ?szz42 ?rzz42
  case hzz42 => simp only [List.getElem?_toArray, List.getElem?_cons_zero, List.getElem?_cons_succ]; rfl
  case azz42 => kernel_rfl
  case bzz42 => kernel_rfl
  case czz42 => kernel_rfl
  case yzz42 =>
    refine Or.inl ⟨by rfl, ?_⟩
    intro w hSw
    skip
    go_simp
    try with_reducible rfl
  case qzz42 => exact fun _ _ _ h => h
  case szz42 => first | assumption | trivial
  case' rzz42 => simp only [Act.put, List.setIfInBounds_toArray, List.set_cons_zero, List.set_cons_succ]
  refine wpAnyH_ready (rs := [5]) (by kernel_rfl) (by simp) ?_
  refine AllReadyH.cons (o := ?ozz67) ?hzz67 (fun K hK => ?kzz67) ?mzz67
  case hzz67 => simp only [List.getElem?_toArray, List.getElem?_cons_zero, List.getElem?_cons_succ]; rfl
  case kzz67 =>
    go_simp
    refine (K2.out _).mono ?_
    rintro e v1 ⟨rfl, q1⟩
    go_wp2_with fail
    refine hK.out _ _ ?Szz67 (fun hHeld => ?Rzz67)
    case Szz67 =>
      exact hHeld.trans q1
    case Rzz67 =>
      clear hK K
      try simp only [Act.put, List.setIfInBounds_toArray, List.set_cons_zero, List.set_cons_succ]
      refine wpAnyH_ready (rs := [6]) (by kernel_rfl) (by simp) ?_
      refine AllReadyH.cons (o := ?ozz66) ?hzz66 (fun K hK => ?kzz66) ?mzz66
      case hzz66 => simp only [List.getElem?_toArray, List.getElem?_cons_zero, List.getElem?_cons_succ]; rfl
      case kzz66 =>
        go_simp
        refine (K3.out _).mono ?_
        rintro e v2 ⟨rfl, q2⟩
        go_wp2_with fail
        refine hK.out _ _ ?Szz66 (fun hHeld => ?Rzz66)
        case Szz66 =>
          exact hHeld.trans q2
        case Rzz66 =>
          clear hK K
          try simp only [Act.put, List.setIfInBounds_toArray, List.set_cons_zero, List.set_cons_succ]
          refine wpAnyH_take (i := 10) (oi := ?ozz43) (v := ?vzz43) ?hzz43 ?azz43 ?bzz43 ?czz43 ?qzz43 ?yzz43 ?szz43 ?rzz43
          case hzz43 => simp only [List.getElem?_toArray, List.getElem?_cons_zero, List.getElem?_cons_succ]; rfl
          case azz43 => kernel_rfl
          case bzz43 => kernel_rfl
          case czz43 => kernel_rfl
          case yzz43 =>
            refine Or.inl ⟨by rfl, ?_⟩
            intro w hSw
            skip
            go_simp
            try with_reducible rfl
          case qzz43 => exact fun _ _ _ h => h
          case szz43 => first | assumption | trivial
          case' rzz43 => simp only [Act.put, List.setIfInBounds_toArray, List.set_cons_zero, List.set_cons_succ]
          refine wpAnyH_take (i := 11) (oi := ?ozz44) (v := ?vzz44) ?hzz44 ?azz44 ?bzz44 ?czz44 ?qzz44 ?yzz44 ?szz44 ?rzz44
          case hzz44 => simp only [List.getElem?_toArray, List.getElem?_cons_zero, List.getElem?_cons_succ]; rfl
          case azz44 => kernel_rfl
          case bzz44 => kernel_rfl
          case czz44 => kernel_rfl
          case yzz44 =>
            refine Or.inl ⟨by rfl, ?_⟩
            intro w hSw
            skip
            go_simp
            try with_reducible rfl
          case qzz44 => exact fun _ _ _ h => h
          case szz44 => first | assumption | trivial
          case' rzz44 => simp only [Act.put, List.setIfInBounds_toArray, List.set_cons_zero, List.set_cons_succ]
          refine wpAnyH_take (i := 12) (oi := ?ozz45) (v := ?vzz45) ?hzz45 ?azz45 ?bzz45 ?czz45 ?qzz45 ?yzz45 ?szz45 ?rzz45
          case hzz45 => simp only [List.getElem?_toArray, List.getElem?_cons_zero, List.getElem?_cons_succ]; rfl
          case azz45 => kernel_rfl
          case bzz45 => kernel_rfl
          case czz45 => kernel_rfl
          case yzz45 =>
            refine Or.inl ⟨by rfl, ?_⟩
            intro w hSw
            skip
            go_simp
            try with_reducible rfl
          case qzz45 => exact fun _ _ _ h => h
          case szz45 => first | assumption | trivial
          case' rzz45 => simp only [Act.put, List.setIfInBounds_toArray, List.set_cons_zero, List.set_cons_succ]
          refine wpAnyH_take (i := 13) (oi := ?ozz46) (v := ?vzz46) ?hzz46 ?azz46 ?bzz46 ?czz46 ?qzz46 ?yzz46 ?szz46 ?rzz46
          case hzz46 => simp only [List.getElem?_toArray, List.getElem?_cons_zero, List.getElem?_cons_succ]; rfl
          case azz46 => kernel_rfl
          case bzz46 => kernel_rfl
          case czz46 => kernel_rfl
          case yzz46 =>
            refine Or.inl ⟨by rfl, ?_⟩
            intro w hSw
            have x0 := box_ hSw c0; have x1 := box_ hSw c1; have x2 := box_ hSw c2; clear hSw
            go_simp
            try with_reducible rfl
          case qzz46 => exact fun _ _ _ h => h
          case szz46 => first | assumption | trivial
          case' rzz46 => simp only [Act.put, List.setIfInBounds_toArray, List.set_cons_zero, List.set_cons_succ]
          refine wpAnyH_take (i := 14) (oi := ?ozz47) (v := ?vzz47) ?hzz47 ?azz47 ?bzz47 ?czz47 ?qzz47 ?yzz47 ?szz47 ?rzz47
          case hzz47 => simp only [List.getElem?_toArray, List.getElem?_cons_zero, List.getElem?_cons_succ]; rfl
          case azz47 => kernel_rfl
          case bzz47 => kernel_rfl
          case czz47 => kernel_rfl
          case yzz47 =>
            refine Or.inl ⟨by rfl, ?_⟩
            intro w hSw
            skip
            go_simp
            try with_reducible rfl
          case qzz47 => exact fun _ _ _ h => h
          case szz47 => first | assumption | trivial
          case' rzz47 => simp only [Act.put, List.setIfInBounds_toArray, List.set_cons_zero, List.set_cons_succ]
          refine wpAnyH_take (i := 16) (oi := ?ozz48) (v := ?vzz48) ?hzz48 ?azz48 ?bzz48 ?czz48 ?qzz48 ?yzz48 ?szz48 ?rzz48
          case hzz48 => simp only [List.getElem?_toArray, List.getElem?_cons_zero, List.getElem?_cons_succ]; rfl
          case azz48 => kernel_rfl
          case bzz48 => kernel_rfl
          case czz48 => kernel_rfl
          case yzz48 =>
            refine Or.inl ⟨by rfl, ?_⟩
            intro w hSw
            skip
            go_simp
            try with_reducible rfl
          case qzz48 => exact fun _ _ _ h => h
          case szz48 => first | assumption | trivial
          case' rzz48 => simp only [Act.put, List.setIfInBounds_toArray, List.set_cons_zero, List.set_cons_succ]
          refine wpAnyH_take (i := 17) (oi := ?ozz49) (v := ?vzz49) ?hzz49 ?azz49 ?bzz49 ?czz49 ?qzz49 ?yzz49 ?szz49 ?rzz49
          case hzz49 => simp only [List.getElem?_toArray, List.getElem?_cons_zero, List.getElem?_cons_succ]; rfl
          case azz49 => kernel_rfl
          case bzz49 => kernel_rfl
          case czz49 => kernel_rfl
          case yzz49 =>
            refine Or.inl ⟨by rfl, ?_⟩
            intro w hSw
            skip
            go_simp
            try with_reducible rfl
          case qzz49 => exact fun _ _ _ h => h
          case szz49 => first | assumption | trivial
          case' rzz49 => simp only [Act.put, List.setIfInBounds_toArray, List.set_cons_zero, List.set_cons_succ]
          refine wpAnyH_take (i := 18) (oi := ?ozz50) (v := ?vzz50) ?hzz50 ?azz50 ?bzz50 ?czz50 ?qzz50 ?yzz50 ?szz50 ?rzz50
          case hzz50 => simp only [List.getElem?_toArray, List.getElem?_cons_zero, List.getElem?_cons_succ]; rfl
          case azz50 => kernel_rfl
          case bzz50 => kernel_rfl
          case czz50 => kernel_rfl
          case yzz50 =>
            refine Or.inl ⟨by rfl, ?_⟩
            intro w hSw
            skip
            go_simp
            try with_reducible rfl
          case qzz50 => exact fun _ _ _ h => h
          case szz50 => first | assumption | trivial
          case' rzz50 => simp only [Act.put, List.setIfInBounds_toArray, List.set_cons_zero, List.set_cons_succ]
          refine wpAnyH_ready (rs := [15]) (by kernel_rfl) (by simp) ?_
          refine AllReadyH.cons (o := ?ozz65) ?hzz65 (fun K hK => ?kzz65) ?mzz65
          case hzz65 => simp only [List.getElem?_toArray, List.getElem?_cons_zero, List.getElem?_cons_succ]; rfl
          case kzz65 =>
            go_simp
            refine (K4.out _).mono ?_
            rintro e v3 ⟨rfl, q3⟩
            go_wp2_with fail
            refine hK.out _ _ ?Szz65 (fun hHeld => ?Rzz65)
            case Szz65 =>
              exact hHeld.trans q3
            case Rzz65 =>
              clear hK K
              try simp only [Act.put, List.setIfInBounds_toArray, List.set_cons_zero, List.set_cons_succ]
              refine wpAnyH_take (i := 19) (oi := ?ozz51) (v := ?vzz51) ?hzz51 ?azz51 ?bzz51 ?czz51 ?qzz51 ?yzz51 ?szz51 ?rzz51
              case hzz51 => simp only [List.getElem?_toArray, List.getElem?_cons_zero, List.getElem?_cons_succ]; rfl
              case azz51 => kernel_rfl
              case bzz51 => kernel_rfl
              case czz51 => kernel_rfl
              case yzz51 =>
                refine Or.inl ⟨by rfl, ?_⟩
                intro w hSw
                skip
                go_simp
                try with_reducible rfl
              case qzz51 => exact fun _ _ _ h => h
              case szz51 => first | assumption | trivial
              case' rzz51 => simp only [Act.put, List.setIfInBounds_toArray, List.set_cons_zero, List.set_cons_succ]
              refine wpAnyH_take (i := 20) (oi := ?ozz52) (v := ?vzz52) ?hzz52 ?azz52 ?bzz52 ?czz52 ?qzz52 ?yzz52 ?szz52 ?rzz52
              case hzz52 => simp only [List.getElem?_toArray, List.getElem?_cons_zero, List.getElem?_cons_succ]; rfl
              case azz52 => kernel_rfl
              case bzz52 => kernel_rfl
              case czz52 => kernel_rfl
              case yzz52 =>
                refine Or.inl ⟨by rfl, ?_⟩
                intro w hSw
                skip
                go_simp
                try with_reducible rfl
              case qzz52 => exact fun _ _ _ h => h
              case szz52 => first | assumption | trivial
              case' rzz52 => simp only [Act.put, List.setIfInBounds_toArray, List.set_cons_zero, List.set_cons_succ]
              refine wpAnyH_take (i := 21) (oi := ?ozz53) (v := ?vzz53) ?hzz53 ?azz53 ?bzz53 ?czz53 ?qzz53 ?yzz53 ?szz53 ?rzz53
              case hzz53 => simp only [List.getElem?_toArray, List.getElem?_cons_zero, List.getElem?_cons_succ]; rfl
              case azz53 => kernel_rfl
              case bzz53 => kernel_rfl
              case czz53 => kernel_rfl
              case yzz53 =>
                refine Or.inl ⟨by rfl, ?_⟩
                intro w hSw
                skip
                go_simp
                try with_reducible rfl
              case qzz53 => exact fun _ _ _ h => h
              case szz53 => first | assumption | trivial
              case' rzz53 => simp only [Act.put, List.setIfInBounds_toArray, List.set_cons_zero, List.set_cons_succ]
              refine wpAnyH_take (i := 22) (oi := ?ozz54) (v := ?vzz54) ?hzz54 ?azz54 ?bzz54 ?czz54 ?qzz54 ?yzz54 ?szz54 ?rzz54
              case hzz54 => simp only [List.getElem?_toArray, List.getElem?_cons_zero, List.getElem?_cons_succ]; rfl
              case azz54 => kernel_rfl
              case bzz54 => kernel_rfl
              case czz54 => kernel_rfl
              case yzz54 =>
                refine Or.inl ⟨by rfl, ?_⟩
                intro w hSw
                have x0 := box_ hSw c0; have x1 := box_ hSw c1; have x2 := box_ hSw c2; clear hSw
                go_simp
                try with_reducible rfl
              case qzz54 => exact fun _ _ _ h => h
              case szz54 => first | assumption | trivial
              case' rzz54 => simp only [Act.put, List.setIfInBounds_toArray, List.set_cons_zero, List.set_cons_succ]
              refine wpAnyH_take (i := 24) (oi := ?ozz55) (v := ?vzz55) ?hzz55 ?azz55 ?bzz55 ?czz55 ?qzz55 ?yzz55 ?szz55 ?rzz55
              case hzz55 => simp only [List.getElem?_toArray, List.getElem?_cons_zero, List.getElem?_cons_succ]; rfl
              case azz55 => kernel_rfl
              case bzz55 => kernel_rfl
              case czz55 => kernel_rfl
              case yzz55 =>
                refine Or.inl ⟨by rfl, ?_⟩
                intro w hSw
                skip
                go_simp
                try with_reducible rfl
              case qzz55 => exact fun _ _ _ h => h
              case szz55 => first | assumption | trivial
              case' rzz55 => simp only [Act.put, List.setIfInBounds_toArray, List.set_cons_zero, List.set_cons_succ]
              refine wpAnyH_take (i := 25) (oi := ?ozz56) (v := ?vzz56) ?hzz56 ?azz56 ?bzz56 ?czz56 ?qzz56 ?yzz56 ?szz56 ?rzz56
              case hzz56 => simp only [List.getElem?_toArray, List.getElem?_cons_zero, List.getElem?_cons_succ]; rfl
              case azz56 => kernel_rfl
              case bzz56 => kernel_rfl
              case czz56 => kernel_rfl
              case yzz56 =>
                refine Or.inl ⟨by rfl, ?_⟩
                intro w hSw
                skip
                go_simp
                try with_reducible rfl
              case qzz56 => exact fun _ _ _ h => h
              case szz56 => first | assumption | trivial
              case' rzz56 => simp only [Act.put, List.setIfInBounds_toArray, List.set_cons_zero, List.set_cons_succ]
              refine wpAnyH_ready (rs := [23]) (by kernel_rfl) (by simp) ?_
              refine AllReadyH.cons (o := ?ozz64) ?hzz64 (fun K hK => ?kzz64) ?mzz64
              case hzz64 => simp only [List.getElem?_toArray, List.getElem?_cons_zero, List.getElem?_cons_succ]; rfl
              case kzz64 =>
                go_simp
                refine (K5.out _).mono ?_
                rintro e v4 ⟨rfl, q4⟩
                go_wp2_with fail
                refine hK.out _ _ ?Szz64 (fun hHeld => ?Rzz64)
                case Szz64 =>
                  exact hHeld.trans q4
                case Rzz64 =>
                  clear hK K
                  try simp only [Act.put, List.setIfInBounds_toArray, List.set_cons_zero, List.set_cons_succ]
                  refine wpAnyH_take (i := 26) (oi := ?ozz57) (v := ?vzz57) ?hzz57 ?azz57 ?bzz57 ?czz57 ?qzz57 ?yzz57 ?szz57 ?rzz57
                  case hzz57 => simp only [List.getElem?_toArray, List.getElem?_cons_zero, List.getElem?_cons_succ]; rfl
                  case azz57 => kernel_rfl
                  case bzz57 => kernel_rfl
                  case czz57 => kernel_rfl
                  case yzz57 =>
                    refine Or.inl ⟨by rfl, ?_⟩
                    intro w hSw
                    skip
                    go_simp
                    try with_reducible rfl
                  case qzz57 => exact fun _ _ _ h => h
                  case szz57 => first | assumption | trivial
                  case' rzz57 => simp only [Act.put, List.setIfInBounds_toArray, List.set_cons_zero, List.set_cons_succ]
                  refine wpAnyH_take (i := 27) (oi := ?ozz58) (v := ?vzz58) ?hzz58 ?azz58 ?bzz58 ?czz58 ?qzz58 ?yzz58 ?szz58 ?rzz58
                  case hzz58 => simp only [List.getElem?_toArray, List.getElem?_cons_zero, List.getElem?_cons_succ]; rfl
                  case azz58 => kernel_rfl
                  case bzz58 => kernel_rfl
                  case czz58 => kernel_rfl
                  case yzz58 =>
                    refine Or.inl ⟨by rfl, ?_⟩
                    intro w hSw
                    skip
                    go_simp
                    try with_reducible rfl
                  case qzz58 => exact fun _ _ _ h => h
                  case szz58 => first | assumption | trivial
                  case' rzz58 => simp only [Act.put, List.setIfInBounds_toArray, List.set_cons_zero, List.set_cons_succ]
                  refine wpAnyH_take (i := 28) (oi := ?ozz59) (v := ?vzz59) ?hzz59 ?azz59 ?bzz59 ?czz59 ?qzz59 ?yzz59 ?szz59 ?rzz59
                  case hzz59 => simp only [List.getElem?_toArray, List.getElem?_cons_zero, List.getElem?_cons_succ]; rfl
                  case azz59 => kernel_rfl
                  case bzz59 => kernel_rfl
                  case czz59 => kernel_rfl
                  case yzz59 =>
                    refine Or.inl ⟨by rfl, ?_⟩
                    intro w hSw
                    skip
                    go_simp
                    try with_reducible rfl
                  case qzz59 => exact fun _ _ _ h => h
                  case szz59 => first | assumption | trivial
                  case' rzz59 => simp only [Act.put, List.setIfInBounds_toArray, List.set_cons_zero, List.set_cons_succ]
                  refine wpAnyH_take (i := 29) (oi := ?ozz60) (v := ?vzz60) ?hzz60 ?azz60 ?bzz60 ?czz60 ?qzz60 ?yzz60 ?szz60 ?rzz60
                  case hzz60 => simp only [List.getElem?_toArray, List.getElem?_cons_zero, List.getElem?_cons_succ]; rfl
                  case azz60 => kernel_rfl
                  case bzz60 => kernel_rfl
                  case czz60 => kernel_rfl
                  case yzz60 =>
                    refine Or.inl ⟨by rfl, ?_⟩
                    intro w hSw
                    skip
                    go_simp
                    try with_reducible rfl
                  case qzz60 => exact fun _ _ _ h => h
                  case szz60 => first | assumption | trivial
                  case' rzz60 => simp only [Act.put, List.setIfInBounds_toArray, List.set_cons_zero, List.set_cons_succ]
                  refine wpAnyH_take (i := 30) (oi := ?ozz61) (v := ?vzz61) ?hzz61 ?azz61 ?bzz61 ?czz61 ?qzz61 ?yzz61 ?szz61 ?rzz61
                  case hzz61 => simp only [List.getElem?_toArray, List.getElem?_cons_zero, List.getElem?_cons_succ]; rfl
                  case azz61 => kernel_rfl
                  case bzz61 => kernel_rfl
                  case czz61 => kernel_rfl
                  case yzz61 =>
                    refine Or.inl ⟨by rfl, ?_⟩
                    intro w hSw
                    skip
                    go_simp
                    try with_reducible rfl
                  case qzz61 => exact fun _ _ _ h => h
                  case szz61 => first | assumption | trivial
                  case' rzz61 => simp only [Act.put, List.setIfInBounds_toArray, List.set_cons_zero, List.set_cons_succ]
                  refine wpAnyH_take (i := 31) (oi := ?ozz62) (v := ?vzz62) ?hzz62 ?azz62 ?bzz62 ?czz62 ?qzz62 ?yzz62 ?szz62 ?rzz62
                  case hzz62 => simp only [List.getElem?_toArray, List.getElem?_cons_zero, List.getElem?_cons_succ]; rfl
                  case azz62 => kernel_rfl
                  case bzz62 => kernel_rfl
                  case czz62 => kernel_rfl
                  case yzz62 =>
                    refine Or.inl ⟨by rfl, ?_⟩
                    intro w hSw
                    skip
                    go_simp
                    try with_reducible rfl
                  case qzz62 => exact fun _ _ _ h => h
                  case szz62 => first | assumption | trivial
                  case' rzz62 => simp only [Act.put, List.setIfInBounds_toArray, List.set_cons_zero, List.set_cons_succ]
                  refine wpAnyH_take (i := 32) (oi := ?ozz63) (v := ?vzz63) ?hzz63 ?azz63 ?bzz63 ?czz63 ?qzz63 ?yzz63 ?szz63 ?rzz63
                  case hzz63 => simp only [List.getElem?_toArray, List.getElem?_cons_zero, List.getElem?_cons_succ]; rfl
                  case azz63 => kernel_rfl
                  case bzz63 => kernel_rfl
                  case czz63 => kernel_rfl
                  case yzz63 =>
                    refine Or.inl ⟨by rfl, ?_⟩
                    intro w hSw
                    skip
                    go_simp
                    try with_reducible rfl
                  case qzz63 => exact fun _ _ _ h => h
                  case szz63 => first | assumption | trivial
                  case' rzz63 => simp only [Act.put, List.setIfInBounds_toArray, List.set_cons_zero, List.set_cons_succ]
                  refine wpAnyH_done (by kernel_rfl) ?_ _
                  go_wp2
                  go_ret
                  exact ⟨by first | rfl | (simp; done), BQ.out.trans hHeld⟩
              case' mzz64 => skip
              exact AllReadyH.nil
          case' mzz65 => skip
          exact AllReadyH.nil
      case' mzz66 => skip
      exact AllReadyH.nil
  case' mzz67 => skip
  exact AllReadyH.nil
set_option maxHeartbeats 4000000 in
theorem walk_so (a : ByteArray) (b : ByteArray) (m : Int) (w : World) (ha : a.size ≤ 140737488351232) (hb : b.size ≤ 140737488351232) (hab : a = b) (hm : ¬ m = 1) (hn : ¬ m = 2) :
    Calls Try.prog 6 #[.string a, .string b, .int .i64 m] w fun e w' => e = .returned (.bool true) ∧ Q w w' := by
  have K1 := Lib.hid (fun W => skey_any m a W ha)
  have K2 := Lib.hid (fun W => skey_any m b W hb)
  have K3 := Lib.hid (fun W => over_keys m a b ▸ sover_any (key m a) (key m b) W)
  have K4 := Lib.hid (fun W => in_key m a b ▸ sin_any (key m a) b W)
  have K5 := Lib.hid (fun W => may_key m a ▸ smay_any (key m a) W)
  subst hab
  rw [decide_eq_true rfl] at K3 K4
  have m1 : (m == 1) = false := by simpa using hm
  have m2 : (m == 2) = false := by simpa using hn
  rw [decide_eq_false hm, decide_eq_false hn] at K5
  simp only [Bool.or_false] at K5
  clear ha hb hm hn
  unfold wnV Sm.key at *
  simp only at K1 K2 K3 K4 K5
  generalize a ++ (⟨#[0]⟩ : ByteArray) = ab at *
  try unfold wnV at *
  go_enter Try.func6, Try.ntmps6
  go_wp2_with fail
  refine (spshown_any _).mono ?_
  rintro e W ⟨rfl, q0⟩
  have BQ := Lib.hid q0
  clear q0
  go_wp2_with fail
  refine (K1.out _).mono ?_
  rintro e w1 ⟨rfl, q1⟩
  have BQ := Lib.hid (BQ.out.trans q1)
  clear q1
  have c := (Bx.new w1 [.int .i64 m, .string a, .string ab] 23).get3.1
  have bq := (Q.refl w1).alloc (.cells #[.int .i64 m, .string a, .string ab] 23)
  change (w1.alloc (.cells #[.int .i64 m, .string a, .string ab] 23)).cell? _ = _ ∧ (w1.alloc (.cells #[.int .i64 m, .string a, .string ab] 23)).cell? _ = _ ∧ (w1.alloc (.cells #[.int .i64 m, .string a, .string ab] 23)).cell? _ = _ at c
  go_wp2
  generalize w1.alloc (.cells #[.int .i64 m, .string a, .string ab] 23) = W2 at c bq ⊢
  obtain ⟨c0, c1, c2⟩ := c
  have BQ := Lib.hid (BQ.out.trans bq)
  clear bq
  refine wp_region_held_drew (S := Q W2) (by kernel_rfl) ?szz68 (fun hHeld => ?rzz68)
  case szz68 =>
    exact (Q.refl W2).drew
  case' rzz68 => skip
  refine wpAnyH_take (i := 0) (oi := ?ozz69) (v := ?vzz69) ?hzz69 ?azz69 ?bzz69 ?czz69 ?qzz69 ?yzz69 ?szz69 ?rzz69
  case hzz69 => simp only [List.getElem?_toArray, List.getElem?_cons_zero]; rfl
  case azz69 => kernel_rfl
  case bzz69 => kernel_rfl
  case czz69 => kernel_rfl
  case yzz69 =>
    refine Or.inl ⟨by rfl, ?_⟩
    intro w hSw
    skip
    go_simp
    try with_reducible rfl
  case qzz69 => exact fun _ _ _ h => h
  case szz69 => first | assumption | trivial
  case' rzz69 => simp only [Act.put, List.setIfInBounds_toArray, List.set_cons_zero, List.set_cons_succ]
  refine wpAnyH_take (i := 1) (oi := ?ozz70) (v := ?vzz70) ?hzz70 ?azz70 ?bzz70 ?czz70 ?qzz70 ?yzz70 ?szz70 ?rzz70
  case hzz70 => simp only [List.getElem?_toArray, List.getElem?_cons_zero, List.getElem?_cons_succ]; rfl
  case azz70 => kernel_rfl
  case bzz70 => kernel_rfl
  case czz70 => kernel_rfl
  case yzz70 =>
    refine Or.inl ⟨by rfl, ?_⟩
    intro w hSw
    skip
    go_simp
    try with_reducible rfl
  case qzz70 => exact fun _ _ _ h => h
  case szz70 => first | assumption | trivial
  case' rzz70 => simp only [Act.put, List.setIfInBounds_toArray, List.set_cons_zero, List.set_cons_succ]
  refine wpAnyH_take (i := 2) (oi := ?ozz71) (v := ?vzz71) ?hzz71 ?azz71 ?bzz71 ?czz71 ?qzz71 ?yzz71 ?szz71 ?rzz71
  case hzz71 => simp only [List.getElem?_toArray, List.getElem?_cons_zero, List.getElem?_cons_succ]; rfl
  case azz71 => kernel_rfl
  case bzz71 => kernel_rfl
  case czz71 => kernel_rfl
  case yzz71 =>
    refine Or.inl ⟨by rfl, ?_⟩
    intro w hSw
    have x0 := box_ hSw c0; have x1 := box_ hSw c1; have x2 := box_ hSw c2; clear hSw
    go_simp
    try with_reducible rfl
  case qzz71 => exact fun _ _ _ h => h
  case szz71 => first | assumption | trivial
  case' rzz71 => simp only [Act.put, List.setIfInBounds_toArray, List.set_cons_zero, List.set_cons_succ]
  refine wpAnyH_take (i := 3) (oi := ?ozz72) (v := ?vzz72) ?hzz72 ?azz72 ?bzz72 ?czz72 ?qzz72 ?yzz72 ?szz72 ?rzz72
  case hzz72 => simp only [List.getElem?_toArray, List.getElem?_cons_zero, List.getElem?_cons_succ]; rfl
  case azz72 => kernel_rfl
  case bzz72 => kernel_rfl
  case czz72 => kernel_rfl
  case yzz72 =>
    refine Or.inl ⟨by rfl, ?_⟩
    intro w hSw
    skip
    go_simp
    try with_reducible rfl
  case qzz72 => exact fun _ _ _ h => h
  case szz72 => first | assumption | trivial
  case' rzz72 => simp only [Act.put, List.setIfInBounds_toArray, List.set_cons_zero, List.set_cons_succ]
  refine wpAnyH_take (i := 4) (oi := ?ozz73) (v := ?vzz73) ?hzz73 ?azz73 ?bzz73 ?czz73 ?qzz73 ?yzz73 ?szz73 ?rzz73
  case hzz73 => simp only [List.getElem?_toArray, List.getElem?_cons_zero, List.getElem?_cons_succ]; rfl
  case azz73 => kernel_rfl
  case bzz73 => kernel_rfl
  case czz73 => kernel_rfl
  case yzz73 =>
    refine Or.inl ⟨by rfl, ?_⟩
    intro w hSw
    skip
    go_simp
    try with_reducible rfl
  case qzz73 => exact fun _ _ _ h => h
  case szz73 => first | assumption | trivial
  case' rzz73 => simp only [Act.put, List.setIfInBounds_toArray, List.set_cons_zero, List.set_cons_succ]
  refine wpAnyH_take (i := 7) (oi := ?ozz74) (v := ?vzz74) ?hzz74 ?azz74 ?bzz74 ?czz74 ?qzz74 ?yzz74 ?szz74 ?rzz74
  case hzz74 => simp only [List.getElem?_toArray, List.getElem?_cons_zero, List.getElem?_cons_succ]; rfl
  case azz74 => kernel_rfl
  case bzz74 => kernel_rfl
  case czz74 => kernel_rfl
  case yzz74 =>
    refine Or.inl ⟨by rfl, ?_⟩
    intro w hSw
    skip
    go_simp
    try with_reducible rfl
  case qzz74 => exact fun _ _ _ h => h
  case szz74 => first | assumption | trivial
  case' rzz74 => simp only [Act.put, List.setIfInBounds_toArray, List.set_cons_zero, List.set_cons_succ]
  refine wpAnyH_take (i := 8) (oi := ?ozz75) (v := ?vzz75) ?hzz75 ?azz75 ?bzz75 ?czz75 ?qzz75 ?yzz75 ?szz75 ?rzz75
  case hzz75 => simp only [List.getElem?_toArray, List.getElem?_cons_zero, List.getElem?_cons_succ]; rfl
  case azz75 => kernel_rfl
  case bzz75 => kernel_rfl
  case czz75 => kernel_rfl
  case yzz75 =>
    refine Or.inl ⟨by rfl, ?_⟩
    intro w hSw
    skip
    go_simp
    try with_reducible rfl
  case qzz75 => exact fun _ _ _ h => h
  case szz75 => first | assumption | trivial
  case' rzz75 => simp only [Act.put, List.setIfInBounds_toArray, List.set_cons_zero, List.set_cons_succ]
  refine wpAnyH_take (i := 9) (oi := ?ozz76) (v := ?vzz76) ?hzz76 ?azz76 ?bzz76 ?czz76 ?qzz76 ?yzz76 ?szz76 ?rzz76
  case hzz76 => simp only [List.getElem?_toArray, List.getElem?_cons_zero, List.getElem?_cons_succ]; rfl
  case azz76 => kernel_rfl
  case bzz76 => kernel_rfl
  case czz76 => kernel_rfl
  case yzz76 =>
    refine Or.inl ⟨by rfl, ?_⟩
    intro w hSw
    skip
    go_simp
    try with_reducible rfl
  case qzz76 => exact fun _ _ _ h => h
  case szz76 => first | assumption | trivial
  case' rzz76 => simp only [Act.put, List.setIfInBounds_toArray, List.set_cons_zero, List.set_cons_succ]
  refine wpAnyH_ready (rs := [5]) (by kernel_rfl) (by simp) ?_
  refine AllReadyH.cons (o := ?ozz101) ?hzz101 (fun K hK => ?kzz101) ?mzz101
  case hzz101 => simp only [List.getElem?_toArray, List.getElem?_cons_zero, List.getElem?_cons_succ]; rfl
  case kzz101 =>
    go_simp
    refine (K2.out _).mono ?_
    rintro e v1 ⟨rfl, q1⟩
    go_wp2_with fail
    refine hK.out _ _ ?Szz101 (fun hHeld => ?Rzz101)
    case Szz101 =>
      exact hHeld.trans q1
    case Rzz101 =>
      clear hK K
      try simp only [Act.put, List.setIfInBounds_toArray, List.set_cons_zero, List.set_cons_succ]
      refine wpAnyH_ready (rs := [6]) (by kernel_rfl) (by simp) ?_
      refine AllReadyH.cons (o := ?ozz100) ?hzz100 (fun K hK => ?kzz100) ?mzz100
      case hzz100 => simp only [List.getElem?_toArray, List.getElem?_cons_zero, List.getElem?_cons_succ]; rfl
      case kzz100 =>
        go_simp
        refine (K3.out _).mono ?_
        rintro e v2 ⟨rfl, q2⟩
        go_wp2_with fail
        refine hK.out _ _ ?Szz100 (fun hHeld => ?Rzz100)
        case Szz100 =>
          exact hHeld.trans q2
        case Rzz100 =>
          clear hK K
          try simp only [Act.put, List.setIfInBounds_toArray, List.set_cons_zero, List.set_cons_succ]
          refine wpAnyH_take (i := 10) (oi := ?ozz77) (v := ?vzz77) ?hzz77 ?azz77 ?bzz77 ?czz77 ?qzz77 ?yzz77 ?szz77 ?rzz77
          case hzz77 => simp only [List.getElem?_toArray, List.getElem?_cons_zero, List.getElem?_cons_succ]; rfl
          case azz77 => kernel_rfl
          case bzz77 => kernel_rfl
          case czz77 => kernel_rfl
          case yzz77 =>
            refine Or.inl ⟨by rfl, ?_⟩
            intro w hSw
            skip
            go_simp
            try with_reducible rfl
          case qzz77 => exact fun _ _ _ h => h
          case szz77 => first | assumption | trivial
          case' rzz77 => simp only [Act.put, List.setIfInBounds_toArray, List.set_cons_zero, List.set_cons_succ]
          refine wpAnyH_take (i := 11) (oi := ?ozz78) (v := ?vzz78) ?hzz78 ?azz78 ?bzz78 ?czz78 ?qzz78 ?yzz78 ?szz78 ?rzz78
          case hzz78 => simp only [List.getElem?_toArray, List.getElem?_cons_zero, List.getElem?_cons_succ]; rfl
          case azz78 => kernel_rfl
          case bzz78 => kernel_rfl
          case czz78 => kernel_rfl
          case yzz78 =>
            refine Or.inl ⟨by rfl, ?_⟩
            intro w hSw
            skip
            go_simp
            try with_reducible rfl
          case qzz78 => exact fun _ _ _ h => h
          case szz78 => first | assumption | trivial
          case' rzz78 => simp only [Act.put, List.setIfInBounds_toArray, List.set_cons_zero, List.set_cons_succ]
          refine wpAnyH_take (i := 12) (oi := ?ozz79) (v := ?vzz79) ?hzz79 ?azz79 ?bzz79 ?czz79 ?qzz79 ?yzz79 ?szz79 ?rzz79
          case hzz79 => simp only [List.getElem?_toArray, List.getElem?_cons_zero, List.getElem?_cons_succ]; rfl
          case azz79 => kernel_rfl
          case bzz79 => kernel_rfl
          case czz79 => kernel_rfl
          case yzz79 =>
            refine Or.inl ⟨by rfl, ?_⟩
            intro w hSw
            skip
            go_simp
            try with_reducible rfl
          case qzz79 => exact fun _ _ _ h => h
          case szz79 => first | assumption | trivial
          case' rzz79 => simp only [Act.put, List.setIfInBounds_toArray, List.set_cons_zero, List.set_cons_succ]
          refine wpAnyH_take (i := 13) (oi := ?ozz80) (v := ?vzz80) ?hzz80 ?azz80 ?bzz80 ?czz80 ?qzz80 ?yzz80 ?szz80 ?rzz80
          case hzz80 => simp only [List.getElem?_toArray, List.getElem?_cons_zero, List.getElem?_cons_succ]; rfl
          case azz80 => kernel_rfl
          case bzz80 => kernel_rfl
          case czz80 => kernel_rfl
          case yzz80 =>
            refine Or.inl ⟨by rfl, ?_⟩
            intro w hSw
            have x0 := box_ hSw c0; have x1 := box_ hSw c1; have x2 := box_ hSw c2; clear hSw
            go_simp
            try with_reducible rfl
          case qzz80 => exact fun _ _ _ h => h
          case szz80 => first | assumption | trivial
          case' rzz80 => simp only [Act.put, List.setIfInBounds_toArray, List.set_cons_zero, List.set_cons_succ]
          refine wpAnyH_take (i := 14) (oi := ?ozz81) (v := ?vzz81) ?hzz81 ?azz81 ?bzz81 ?czz81 ?qzz81 ?yzz81 ?szz81 ?rzz81
          case hzz81 => simp only [List.getElem?_toArray, List.getElem?_cons_zero, List.getElem?_cons_succ]; rfl
          case azz81 => kernel_rfl
          case bzz81 => kernel_rfl
          case czz81 => kernel_rfl
          case yzz81 =>
            refine Or.inl ⟨by rfl, ?_⟩
            intro w hSw
            skip
            go_simp
            try with_reducible rfl
          case qzz81 => exact fun _ _ _ h => h
          case szz81 => first | assumption | trivial
          case' rzz81 => simp only [Act.put, List.setIfInBounds_toArray, List.set_cons_zero, List.set_cons_succ]
          refine wpAnyH_take (i := 16) (oi := ?ozz82) (v := ?vzz82) ?hzz82 ?azz82 ?bzz82 ?czz82 ?qzz82 ?yzz82 ?szz82 ?rzz82
          case hzz82 => simp only [List.getElem?_toArray, List.getElem?_cons_zero, List.getElem?_cons_succ]; rfl
          case azz82 => kernel_rfl
          case bzz82 => kernel_rfl
          case czz82 => kernel_rfl
          case yzz82 =>
            refine Or.inl ⟨by rfl, ?_⟩
            intro w hSw
            skip
            go_simp
            try with_reducible rfl
          case qzz82 => exact fun _ _ _ h => h
          case szz82 => first | assumption | trivial
          case' rzz82 => simp only [Act.put, List.setIfInBounds_toArray, List.set_cons_zero, List.set_cons_succ]
          refine wpAnyH_take (i := 17) (oi := ?ozz83) (v := ?vzz83) ?hzz83 ?azz83 ?bzz83 ?czz83 ?qzz83 ?yzz83 ?szz83 ?rzz83
          case hzz83 => simp only [List.getElem?_toArray, List.getElem?_cons_zero, List.getElem?_cons_succ]; rfl
          case azz83 => kernel_rfl
          case bzz83 => kernel_rfl
          case czz83 => kernel_rfl
          case yzz83 =>
            refine Or.inl ⟨by rfl, ?_⟩
            intro w hSw
            skip
            go_simp
            try with_reducible rfl
          case qzz83 => exact fun _ _ _ h => h
          case szz83 => first | assumption | trivial
          case' rzz83 => simp only [Act.put, List.setIfInBounds_toArray, List.set_cons_zero, List.set_cons_succ]
          refine wpAnyH_take (i := 18) (oi := ?ozz84) (v := ?vzz84) ?hzz84 ?azz84 ?bzz84 ?czz84 ?qzz84 ?yzz84 ?szz84 ?rzz84
          case hzz84 => simp only [List.getElem?_toArray, List.getElem?_cons_zero, List.getElem?_cons_succ]; rfl
          case azz84 => kernel_rfl
          case bzz84 => kernel_rfl
          case czz84 => kernel_rfl
          case yzz84 =>
            refine Or.inl ⟨by rfl, ?_⟩
            intro w hSw
            skip
            go_simp
            try with_reducible rfl
          case qzz84 => exact fun _ _ _ h => h
          case szz84 => first | assumption | trivial
          case' rzz84 => simp only [Act.put, List.setIfInBounds_toArray, List.set_cons_zero, List.set_cons_succ]
          refine wpAnyH_ready (rs := [15]) (by kernel_rfl) (by simp) ?_
          refine AllReadyH.cons (o := ?ozz99) ?hzz99 (fun K hK => ?kzz99) ?mzz99
          case hzz99 => simp only [List.getElem?_toArray, List.getElem?_cons_zero, List.getElem?_cons_succ]; rfl
          case kzz99 =>
            go_simp
            refine (K4.out _).mono ?_
            rintro e v3 ⟨rfl, q3⟩
            go_wp2_with fail
            refine hK.out _ _ ?Szz99 (fun hHeld => ?Rzz99)
            case Szz99 =>
              exact hHeld.trans q3
            case Rzz99 =>
              clear hK K
              try simp only [Act.put, List.setIfInBounds_toArray, List.set_cons_zero, List.set_cons_succ]
              refine wpAnyH_take (i := 19) (oi := ?ozz85) (v := ?vzz85) ?hzz85 ?azz85 ?bzz85 ?czz85 ?qzz85 ?yzz85 ?szz85 ?rzz85
              case hzz85 => simp only [List.getElem?_toArray, List.getElem?_cons_zero, List.getElem?_cons_succ]; rfl
              case azz85 => kernel_rfl
              case bzz85 => kernel_rfl
              case czz85 => kernel_rfl
              case yzz85 =>
                refine Or.inl ⟨by rfl, ?_⟩
                intro w hSw
                skip
                go_simp
                try with_reducible rfl
              case qzz85 => exact fun _ _ _ h => h
              case szz85 => first | assumption | trivial
              case' rzz85 => simp only [Act.put, List.setIfInBounds_toArray, List.set_cons_zero, List.set_cons_succ]
              refine wpAnyH_take (i := 20) (oi := ?ozz86) (v := ?vzz86) ?hzz86 ?azz86 ?bzz86 ?czz86 ?qzz86 ?yzz86 ?szz86 ?rzz86
              case hzz86 => simp only [List.getElem?_toArray, List.getElem?_cons_zero, List.getElem?_cons_succ]; rfl
              case azz86 => kernel_rfl
              case bzz86 => kernel_rfl
              case czz86 => kernel_rfl
              case yzz86 =>
                refine Or.inl ⟨by rfl, ?_⟩
                intro w hSw
                skip
                go_simp
                try with_reducible rfl
              case qzz86 => exact fun _ _ _ h => h
              case szz86 => first | assumption | trivial
              case' rzz86 => simp only [Act.put, List.setIfInBounds_toArray, List.set_cons_zero, List.set_cons_succ]
              refine wpAnyH_take (i := 21) (oi := ?ozz87) (v := ?vzz87) ?hzz87 ?azz87 ?bzz87 ?czz87 ?qzz87 ?yzz87 ?szz87 ?rzz87
              case hzz87 => simp only [List.getElem?_toArray, List.getElem?_cons_zero, List.getElem?_cons_succ]; rfl
              case azz87 => kernel_rfl
              case bzz87 => kernel_rfl
              case czz87 => kernel_rfl
              case yzz87 =>
                refine Or.inl ⟨by rfl, ?_⟩
                intro w hSw
                skip
                go_simp
                try with_reducible rfl
              case qzz87 => exact fun _ _ _ h => h
              case szz87 => first | assumption | trivial
              case' rzz87 => simp only [Act.put, List.setIfInBounds_toArray, List.set_cons_zero, List.set_cons_succ]
              refine wpAnyH_take (i := 22) (oi := ?ozz88) (v := ?vzz88) ?hzz88 ?azz88 ?bzz88 ?czz88 ?qzz88 ?yzz88 ?szz88 ?rzz88
              case hzz88 => simp only [List.getElem?_toArray, List.getElem?_cons_zero, List.getElem?_cons_succ]; rfl
              case azz88 => kernel_rfl
              case bzz88 => kernel_rfl
              case czz88 => kernel_rfl
              case yzz88 =>
                refine Or.inl ⟨by rfl, ?_⟩
                intro w hSw
                have x0 := box_ hSw c0; have x1 := box_ hSw c1; have x2 := box_ hSw c2; clear hSw
                go_simp
                try with_reducible rfl
              case qzz88 => exact fun _ _ _ h => h
              case szz88 => first | assumption | trivial
              case' rzz88 => simp only [Act.put, List.setIfInBounds_toArray, List.set_cons_zero, List.set_cons_succ]
              refine wpAnyH_take (i := 24) (oi := ?ozz89) (v := ?vzz89) ?hzz89 ?azz89 ?bzz89 ?czz89 ?qzz89 ?yzz89 ?szz89 ?rzz89
              case hzz89 => simp only [List.getElem?_toArray, List.getElem?_cons_zero, List.getElem?_cons_succ]; rfl
              case azz89 => kernel_rfl
              case bzz89 => kernel_rfl
              case czz89 => kernel_rfl
              case yzz89 =>
                refine Or.inl ⟨by rfl, ?_⟩
                intro w hSw
                skip
                go_simp
                try with_reducible rfl
              case qzz89 => exact fun _ _ _ h => h
              case szz89 => first | assumption | trivial
              case' rzz89 => simp only [Act.put, List.setIfInBounds_toArray, List.set_cons_zero, List.set_cons_succ]
              refine wpAnyH_take (i := 25) (oi := ?ozz90) (v := ?vzz90) ?hzz90 ?azz90 ?bzz90 ?czz90 ?qzz90 ?yzz90 ?szz90 ?rzz90
              case hzz90 => simp only [List.getElem?_toArray, List.getElem?_cons_zero, List.getElem?_cons_succ]; rfl
              case azz90 => kernel_rfl
              case bzz90 => kernel_rfl
              case czz90 => kernel_rfl
              case yzz90 =>
                refine Or.inl ⟨by rfl, ?_⟩
                intro w hSw
                skip
                go_simp
                try with_reducible rfl
              case qzz90 => exact fun _ _ _ h => h
              case szz90 => first | assumption | trivial
              case' rzz90 => simp only [Act.put, List.setIfInBounds_toArray, List.set_cons_zero, List.set_cons_succ]
              refine wpAnyH_ready (rs := [23]) (by kernel_rfl) (by simp) ?_
              refine AllReadyH.cons (o := ?ozz98) ?hzz98 (fun K hK => ?kzz98) ?mzz98
              case hzz98 => simp only [List.getElem?_toArray, List.getElem?_cons_zero, List.getElem?_cons_succ]; rfl
              case kzz98 =>
                go_simp
                refine (K5.out _).mono ?_
                rintro e v4 ⟨rfl, q4⟩
                go_wp2_with fail
                refine hK.out _ _ ?Szz98 (fun hHeld => ?Rzz98)
                case Szz98 =>
                  exact hHeld.trans q4
                case Rzz98 =>
                  clear hK K
                  try simp only [Act.put, List.setIfInBounds_toArray, List.set_cons_zero, List.set_cons_succ]
                  refine wpAnyH_take (i := 26) (oi := ?ozz91) (v := ?vzz91) ?hzz91 ?azz91 ?bzz91 ?czz91 ?qzz91 ?yzz91 ?szz91 ?rzz91
                  case hzz91 => simp only [List.getElem?_toArray, List.getElem?_cons_zero, List.getElem?_cons_succ]; rfl
                  case azz91 => kernel_rfl
                  case bzz91 => kernel_rfl
                  case czz91 => kernel_rfl
                  case yzz91 =>
                    refine Or.inl ⟨by rfl, ?_⟩
                    intro w hSw
                    skip
                    go_simp
                    try with_reducible rfl
                  case qzz91 => exact fun _ _ _ h => h
                  case szz91 => first | assumption | trivial
                  case' rzz91 => simp only [Act.put, List.setIfInBounds_toArray, List.set_cons_zero, List.set_cons_succ]
                  refine wpAnyH_take (i := 27) (oi := ?ozz92) (v := ?vzz92) ?hzz92 ?azz92 ?bzz92 ?czz92 ?qzz92 ?yzz92 ?szz92 ?rzz92
                  case hzz92 => simp only [List.getElem?_toArray, List.getElem?_cons_zero, List.getElem?_cons_succ]; rfl
                  case azz92 => kernel_rfl
                  case bzz92 => kernel_rfl
                  case czz92 => kernel_rfl
                  case yzz92 =>
                    refine Or.inl ⟨by rfl, ?_⟩
                    intro w hSw
                    skip
                    go_simp
                    try with_reducible rfl
                  case qzz92 => exact fun _ _ _ h => h
                  case szz92 => first | assumption | trivial
                  case' rzz92 => simp only [Act.put, List.setIfInBounds_toArray, List.set_cons_zero, List.set_cons_succ]
                  refine wpAnyH_take (i := 28) (oi := ?ozz93) (v := ?vzz93) ?hzz93 ?azz93 ?bzz93 ?czz93 ?qzz93 ?yzz93 ?szz93 ?rzz93
                  case hzz93 => simp only [List.getElem?_toArray, List.getElem?_cons_zero, List.getElem?_cons_succ]; rfl
                  case azz93 => kernel_rfl
                  case bzz93 => kernel_rfl
                  case czz93 => kernel_rfl
                  case yzz93 =>
                    refine Or.inl ⟨by rfl, ?_⟩
                    intro w hSw
                    skip
                    go_simp
                    try with_reducible rfl
                  case qzz93 => exact fun _ _ _ h => h
                  case szz93 => first | assumption | trivial
                  case' rzz93 => simp only [Act.put, List.setIfInBounds_toArray, List.set_cons_zero, List.set_cons_succ]
                  refine wpAnyH_take (i := 29) (oi := ?ozz94) (v := ?vzz94) ?hzz94 ?azz94 ?bzz94 ?czz94 ?qzz94 ?yzz94 ?szz94 ?rzz94
                  case hzz94 => simp only [List.getElem?_toArray, List.getElem?_cons_zero, List.getElem?_cons_succ]; rfl
                  case azz94 => kernel_rfl
                  case bzz94 => kernel_rfl
                  case czz94 => kernel_rfl
                  case yzz94 =>
                    refine Or.inl ⟨by rfl, ?_⟩
                    intro w hSw
                    skip
                    go_simp
                    try with_reducible rfl
                  case qzz94 => exact fun _ _ _ h => h
                  case szz94 => first | assumption | trivial
                  case' rzz94 => simp only [Act.put, List.setIfInBounds_toArray, List.set_cons_zero, List.set_cons_succ]
                  refine wpAnyH_take (i := 30) (oi := ?ozz95) (v := ?vzz95) ?hzz95 ?azz95 ?bzz95 ?czz95 ?qzz95 ?yzz95 ?szz95 ?rzz95
                  case hzz95 => simp only [List.getElem?_toArray, List.getElem?_cons_zero, List.getElem?_cons_succ]; rfl
                  case azz95 => kernel_rfl
                  case bzz95 => kernel_rfl
                  case czz95 => kernel_rfl
                  case yzz95 =>
                    refine Or.inl ⟨by rfl, ?_⟩
                    intro w hSw
                    skip
                    go_simp
                    try with_reducible rfl
                  case qzz95 => exact fun _ _ _ h => h
                  case szz95 => first | assumption | trivial
                  case' rzz95 => simp only [Act.put, List.setIfInBounds_toArray, List.set_cons_zero, List.set_cons_succ]
                  refine wpAnyH_take (i := 31) (oi := ?ozz96) (v := ?vzz96) ?hzz96 ?azz96 ?bzz96 ?czz96 ?qzz96 ?yzz96 ?szz96 ?rzz96
                  case hzz96 => simp only [List.getElem?_toArray, List.getElem?_cons_zero, List.getElem?_cons_succ]; rfl
                  case azz96 => kernel_rfl
                  case bzz96 => kernel_rfl
                  case czz96 => kernel_rfl
                  case yzz96 =>
                    refine Or.inl ⟨by rfl, ?_⟩
                    intro w hSw
                    skip
                    go_simp
                    try with_reducible rfl
                  case qzz96 => exact fun _ _ _ h => h
                  case szz96 => first | assumption | trivial
                  case' rzz96 => simp only [Act.put, List.setIfInBounds_toArray, List.set_cons_zero, List.set_cons_succ]
                  refine wpAnyH_take (i := 32) (oi := ?ozz97) (v := ?vzz97) ?hzz97 ?azz97 ?bzz97 ?czz97 ?qzz97 ?yzz97 ?szz97 ?rzz97
                  case hzz97 => simp only [List.getElem?_toArray, List.getElem?_cons_zero, List.getElem?_cons_succ]; rfl
                  case azz97 => kernel_rfl
                  case bzz97 => kernel_rfl
                  case czz97 => kernel_rfl
                  case yzz97 =>
                    refine Or.inl ⟨by rfl, ?_⟩
                    intro w hSw
                    skip
                    go_simp
                    try with_reducible rfl
                  case qzz97 => exact fun _ _ _ h => h
                  case szz97 => first | assumption | trivial
                  case' rzz97 => simp only [Act.put, List.setIfInBounds_toArray, List.set_cons_zero, List.set_cons_succ]
                  refine wpAnyH_done (by kernel_rfl) ?_ _
                  go_wp2
                  go_ret
                  exact ⟨by first | rfl | (simp; done), BQ.out.trans hHeld⟩
              case' mzz98 => skip
              exact AllReadyH.nil
          case' mzz99 => skip
          exact AllReadyH.nil
      case' mzz100 => skip
      exact AllReadyH.nil
  case' mzz101 => skip
  exact AllReadyH.nil
set_option maxHeartbeats 4000000 in
theorem walk_n1 (a : ByteArray) (b : ByteArray) (m : Int) (w : World) (ha : a.size ≤ 140737488351232) (hb : b.size ≤ 140737488351232) (hab : ¬ a = b) (hm : m = 1) :
    Calls Try.prog 6 #[.string a, .string b, .int .i64 m] w fun e w' => e = .returned (.bool true) ∧ Q w w' := by
  have K1 := Lib.hid (fun W => skey_any m a W ha)
  have K2 := Lib.hid (fun W => skey_any m b W hb)
  have K3 := Lib.hid (fun W => over_keys m a b ▸ sover_any (key m a) (key m b) W)
  have K4 := Lib.hid (fun W => in_key m a b ▸ sin_any (key m a) b W)
  have K5 := Lib.hid (fun W => may_key m a ▸ smay_any (key m a) W)
  rw [decide_eq_false hab] at K3 K4
  have es := same_str a b
  rw [decide_eq_false hab] at es
  subst hm
  simp only [decide_true, Bool.true_or] at K5
  clear ha hb hab
  unfold wnV Sm.key at *
  simp only at K1 K2 K3 K4 K5
  generalize a ++ (⟨#[0]⟩ : ByteArray) = ab at *
  generalize b ++ (⟨#[0]⟩ : ByteArray) = bb at *
  try unfold wnV at *
  go_enter Try.func6, Try.ntmps6
  go_wp2_with fail
  refine (spshown_any _).mono ?_
  rintro e W ⟨rfl, q0⟩
  have BQ := Lib.hid q0
  clear q0
  go_wp2_with fail
  refine (K1.out _).mono ?_
  rintro e w1 ⟨rfl, q1⟩
  have BQ := Lib.hid (BQ.out.trans q1)
  clear q1
  have c := (Bx.new w1 [.int .i64 1, .string a, .string ab] 23).get3.1
  have bq := (Q.refl w1).alloc (.cells #[.int .i64 1, .string a, .string ab] 23)
  change (w1.alloc (.cells #[.int .i64 1, .string a, .string ab] 23)).cell? _ = _ ∧ (w1.alloc (.cells #[.int .i64 1, .string a, .string ab] 23)).cell? _ = _ ∧ (w1.alloc (.cells #[.int .i64 1, .string a, .string ab] 23)).cell? _ = _ at c
  go_wp2
  generalize w1.alloc (.cells #[.int .i64 1, .string a, .string ab] 23) = W2 at c bq ⊢
  obtain ⟨c0, c1, c2⟩ := c
  have BQ := Lib.hid (BQ.out.trans bq)
  clear bq
  refine wp_region_held_drew (S := Q W2) (by kernel_rfl) ?szz102 (fun hHeld => ?rzz102)
  case szz102 =>
    exact (Q.refl W2).drew
  case' rzz102 => skip
  refine wpAnyH_take (i := 0) (oi := ?ozz103) (v := ?vzz103) ?hzz103 ?azz103 ?bzz103 ?czz103 ?qzz103 ?yzz103 ?szz103 ?rzz103
  case hzz103 => simp only [List.getElem?_toArray, List.getElem?_cons_zero]; rfl
  case azz103 => kernel_rfl
  case bzz103 => kernel_rfl
  case czz103 => kernel_rfl
  case yzz103 =>
    refine Or.inl ⟨by rfl, ?_⟩
    intro w hSw
    skip
    go_simp
    try with_reducible rfl
  case qzz103 => exact fun _ _ _ h => h
  case szz103 => first | assumption | trivial
  case' rzz103 => simp only [Act.put, List.setIfInBounds_toArray, List.set_cons_zero, List.set_cons_succ]
  refine wpAnyH_take (i := 1) (oi := ?ozz104) (v := ?vzz104) ?hzz104 ?azz104 ?bzz104 ?czz104 ?qzz104 ?yzz104 ?szz104 ?rzz104
  case hzz104 => simp only [List.getElem?_toArray, List.getElem?_cons_zero, List.getElem?_cons_succ]; rfl
  case azz104 => kernel_rfl
  case bzz104 => kernel_rfl
  case czz104 => kernel_rfl
  case yzz104 =>
    refine Or.inl ⟨by rfl, ?_⟩
    intro w hSw
    skip
    go_simp
    try with_reducible rfl
  case qzz104 => exact fun _ _ _ h => h
  case szz104 => first | assumption | trivial
  case' rzz104 => simp only [Act.put, List.setIfInBounds_toArray, List.set_cons_zero, List.set_cons_succ]
  refine wpAnyH_take (i := 2) (oi := ?ozz105) (v := ?vzz105) ?hzz105 ?azz105 ?bzz105 ?czz105 ?qzz105 ?yzz105 ?szz105 ?rzz105
  case hzz105 => simp only [List.getElem?_toArray, List.getElem?_cons_zero, List.getElem?_cons_succ]; rfl
  case azz105 => kernel_rfl
  case bzz105 => kernel_rfl
  case czz105 => kernel_rfl
  case yzz105 =>
    refine Or.inl ⟨by rfl, ?_⟩
    intro w hSw
    have x0 := box_ hSw c0; have x1 := box_ hSw c1; have x2 := box_ hSw c2; clear hSw
    go_simp
    try with_reducible rfl
  case qzz105 => exact fun _ _ _ h => h
  case szz105 => first | assumption | trivial
  case' rzz105 => simp only [Act.put, List.setIfInBounds_toArray, List.set_cons_zero, List.set_cons_succ]
  refine wpAnyH_take (i := 3) (oi := ?ozz106) (v := ?vzz106) ?hzz106 ?azz106 ?bzz106 ?czz106 ?qzz106 ?yzz106 ?szz106 ?rzz106
  case hzz106 => simp only [List.getElem?_toArray, List.getElem?_cons_zero, List.getElem?_cons_succ]; rfl
  case azz106 => kernel_rfl
  case bzz106 => kernel_rfl
  case czz106 => kernel_rfl
  case yzz106 =>
    refine Or.inl ⟨by rfl, ?_⟩
    intro w hSw
    skip
    go_simp
    try with_reducible rfl
  case qzz106 => exact fun _ _ _ h => h
  case szz106 => first | assumption | trivial
  case' rzz106 => simp only [Act.put, List.setIfInBounds_toArray, List.set_cons_zero, List.set_cons_succ]
  refine wpAnyH_take (i := 4) (oi := ?ozz107) (v := ?vzz107) ?hzz107 ?azz107 ?bzz107 ?czz107 ?qzz107 ?yzz107 ?szz107 ?rzz107
  case hzz107 => simp only [List.getElem?_toArray, List.getElem?_cons_zero, List.getElem?_cons_succ]; rfl
  case azz107 => kernel_rfl
  case bzz107 => kernel_rfl
  case czz107 => kernel_rfl
  case yzz107 =>
    refine Or.inl ⟨by rfl, ?_⟩
    intro w hSw
    skip
    go_simp
    try with_reducible rfl
  case qzz107 => exact fun _ _ _ h => h
  case szz107 => first | assumption | trivial
  case' rzz107 => simp only [Act.put, List.setIfInBounds_toArray, List.set_cons_zero, List.set_cons_succ]
  refine wpAnyH_take (i := 7) (oi := ?ozz108) (v := ?vzz108) ?hzz108 ?azz108 ?bzz108 ?czz108 ?qzz108 ?yzz108 ?szz108 ?rzz108
  case hzz108 => simp only [List.getElem?_toArray, List.getElem?_cons_zero, List.getElem?_cons_succ]; rfl
  case azz108 => kernel_rfl
  case bzz108 => kernel_rfl
  case czz108 => kernel_rfl
  case yzz108 =>
    refine Or.inl ⟨by rfl, ?_⟩
    intro w hSw
    skip
    go_simp
    try with_reducible rfl
  case qzz108 => exact fun _ _ _ h => h
  case szz108 => first | assumption | trivial
  case' rzz108 => simp only [Act.put, List.setIfInBounds_toArray, List.set_cons_zero, List.set_cons_succ]
  refine wpAnyH_take (i := 8) (oi := ?ozz109) (v := ?vzz109) ?hzz109 ?azz109 ?bzz109 ?czz109 ?qzz109 ?yzz109 ?szz109 ?rzz109
  case hzz109 => simp only [List.getElem?_toArray, List.getElem?_cons_zero, List.getElem?_cons_succ]; rfl
  case azz109 => kernel_rfl
  case bzz109 => kernel_rfl
  case czz109 => kernel_rfl
  case yzz109 =>
    refine Or.inl ⟨by rfl, ?_⟩
    intro w hSw
    skip
    go_simp
    try with_reducible rfl
  case qzz109 => exact fun _ _ _ h => h
  case szz109 => first | assumption | trivial
  case' rzz109 => simp only [Act.put, List.setIfInBounds_toArray, List.set_cons_zero, List.set_cons_succ]
  refine wpAnyH_take (i := 9) (oi := ?ozz110) (v := ?vzz110) ?hzz110 ?azz110 ?bzz110 ?czz110 ?qzz110 ?yzz110 ?szz110 ?rzz110
  case hzz110 => simp only [List.getElem?_toArray, List.getElem?_cons_zero, List.getElem?_cons_succ]; rfl
  case azz110 => kernel_rfl
  case bzz110 => kernel_rfl
  case czz110 => kernel_rfl
  case yzz110 =>
    refine Or.inl ⟨by rfl, ?_⟩
    intro w hSw
    skip
    go_simp
    try with_reducible rfl
  case qzz110 => exact fun _ _ _ h => h
  case szz110 => first | assumption | trivial
  case' rzz110 => simp only [Act.put, List.setIfInBounds_toArray, List.set_cons_zero, List.set_cons_succ]
  refine wpAnyH_ready (rs := [5]) (by kernel_rfl) (by simp) ?_
  refine AllReadyH.cons (o := ?ozz135) ?hzz135 (fun K hK => ?kzz135) ?mzz135
  case hzz135 => simp only [List.getElem?_toArray, List.getElem?_cons_zero, List.getElem?_cons_succ]; rfl
  case kzz135 =>
    go_simp
    refine (K2.out _).mono ?_
    rintro e v1 ⟨rfl, q1⟩
    go_wp2_with fail
    refine hK.out _ _ ?Szz135 (fun hHeld => ?Rzz135)
    case Szz135 =>
      exact hHeld.trans q1
    case Rzz135 =>
      clear hK K
      try simp only [Act.put, List.setIfInBounds_toArray, List.set_cons_zero, List.set_cons_succ]
      refine wpAnyH_ready (rs := [6]) (by kernel_rfl) (by simp) ?_
      refine AllReadyH.cons (o := ?ozz134) ?hzz134 (fun K hK => ?kzz134) ?mzz134
      case hzz134 => simp only [List.getElem?_toArray, List.getElem?_cons_zero, List.getElem?_cons_succ]; rfl
      case kzz134 =>
        go_simp
        refine (K3.out _).mono ?_
        rintro e v2 ⟨rfl, q2⟩
        go_wp2_with fail
        refine hK.out _ _ ?Szz134 (fun hHeld => ?Rzz134)
        case Szz134 =>
          exact hHeld.trans q2
        case Rzz134 =>
          clear hK K
          try simp only [Act.put, List.setIfInBounds_toArray, List.set_cons_zero, List.set_cons_succ]
          refine wpAnyH_take (i := 10) (oi := ?ozz111) (v := ?vzz111) ?hzz111 ?azz111 ?bzz111 ?czz111 ?qzz111 ?yzz111 ?szz111 ?rzz111
          case hzz111 => simp only [List.getElem?_toArray, List.getElem?_cons_zero, List.getElem?_cons_succ]; rfl
          case azz111 => kernel_rfl
          case bzz111 => kernel_rfl
          case czz111 => kernel_rfl
          case yzz111 =>
            refine Or.inl ⟨by rfl, ?_⟩
            intro w hSw
            skip
            go_simp
            try with_reducible rfl
          case qzz111 => exact fun _ _ _ h => h
          case szz111 => first | assumption | trivial
          case' rzz111 => simp only [Act.put, List.setIfInBounds_toArray, List.set_cons_zero, List.set_cons_succ]
          refine wpAnyH_take (i := 11) (oi := ?ozz112) (v := ?vzz112) ?hzz112 ?azz112 ?bzz112 ?czz112 ?qzz112 ?yzz112 ?szz112 ?rzz112
          case hzz112 => simp only [List.getElem?_toArray, List.getElem?_cons_zero, List.getElem?_cons_succ]; rfl
          case azz112 => kernel_rfl
          case bzz112 => kernel_rfl
          case czz112 => kernel_rfl
          case yzz112 =>
            refine Or.inl ⟨by rfl, ?_⟩
            intro w hSw
            skip
            go_simp
            try with_reducible rfl
          case qzz112 => exact fun _ _ _ h => h
          case szz112 => first | assumption | trivial
          case' rzz112 => simp only [Act.put, List.setIfInBounds_toArray, List.set_cons_zero, List.set_cons_succ]
          refine wpAnyH_take (i := 12) (oi := ?ozz113) (v := ?vzz113) ?hzz113 ?azz113 ?bzz113 ?czz113 ?qzz113 ?yzz113 ?szz113 ?rzz113
          case hzz113 => simp only [List.getElem?_toArray, List.getElem?_cons_zero, List.getElem?_cons_succ]; rfl
          case azz113 => kernel_rfl
          case bzz113 => kernel_rfl
          case czz113 => kernel_rfl
          case yzz113 =>
            refine Or.inl ⟨by rfl, ?_⟩
            intro w hSw
            skip
            go_simp
            try with_reducible rfl
          case qzz113 => exact fun _ _ _ h => h
          case szz113 => first | assumption | trivial
          case' rzz113 => simp only [Act.put, List.setIfInBounds_toArray, List.set_cons_zero, List.set_cons_succ]
          refine wpAnyH_take (i := 13) (oi := ?ozz114) (v := ?vzz114) ?hzz114 ?azz114 ?bzz114 ?czz114 ?qzz114 ?yzz114 ?szz114 ?rzz114
          case hzz114 => simp only [List.getElem?_toArray, List.getElem?_cons_zero, List.getElem?_cons_succ]; rfl
          case azz114 => kernel_rfl
          case bzz114 => kernel_rfl
          case czz114 => kernel_rfl
          case yzz114 =>
            refine Or.inl ⟨by rfl, ?_⟩
            intro w hSw
            have x0 := box_ hSw c0; have x1 := box_ hSw c1; have x2 := box_ hSw c2; clear hSw
            go_simp
            try with_reducible rfl
          case qzz114 => exact fun _ _ _ h => h
          case szz114 => first | assumption | trivial
          case' rzz114 => simp only [Act.put, List.setIfInBounds_toArray, List.set_cons_zero, List.set_cons_succ]
          refine wpAnyH_take (i := 14) (oi := ?ozz115) (v := ?vzz115) ?hzz115 ?azz115 ?bzz115 ?czz115 ?qzz115 ?yzz115 ?szz115 ?rzz115
          case hzz115 => simp only [List.getElem?_toArray, List.getElem?_cons_zero, List.getElem?_cons_succ]; rfl
          case azz115 => kernel_rfl
          case bzz115 => kernel_rfl
          case czz115 => kernel_rfl
          case yzz115 =>
            refine Or.inl ⟨by rfl, ?_⟩
            intro w hSw
            skip
            go_simp
            try with_reducible rfl
          case qzz115 => exact fun _ _ _ h => h
          case szz115 => first | assumption | trivial
          case' rzz115 => simp only [Act.put, List.setIfInBounds_toArray, List.set_cons_zero, List.set_cons_succ]
          refine wpAnyH_take (i := 16) (oi := ?ozz116) (v := ?vzz116) ?hzz116 ?azz116 ?bzz116 ?czz116 ?qzz116 ?yzz116 ?szz116 ?rzz116
          case hzz116 => simp only [List.getElem?_toArray, List.getElem?_cons_zero, List.getElem?_cons_succ]; rfl
          case azz116 => kernel_rfl
          case bzz116 => kernel_rfl
          case czz116 => kernel_rfl
          case yzz116 =>
            refine Or.inl ⟨by rfl, ?_⟩
            intro w hSw
            skip
            go_simp
            try with_reducible rfl
          case qzz116 => exact fun _ _ _ h => h
          case szz116 => first | assumption | trivial
          case' rzz116 => simp only [Act.put, List.setIfInBounds_toArray, List.set_cons_zero, List.set_cons_succ]
          refine wpAnyH_take (i := 17) (oi := ?ozz117) (v := ?vzz117) ?hzz117 ?azz117 ?bzz117 ?czz117 ?qzz117 ?yzz117 ?szz117 ?rzz117
          case hzz117 => simp only [List.getElem?_toArray, List.getElem?_cons_zero, List.getElem?_cons_succ]; rfl
          case azz117 => kernel_rfl
          case bzz117 => kernel_rfl
          case czz117 => kernel_rfl
          case yzz117 =>
            refine Or.inl ⟨by rfl, ?_⟩
            intro w hSw
            skip
            go_simp
            try with_reducible rfl
          case qzz117 => exact fun _ _ _ h => h
          case szz117 => first | assumption | trivial
          case' rzz117 => simp only [Act.put, List.setIfInBounds_toArray, List.set_cons_zero, List.set_cons_succ]
          refine wpAnyH_take (i := 18) (oi := ?ozz118) (v := ?vzz118) ?hzz118 ?azz118 ?bzz118 ?czz118 ?qzz118 ?yzz118 ?szz118 ?rzz118
          case hzz118 => simp only [List.getElem?_toArray, List.getElem?_cons_zero, List.getElem?_cons_succ]; rfl
          case azz118 => kernel_rfl
          case bzz118 => kernel_rfl
          case czz118 => kernel_rfl
          case yzz118 =>
            refine Or.inl ⟨by rfl, ?_⟩
            intro w hSw
            skip
            go_simp
            try with_reducible rfl
          case qzz118 => exact fun _ _ _ h => h
          case szz118 => first | assumption | trivial
          case' rzz118 => simp only [Act.put, List.setIfInBounds_toArray, List.set_cons_zero, List.set_cons_succ]
          refine wpAnyH_ready (rs := [15]) (by kernel_rfl) (by simp) ?_
          refine AllReadyH.cons (o := ?ozz133) ?hzz133 (fun K hK => ?kzz133) ?mzz133
          case hzz133 => simp only [List.getElem?_toArray, List.getElem?_cons_zero, List.getElem?_cons_succ]; rfl
          case kzz133 =>
            go_simp
            refine (K4.out _).mono ?_
            rintro e v3 ⟨rfl, q3⟩
            go_wp2_with fail
            refine hK.out _ _ ?Szz133 (fun hHeld => ?Rzz133)
            case Szz133 =>
              exact hHeld.trans q3
            case Rzz133 =>
              clear hK K
              try simp only [Act.put, List.setIfInBounds_toArray, List.set_cons_zero, List.set_cons_succ]
              refine wpAnyH_take (i := 19) (oi := ?ozz119) (v := ?vzz119) ?hzz119 ?azz119 ?bzz119 ?czz119 ?qzz119 ?yzz119 ?szz119 ?rzz119
              case hzz119 => simp only [List.getElem?_toArray, List.getElem?_cons_zero, List.getElem?_cons_succ]; rfl
              case azz119 => kernel_rfl
              case bzz119 => kernel_rfl
              case czz119 => kernel_rfl
              case yzz119 =>
                refine Or.inl ⟨by rfl, ?_⟩
                intro w hSw
                skip
                go_simp
                try with_reducible rfl
              case qzz119 => exact fun _ _ _ h => h
              case szz119 => first | assumption | trivial
              case' rzz119 => simp only [Act.put, List.setIfInBounds_toArray, List.set_cons_zero, List.set_cons_succ]
              refine wpAnyH_take (i := 20) (oi := ?ozz120) (v := ?vzz120) ?hzz120 ?azz120 ?bzz120 ?czz120 ?qzz120 ?yzz120 ?szz120 ?rzz120
              case hzz120 => simp only [List.getElem?_toArray, List.getElem?_cons_zero, List.getElem?_cons_succ]; rfl
              case azz120 => kernel_rfl
              case bzz120 => kernel_rfl
              case czz120 => kernel_rfl
              case yzz120 =>
                refine Or.inl ⟨by rfl, ?_⟩
                intro w hSw
                skip
                go_simp
                try with_reducible rfl
              case qzz120 => exact fun _ _ _ h => h
              case szz120 => first | assumption | trivial
              case' rzz120 => simp only [Act.put, List.setIfInBounds_toArray, List.set_cons_zero, List.set_cons_succ]
              refine wpAnyH_take (i := 21) (oi := ?ozz121) (v := ?vzz121) ?hzz121 ?azz121 ?bzz121 ?czz121 ?qzz121 ?yzz121 ?szz121 ?rzz121
              case hzz121 => simp only [List.getElem?_toArray, List.getElem?_cons_zero, List.getElem?_cons_succ]; rfl
              case azz121 => kernel_rfl
              case bzz121 => kernel_rfl
              case czz121 => kernel_rfl
              case yzz121 =>
                refine Or.inl ⟨by rfl, ?_⟩
                intro w hSw
                skip
                go_simp
                try with_reducible rfl
              case qzz121 => exact fun _ _ _ h => h
              case szz121 => first | assumption | trivial
              case' rzz121 => simp only [Act.put, List.setIfInBounds_toArray, List.set_cons_zero, List.set_cons_succ]
              refine wpAnyH_take (i := 22) (oi := ?ozz122) (v := ?vzz122) ?hzz122 ?azz122 ?bzz122 ?czz122 ?qzz122 ?yzz122 ?szz122 ?rzz122
              case hzz122 => simp only [List.getElem?_toArray, List.getElem?_cons_zero, List.getElem?_cons_succ]; rfl
              case azz122 => kernel_rfl
              case bzz122 => kernel_rfl
              case czz122 => kernel_rfl
              case yzz122 =>
                refine Or.inl ⟨by rfl, ?_⟩
                intro w hSw
                have x0 := box_ hSw c0; have x1 := box_ hSw c1; have x2 := box_ hSw c2; clear hSw
                go_simp
                try with_reducible rfl
              case qzz122 => exact fun _ _ _ h => h
              case szz122 => first | assumption | trivial
              case' rzz122 => simp only [Act.put, List.setIfInBounds_toArray, List.set_cons_zero, List.set_cons_succ]
              refine wpAnyH_take (i := 24) (oi := ?ozz123) (v := ?vzz123) ?hzz123 ?azz123 ?bzz123 ?czz123 ?qzz123 ?yzz123 ?szz123 ?rzz123
              case hzz123 => simp only [List.getElem?_toArray, List.getElem?_cons_zero, List.getElem?_cons_succ]; rfl
              case azz123 => kernel_rfl
              case bzz123 => kernel_rfl
              case czz123 => kernel_rfl
              case yzz123 =>
                refine Or.inl ⟨by rfl, ?_⟩
                intro w hSw
                skip
                go_simp
                try with_reducible rfl
              case qzz123 => exact fun _ _ _ h => h
              case szz123 => first | assumption | trivial
              case' rzz123 => simp only [Act.put, List.setIfInBounds_toArray, List.set_cons_zero, List.set_cons_succ]
              refine wpAnyH_take (i := 25) (oi := ?ozz124) (v := ?vzz124) ?hzz124 ?azz124 ?bzz124 ?czz124 ?qzz124 ?yzz124 ?szz124 ?rzz124
              case hzz124 => simp only [List.getElem?_toArray, List.getElem?_cons_zero, List.getElem?_cons_succ]; rfl
              case azz124 => kernel_rfl
              case bzz124 => kernel_rfl
              case czz124 => kernel_rfl
              case yzz124 =>
                refine Or.inl ⟨by rfl, ?_⟩
                intro w hSw
                skip
                go_simp
                try with_reducible rfl
              case qzz124 => exact fun _ _ _ h => h
              case szz124 => first | assumption | trivial
              case' rzz124 => simp only [Act.put, List.setIfInBounds_toArray, List.set_cons_zero, List.set_cons_succ]
              refine wpAnyH_ready (rs := [23]) (by kernel_rfl) (by simp) ?_
              refine AllReadyH.cons (o := ?ozz132) ?hzz132 (fun K hK => ?kzz132) ?mzz132
              case hzz132 => simp only [List.getElem?_toArray, List.getElem?_cons_zero, List.getElem?_cons_succ]; rfl
              case kzz132 =>
                go_simp
                refine (K5.out _).mono ?_
                rintro e v4 ⟨rfl, q4⟩
                go_wp2_with fail
                refine hK.out _ _ ?Szz132 (fun hHeld => ?Rzz132)
                case Szz132 =>
                  exact hHeld.trans q4
                case Rzz132 =>
                  clear hK K
                  try simp only [Act.put, List.setIfInBounds_toArray, List.set_cons_zero, List.set_cons_succ]
                  refine wpAnyH_take (i := 26) (oi := ?ozz125) (v := ?vzz125) ?hzz125 ?azz125 ?bzz125 ?czz125 ?qzz125 ?yzz125 ?szz125 ?rzz125
                  case hzz125 => simp only [List.getElem?_toArray, List.getElem?_cons_zero, List.getElem?_cons_succ]; rfl
                  case azz125 => kernel_rfl
                  case bzz125 => kernel_rfl
                  case czz125 => kernel_rfl
                  case yzz125 =>
                    refine Or.inl ⟨by rfl, ?_⟩
                    intro w hSw
                    skip
                    go_simp
                    try with_reducible rfl
                  case qzz125 => exact fun _ _ _ h => h
                  case szz125 => first | assumption | trivial
                  case' rzz125 => simp only [Act.put, List.setIfInBounds_toArray, List.set_cons_zero, List.set_cons_succ]
                  refine wpAnyH_take (i := 27) (oi := ?ozz126) (v := undef) ?hzz126 ?azz126 ?bzz126 ?czz126 ?qzz126 ?yzz126 ?szz126 ?rzz126
                  case hzz126 => simp only [List.getElem?_toArray, List.getElem?_cons_zero, List.getElem?_cons_succ]; rfl
                  case azz126 => kernel_rfl
                  case bzz126 => kernel_rfl
                  case czz126 => kernel_rfl
                  case yzz126 => exact Or.inr ⟨by rfl, rfl⟩
                  case qzz126 => exact fun _ _ _ h => h
                  case szz126 => first | assumption | trivial
                  case' rzz126 => simp only [Act.put, List.setIfInBounds_toArray, List.set_cons_zero, List.set_cons_succ]
                  refine wpAnyH_take (i := 28) (oi := ?ozz127) (v := undef) ?hzz127 ?azz127 ?bzz127 ?czz127 ?qzz127 ?yzz127 ?szz127 ?rzz127
                  case hzz127 => simp only [List.getElem?_toArray, List.getElem?_cons_zero, List.getElem?_cons_succ]; rfl
                  case azz127 => kernel_rfl
                  case bzz127 => kernel_rfl
                  case czz127 => kernel_rfl
                  case yzz127 => exact Or.inr ⟨by rfl, rfl⟩
                  case qzz127 => exact fun _ _ _ h => h
                  case szz127 => first | assumption | trivial
                  case' rzz127 => simp only [Act.put, List.setIfInBounds_toArray, List.set_cons_zero, List.set_cons_succ]
                  refine wpAnyH_take (i := 29) (oi := ?ozz128) (v := ?vzz128) ?hzz128 ?azz128 ?bzz128 ?czz128 ?qzz128 ?yzz128 ?szz128 ?rzz128
                  case hzz128 => simp only [List.getElem?_toArray, List.getElem?_cons_zero, List.getElem?_cons_succ]; rfl
                  case azz128 => kernel_rfl
                  case bzz128 => kernel_rfl
                  case czz128 => kernel_rfl
                  case yzz128 =>
                    refine Or.inl ⟨by rfl, ?_⟩
                    intro w hSw
                    skip
                    go_simp
                    try with_reducible rfl
                  case qzz128 => exact fun _ _ _ h => h
                  case szz128 => first | assumption | trivial
                  case' rzz128 => simp only [Act.put, List.setIfInBounds_toArray, List.set_cons_zero, List.set_cons_succ]
                  refine wpAnyH_take (i := 30) (oi := ?ozz129) (v := ?vzz129) ?hzz129 ?azz129 ?bzz129 ?czz129 ?qzz129 ?yzz129 ?szz129 ?rzz129
                  case hzz129 => simp only [List.getElem?_toArray, List.getElem?_cons_zero, List.getElem?_cons_succ]; rfl
                  case azz129 => kernel_rfl
                  case bzz129 => kernel_rfl
                  case czz129 => kernel_rfl
                  case yzz129 =>
                    refine Or.inl ⟨by rfl, ?_⟩
                    intro w hSw
                    skip
                    go_simp
                    try with_reducible rfl
                  case qzz129 => exact fun _ _ _ h => h
                  case szz129 => first | assumption | trivial
                  case' rzz129 => simp only [Act.put, List.setIfInBounds_toArray, List.set_cons_zero, List.set_cons_succ]
                  refine wpAnyH_take (i := 31) (oi := ?ozz130) (v := ?vzz130) ?hzz130 ?azz130 ?bzz130 ?czz130 ?qzz130 ?yzz130 ?szz130 ?rzz130
                  case hzz130 => simp only [List.getElem?_toArray, List.getElem?_cons_zero, List.getElem?_cons_succ]; rfl
                  case azz130 => kernel_rfl
                  case bzz130 => kernel_rfl
                  case czz130 => kernel_rfl
                  case yzz130 =>
                    refine Or.inl ⟨by rfl, ?_⟩
                    intro w hSw
                    skip
                    go_simp
                    try with_reducible rfl
                  case qzz130 => exact fun _ _ _ h => h
                  case szz130 => first | assumption | trivial
                  case' rzz130 => simp only [Act.put, List.setIfInBounds_toArray, List.set_cons_zero, List.set_cons_succ]
                  refine wpAnyH_take (i := 32) (oi := ?ozz131) (v := ?vzz131) ?hzz131 ?azz131 ?bzz131 ?czz131 ?qzz131 ?yzz131 ?szz131 ?rzz131
                  case hzz131 => simp only [List.getElem?_toArray, List.getElem?_cons_zero, List.getElem?_cons_succ]; rfl
                  case azz131 => kernel_rfl
                  case bzz131 => kernel_rfl
                  case czz131 => kernel_rfl
                  case yzz131 =>
                    refine Or.inl ⟨by rfl, ?_⟩
                    intro w hSw
                    skip
                    go_simp
                    try with_reducible rfl
                  case qzz131 => exact fun _ _ _ h => h
                  case szz131 => first | assumption | trivial
                  case' rzz131 => simp only [Act.put, List.setIfInBounds_toArray, List.set_cons_zero, List.set_cons_succ]
                  refine wpAnyH_done (by kernel_rfl) ?_ _
                  go_wp2
                  go_ret
                  exact ⟨by first | rfl | (simp; done), BQ.out.trans hHeld⟩
              case' mzz132 => skip
              exact AllReadyH.nil
          case' mzz133 => skip
          exact AllReadyH.nil
      case' mzz134 => skip
      exact AllReadyH.nil
  case' mzz135 => skip
  exact AllReadyH.nil
set_option maxHeartbeats 4000000 in
theorem walk_n2 (a : ByteArray) (b : ByteArray) (m : Int) (w : World) (ha : a.size ≤ 140737488351232) (hb : b.size ≤ 140737488351232) (hab : ¬ a = b) (hm : m = 2) :
    Calls Try.prog 6 #[.string a, .string b, .int .i64 m] w fun e w' => e = .returned (.bool true) ∧ Q w w' := by
  have K1 := Lib.hid (fun W => skey_any m a W ha)
  have K2 := Lib.hid (fun W => skey_any m b W hb)
  have K3 := Lib.hid (fun W => over_keys m a b ▸ sover_any (key m a) (key m b) W)
  have K4 := Lib.hid (fun W => in_key m a b ▸ sin_any (key m a) b W)
  have K5 := Lib.hid (fun W => may_key m a ▸ smay_any (key m a) W)
  rw [decide_eq_false hab] at K3 K4
  have es := same_str a b
  rw [decide_eq_false hab] at es
  subst hm
  rw [show (decide ((2 : Int) = 1) || decide ((2 : Int) = 2)) = true by rfl] at K5
  clear ha hb hab
  unfold wnV Sm.key at *
  simp only at K1 K2 K3 K4 K5
  generalize a ++ (⟨#[0]⟩ : ByteArray) = ab at *
  generalize b ++ (⟨#[0]⟩ : ByteArray) = bb at *
  try unfold wnV at *
  go_enter Try.func6, Try.ntmps6
  go_wp2_with fail
  refine (spshown_any _).mono ?_
  rintro e W ⟨rfl, q0⟩
  have BQ := Lib.hid q0
  clear q0
  go_wp2_with fail
  refine (K1.out _).mono ?_
  rintro e w1 ⟨rfl, q1⟩
  have BQ := Lib.hid (BQ.out.trans q1)
  clear q1
  have c := (Bx.new w1 [.int .i64 2, .string a, .string ab] 23).get3.1
  have bq := (Q.refl w1).alloc (.cells #[.int .i64 2, .string a, .string ab] 23)
  change (w1.alloc (.cells #[.int .i64 2, .string a, .string ab] 23)).cell? _ = _ ∧ (w1.alloc (.cells #[.int .i64 2, .string a, .string ab] 23)).cell? _ = _ ∧ (w1.alloc (.cells #[.int .i64 2, .string a, .string ab] 23)).cell? _ = _ at c
  go_wp2
  generalize w1.alloc (.cells #[.int .i64 2, .string a, .string ab] 23) = W2 at c bq ⊢
  obtain ⟨c0, c1, c2⟩ := c
  have BQ := Lib.hid (BQ.out.trans bq)
  clear bq
  refine wp_region_held_drew (S := Q W2) (by kernel_rfl) ?szz136 (fun hHeld => ?rzz136)
  case szz136 =>
    exact (Q.refl W2).drew
  case' rzz136 => skip
  refine wpAnyH_take (i := 0) (oi := ?ozz137) (v := ?vzz137) ?hzz137 ?azz137 ?bzz137 ?czz137 ?qzz137 ?yzz137 ?szz137 ?rzz137
  case hzz137 => simp only [List.getElem?_toArray, List.getElem?_cons_zero]; rfl
  case azz137 => kernel_rfl
  case bzz137 => kernel_rfl
  case czz137 => kernel_rfl
  case yzz137 =>
    refine Or.inl ⟨by rfl, ?_⟩
    intro w hSw
    skip
    go_simp
    try with_reducible rfl
  case qzz137 => exact fun _ _ _ h => h
  case szz137 => first | assumption | trivial
  case' rzz137 => simp only [Act.put, List.setIfInBounds_toArray, List.set_cons_zero, List.set_cons_succ]
  refine wpAnyH_take (i := 1) (oi := ?ozz138) (v := ?vzz138) ?hzz138 ?azz138 ?bzz138 ?czz138 ?qzz138 ?yzz138 ?szz138 ?rzz138
  case hzz138 => simp only [List.getElem?_toArray, List.getElem?_cons_zero, List.getElem?_cons_succ]; rfl
  case azz138 => kernel_rfl
  case bzz138 => kernel_rfl
  case czz138 => kernel_rfl
  case yzz138 =>
    refine Or.inl ⟨by rfl, ?_⟩
    intro w hSw
    skip
    go_simp
    try with_reducible rfl
  case qzz138 => exact fun _ _ _ h => h
  case szz138 => first | assumption | trivial
  case' rzz138 => simp only [Act.put, List.setIfInBounds_toArray, List.set_cons_zero, List.set_cons_succ]
  refine wpAnyH_take (i := 2) (oi := ?ozz139) (v := ?vzz139) ?hzz139 ?azz139 ?bzz139 ?czz139 ?qzz139 ?yzz139 ?szz139 ?rzz139
  case hzz139 => simp only [List.getElem?_toArray, List.getElem?_cons_zero, List.getElem?_cons_succ]; rfl
  case azz139 => kernel_rfl
  case bzz139 => kernel_rfl
  case czz139 => kernel_rfl
  case yzz139 =>
    refine Or.inl ⟨by rfl, ?_⟩
    intro w hSw
    have x0 := box_ hSw c0; have x1 := box_ hSw c1; have x2 := box_ hSw c2; clear hSw
    go_simp
    try with_reducible rfl
  case qzz139 => exact fun _ _ _ h => h
  case szz139 => first | assumption | trivial
  case' rzz139 => simp only [Act.put, List.setIfInBounds_toArray, List.set_cons_zero, List.set_cons_succ]
  refine wpAnyH_take (i := 3) (oi := ?ozz140) (v := ?vzz140) ?hzz140 ?azz140 ?bzz140 ?czz140 ?qzz140 ?yzz140 ?szz140 ?rzz140
  case hzz140 => simp only [List.getElem?_toArray, List.getElem?_cons_zero, List.getElem?_cons_succ]; rfl
  case azz140 => kernel_rfl
  case bzz140 => kernel_rfl
  case czz140 => kernel_rfl
  case yzz140 =>
    refine Or.inl ⟨by rfl, ?_⟩
    intro w hSw
    skip
    go_simp
    try with_reducible rfl
  case qzz140 => exact fun _ _ _ h => h
  case szz140 => first | assumption | trivial
  case' rzz140 => simp only [Act.put, List.setIfInBounds_toArray, List.set_cons_zero, List.set_cons_succ]
  refine wpAnyH_take (i := 4) (oi := ?ozz141) (v := ?vzz141) ?hzz141 ?azz141 ?bzz141 ?czz141 ?qzz141 ?yzz141 ?szz141 ?rzz141
  case hzz141 => simp only [List.getElem?_toArray, List.getElem?_cons_zero, List.getElem?_cons_succ]; rfl
  case azz141 => kernel_rfl
  case bzz141 => kernel_rfl
  case czz141 => kernel_rfl
  case yzz141 =>
    refine Or.inl ⟨by rfl, ?_⟩
    intro w hSw
    skip
    go_simp
    try with_reducible rfl
  case qzz141 => exact fun _ _ _ h => h
  case szz141 => first | assumption | trivial
  case' rzz141 => simp only [Act.put, List.setIfInBounds_toArray, List.set_cons_zero, List.set_cons_succ]
  refine wpAnyH_take (i := 7) (oi := ?ozz142) (v := ?vzz142) ?hzz142 ?azz142 ?bzz142 ?czz142 ?qzz142 ?yzz142 ?szz142 ?rzz142
  case hzz142 => simp only [List.getElem?_toArray, List.getElem?_cons_zero, List.getElem?_cons_succ]; rfl
  case azz142 => kernel_rfl
  case bzz142 => kernel_rfl
  case czz142 => kernel_rfl
  case yzz142 =>
    refine Or.inl ⟨by rfl, ?_⟩
    intro w hSw
    skip
    go_simp
    try with_reducible rfl
  case qzz142 => exact fun _ _ _ h => h
  case szz142 => first | assumption | trivial
  case' rzz142 => simp only [Act.put, List.setIfInBounds_toArray, List.set_cons_zero, List.set_cons_succ]
  refine wpAnyH_take (i := 8) (oi := ?ozz143) (v := ?vzz143) ?hzz143 ?azz143 ?bzz143 ?czz143 ?qzz143 ?yzz143 ?szz143 ?rzz143
  case hzz143 => simp only [List.getElem?_toArray, List.getElem?_cons_zero, List.getElem?_cons_succ]; rfl
  case azz143 => kernel_rfl
  case bzz143 => kernel_rfl
  case czz143 => kernel_rfl
  case yzz143 =>
    refine Or.inl ⟨by rfl, ?_⟩
    intro w hSw
    skip
    go_simp
    try with_reducible rfl
  case qzz143 => exact fun _ _ _ h => h
  case szz143 => first | assumption | trivial
  case' rzz143 => simp only [Act.put, List.setIfInBounds_toArray, List.set_cons_zero, List.set_cons_succ]
  refine wpAnyH_take (i := 9) (oi := ?ozz144) (v := ?vzz144) ?hzz144 ?azz144 ?bzz144 ?czz144 ?qzz144 ?yzz144 ?szz144 ?rzz144
  case hzz144 => simp only [List.getElem?_toArray, List.getElem?_cons_zero, List.getElem?_cons_succ]; rfl
  case azz144 => kernel_rfl
  case bzz144 => kernel_rfl
  case czz144 => kernel_rfl
  case yzz144 =>
    refine Or.inl ⟨by rfl, ?_⟩
    intro w hSw
    skip
    go_simp
    try with_reducible rfl
  case qzz144 => exact fun _ _ _ h => h
  case szz144 => first | assumption | trivial
  case' rzz144 => simp only [Act.put, List.setIfInBounds_toArray, List.set_cons_zero, List.set_cons_succ]
  refine wpAnyH_ready (rs := [5]) (by kernel_rfl) (by simp) ?_
  refine AllReadyH.cons (o := ?ozz169) ?hzz169 (fun K hK => ?kzz169) ?mzz169
  case hzz169 => simp only [List.getElem?_toArray, List.getElem?_cons_zero, List.getElem?_cons_succ]; rfl
  case kzz169 =>
    go_simp
    refine (K2.out _).mono ?_
    rintro e v1 ⟨rfl, q1⟩
    go_wp2_with fail
    refine hK.out _ _ ?Szz169 (fun hHeld => ?Rzz169)
    case Szz169 =>
      exact hHeld.trans q1
    case Rzz169 =>
      clear hK K
      try simp only [Act.put, List.setIfInBounds_toArray, List.set_cons_zero, List.set_cons_succ]
      refine wpAnyH_ready (rs := [6]) (by kernel_rfl) (by simp) ?_
      refine AllReadyH.cons (o := ?ozz168) ?hzz168 (fun K hK => ?kzz168) ?mzz168
      case hzz168 => simp only [List.getElem?_toArray, List.getElem?_cons_zero, List.getElem?_cons_succ]; rfl
      case kzz168 =>
        go_simp
        refine (K3.out _).mono ?_
        rintro e v2 ⟨rfl, q2⟩
        go_wp2_with fail
        refine hK.out _ _ ?Szz168 (fun hHeld => ?Rzz168)
        case Szz168 =>
          exact hHeld.trans q2
        case Rzz168 =>
          clear hK K
          try simp only [Act.put, List.setIfInBounds_toArray, List.set_cons_zero, List.set_cons_succ]
          refine wpAnyH_take (i := 10) (oi := ?ozz145) (v := ?vzz145) ?hzz145 ?azz145 ?bzz145 ?czz145 ?qzz145 ?yzz145 ?szz145 ?rzz145
          case hzz145 => simp only [List.getElem?_toArray, List.getElem?_cons_zero, List.getElem?_cons_succ]; rfl
          case azz145 => kernel_rfl
          case bzz145 => kernel_rfl
          case czz145 => kernel_rfl
          case yzz145 =>
            refine Or.inl ⟨by rfl, ?_⟩
            intro w hSw
            skip
            go_simp
            try with_reducible rfl
          case qzz145 => exact fun _ _ _ h => h
          case szz145 => first | assumption | trivial
          case' rzz145 => simp only [Act.put, List.setIfInBounds_toArray, List.set_cons_zero, List.set_cons_succ]
          refine wpAnyH_take (i := 11) (oi := ?ozz146) (v := ?vzz146) ?hzz146 ?azz146 ?bzz146 ?czz146 ?qzz146 ?yzz146 ?szz146 ?rzz146
          case hzz146 => simp only [List.getElem?_toArray, List.getElem?_cons_zero, List.getElem?_cons_succ]; rfl
          case azz146 => kernel_rfl
          case bzz146 => kernel_rfl
          case czz146 => kernel_rfl
          case yzz146 =>
            refine Or.inl ⟨by rfl, ?_⟩
            intro w hSw
            skip
            go_simp
            try with_reducible rfl
          case qzz146 => exact fun _ _ _ h => h
          case szz146 => first | assumption | trivial
          case' rzz146 => simp only [Act.put, List.setIfInBounds_toArray, List.set_cons_zero, List.set_cons_succ]
          refine wpAnyH_take (i := 12) (oi := ?ozz147) (v := ?vzz147) ?hzz147 ?azz147 ?bzz147 ?czz147 ?qzz147 ?yzz147 ?szz147 ?rzz147
          case hzz147 => simp only [List.getElem?_toArray, List.getElem?_cons_zero, List.getElem?_cons_succ]; rfl
          case azz147 => kernel_rfl
          case bzz147 => kernel_rfl
          case czz147 => kernel_rfl
          case yzz147 =>
            refine Or.inl ⟨by rfl, ?_⟩
            intro w hSw
            skip
            go_simp
            try with_reducible rfl
          case qzz147 => exact fun _ _ _ h => h
          case szz147 => first | assumption | trivial
          case' rzz147 => simp only [Act.put, List.setIfInBounds_toArray, List.set_cons_zero, List.set_cons_succ]
          refine wpAnyH_take (i := 13) (oi := ?ozz148) (v := ?vzz148) ?hzz148 ?azz148 ?bzz148 ?czz148 ?qzz148 ?yzz148 ?szz148 ?rzz148
          case hzz148 => simp only [List.getElem?_toArray, List.getElem?_cons_zero, List.getElem?_cons_succ]; rfl
          case azz148 => kernel_rfl
          case bzz148 => kernel_rfl
          case czz148 => kernel_rfl
          case yzz148 =>
            refine Or.inl ⟨by rfl, ?_⟩
            intro w hSw
            have x0 := box_ hSw c0; have x1 := box_ hSw c1; have x2 := box_ hSw c2; clear hSw
            go_simp
            try with_reducible rfl
          case qzz148 => exact fun _ _ _ h => h
          case szz148 => first | assumption | trivial
          case' rzz148 => simp only [Act.put, List.setIfInBounds_toArray, List.set_cons_zero, List.set_cons_succ]
          refine wpAnyH_take (i := 14) (oi := ?ozz149) (v := ?vzz149) ?hzz149 ?azz149 ?bzz149 ?czz149 ?qzz149 ?yzz149 ?szz149 ?rzz149
          case hzz149 => simp only [List.getElem?_toArray, List.getElem?_cons_zero, List.getElem?_cons_succ]; rfl
          case azz149 => kernel_rfl
          case bzz149 => kernel_rfl
          case czz149 => kernel_rfl
          case yzz149 =>
            refine Or.inl ⟨by rfl, ?_⟩
            intro w hSw
            skip
            go_simp
            try with_reducible rfl
          case qzz149 => exact fun _ _ _ h => h
          case szz149 => first | assumption | trivial
          case' rzz149 => simp only [Act.put, List.setIfInBounds_toArray, List.set_cons_zero, List.set_cons_succ]
          refine wpAnyH_take (i := 16) (oi := ?ozz150) (v := ?vzz150) ?hzz150 ?azz150 ?bzz150 ?czz150 ?qzz150 ?yzz150 ?szz150 ?rzz150
          case hzz150 => simp only [List.getElem?_toArray, List.getElem?_cons_zero, List.getElem?_cons_succ]; rfl
          case azz150 => kernel_rfl
          case bzz150 => kernel_rfl
          case czz150 => kernel_rfl
          case yzz150 =>
            refine Or.inl ⟨by rfl, ?_⟩
            intro w hSw
            skip
            go_simp
            try with_reducible rfl
          case qzz150 => exact fun _ _ _ h => h
          case szz150 => first | assumption | trivial
          case' rzz150 => simp only [Act.put, List.setIfInBounds_toArray, List.set_cons_zero, List.set_cons_succ]
          refine wpAnyH_take (i := 17) (oi := ?ozz151) (v := ?vzz151) ?hzz151 ?azz151 ?bzz151 ?czz151 ?qzz151 ?yzz151 ?szz151 ?rzz151
          case hzz151 => simp only [List.getElem?_toArray, List.getElem?_cons_zero, List.getElem?_cons_succ]; rfl
          case azz151 => kernel_rfl
          case bzz151 => kernel_rfl
          case czz151 => kernel_rfl
          case yzz151 =>
            refine Or.inl ⟨by rfl, ?_⟩
            intro w hSw
            skip
            go_simp
            try with_reducible rfl
          case qzz151 => exact fun _ _ _ h => h
          case szz151 => first | assumption | trivial
          case' rzz151 => simp only [Act.put, List.setIfInBounds_toArray, List.set_cons_zero, List.set_cons_succ]
          refine wpAnyH_take (i := 18) (oi := ?ozz152) (v := ?vzz152) ?hzz152 ?azz152 ?bzz152 ?czz152 ?qzz152 ?yzz152 ?szz152 ?rzz152
          case hzz152 => simp only [List.getElem?_toArray, List.getElem?_cons_zero, List.getElem?_cons_succ]; rfl
          case azz152 => kernel_rfl
          case bzz152 => kernel_rfl
          case czz152 => kernel_rfl
          case yzz152 =>
            refine Or.inl ⟨by rfl, ?_⟩
            intro w hSw
            skip
            go_simp
            try with_reducible rfl
          case qzz152 => exact fun _ _ _ h => h
          case szz152 => first | assumption | trivial
          case' rzz152 => simp only [Act.put, List.setIfInBounds_toArray, List.set_cons_zero, List.set_cons_succ]
          refine wpAnyH_ready (rs := [15]) (by kernel_rfl) (by simp) ?_
          refine AllReadyH.cons (o := ?ozz167) ?hzz167 (fun K hK => ?kzz167) ?mzz167
          case hzz167 => simp only [List.getElem?_toArray, List.getElem?_cons_zero, List.getElem?_cons_succ]; rfl
          case kzz167 =>
            go_simp
            refine (K4.out _).mono ?_
            rintro e v3 ⟨rfl, q3⟩
            go_wp2_with fail
            refine hK.out _ _ ?Szz167 (fun hHeld => ?Rzz167)
            case Szz167 =>
              exact hHeld.trans q3
            case Rzz167 =>
              clear hK K
              try simp only [Act.put, List.setIfInBounds_toArray, List.set_cons_zero, List.set_cons_succ]
              refine wpAnyH_take (i := 19) (oi := ?ozz153) (v := ?vzz153) ?hzz153 ?azz153 ?bzz153 ?czz153 ?qzz153 ?yzz153 ?szz153 ?rzz153
              case hzz153 => simp only [List.getElem?_toArray, List.getElem?_cons_zero, List.getElem?_cons_succ]; rfl
              case azz153 => kernel_rfl
              case bzz153 => kernel_rfl
              case czz153 => kernel_rfl
              case yzz153 =>
                refine Or.inl ⟨by rfl, ?_⟩
                intro w hSw
                skip
                go_simp
                try with_reducible rfl
              case qzz153 => exact fun _ _ _ h => h
              case szz153 => first | assumption | trivial
              case' rzz153 => simp only [Act.put, List.setIfInBounds_toArray, List.set_cons_zero, List.set_cons_succ]
              refine wpAnyH_take (i := 20) (oi := ?ozz154) (v := ?vzz154) ?hzz154 ?azz154 ?bzz154 ?czz154 ?qzz154 ?yzz154 ?szz154 ?rzz154
              case hzz154 => simp only [List.getElem?_toArray, List.getElem?_cons_zero, List.getElem?_cons_succ]; rfl
              case azz154 => kernel_rfl
              case bzz154 => kernel_rfl
              case czz154 => kernel_rfl
              case yzz154 =>
                refine Or.inl ⟨by rfl, ?_⟩
                intro w hSw
                skip
                go_simp
                try with_reducible rfl
              case qzz154 => exact fun _ _ _ h => h
              case szz154 => first | assumption | trivial
              case' rzz154 => simp only [Act.put, List.setIfInBounds_toArray, List.set_cons_zero, List.set_cons_succ]
              refine wpAnyH_take (i := 21) (oi := ?ozz155) (v := ?vzz155) ?hzz155 ?azz155 ?bzz155 ?czz155 ?qzz155 ?yzz155 ?szz155 ?rzz155
              case hzz155 => simp only [List.getElem?_toArray, List.getElem?_cons_zero, List.getElem?_cons_succ]; rfl
              case azz155 => kernel_rfl
              case bzz155 => kernel_rfl
              case czz155 => kernel_rfl
              case yzz155 =>
                refine Or.inl ⟨by rfl, ?_⟩
                intro w hSw
                skip
                go_simp
                try with_reducible rfl
              case qzz155 => exact fun _ _ _ h => h
              case szz155 => first | assumption | trivial
              case' rzz155 => simp only [Act.put, List.setIfInBounds_toArray, List.set_cons_zero, List.set_cons_succ]
              refine wpAnyH_take (i := 22) (oi := ?ozz156) (v := ?vzz156) ?hzz156 ?azz156 ?bzz156 ?czz156 ?qzz156 ?yzz156 ?szz156 ?rzz156
              case hzz156 => simp only [List.getElem?_toArray, List.getElem?_cons_zero, List.getElem?_cons_succ]; rfl
              case azz156 => kernel_rfl
              case bzz156 => kernel_rfl
              case czz156 => kernel_rfl
              case yzz156 =>
                refine Or.inl ⟨by rfl, ?_⟩
                intro w hSw
                have x0 := box_ hSw c0; have x1 := box_ hSw c1; have x2 := box_ hSw c2; clear hSw
                go_simp
                try with_reducible rfl
              case qzz156 => exact fun _ _ _ h => h
              case szz156 => first | assumption | trivial
              case' rzz156 => simp only [Act.put, List.setIfInBounds_toArray, List.set_cons_zero, List.set_cons_succ]
              refine wpAnyH_take (i := 24) (oi := ?ozz157) (v := ?vzz157) ?hzz157 ?azz157 ?bzz157 ?czz157 ?qzz157 ?yzz157 ?szz157 ?rzz157
              case hzz157 => simp only [List.getElem?_toArray, List.getElem?_cons_zero, List.getElem?_cons_succ]; rfl
              case azz157 => kernel_rfl
              case bzz157 => kernel_rfl
              case czz157 => kernel_rfl
              case yzz157 =>
                refine Or.inl ⟨by rfl, ?_⟩
                intro w hSw
                skip
                go_simp
                try with_reducible rfl
              case qzz157 => exact fun _ _ _ h => h
              case szz157 => first | assumption | trivial
              case' rzz157 => simp only [Act.put, List.setIfInBounds_toArray, List.set_cons_zero, List.set_cons_succ]
              refine wpAnyH_take (i := 25) (oi := ?ozz158) (v := ?vzz158) ?hzz158 ?azz158 ?bzz158 ?czz158 ?qzz158 ?yzz158 ?szz158 ?rzz158
              case hzz158 => simp only [List.getElem?_toArray, List.getElem?_cons_zero, List.getElem?_cons_succ]; rfl
              case azz158 => kernel_rfl
              case bzz158 => kernel_rfl
              case czz158 => kernel_rfl
              case yzz158 =>
                refine Or.inl ⟨by rfl, ?_⟩
                intro w hSw
                skip
                go_simp
                try with_reducible rfl
              case qzz158 => exact fun _ _ _ h => h
              case szz158 => first | assumption | trivial
              case' rzz158 => simp only [Act.put, List.setIfInBounds_toArray, List.set_cons_zero, List.set_cons_succ]
              refine wpAnyH_ready (rs := [23]) (by kernel_rfl) (by simp) ?_
              refine AllReadyH.cons (o := ?ozz166) ?hzz166 (fun K hK => ?kzz166) ?mzz166
              case hzz166 => simp only [List.getElem?_toArray, List.getElem?_cons_zero, List.getElem?_cons_succ]; rfl
              case kzz166 =>
                go_simp
                refine (K5.out _).mono ?_
                rintro e v4 ⟨rfl, q4⟩
                go_wp2_with fail
                refine hK.out _ _ ?Szz166 (fun hHeld => ?Rzz166)
                case Szz166 =>
                  exact hHeld.trans q4
                case Rzz166 =>
                  clear hK K
                  try simp only [Act.put, List.setIfInBounds_toArray, List.set_cons_zero, List.set_cons_succ]
                  refine wpAnyH_take (i := 26) (oi := ?ozz159) (v := ?vzz159) ?hzz159 ?azz159 ?bzz159 ?czz159 ?qzz159 ?yzz159 ?szz159 ?rzz159
                  case hzz159 => simp only [List.getElem?_toArray, List.getElem?_cons_zero, List.getElem?_cons_succ]; rfl
                  case azz159 => kernel_rfl
                  case bzz159 => kernel_rfl
                  case czz159 => kernel_rfl
                  case yzz159 =>
                    refine Or.inl ⟨by rfl, ?_⟩
                    intro w hSw
                    skip
                    go_simp
                    try with_reducible rfl
                  case qzz159 => exact fun _ _ _ h => h
                  case szz159 => first | assumption | trivial
                  case' rzz159 => simp only [Act.put, List.setIfInBounds_toArray, List.set_cons_zero, List.set_cons_succ]
                  refine wpAnyH_take (i := 27) (oi := ?ozz160) (v := ?vzz160) ?hzz160 ?azz160 ?bzz160 ?czz160 ?qzz160 ?yzz160 ?szz160 ?rzz160
                  case hzz160 => simp only [List.getElem?_toArray, List.getElem?_cons_zero, List.getElem?_cons_succ]; rfl
                  case azz160 => kernel_rfl
                  case bzz160 => kernel_rfl
                  case czz160 => kernel_rfl
                  case yzz160 =>
                    refine Or.inl ⟨by rfl, ?_⟩
                    intro w hSw
                    skip
                    go_simp
                    try with_reducible rfl
                  case qzz160 => exact fun _ _ _ h => h
                  case szz160 => first | assumption | trivial
                  case' rzz160 => simp only [Act.put, List.setIfInBounds_toArray, List.set_cons_zero, List.set_cons_succ]
                  refine wpAnyH_take (i := 28) (oi := ?ozz161) (v := ?vzz161) ?hzz161 ?azz161 ?bzz161 ?czz161 ?qzz161 ?yzz161 ?szz161 ?rzz161
                  case hzz161 => simp only [List.getElem?_toArray, List.getElem?_cons_zero, List.getElem?_cons_succ]; rfl
                  case azz161 => kernel_rfl
                  case bzz161 => kernel_rfl
                  case czz161 => kernel_rfl
                  case yzz161 =>
                    refine Or.inl ⟨by rfl, ?_⟩
                    intro w hSw
                    skip
                    go_simp
                    try with_reducible rfl
                  case qzz161 => exact fun _ _ _ h => h
                  case szz161 => first | assumption | trivial
                  case' rzz161 => simp only [Act.put, List.setIfInBounds_toArray, List.set_cons_zero, List.set_cons_succ]
                  refine wpAnyH_take (i := 29) (oi := ?ozz162) (v := ?vzz162) ?hzz162 ?azz162 ?bzz162 ?czz162 ?qzz162 ?yzz162 ?szz162 ?rzz162
                  case hzz162 => simp only [List.getElem?_toArray, List.getElem?_cons_zero, List.getElem?_cons_succ]; rfl
                  case azz162 => kernel_rfl
                  case bzz162 => kernel_rfl
                  case czz162 => kernel_rfl
                  case yzz162 =>
                    refine Or.inl ⟨by rfl, ?_⟩
                    intro w hSw
                    skip
                    go_simp
                    try with_reducible rfl
                  case qzz162 => exact fun _ _ _ h => h
                  case szz162 => first | assumption | trivial
                  case' rzz162 => simp only [Act.put, List.setIfInBounds_toArray, List.set_cons_zero, List.set_cons_succ]
                  refine wpAnyH_take (i := 30) (oi := ?ozz163) (v := ?vzz163) ?hzz163 ?azz163 ?bzz163 ?czz163 ?qzz163 ?yzz163 ?szz163 ?rzz163
                  case hzz163 => simp only [List.getElem?_toArray, List.getElem?_cons_zero, List.getElem?_cons_succ]; rfl
                  case azz163 => kernel_rfl
                  case bzz163 => kernel_rfl
                  case czz163 => kernel_rfl
                  case yzz163 =>
                    refine Or.inl ⟨by rfl, ?_⟩
                    intro w hSw
                    skip
                    go_simp
                    try with_reducible rfl
                  case qzz163 => exact fun _ _ _ h => h
                  case szz163 => first | assumption | trivial
                  case' rzz163 => simp only [Act.put, List.setIfInBounds_toArray, List.set_cons_zero, List.set_cons_succ]
                  refine wpAnyH_take (i := 31) (oi := ?ozz164) (v := ?vzz164) ?hzz164 ?azz164 ?bzz164 ?czz164 ?qzz164 ?yzz164 ?szz164 ?rzz164
                  case hzz164 => simp only [List.getElem?_toArray, List.getElem?_cons_zero, List.getElem?_cons_succ]; rfl
                  case azz164 => kernel_rfl
                  case bzz164 => kernel_rfl
                  case czz164 => kernel_rfl
                  case yzz164 =>
                    refine Or.inl ⟨by rfl, ?_⟩
                    intro w hSw
                    skip
                    go_simp
                    try with_reducible rfl
                  case qzz164 => exact fun _ _ _ h => h
                  case szz164 => first | assumption | trivial
                  case' rzz164 => simp only [Act.put, List.setIfInBounds_toArray, List.set_cons_zero, List.set_cons_succ]
                  refine wpAnyH_take (i := 32) (oi := ?ozz165) (v := ?vzz165) ?hzz165 ?azz165 ?bzz165 ?czz165 ?qzz165 ?yzz165 ?szz165 ?rzz165
                  case hzz165 => simp only [List.getElem?_toArray, List.getElem?_cons_zero, List.getElem?_cons_succ]; rfl
                  case azz165 => kernel_rfl
                  case bzz165 => kernel_rfl
                  case czz165 => kernel_rfl
                  case yzz165 =>
                    refine Or.inl ⟨by rfl, ?_⟩
                    intro w hSw
                    skip
                    go_simp
                    try with_reducible rfl
                  case qzz165 => exact fun _ _ _ h => h
                  case szz165 => first | assumption | trivial
                  case' rzz165 => simp only [Act.put, List.setIfInBounds_toArray, List.set_cons_zero, List.set_cons_succ]
                  refine wpAnyH_done (by kernel_rfl) ?_ _
                  go_wp2
                  go_ret
                  exact ⟨by first | rfl | (simp; done), BQ.out.trans hHeld⟩
              case' mzz166 => skip
              exact AllReadyH.nil
          case' mzz167 => skip
          exact AllReadyH.nil
      case' mzz168 => skip
      exact AllReadyH.nil
  case' mzz169 => skip
  exact AllReadyH.nil
set_option maxHeartbeats 4000000 in
theorem walk_no (a : ByteArray) (b : ByteArray) (m : Int) (w : World) (ha : a.size ≤ 140737488351232) (hb : b.size ≤ 140737488351232) (hab : ¬ a = b) (hm : ¬ m = 1) (hn : ¬ m = 2) :
    Calls Try.prog 6 #[.string a, .string b, .int .i64 m] w fun e w' => e = .returned (.bool true) ∧ Q w w' := by
  have K1 := Lib.hid (fun W => skey_any m a W ha)
  have K2 := Lib.hid (fun W => skey_any m b W hb)
  have K3 := Lib.hid (fun W => over_keys m a b ▸ sover_any (key m a) (key m b) W)
  have K4 := Lib.hid (fun W => in_key m a b ▸ sin_any (key m a) b W)
  have K5 := Lib.hid (fun W => may_key m a ▸ smay_any (key m a) W)
  rw [decide_eq_false hab] at K3 K4
  have es := same_str a b
  rw [decide_eq_false hab] at es
  have m1 : (m == 1) = false := by simpa using hm
  have m2 : (m == 2) = false := by simpa using hn
  rw [decide_eq_false hm, decide_eq_false hn] at K5
  simp only [Bool.or_false] at K5
  clear ha hb hab hm hn
  unfold wnV Sm.key at *
  simp only at K1 K2 K3 K4 K5
  generalize a ++ (⟨#[0]⟩ : ByteArray) = ab at *
  generalize b ++ (⟨#[0]⟩ : ByteArray) = bb at *
  try unfold wnV at *
  go_enter Try.func6, Try.ntmps6
  go_wp2_with fail
  refine (spshown_any _).mono ?_
  rintro e W ⟨rfl, q0⟩
  have BQ := Lib.hid q0
  clear q0
  go_wp2_with fail
  refine (K1.out _).mono ?_
  rintro e w1 ⟨rfl, q1⟩
  have BQ := Lib.hid (BQ.out.trans q1)
  clear q1
  have c := (Bx.new w1 [.int .i64 m, .string a, .string ab] 23).get3.1
  have bq := (Q.refl w1).alloc (.cells #[.int .i64 m, .string a, .string ab] 23)
  change (w1.alloc (.cells #[.int .i64 m, .string a, .string ab] 23)).cell? _ = _ ∧ (w1.alloc (.cells #[.int .i64 m, .string a, .string ab] 23)).cell? _ = _ ∧ (w1.alloc (.cells #[.int .i64 m, .string a, .string ab] 23)).cell? _ = _ at c
  go_wp2
  generalize w1.alloc (.cells #[.int .i64 m, .string a, .string ab] 23) = W2 at c bq ⊢
  obtain ⟨c0, c1, c2⟩ := c
  have BQ := Lib.hid (BQ.out.trans bq)
  clear bq
  refine wp_region_held_drew (S := Q W2) (by kernel_rfl) ?szz170 (fun hHeld => ?rzz170)
  case szz170 =>
    exact (Q.refl W2).drew
  case' rzz170 => skip
  refine wpAnyH_take (i := 0) (oi := ?ozz171) (v := ?vzz171) ?hzz171 ?azz171 ?bzz171 ?czz171 ?qzz171 ?yzz171 ?szz171 ?rzz171
  case hzz171 => simp only [List.getElem?_toArray, List.getElem?_cons_zero]; rfl
  case azz171 => kernel_rfl
  case bzz171 => kernel_rfl
  case czz171 => kernel_rfl
  case yzz171 =>
    refine Or.inl ⟨by rfl, ?_⟩
    intro w hSw
    skip
    go_simp
    try with_reducible rfl
  case qzz171 => exact fun _ _ _ h => h
  case szz171 => first | assumption | trivial
  case' rzz171 => simp only [Act.put, List.setIfInBounds_toArray, List.set_cons_zero, List.set_cons_succ]
  refine wpAnyH_take (i := 1) (oi := ?ozz172) (v := ?vzz172) ?hzz172 ?azz172 ?bzz172 ?czz172 ?qzz172 ?yzz172 ?szz172 ?rzz172
  case hzz172 => simp only [List.getElem?_toArray, List.getElem?_cons_zero, List.getElem?_cons_succ]; rfl
  case azz172 => kernel_rfl
  case bzz172 => kernel_rfl
  case czz172 => kernel_rfl
  case yzz172 =>
    refine Or.inl ⟨by rfl, ?_⟩
    intro w hSw
    skip
    go_simp
    try with_reducible rfl
  case qzz172 => exact fun _ _ _ h => h
  case szz172 => first | assumption | trivial
  case' rzz172 => simp only [Act.put, List.setIfInBounds_toArray, List.set_cons_zero, List.set_cons_succ]
  refine wpAnyH_take (i := 2) (oi := ?ozz173) (v := ?vzz173) ?hzz173 ?azz173 ?bzz173 ?czz173 ?qzz173 ?yzz173 ?szz173 ?rzz173
  case hzz173 => simp only [List.getElem?_toArray, List.getElem?_cons_zero, List.getElem?_cons_succ]; rfl
  case azz173 => kernel_rfl
  case bzz173 => kernel_rfl
  case czz173 => kernel_rfl
  case yzz173 =>
    refine Or.inl ⟨by rfl, ?_⟩
    intro w hSw
    have x0 := box_ hSw c0; have x1 := box_ hSw c1; have x2 := box_ hSw c2; clear hSw
    go_simp
    try with_reducible rfl
  case qzz173 => exact fun _ _ _ h => h
  case szz173 => first | assumption | trivial
  case' rzz173 => simp only [Act.put, List.setIfInBounds_toArray, List.set_cons_zero, List.set_cons_succ]
  refine wpAnyH_take (i := 3) (oi := ?ozz174) (v := ?vzz174) ?hzz174 ?azz174 ?bzz174 ?czz174 ?qzz174 ?yzz174 ?szz174 ?rzz174
  case hzz174 => simp only [List.getElem?_toArray, List.getElem?_cons_zero, List.getElem?_cons_succ]; rfl
  case azz174 => kernel_rfl
  case bzz174 => kernel_rfl
  case czz174 => kernel_rfl
  case yzz174 =>
    refine Or.inl ⟨by rfl, ?_⟩
    intro w hSw
    skip
    go_simp
    try with_reducible rfl
  case qzz174 => exact fun _ _ _ h => h
  case szz174 => first | assumption | trivial
  case' rzz174 => simp only [Act.put, List.setIfInBounds_toArray, List.set_cons_zero, List.set_cons_succ]
  refine wpAnyH_take (i := 4) (oi := ?ozz175) (v := ?vzz175) ?hzz175 ?azz175 ?bzz175 ?czz175 ?qzz175 ?yzz175 ?szz175 ?rzz175
  case hzz175 => simp only [List.getElem?_toArray, List.getElem?_cons_zero, List.getElem?_cons_succ]; rfl
  case azz175 => kernel_rfl
  case bzz175 => kernel_rfl
  case czz175 => kernel_rfl
  case yzz175 =>
    refine Or.inl ⟨by rfl, ?_⟩
    intro w hSw
    skip
    go_simp
    try with_reducible rfl
  case qzz175 => exact fun _ _ _ h => h
  case szz175 => first | assumption | trivial
  case' rzz175 => simp only [Act.put, List.setIfInBounds_toArray, List.set_cons_zero, List.set_cons_succ]
  refine wpAnyH_take (i := 7) (oi := ?ozz176) (v := ?vzz176) ?hzz176 ?azz176 ?bzz176 ?czz176 ?qzz176 ?yzz176 ?szz176 ?rzz176
  case hzz176 => simp only [List.getElem?_toArray, List.getElem?_cons_zero, List.getElem?_cons_succ]; rfl
  case azz176 => kernel_rfl
  case bzz176 => kernel_rfl
  case czz176 => kernel_rfl
  case yzz176 =>
    refine Or.inl ⟨by rfl, ?_⟩
    intro w hSw
    skip
    go_simp
    try with_reducible rfl
  case qzz176 => exact fun _ _ _ h => h
  case szz176 => first | assumption | trivial
  case' rzz176 => simp only [Act.put, List.setIfInBounds_toArray, List.set_cons_zero, List.set_cons_succ]
  refine wpAnyH_take (i := 8) (oi := ?ozz177) (v := ?vzz177) ?hzz177 ?azz177 ?bzz177 ?czz177 ?qzz177 ?yzz177 ?szz177 ?rzz177
  case hzz177 => simp only [List.getElem?_toArray, List.getElem?_cons_zero, List.getElem?_cons_succ]; rfl
  case azz177 => kernel_rfl
  case bzz177 => kernel_rfl
  case czz177 => kernel_rfl
  case yzz177 =>
    refine Or.inl ⟨by rfl, ?_⟩
    intro w hSw
    skip
    go_simp
    try with_reducible rfl
  case qzz177 => exact fun _ _ _ h => h
  case szz177 => first | assumption | trivial
  case' rzz177 => simp only [Act.put, List.setIfInBounds_toArray, List.set_cons_zero, List.set_cons_succ]
  refine wpAnyH_take (i := 9) (oi := ?ozz178) (v := ?vzz178) ?hzz178 ?azz178 ?bzz178 ?czz178 ?qzz178 ?yzz178 ?szz178 ?rzz178
  case hzz178 => simp only [List.getElem?_toArray, List.getElem?_cons_zero, List.getElem?_cons_succ]; rfl
  case azz178 => kernel_rfl
  case bzz178 => kernel_rfl
  case czz178 => kernel_rfl
  case yzz178 =>
    refine Or.inl ⟨by rfl, ?_⟩
    intro w hSw
    skip
    go_simp
    try with_reducible rfl
  case qzz178 => exact fun _ _ _ h => h
  case szz178 => first | assumption | trivial
  case' rzz178 => simp only [Act.put, List.setIfInBounds_toArray, List.set_cons_zero, List.set_cons_succ]
  refine wpAnyH_ready (rs := [5]) (by kernel_rfl) (by simp) ?_
  refine AllReadyH.cons (o := ?ozz203) ?hzz203 (fun K hK => ?kzz203) ?mzz203
  case hzz203 => simp only [List.getElem?_toArray, List.getElem?_cons_zero, List.getElem?_cons_succ]; rfl
  case kzz203 =>
    go_simp
    refine (K2.out _).mono ?_
    rintro e v1 ⟨rfl, q1⟩
    go_wp2_with fail
    refine hK.out _ _ ?Szz203 (fun hHeld => ?Rzz203)
    case Szz203 =>
      exact hHeld.trans q1
    case Rzz203 =>
      clear hK K
      try simp only [Act.put, List.setIfInBounds_toArray, List.set_cons_zero, List.set_cons_succ]
      refine wpAnyH_ready (rs := [6]) (by kernel_rfl) (by simp) ?_
      refine AllReadyH.cons (o := ?ozz202) ?hzz202 (fun K hK => ?kzz202) ?mzz202
      case hzz202 => simp only [List.getElem?_toArray, List.getElem?_cons_zero, List.getElem?_cons_succ]; rfl
      case kzz202 =>
        go_simp
        refine (K3.out _).mono ?_
        rintro e v2 ⟨rfl, q2⟩
        go_wp2_with fail
        refine hK.out _ _ ?Szz202 (fun hHeld => ?Rzz202)
        case Szz202 =>
          exact hHeld.trans q2
        case Rzz202 =>
          clear hK K
          try simp only [Act.put, List.setIfInBounds_toArray, List.set_cons_zero, List.set_cons_succ]
          refine wpAnyH_take (i := 10) (oi := ?ozz179) (v := ?vzz179) ?hzz179 ?azz179 ?bzz179 ?czz179 ?qzz179 ?yzz179 ?szz179 ?rzz179
          case hzz179 => simp only [List.getElem?_toArray, List.getElem?_cons_zero, List.getElem?_cons_succ]; rfl
          case azz179 => kernel_rfl
          case bzz179 => kernel_rfl
          case czz179 => kernel_rfl
          case yzz179 =>
            refine Or.inl ⟨by rfl, ?_⟩
            intro w hSw
            skip
            go_simp
            try with_reducible rfl
          case qzz179 => exact fun _ _ _ h => h
          case szz179 => first | assumption | trivial
          case' rzz179 => simp only [Act.put, List.setIfInBounds_toArray, List.set_cons_zero, List.set_cons_succ]
          refine wpAnyH_take (i := 11) (oi := ?ozz180) (v := ?vzz180) ?hzz180 ?azz180 ?bzz180 ?czz180 ?qzz180 ?yzz180 ?szz180 ?rzz180
          case hzz180 => simp only [List.getElem?_toArray, List.getElem?_cons_zero, List.getElem?_cons_succ]; rfl
          case azz180 => kernel_rfl
          case bzz180 => kernel_rfl
          case czz180 => kernel_rfl
          case yzz180 =>
            refine Or.inl ⟨by rfl, ?_⟩
            intro w hSw
            skip
            go_simp
            try with_reducible rfl
          case qzz180 => exact fun _ _ _ h => h
          case szz180 => first | assumption | trivial
          case' rzz180 => simp only [Act.put, List.setIfInBounds_toArray, List.set_cons_zero, List.set_cons_succ]
          refine wpAnyH_take (i := 12) (oi := ?ozz181) (v := ?vzz181) ?hzz181 ?azz181 ?bzz181 ?czz181 ?qzz181 ?yzz181 ?szz181 ?rzz181
          case hzz181 => simp only [List.getElem?_toArray, List.getElem?_cons_zero, List.getElem?_cons_succ]; rfl
          case azz181 => kernel_rfl
          case bzz181 => kernel_rfl
          case czz181 => kernel_rfl
          case yzz181 =>
            refine Or.inl ⟨by rfl, ?_⟩
            intro w hSw
            skip
            go_simp
            try with_reducible rfl
          case qzz181 => exact fun _ _ _ h => h
          case szz181 => first | assumption | trivial
          case' rzz181 => simp only [Act.put, List.setIfInBounds_toArray, List.set_cons_zero, List.set_cons_succ]
          refine wpAnyH_take (i := 13) (oi := ?ozz182) (v := ?vzz182) ?hzz182 ?azz182 ?bzz182 ?czz182 ?qzz182 ?yzz182 ?szz182 ?rzz182
          case hzz182 => simp only [List.getElem?_toArray, List.getElem?_cons_zero, List.getElem?_cons_succ]; rfl
          case azz182 => kernel_rfl
          case bzz182 => kernel_rfl
          case czz182 => kernel_rfl
          case yzz182 =>
            refine Or.inl ⟨by rfl, ?_⟩
            intro w hSw
            have x0 := box_ hSw c0; have x1 := box_ hSw c1; have x2 := box_ hSw c2; clear hSw
            go_simp
            try with_reducible rfl
          case qzz182 => exact fun _ _ _ h => h
          case szz182 => first | assumption | trivial
          case' rzz182 => simp only [Act.put, List.setIfInBounds_toArray, List.set_cons_zero, List.set_cons_succ]
          refine wpAnyH_take (i := 14) (oi := ?ozz183) (v := ?vzz183) ?hzz183 ?azz183 ?bzz183 ?czz183 ?qzz183 ?yzz183 ?szz183 ?rzz183
          case hzz183 => simp only [List.getElem?_toArray, List.getElem?_cons_zero, List.getElem?_cons_succ]; rfl
          case azz183 => kernel_rfl
          case bzz183 => kernel_rfl
          case czz183 => kernel_rfl
          case yzz183 =>
            refine Or.inl ⟨by rfl, ?_⟩
            intro w hSw
            skip
            go_simp
            try with_reducible rfl
          case qzz183 => exact fun _ _ _ h => h
          case szz183 => first | assumption | trivial
          case' rzz183 => simp only [Act.put, List.setIfInBounds_toArray, List.set_cons_zero, List.set_cons_succ]
          refine wpAnyH_take (i := 16) (oi := ?ozz184) (v := ?vzz184) ?hzz184 ?azz184 ?bzz184 ?czz184 ?qzz184 ?yzz184 ?szz184 ?rzz184
          case hzz184 => simp only [List.getElem?_toArray, List.getElem?_cons_zero, List.getElem?_cons_succ]; rfl
          case azz184 => kernel_rfl
          case bzz184 => kernel_rfl
          case czz184 => kernel_rfl
          case yzz184 =>
            refine Or.inl ⟨by rfl, ?_⟩
            intro w hSw
            skip
            go_simp
            try with_reducible rfl
          case qzz184 => exact fun _ _ _ h => h
          case szz184 => first | assumption | trivial
          case' rzz184 => simp only [Act.put, List.setIfInBounds_toArray, List.set_cons_zero, List.set_cons_succ]
          refine wpAnyH_take (i := 17) (oi := ?ozz185) (v := ?vzz185) ?hzz185 ?azz185 ?bzz185 ?czz185 ?qzz185 ?yzz185 ?szz185 ?rzz185
          case hzz185 => simp only [List.getElem?_toArray, List.getElem?_cons_zero, List.getElem?_cons_succ]; rfl
          case azz185 => kernel_rfl
          case bzz185 => kernel_rfl
          case czz185 => kernel_rfl
          case yzz185 =>
            refine Or.inl ⟨by rfl, ?_⟩
            intro w hSw
            skip
            go_simp
            try with_reducible rfl
          case qzz185 => exact fun _ _ _ h => h
          case szz185 => first | assumption | trivial
          case' rzz185 => simp only [Act.put, List.setIfInBounds_toArray, List.set_cons_zero, List.set_cons_succ]
          refine wpAnyH_take (i := 18) (oi := ?ozz186) (v := ?vzz186) ?hzz186 ?azz186 ?bzz186 ?czz186 ?qzz186 ?yzz186 ?szz186 ?rzz186
          case hzz186 => simp only [List.getElem?_toArray, List.getElem?_cons_zero, List.getElem?_cons_succ]; rfl
          case azz186 => kernel_rfl
          case bzz186 => kernel_rfl
          case czz186 => kernel_rfl
          case yzz186 =>
            refine Or.inl ⟨by rfl, ?_⟩
            intro w hSw
            skip
            go_simp
            try with_reducible rfl
          case qzz186 => exact fun _ _ _ h => h
          case szz186 => first | assumption | trivial
          case' rzz186 => simp only [Act.put, List.setIfInBounds_toArray, List.set_cons_zero, List.set_cons_succ]
          refine wpAnyH_ready (rs := [15]) (by kernel_rfl) (by simp) ?_
          refine AllReadyH.cons (o := ?ozz201) ?hzz201 (fun K hK => ?kzz201) ?mzz201
          case hzz201 => simp only [List.getElem?_toArray, List.getElem?_cons_zero, List.getElem?_cons_succ]; rfl
          case kzz201 =>
            go_simp
            refine (K4.out _).mono ?_
            rintro e v3 ⟨rfl, q3⟩
            go_wp2_with fail
            refine hK.out _ _ ?Szz201 (fun hHeld => ?Rzz201)
            case Szz201 =>
              exact hHeld.trans q3
            case Rzz201 =>
              clear hK K
              try simp only [Act.put, List.setIfInBounds_toArray, List.set_cons_zero, List.set_cons_succ]
              refine wpAnyH_take (i := 19) (oi := ?ozz187) (v := ?vzz187) ?hzz187 ?azz187 ?bzz187 ?czz187 ?qzz187 ?yzz187 ?szz187 ?rzz187
              case hzz187 => simp only [List.getElem?_toArray, List.getElem?_cons_zero, List.getElem?_cons_succ]; rfl
              case azz187 => kernel_rfl
              case bzz187 => kernel_rfl
              case czz187 => kernel_rfl
              case yzz187 =>
                refine Or.inl ⟨by rfl, ?_⟩
                intro w hSw
                skip
                go_simp
                try with_reducible rfl
              case qzz187 => exact fun _ _ _ h => h
              case szz187 => first | assumption | trivial
              case' rzz187 => simp only [Act.put, List.setIfInBounds_toArray, List.set_cons_zero, List.set_cons_succ]
              refine wpAnyH_take (i := 20) (oi := ?ozz188) (v := ?vzz188) ?hzz188 ?azz188 ?bzz188 ?czz188 ?qzz188 ?yzz188 ?szz188 ?rzz188
              case hzz188 => simp only [List.getElem?_toArray, List.getElem?_cons_zero, List.getElem?_cons_succ]; rfl
              case azz188 => kernel_rfl
              case bzz188 => kernel_rfl
              case czz188 => kernel_rfl
              case yzz188 =>
                refine Or.inl ⟨by rfl, ?_⟩
                intro w hSw
                skip
                go_simp
                try with_reducible rfl
              case qzz188 => exact fun _ _ _ h => h
              case szz188 => first | assumption | trivial
              case' rzz188 => simp only [Act.put, List.setIfInBounds_toArray, List.set_cons_zero, List.set_cons_succ]
              refine wpAnyH_take (i := 21) (oi := ?ozz189) (v := ?vzz189) ?hzz189 ?azz189 ?bzz189 ?czz189 ?qzz189 ?yzz189 ?szz189 ?rzz189
              case hzz189 => simp only [List.getElem?_toArray, List.getElem?_cons_zero, List.getElem?_cons_succ]; rfl
              case azz189 => kernel_rfl
              case bzz189 => kernel_rfl
              case czz189 => kernel_rfl
              case yzz189 =>
                refine Or.inl ⟨by rfl, ?_⟩
                intro w hSw
                skip
                go_simp
                try with_reducible rfl
              case qzz189 => exact fun _ _ _ h => h
              case szz189 => first | assumption | trivial
              case' rzz189 => simp only [Act.put, List.setIfInBounds_toArray, List.set_cons_zero, List.set_cons_succ]
              refine wpAnyH_take (i := 22) (oi := ?ozz190) (v := ?vzz190) ?hzz190 ?azz190 ?bzz190 ?czz190 ?qzz190 ?yzz190 ?szz190 ?rzz190
              case hzz190 => simp only [List.getElem?_toArray, List.getElem?_cons_zero, List.getElem?_cons_succ]; rfl
              case azz190 => kernel_rfl
              case bzz190 => kernel_rfl
              case czz190 => kernel_rfl
              case yzz190 =>
                refine Or.inl ⟨by rfl, ?_⟩
                intro w hSw
                have x0 := box_ hSw c0; have x1 := box_ hSw c1; have x2 := box_ hSw c2; clear hSw
                go_simp
                try with_reducible rfl
              case qzz190 => exact fun _ _ _ h => h
              case szz190 => first | assumption | trivial
              case' rzz190 => simp only [Act.put, List.setIfInBounds_toArray, List.set_cons_zero, List.set_cons_succ]
              refine wpAnyH_take (i := 24) (oi := ?ozz191) (v := ?vzz191) ?hzz191 ?azz191 ?bzz191 ?czz191 ?qzz191 ?yzz191 ?szz191 ?rzz191
              case hzz191 => simp only [List.getElem?_toArray, List.getElem?_cons_zero, List.getElem?_cons_succ]; rfl
              case azz191 => kernel_rfl
              case bzz191 => kernel_rfl
              case czz191 => kernel_rfl
              case yzz191 =>
                refine Or.inl ⟨by rfl, ?_⟩
                intro w hSw
                skip
                go_simp
                try with_reducible rfl
              case qzz191 => exact fun _ _ _ h => h
              case szz191 => first | assumption | trivial
              case' rzz191 => simp only [Act.put, List.setIfInBounds_toArray, List.set_cons_zero, List.set_cons_succ]
              refine wpAnyH_take (i := 25) (oi := ?ozz192) (v := ?vzz192) ?hzz192 ?azz192 ?bzz192 ?czz192 ?qzz192 ?yzz192 ?szz192 ?rzz192
              case hzz192 => simp only [List.getElem?_toArray, List.getElem?_cons_zero, List.getElem?_cons_succ]; rfl
              case azz192 => kernel_rfl
              case bzz192 => kernel_rfl
              case czz192 => kernel_rfl
              case yzz192 =>
                refine Or.inl ⟨by rfl, ?_⟩
                intro w hSw
                skip
                go_simp
                try with_reducible rfl
              case qzz192 => exact fun _ _ _ h => h
              case szz192 => first | assumption | trivial
              case' rzz192 => simp only [Act.put, List.setIfInBounds_toArray, List.set_cons_zero, List.set_cons_succ]
              refine wpAnyH_ready (rs := [23]) (by kernel_rfl) (by simp) ?_
              refine AllReadyH.cons (o := ?ozz200) ?hzz200 (fun K hK => ?kzz200) ?mzz200
              case hzz200 => simp only [List.getElem?_toArray, List.getElem?_cons_zero, List.getElem?_cons_succ]; rfl
              case kzz200 =>
                go_simp
                refine (K5.out _).mono ?_
                rintro e v4 ⟨rfl, q4⟩
                go_wp2_with fail
                refine hK.out _ _ ?Szz200 (fun hHeld => ?Rzz200)
                case Szz200 =>
                  exact hHeld.trans q4
                case Rzz200 =>
                  clear hK K
                  try simp only [Act.put, List.setIfInBounds_toArray, List.set_cons_zero, List.set_cons_succ]
                  refine wpAnyH_take (i := 26) (oi := ?ozz193) (v := ?vzz193) ?hzz193 ?azz193 ?bzz193 ?czz193 ?qzz193 ?yzz193 ?szz193 ?rzz193
                  case hzz193 => simp only [List.getElem?_toArray, List.getElem?_cons_zero, List.getElem?_cons_succ]; rfl
                  case azz193 => kernel_rfl
                  case bzz193 => kernel_rfl
                  case czz193 => kernel_rfl
                  case yzz193 =>
                    refine Or.inl ⟨by rfl, ?_⟩
                    intro w hSw
                    skip
                    go_simp
                    try with_reducible rfl
                  case qzz193 => exact fun _ _ _ h => h
                  case szz193 => first | assumption | trivial
                  case' rzz193 => simp only [Act.put, List.setIfInBounds_toArray, List.set_cons_zero, List.set_cons_succ]
                  refine wpAnyH_take (i := 27) (oi := ?ozz194) (v := ?vzz194) ?hzz194 ?azz194 ?bzz194 ?czz194 ?qzz194 ?yzz194 ?szz194 ?rzz194
                  case hzz194 => simp only [List.getElem?_toArray, List.getElem?_cons_zero, List.getElem?_cons_succ]; rfl
                  case azz194 => kernel_rfl
                  case bzz194 => kernel_rfl
                  case czz194 => kernel_rfl
                  case yzz194 =>
                    refine Or.inl ⟨by rfl, ?_⟩
                    intro w hSw
                    skip
                    go_simp
                    try with_reducible rfl
                  case qzz194 => exact fun _ _ _ h => h
                  case szz194 => first | assumption | trivial
                  case' rzz194 => simp only [Act.put, List.setIfInBounds_toArray, List.set_cons_zero, List.set_cons_succ]
                  refine wpAnyH_take (i := 28) (oi := ?ozz195) (v := ?vzz195) ?hzz195 ?azz195 ?bzz195 ?czz195 ?qzz195 ?yzz195 ?szz195 ?rzz195
                  case hzz195 => simp only [List.getElem?_toArray, List.getElem?_cons_zero, List.getElem?_cons_succ]; rfl
                  case azz195 => kernel_rfl
                  case bzz195 => kernel_rfl
                  case czz195 => kernel_rfl
                  case yzz195 =>
                    refine Or.inl ⟨by rfl, ?_⟩
                    intro w hSw
                    skip
                    go_simp
                    try with_reducible rfl
                  case qzz195 => exact fun _ _ _ h => h
                  case szz195 => first | assumption | trivial
                  case' rzz195 => simp only [Act.put, List.setIfInBounds_toArray, List.set_cons_zero, List.set_cons_succ]
                  refine wpAnyH_take (i := 29) (oi := ?ozz196) (v := ?vzz196) ?hzz196 ?azz196 ?bzz196 ?czz196 ?qzz196 ?yzz196 ?szz196 ?rzz196
                  case hzz196 => simp only [List.getElem?_toArray, List.getElem?_cons_zero, List.getElem?_cons_succ]; rfl
                  case azz196 => kernel_rfl
                  case bzz196 => kernel_rfl
                  case czz196 => kernel_rfl
                  case yzz196 =>
                    refine Or.inl ⟨by rfl, ?_⟩
                    intro w hSw
                    skip
                    go_simp
                    try with_reducible rfl
                  case qzz196 => exact fun _ _ _ h => h
                  case szz196 => first | assumption | trivial
                  case' rzz196 => simp only [Act.put, List.setIfInBounds_toArray, List.set_cons_zero, List.set_cons_succ]
                  refine wpAnyH_take (i := 30) (oi := ?ozz197) (v := ?vzz197) ?hzz197 ?azz197 ?bzz197 ?czz197 ?qzz197 ?yzz197 ?szz197 ?rzz197
                  case hzz197 => simp only [List.getElem?_toArray, List.getElem?_cons_zero, List.getElem?_cons_succ]; rfl
                  case azz197 => kernel_rfl
                  case bzz197 => kernel_rfl
                  case czz197 => kernel_rfl
                  case yzz197 =>
                    refine Or.inl ⟨by rfl, ?_⟩
                    intro w hSw
                    skip
                    go_simp
                    try with_reducible rfl
                  case qzz197 => exact fun _ _ _ h => h
                  case szz197 => first | assumption | trivial
                  case' rzz197 => simp only [Act.put, List.setIfInBounds_toArray, List.set_cons_zero, List.set_cons_succ]
                  refine wpAnyH_take (i := 31) (oi := ?ozz198) (v := ?vzz198) ?hzz198 ?azz198 ?bzz198 ?czz198 ?qzz198 ?yzz198 ?szz198 ?rzz198
                  case hzz198 => simp only [List.getElem?_toArray, List.getElem?_cons_zero, List.getElem?_cons_succ]; rfl
                  case azz198 => kernel_rfl
                  case bzz198 => kernel_rfl
                  case czz198 => kernel_rfl
                  case yzz198 =>
                    refine Or.inl ⟨by rfl, ?_⟩
                    intro w hSw
                    skip
                    go_simp
                    try with_reducible rfl
                  case qzz198 => exact fun _ _ _ h => h
                  case szz198 => first | assumption | trivial
                  case' rzz198 => simp only [Act.put, List.setIfInBounds_toArray, List.set_cons_zero, List.set_cons_succ]
                  refine wpAnyH_take (i := 32) (oi := ?ozz199) (v := ?vzz199) ?hzz199 ?azz199 ?bzz199 ?czz199 ?qzz199 ?yzz199 ?szz199 ?rzz199
                  case hzz199 => simp only [List.getElem?_toArray, List.getElem?_cons_zero, List.getElem?_cons_succ]; rfl
                  case azz199 => kernel_rfl
                  case bzz199 => kernel_rfl
                  case czz199 => kernel_rfl
                  case yzz199 =>
                    refine Or.inl ⟨by rfl, ?_⟩
                    intro w hSw
                    skip
                    go_simp
                    try with_reducible rfl
                  case qzz199 => exact fun _ _ _ h => h
                  case szz199 => first | assumption | trivial
                  case' rzz199 => simp only [Act.put, List.setIfInBounds_toArray, List.set_cons_zero, List.set_cons_succ]
                  refine wpAnyH_done (by kernel_rfl) ?_ _
                  go_wp2
                  go_ret
                  exact ⟨by first | rfl | (simp; done), BQ.out.trans hHeld⟩
              case' mzz200 => skip
              exact AllReadyH.nil
          case' mzz201 => skip
          exact AllReadyH.nil
      case' mzz202 => skip
      exact AllReadyH.nil
  case' mzz203 => skip
  exact AllReadyH.nil
set_option maxHeartbeats 4000000 in
theorem walk (a : ByteArray) (b : ByteArray) (m : Int) (w : World) (ha : a.size ≤ 140737488351232) (hb : b.size ≤ 140737488351232) :
    Calls Try.prog 6 #[.string a, .string b, .int .i64 m] w fun e w' => e = .returned (.bool true) ∧ Q w w' := by
  by_cases hab : a = b
  · by_cases h1 : m = 1
    · exact walk_s1 a b m w ha hb hab h1
    · by_cases h2 : m = 2
      · exact walk_s2 a b m w ha hb hab h2
      · exact walk_so a b m w ha hb hab h1 h2
  · by_cases h1 : m = 1
    · exact walk_n1 a b m w ha hb hab h1
    · by_cases h2 : m = 2
      · exact walk_n2 a b m w ha hb hab h2
      · exact walk_no a b m w ha hb hab h1 h2

theorem opened (W : World) (args : Array Value) (hn : args.size = 3) (h : ∀ (j : Nat) t v, Try.f6.params[j]? = some t → args[j]? = some v → RdV W t v) :
    Calls Try.prog 6 args W fun e W' => e = .returned (.bool true) ∧ Q W W' := by
  obtain ⟨v0, v1, v2, rfl⟩ := args3 hn
  rw [Try.params6] at h
  obtain ⟨a, rfl, a0⟩ := (h 0 9 v0 rfl rfl).string Try.underlying9
  obtain ⟨b, rfl, b0⟩ := (h 1 9 v1 rfl rfl).string Try.underlying9
  obtain ⟨m, rfl, m0⟩ := (h 2 3 v2 rfl rfl).int Try.underlying3
  exact walk a b m W a0 b0

set_option maxRecDepth 100000 in
theorem lifted (os : Os) (started : os.Started) (H : Type) (enc : TypeId × Value → H) :
    ReturnsInHanded {} Try.checked os 6 .any (Rows.spanKeysSpec.pre6 enc Try.prog Try.f6 Rows.spanKeysRow.domain false) (Rows.spanKeysSpec.post enc Try.prog Try.f6 false true false false) :=
  framed 3 Try.func6 (by rw [Try.params6]; rfl) rfl (by kernel_rfl) (by kernel_rfl) (by kernel_rfl)
    (fun H ds h => by match ds, h with | [d0, d1, d2], _ => exact ⟨rfl, rfl, rfl⟩)
    opened os started H enc
    (ChangeSpec.witness6 (enc := enc) (C := Try.checked) false ⟨#[], #[.string ByteArray.empty, .string ByteArray.empty, .int .i64 0], []⟩ 8 (by kernel_rfl) (by kernel_rfl) (by kernel_rfl) (by kernel_rfl))

theorem over : Rows.spanKeysRow.holds Try.pinned (OpenSpec.ofChange Rows.spanKeysSpec) :=
  OpenClaim.holds_of_wide 6 Try.f6 rfl rfl rfl rfl rfl rfl rfl ⟨rfl, rfl, rfl, rfl, rfl⟩ rfl rfl rfl rfl rfl (by kernel_rfl) Try.func6 (by kernel_rfl)
    (of_decide_eq_true (by kernel_rfl)) (by unfold Func.isWrapper; first | (rw [if_pos (by decide +kernel)]; kernel_rfl) | (rw [if_neg (by decide +kernel)]; exact ⟨rfl, rfl⟩))
    (fun os started H enc _ => lifted os started H enc)

theorem proved : Rows.SpanKeysSaid := over
end Go.Proofs.Ytjbjkmbipdbejaa.spanKeys
