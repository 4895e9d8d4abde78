/- For every two spans and key: a key that is in both makes them overlap; of two that overlap the greater beginning is in both. No condition. -/
import Derived.Test.YtjbjkmbipdbejaaSpanWit
namespace Go.Proofs.Ytjbjkmbipdbejaa.spanWitness
set_option maxRecDepth 100000
open Go.ChangeShapes Go.WideShapes Go.ChangeAt Go.RowKit Prm Sm
set_option linter.unusedVariables false
set_option linter.unusedSimpArgs false

set_option maxHeartbeats 4000000 in
theorem walk_1000 (a : Wn) (b : Wn) (key : ByteArray) (w : World) (h1 : inS a key = true) (h2 : inS b key = false) (h3 : over a b = false) (h4 : lt a.lo b.lo = false) :
    Calls Try.prog 5 #[wnV a, wnV b, .string key] w fun e w' => e = .returned (.bool true) ∧ Q w w' := by
  have K1 := Lib.hid (fun W => sin_any a key W)
  rw [h1] at K1
  have K2 := Lib.hid (fun W => sin_any b key W)
  rw [h2] at K2
  have K3 := Lib.hid (fun W => sover_any a b W)
  rw [h3] at K3
  have K4 := Lib.hid (fun W => sover_any b a W)
  rw [over_comm b a, h3] at K4
  have K5 := Lib.hid (fun W => sclash_any a b W)
  have K6 := Lib.hid (fun W => sclash_any b a W)
  rw [clash_comm b a] at K6
  have KA := Lib.hid (fun W => sin_any a (mx a.lo b.lo) W)
  have KB := Lib.hid (fun W => sin_any b (mx a.lo b.lo) W)
  rw [show mx a.lo b.lo = a.lo by unfold mx; rw [h4]; rfl] at KA KB
  have e4 := lt_data a.lo b.lo
  rw [h4] at e4
  have r1 := beq_rr (clash a b)
  generalize clash a b = y at *
  clear h1 h2 h3 h4
  have B := wn_box2 w a b
  try unfold wnV at *
  go_enter Try.func5, Try.ntmps5
  go_wp2_with fail
  generalize ((w.alloc (.cells #[.int .i64 a.mode, .string a.lo, .string a.hi] 23)).alloc (.cells #[.int .i64 b.mode, .string b.lo, .string b.hi] 23)) = W0 at B ⊢
  obtain ⟨⟨c0, c1, c2⟩, ⟨c3, c4, c5⟩, bq⟩ := B
  change _ at bq
  refine (spshown_any _).mono ?_
  rintro e W ⟨rfl, q0⟩
  have c0 := box_ q0 c0
  have c1 := box_ q0 c1
  have c2 := box_ q0 c2
  have c3 := box_ q0 c3
  have c4 := box_ q0 c4
  have c5 := box_ q0 c5
  have BQ := Lib.hid (bq.trans q0)
  clear bq q0
  go_wp2_with fail
  refine (K1.out _).mono ?_
  rintro e w1 ⟨rfl, q1⟩
  have c0 := box_ q1 c0
  have c1 := box_ q1 c1
  have c2 := box_ q1 c2
  have c3 := box_ q1 c3
  have c4 := box_ q1 c4
  have c5 := box_ q1 c5
  have BQ := Lib.hid (BQ.out.trans q1)
  clear q1
  go_wp2_with fail
  refine (K2.out _).mono ?_
  rintro e w2 ⟨rfl, q2⟩
  have c0 := box_ q2 c0
  have c1 := box_ q2 c1
  have c2 := box_ q2 c2
  have c3 := box_ q2 c3
  have c4 := box_ q2 c4
  have c5 := box_ q2 c5
  have BQ := Lib.hid (BQ.out.trans q2)
  clear q2
  go_wp2
  refine wp_region_held_drew (S := Q w2) (by kernel_rfl) ?szz148 (fun hHeld => ?rzz148)
  case szz148 =>
    exact (Q.refl w2).drew
  case' rzz148 => skip
  refine wpAnyH_take (i := 0) (oi := ?ozz149) (v := ?vzz149) ?hzz149 ?azz149 ?bzz149 ?czz149 ?qzz149 ?yzz149 ?szz149 ?rzz149
  case hzz149 => simp only [List.getElem?_toArray, List.getElem?_cons_zero]; rfl
  case azz149 => kernel_rfl
  case bzz149 => kernel_rfl
  case czz149 => kernel_rfl
  case yzz149 =>
    refine Or.inl ⟨by rfl, ?_⟩
    intro w hSw
    skip
    go_simp
    try with_reducible rfl
  case qzz149 => exact fun _ _ _ h => h
  case szz149 => first | assumption | trivial
  case' rzz149 => simp only [Act.put, List.setIfInBounds_toArray, List.set_cons_zero, List.set_cons_succ]
  refine wpAnyH_take (i := 1) (oi := ?ozz150) (v := ?vzz150) ?hzz150 ?azz150 ?bzz150 ?czz150 ?qzz150 ?yzz150 ?szz150 ?rzz150
  case hzz150 => simp only [List.getElem?_toArray, List.getElem?_cons_zero, List.getElem?_cons_succ]; rfl
  case azz150 => kernel_rfl
  case bzz150 => kernel_rfl
  case czz150 => kernel_rfl
  case yzz150 =>
    refine Or.inl ⟨by rfl, ?_⟩
    intro w hSw
    skip
    go_simp
    try with_reducible rfl
  case qzz150 => exact fun _ _ _ h => h
  case szz150 => first | assumption | trivial
  case' rzz150 => simp only [Act.put, List.setIfInBounds_toArray, List.set_cons_zero, List.set_cons_succ]
  refine wpAnyH_take (i := 2) (oi := ?ozz151) (v := ?vzz151) ?hzz151 ?azz151 ?bzz151 ?czz151 ?qzz151 ?yzz151 ?szz151 ?rzz151
  case hzz151 => simp only [List.getElem?_toArray, List.getElem?_cons_zero, List.getElem?_cons_succ]; rfl
  case azz151 => kernel_rfl
  case bzz151 => kernel_rfl
  case czz151 => kernel_rfl
  case yzz151 =>
    refine Or.inl ⟨by rfl, ?_⟩
    intro w hSw
    have x0 := box_ hSw c0; have x1 := box_ hSw c1; have x2 := box_ hSw c2; have x3 := box_ hSw c3; have x4 := box_ hSw c4; have x5 := box_ hSw c5; clear hSw
    go_simp
    try with_reducible rfl
  case qzz151 => exact fun _ _ _ h => h
  case szz151 => first | assumption | trivial
  case' rzz151 => simp only [Act.put, List.setIfInBounds_toArray, List.set_cons_zero, List.set_cons_succ]
  refine wpAnyH_take (i := 3) (oi := ?ozz152) (v := ?vzz152) ?hzz152 ?azz152 ?bzz152 ?czz152 ?qzz152 ?yzz152 ?szz152 ?rzz152
  case hzz152 => simp only [List.getElem?_toArray, List.getElem?_cons_zero, List.getElem?_cons_succ]; rfl
  case azz152 => kernel_rfl
  case bzz152 => kernel_rfl
  case czz152 => kernel_rfl
  case yzz152 =>
    refine Or.inl ⟨by rfl, ?_⟩
    intro w hSw
    have x0 := box_ hSw c0; have x1 := box_ hSw c1; have x2 := box_ hSw c2; have x3 := box_ hSw c3; have x4 := box_ hSw c4; have x5 := box_ hSw c5; clear hSw
    go_simp
    try with_reducible rfl
  case qzz152 => exact fun _ _ _ h => h
  case szz152 => first | assumption | trivial
  case' rzz152 => simp only [Act.put, List.setIfInBounds_toArray, List.set_cons_zero, List.set_cons_succ]
  refine wpAnyH_ready (rs := [4]) (by kernel_rfl) (by simp) ?_
  refine AllReadyH.cons (o := ?ozz184) ?hzz184 (fun K hK => ?kzz184) ?mzz184
  case hzz184 => simp only [List.getElem?_toArray, List.getElem?_cons_zero, List.getElem?_cons_succ]; rfl
  case kzz184 =>
    go_simp
    refine (K3.out _).mono ?_
    rintro e v1 ⟨rfl, q1⟩
    go_wp2_with fail
    refine hK.out _ _ ?Szz184 (fun hHeld => ?Rzz184)
    case Szz184 =>
      exact hHeld.trans q1
    case Rzz184 =>
      clear hK K
      try simp only [Act.put, List.setIfInBounds_toArray, List.set_cons_zero, List.set_cons_succ]
      refine wpAnyH_take (i := 5) (oi := ?ozz153) (v := ?vzz153) ?hzz153 ?azz153 ?bzz153 ?czz153 ?qzz153 ?yzz153 ?szz153 ?rzz153
      case hzz153 => simp only [List.getElem?_toArray, List.getElem?_cons_zero, List.getElem?_cons_succ]; rfl
      case azz153 => kernel_rfl
      case bzz153 => kernel_rfl
      case czz153 => kernel_rfl
      case yzz153 =>
        refine Or.inl ⟨by rfl, ?_⟩
        intro w hSw
        skip
        go_simp
        try with_reducible rfl
      case qzz153 => exact fun _ _ _ h => h
      case szz153 => first | assumption | trivial
      case' rzz153 => simp only [Act.put, List.setIfInBounds_toArray, List.set_cons_zero, List.set_cons_succ]
      refine wpAnyH_take (i := 6) (oi := ?ozz154) (v := ?vzz154) ?hzz154 ?azz154 ?bzz154 ?czz154 ?qzz154 ?yzz154 ?szz154 ?rzz154
      case hzz154 => simp only [List.getElem?_toArray, List.getElem?_cons_zero, List.getElem?_cons_succ]; rfl
      case azz154 => kernel_rfl
      case bzz154 => kernel_rfl
      case czz154 => kernel_rfl
      case yzz154 =>
        refine Or.inl ⟨by rfl, ?_⟩
        intro w hSw
        skip
        go_simp
        try with_reducible rfl
      case qzz154 => exact fun _ _ _ h => h
      case szz154 => first | assumption | trivial
      case' rzz154 => simp only [Act.put, List.setIfInBounds_toArray, List.set_cons_zero, List.set_cons_succ]
      refine wpAnyH_take (i := 7) (oi := ?ozz155) (v := undef) ?hzz155 ?azz155 ?bzz155 ?czz155 ?qzz155 ?yzz155 ?szz155 ?rzz155
      case hzz155 => simp only [List.getElem?_toArray, List.getElem?_cons_zero, List.getElem?_cons_succ]; rfl
      case azz155 => kernel_rfl
      case bzz155 => kernel_rfl
      case czz155 => kernel_rfl
      case yzz155 => exact Or.inr ⟨by rfl, rfl⟩
      case qzz155 => exact fun _ _ _ h => h
      case szz155 => first | assumption | trivial
      case' rzz155 => simp only [Act.put, List.setIfInBounds_toArray, List.set_cons_zero, List.set_cons_succ]
      refine wpAnyH_take (i := 8) (oi := ?ozz156) (v := undef) ?hzz156 ?azz156 ?bzz156 ?czz156 ?qzz156 ?yzz156 ?szz156 ?rzz156
      case hzz156 => simp only [List.getElem?_toArray, List.getElem?_cons_zero, List.getElem?_cons_succ]; rfl
      case azz156 => kernel_rfl
      case bzz156 => kernel_rfl
      case czz156 => kernel_rfl
      case yzz156 => exact Or.inr ⟨by rfl, rfl⟩
      case qzz156 => exact fun _ _ _ h => h
      case szz156 => first | assumption | trivial
      case' rzz156 => simp only [Act.put, List.setIfInBounds_toArray, List.set_cons_zero, List.set_cons_succ]
      refine wpAnyH_take (i := 9) (oi := ?ozz157) (v := undef) ?hzz157 ?azz157 ?bzz157 ?czz157 ?qzz157 ?yzz157 ?szz157 ?rzz157
      case hzz157 => simp only [List.getElem?_toArray, List.getElem?_cons_zero, List.getElem?_cons_succ]; rfl
      case azz157 => kernel_rfl
      case bzz157 => kernel_rfl
      case czz157 => kernel_rfl
      case yzz157 => exact Or.inr ⟨by rfl, rfl⟩
      case qzz157 => exact fun _ _ _ h => h
      case szz157 => first | assumption | trivial
      case' rzz157 => simp only [Act.put, List.setIfInBounds_toArray, List.set_cons_zero, List.set_cons_succ]
      refine wpAnyH_take (i := 10) (oi := ?ozz158) (v := undef) ?hzz158 ?azz158 ?bzz158 ?czz158 ?qzz158 ?yzz158 ?szz158 ?rzz158
      case hzz158 => simp only [List.getElem?_toArray, List.getElem?_cons_zero, List.getElem?_cons_succ]; rfl
      case azz158 => kernel_rfl
      case bzz158 => kernel_rfl
      case czz158 => kernel_rfl
      case yzz158 => exact Or.inr ⟨by rfl, rfl⟩
      case qzz158 => exact fun _ _ _ h => h
      case szz158 => first | assumption | trivial
      case' rzz158 => simp only [Act.put, List.setIfInBounds_toArray, List.set_cons_zero, List.set_cons_succ]
      refine wpAnyH_take (i := 11) (oi := ?ozz159) (v := undef) ?hzz159 ?azz159 ?bzz159 ?czz159 ?qzz159 ?yzz159 ?szz159 ?rzz159
      case hzz159 => simp only [List.getElem?_toArray, List.getElem?_cons_zero, List.getElem?_cons_succ]; rfl
      case azz159 => kernel_rfl
      case bzz159 => kernel_rfl
      case czz159 => kernel_rfl
      case yzz159 => exact Or.inr ⟨by rfl, rfl⟩
      case qzz159 => exact fun _ _ _ h => h
      case szz159 => first | assumption | trivial
      case' rzz159 => simp only [Act.put, List.setIfInBounds_toArray, List.set_cons_zero, List.set_cons_succ]
      refine wpAnyH_take (i := 12) (oi := ?ozz160) (v := undef) ?hzz160 ?azz160 ?bzz160 ?czz160 ?qzz160 ?yzz160 ?szz160 ?rzz160
      case hzz160 => simp only [List.getElem?_toArray, List.getElem?_cons_zero, List.getElem?_cons_succ]; rfl
      case azz160 => kernel_rfl
      case bzz160 => kernel_rfl
      case czz160 => kernel_rfl
      case yzz160 => exact Or.inr ⟨by rfl, rfl⟩
      case qzz160 => exact fun _ _ _ h => h
      case szz160 => first | assumption | trivial
      case' rzz160 => simp only [Act.put, List.setIfInBounds_toArray, List.set_cons_zero, List.set_cons_succ]
      refine wpAnyH_take (i := 13) (oi := ?ozz161) (v := undef) ?hzz161 ?azz161 ?bzz161 ?czz161 ?qzz161 ?yzz161 ?szz161 ?rzz161
      case hzz161 => simp only [List.getElem?_toArray, List.getElem?_cons_zero, List.getElem?_cons_succ]; rfl
      case azz161 => kernel_rfl
      case bzz161 => kernel_rfl
      case czz161 => kernel_rfl
      case yzz161 => exact Or.inr ⟨by rfl, rfl⟩
      case qzz161 => exact fun _ _ _ h => h
      case szz161 => first | assumption | trivial
      case' rzz161 => simp only [Act.put, List.setIfInBounds_toArray, List.set_cons_zero, List.set_cons_succ]
      refine wpAnyH_take (i := 14) (oi := ?ozz162) (v := undef) ?hzz162 ?azz162 ?bzz162 ?czz162 ?qzz162 ?yzz162 ?szz162 ?rzz162
      case hzz162 => simp only [List.getElem?_toArray, List.getElem?_cons_zero, List.getElem?_cons_succ]; rfl
      case azz162 => kernel_rfl
      case bzz162 => kernel_rfl
      case czz162 => kernel_rfl
      case yzz162 => exact Or.inr ⟨by rfl, rfl⟩
      case qzz162 => exact fun _ _ _ h => h
      case szz162 => first | assumption | trivial
      case' rzz162 => simp only [Act.put, List.setIfInBounds_toArray, List.set_cons_zero, List.set_cons_succ]
      refine wpAnyH_take (i := 15) (oi := ?ozz163) (v := ?vzz163) ?hzz163 ?azz163 ?bzz163 ?czz163 ?qzz163 ?yzz163 ?szz163 ?rzz163
      case hzz163 => simp only [List.getElem?_toArray, List.getElem?_cons_zero, List.getElem?_cons_succ]; rfl
      case azz163 => kernel_rfl
      case bzz163 => kernel_rfl
      case czz163 => kernel_rfl
      case yzz163 =>
        refine Or.inl ⟨by rfl, ?_⟩
        intro w hSw
        skip
        go_simp
        try with_reducible rfl
      case qzz163 => exact fun _ _ _ h => h
      case szz163 => first | assumption | trivial
      case' rzz163 => simp only [Act.put, List.setIfInBounds_toArray, List.set_cons_zero, List.set_cons_succ]
      refine wpAnyH_take (i := 16) (oi := ?ozz164) (v := ?vzz164) ?hzz164 ?azz164 ?bzz164 ?czz164 ?qzz164 ?yzz164 ?szz164 ?rzz164
      case hzz164 => simp only [List.getElem?_toArray, List.getElem?_cons_zero, List.getElem?_cons_succ]; rfl
      case azz164 => kernel_rfl
      case bzz164 => kernel_rfl
      case czz164 => kernel_rfl
      case yzz164 =>
        refine Or.inl ⟨by rfl, ?_⟩
        intro w hSw
        skip
        go_simp
        try with_reducible rfl
      case qzz164 => exact fun _ _ _ h => h
      case szz164 => first | assumption | trivial
      case' rzz164 => simp only [Act.put, List.setIfInBounds_toArray, List.set_cons_zero, List.set_cons_succ]
      refine wpAnyH_take (i := 17) (oi := ?ozz165) (v := ?vzz165) ?hzz165 ?azz165 ?bzz165 ?czz165 ?qzz165 ?yzz165 ?szz165 ?rzz165
      case hzz165 => simp only [List.getElem?_toArray, List.getElem?_cons_zero, List.getElem?_cons_succ]; rfl
      case azz165 => kernel_rfl
      case bzz165 => kernel_rfl
      case czz165 => kernel_rfl
      case yzz165 =>
        refine Or.inl ⟨by rfl, ?_⟩
        intro w hSw
        skip
        go_simp
        try with_reducible rfl
      case qzz165 => exact fun _ _ _ h => h
      case szz165 => first | assumption | trivial
      case' rzz165 => simp only [Act.put, List.setIfInBounds_toArray, List.set_cons_zero, List.set_cons_succ]
      refine wpAnyH_take (i := 18) (oi := ?ozz166) (v := ?vzz166) ?hzz166 ?azz166 ?bzz166 ?czz166 ?qzz166 ?yzz166 ?szz166 ?rzz166
      case hzz166 => simp only [List.getElem?_toArray, List.getElem?_cons_zero, List.getElem?_cons_succ]; rfl
      case azz166 => kernel_rfl
      case bzz166 => kernel_rfl
      case czz166 => kernel_rfl
      case yzz166 =>
        refine Or.inl ⟨by rfl, ?_⟩
        intro w hSw
        have x0 := box_ hSw c0; have x1 := box_ hSw c1; have x2 := box_ hSw c2; have x3 := box_ hSw c3; have x4 := box_ hSw c4; have x5 := box_ hSw c5; clear hSw
        go_simp
        try with_reducible rfl
      case qzz166 => exact fun _ _ _ h => h
      case szz166 => first | assumption | trivial
      case' rzz166 => simp only [Act.put, List.setIfInBounds_toArray, List.set_cons_zero, List.set_cons_succ]
      refine wpAnyH_take (i := 19) (oi := ?ozz167) (v := ?vzz167) ?hzz167 ?azz167 ?bzz167 ?czz167 ?qzz167 ?yzz167 ?szz167 ?rzz167
      case hzz167 => simp only [List.getElem?_toArray, List.getElem?_cons_zero, List.getElem?_cons_succ]; rfl
      case azz167 => kernel_rfl
      case bzz167 => kernel_rfl
      case czz167 => kernel_rfl
      case yzz167 =>
        refine Or.inl ⟨by rfl, ?_⟩
        intro w hSw
        have x0 := box_ hSw c0; have x1 := box_ hSw c1; have x2 := box_ hSw c2; have x3 := box_ hSw c3; have x4 := box_ hSw c4; have x5 := box_ hSw c5; clear hSw
        go_simp
        try with_reducible rfl
      case qzz167 => exact fun _ _ _ h => h
      case szz167 => first | assumption | trivial
      case' rzz167 => simp only [Act.put, List.setIfInBounds_toArray, List.set_cons_zero, List.set_cons_succ]
      refine wpAnyH_take (i := 21) (oi := ?ozz168) (v := ?vzz168) ?hzz168 ?azz168 ?bzz168 ?czz168 ?qzz168 ?yzz168 ?szz168 ?rzz168
      case hzz168 => simp only [List.getElem?_toArray, List.getElem?_cons_zero, List.getElem?_cons_succ]; rfl
      case azz168 => kernel_rfl
      case bzz168 => kernel_rfl
      case czz168 => kernel_rfl
      case yzz168 =>
        refine Or.inl ⟨by rfl, ?_⟩
        intro w hSw
        have x0 := box_ hSw c0; have x1 := box_ hSw c1; have x2 := box_ hSw c2; have x3 := box_ hSw c3; have x4 := box_ hSw c4; have x5 := box_ hSw c5; clear hSw
        go_simp
        try with_reducible rfl
      case qzz168 => exact fun _ _ _ h => h
      case szz168 => first | assumption | trivial
      case' rzz168 => simp only [Act.put, List.setIfInBounds_toArray, List.set_cons_zero, List.set_cons_succ]
      refine wpAnyH_take (i := 22) (oi := ?ozz169) (v := ?vzz169) ?hzz169 ?azz169 ?bzz169 ?czz169 ?qzz169 ?yzz169 ?szz169 ?rzz169
      case hzz169 => simp only [List.getElem?_toArray, List.getElem?_cons_zero, List.getElem?_cons_succ]; rfl
      case azz169 => kernel_rfl
      case bzz169 => kernel_rfl
      case czz169 => kernel_rfl
      case yzz169 =>
        refine Or.inl ⟨by rfl, ?_⟩
        intro w hSw
        have x0 := box_ hSw c0; have x1 := box_ hSw c1; have x2 := box_ hSw c2; have x3 := box_ hSw c3; have x4 := box_ hSw c4; have x5 := box_ hSw c5; clear hSw
        go_simp
        try with_reducible rfl
      case qzz169 => exact fun _ _ _ h => h
      case szz169 => first | assumption | trivial
      case' rzz169 => simp only [Act.put, List.setIfInBounds_toArray, List.set_cons_zero, List.set_cons_succ]
      refine wpAnyH_ready (rs := [20]) (by kernel_rfl) (by simp) ?_
      refine AllReadyH.cons (o := ?ozz183) ?hzz183 (fun K hK => ?kzz183) ?mzz183
      case hzz183 => simp only [List.getElem?_toArray, List.getElem?_cons_zero, List.getElem?_cons_succ]; rfl
      case kzz183 =>
        go_simp
        refine (K3.out _).mono ?_
        rintro e v4 ⟨rfl, q4⟩
        go_wp2_with fail
        refine hK.out _ _ ?Szz183 (fun hHeld => ?Rzz183)
        case Szz183 =>
          exact hHeld.trans q4
        case Rzz183 =>
          clear hK K
          try simp only [Act.put, List.setIfInBounds_toArray, List.set_cons_zero, List.set_cons_succ]
          refine wpAnyH_ready (rs := [23]) (by kernel_rfl) (by simp) ?_
          refine AllReadyH.cons (o := ?ozz182) ?hzz182 (fun K hK => ?kzz182) ?mzz182
          case hzz182 => simp only [List.getElem?_toArray, List.getElem?_cons_zero, List.getElem?_cons_succ]; rfl
          case kzz182 =>
            go_simp
            refine (K4.out _).mono ?_
            rintro e v5 ⟨rfl, q5⟩
            go_wp2_with fail
            refine hK.out _ _ ?Szz182 (fun hHeld => ?Rzz182)
            case Szz182 =>
              exact hHeld.trans q5
            case Rzz182 =>
              clear hK K
              try simp only [Act.put, List.setIfInBounds_toArray, List.set_cons_zero, List.set_cons_succ]
              refine wpAnyH_take (i := 24) (oi := ?ozz170) (v := ?vzz170) ?hzz170 ?azz170 ?bzz170 ?czz170 ?qzz170 ?yzz170 ?szz170 ?rzz170
              case hzz170 => simp only [List.getElem?_toArray, List.getElem?_cons_zero, List.getElem?_cons_succ]; rfl
              case azz170 => kernel_rfl
              case bzz170 => kernel_rfl
              case czz170 => kernel_rfl
              case yzz170 =>
                refine Or.inl ⟨by rfl, ?_⟩
                intro w hSw
                skip
                go_simp
                try with_reducible rfl
              case qzz170 => exact fun _ _ _ h => h
              case szz170 => first | assumption | trivial
              case' rzz170 => simp only [Act.put, List.setIfInBounds_toArray, List.set_cons_zero, List.set_cons_succ]
              refine wpAnyH_take (i := 25) (oi := ?ozz171) (v := ?vzz171) ?hzz171 ?azz171 ?bzz171 ?czz171 ?qzz171 ?yzz171 ?szz171 ?rzz171
              case hzz171 => simp only [List.getElem?_toArray, List.getElem?_cons_zero, List.getElem?_cons_succ]; rfl
              case azz171 => kernel_rfl
              case bzz171 => kernel_rfl
              case czz171 => kernel_rfl
              case yzz171 =>
                refine Or.inl ⟨by rfl, ?_⟩
                intro w hSw
                skip
                go_simp
                try with_reducible rfl
              case qzz171 => exact fun _ _ _ h => h
              case szz171 => first | assumption | trivial
              case' rzz171 => simp only [Act.put, List.setIfInBounds_toArray, List.set_cons_zero, List.set_cons_succ]
              refine wpAnyH_take (i := 26) (oi := ?ozz172) (v := ?vzz172) ?hzz172 ?azz172 ?bzz172 ?czz172 ?qzz172 ?yzz172 ?szz172 ?rzz172
              case hzz172 => simp only [List.getElem?_toArray, List.getElem?_cons_zero, List.getElem?_cons_succ]; rfl
              case azz172 => kernel_rfl
              case bzz172 => kernel_rfl
              case czz172 => kernel_rfl
              case yzz172 =>
                refine Or.inl ⟨by rfl, ?_⟩
                intro w hSw
                skip
                go_simp
                try with_reducible rfl
              case qzz172 => exact fun _ _ _ h => h
              case szz172 => first | assumption | trivial
              case' rzz172 => simp only [Act.put, List.setIfInBounds_toArray, List.set_cons_zero, List.set_cons_succ]
              refine wpAnyH_take (i := 27) (oi := ?ozz173) (v := ?vzz173) ?hzz173 ?azz173 ?bzz173 ?czz173 ?qzz173 ?yzz173 ?szz173 ?rzz173
              case hzz173 => simp only [List.getElem?_toArray, List.getElem?_cons_zero, List.getElem?_cons_succ]; rfl
              case azz173 => kernel_rfl
              case bzz173 => kernel_rfl
              case czz173 => kernel_rfl
              case yzz173 =>
                refine Or.inl ⟨by rfl, ?_⟩
                intro w hSw
                have x0 := box_ hSw c0; have x1 := box_ hSw c1; have x2 := box_ hSw c2; have x3 := box_ hSw c3; have x4 := box_ hSw c4; have x5 := box_ hSw c5; clear hSw
                go_simp
                try with_reducible rfl
              case qzz173 => exact fun _ _ _ h => h
              case szz173 => first | assumption | trivial
              case' rzz173 => simp only [Act.put, List.setIfInBounds_toArray, List.set_cons_zero, List.set_cons_succ]
              refine wpAnyH_take (i := 28) (oi := ?ozz174) (v := ?vzz174) ?hzz174 ?azz174 ?bzz174 ?czz174 ?qzz174 ?yzz174 ?szz174 ?rzz174
              case hzz174 => simp only [List.getElem?_toArray, List.getElem?_cons_zero, List.getElem?_cons_succ]; rfl
              case azz174 => kernel_rfl
              case bzz174 => kernel_rfl
              case czz174 => kernel_rfl
              case yzz174 =>
                refine Or.inl ⟨by rfl, ?_⟩
                intro w hSw
                have x0 := box_ hSw c0; have x1 := box_ hSw c1; have x2 := box_ hSw c2; have x3 := box_ hSw c3; have x4 := box_ hSw c4; have x5 := box_ hSw c5; clear hSw
                go_simp
                try with_reducible rfl
              case qzz174 => exact fun _ _ _ h => h
              case szz174 => first | assumption | trivial
              case' rzz174 => simp only [Act.put, List.setIfInBounds_toArray, List.set_cons_zero, List.set_cons_succ]
              refine wpAnyH_take (i := 30) (oi := ?ozz175) (v := ?vzz175) ?hzz175 ?azz175 ?bzz175 ?czz175 ?qzz175 ?yzz175 ?szz175 ?rzz175
              case hzz175 => simp only [List.getElem?_toArray, List.getElem?_cons_zero, List.getElem?_cons_succ]; rfl
              case azz175 => kernel_rfl
              case bzz175 => kernel_rfl
              case czz175 => kernel_rfl
              case yzz175 =>
                refine Or.inl ⟨by rfl, ?_⟩
                intro w hSw
                have x0 := box_ hSw c0; have x1 := box_ hSw c1; have x2 := box_ hSw c2; have x3 := box_ hSw c3; have x4 := box_ hSw c4; have x5 := box_ hSw c5; clear hSw
                go_simp
                try with_reducible rfl
              case qzz175 => exact fun _ _ _ h => h
              case szz175 => first | assumption | trivial
              case' rzz175 => simp only [Act.put, List.setIfInBounds_toArray, List.set_cons_zero, List.set_cons_succ]
              refine wpAnyH_take (i := 31) (oi := ?ozz176) (v := ?vzz176) ?hzz176 ?azz176 ?bzz176 ?czz176 ?qzz176 ?yzz176 ?szz176 ?rzz176
              case hzz176 => simp only [List.getElem?_toArray, List.getElem?_cons_zero, List.getElem?_cons_succ]; rfl
              case azz176 => kernel_rfl
              case bzz176 => kernel_rfl
              case czz176 => kernel_rfl
              case yzz176 =>
                refine Or.inl ⟨by rfl, ?_⟩
                intro w hSw
                have x0 := box_ hSw c0; have x1 := box_ hSw c1; have x2 := box_ hSw c2; have x3 := box_ hSw c3; have x4 := box_ hSw c4; have x5 := box_ hSw c5; clear hSw
                go_simp
                try with_reducible rfl
              case qzz176 => exact fun _ _ _ h => h
              case szz176 => first | assumption | trivial
              case' rzz176 => simp only [Act.put, List.setIfInBounds_toArray, List.set_cons_zero, List.set_cons_succ]
              refine wpAnyH_ready (rs := [29]) (by kernel_rfl) (by simp) ?_
              refine AllReadyH.cons (o := ?ozz181) ?hzz181 (fun K hK => ?kzz181) ?mzz181
              case hzz181 => simp only [List.getElem?_toArray, List.getElem?_cons_zero, List.getElem?_cons_succ]; rfl
              case kzz181 =>
                go_simp
                refine (K5.out _).mono ?_
                rintro e v6 ⟨rfl, q6⟩
                go_wp2_with fail
                refine hK.out _ _ ?Szz181 (fun hHeld => ?Rzz181)
                case Szz181 =>
                  exact hHeld.trans q6
                case Rzz181 =>
                  clear hK K
                  try simp only [Act.put, List.setIfInBounds_toArray, List.set_cons_zero, List.set_cons_succ]
                  refine wpAnyH_ready (rs := [32]) (by kernel_rfl) (by simp) ?_
                  refine AllReadyH.cons (o := ?ozz180) ?hzz180 (fun K hK => ?kzz180) ?mzz180
                  case hzz180 => simp only [List.getElem?_toArray, List.getElem?_cons_zero, List.getElem?_cons_succ]; rfl
                  case kzz180 =>
                    go_simp
                    refine (K6.out _).mono ?_
                    rintro e v7 ⟨rfl, q7⟩
                    go_wp2_with fail
                    refine hK.out _ _ ?Szz180 (fun hHeld => ?Rzz180)
                    case Szz180 =>
                      exact hHeld.trans q7
                    case Rzz180 =>
                      clear hK K
                      try simp only [Act.put, List.setIfInBounds_toArray, List.set_cons_zero, List.set_cons_succ]
                      refine wpAnyH_take (i := 33) (oi := ?ozz177) (v := ?vzz177) ?hzz177 ?azz177 ?bzz177 ?czz177 ?qzz177 ?yzz177 ?szz177 ?rzz177
                      case hzz177 => simp only [List.getElem?_toArray, List.getElem?_cons_zero, List.getElem?_cons_succ]; rfl
                      case azz177 => kernel_rfl
                      case bzz177 => kernel_rfl
                      case czz177 => kernel_rfl
                      case yzz177 =>
                        refine Or.inl ⟨by rfl, ?_⟩
                        intro w hSw
                        skip
                        go_simp
                        try with_reducible rfl
                      case qzz177 => exact fun _ _ _ h => h
                      case szz177 => first | assumption | trivial
                      case' rzz177 => simp only [Act.put, List.setIfInBounds_toArray, List.set_cons_zero, List.set_cons_succ]
                      refine wpAnyH_take (i := 34) (oi := ?ozz178) (v := ?vzz178) ?hzz178 ?azz178 ?bzz178 ?czz178 ?qzz178 ?yzz178 ?szz178 ?rzz178
                      case hzz178 => simp only [List.getElem?_toArray, List.getElem?_cons_zero, List.getElem?_cons_succ]; rfl
                      case azz178 => kernel_rfl
                      case bzz178 => kernel_rfl
                      case czz178 => kernel_rfl
                      case yzz178 =>
                        refine Or.inl ⟨by rfl, ?_⟩
                        intro w hSw
                        skip
                        go_simp
                        try with_reducible rfl
                      case qzz178 => exact fun _ _ _ h => h
                      case szz178 => first | assumption | trivial
                      case' rzz178 => simp only [Act.put, List.setIfInBounds_toArray, List.set_cons_zero, List.set_cons_succ]
                      refine wpAnyH_take (i := 35) (oi := ?ozz179) (v := ?vzz179) ?hzz179 ?azz179 ?bzz179 ?czz179 ?qzz179 ?yzz179 ?szz179 ?rzz179
                      case hzz179 => simp only [List.getElem?_toArray, List.getElem?_cons_zero, List.getElem?_cons_succ]; rfl
                      case azz179 => kernel_rfl
                      case bzz179 => kernel_rfl
                      case czz179 => kernel_rfl
                      case yzz179 =>
                        refine Or.inl ⟨by rfl, ?_⟩
                        intro w hSw
                        skip
                        go_simp
                        try with_reducible rfl
                      case qzz179 => exact fun _ _ _ h => h
                      case szz179 => first | assumption | trivial
                      case' rzz179 => simp only [Act.put, List.setIfInBounds_toArray, List.set_cons_zero, List.set_cons_succ]
                      refine wpAnyH_done (by kernel_rfl) ?_ _
                      go_wp2
                      go_ret
                      exact ⟨by first | rfl | (simp; done), BQ.out.trans hHeld⟩
                  case' mzz180 => skip
                  exact AllReadyH.nil
              case' mzz181 => skip
              exact AllReadyH.nil
          case' mzz182 => skip
          exact AllReadyH.nil
      case' mzz183 => skip
      exact AllReadyH.nil
  case' mzz184 => skip
  exact AllReadyH.nil
set_option maxHeartbeats 4000000 in
theorem walk_1001 (a : Wn) (b : Wn) (key : ByteArray) (w : World) (h1 : inS a key = true) (h2 : inS b key = false) (h3 : over a b = false) (h4 : lt a.lo b.lo = true) :
    Calls Try.prog 5 #[wnV a, wnV b, .string key] w fun e w' => e = .returned (.bool true) ∧ Q w w' := by
  have K1 := Lib.hid (fun W => sin_any a key W)
  rw [h1] at K1
  have K2 := Lib.hid (fun W => sin_any b key W)
  rw [h2] at K2
  have K3 := Lib.hid (fun W => sover_any a b W)
  rw [h3] at K3
  have K4 := Lib.hid (fun W => sover_any b a W)
  rw [over_comm b a, h3] at K4
  have K5 := Lib.hid (fun W => sclash_any a b W)
  have K6 := Lib.hid (fun W => sclash_any b a W)
  rw [clash_comm b a] at K6
  have KA := Lib.hid (fun W => sin_any a (mx a.lo b.lo) W)
  have KB := Lib.hid (fun W => sin_any b (mx a.lo b.lo) W)
  rw [show mx a.lo b.lo = b.lo by unfold mx; rw [h4]; rfl] at KA KB
  have e4 := lt_data a.lo b.lo
  rw [h4] at e4
  have r1 := beq_rr (clash a b)
  generalize clash a b = y at *
  clear h1 h2 h3 h4
  have B := wn_box2 w a b
  try unfold wnV at *
  go_enter Try.func5, Try.ntmps5
  go_wp2_with fail
  generalize ((w.alloc (.cells #[.int .i64 a.mode, .string a.lo, .string a.hi] 23)).alloc (.cells #[.int .i64 b.mode, .string b.lo, .string b.hi] 23)) = W0 at B ⊢
  obtain ⟨⟨c0, c1, c2⟩, ⟨c3, c4, c5⟩, bq⟩ := B
  change _ at bq
  refine (spshown_any _).mono ?_
  rintro e W ⟨rfl, q0⟩
  have c0 := box_ q0 c0
  have c1 := box_ q0 c1
  have c2 := box_ q0 c2
  have c3 := box_ q0 c3
  have c4 := box_ q0 c4
  have c5 := box_ q0 c5
  have BQ := Lib.hid (bq.trans q0)
  clear bq q0
  go_wp2_with fail
  refine (K1.out _).mono ?_
  rintro e w1 ⟨rfl, q1⟩
  have c0 := box_ q1 c0
  have c1 := box_ q1 c1
  have c2 := box_ q1 c2
  have c3 := box_ q1 c3
  have c4 := box_ q1 c4
  have c5 := box_ q1 c5
  have BQ := Lib.hid (BQ.out.trans q1)
  clear q1
  go_wp2_with fail
  refine (K2.out _).mono ?_
  rintro e w2 ⟨rfl, q2⟩
  have c0 := box_ q2 c0
  have c1 := box_ q2 c1
  have c2 := box_ q2 c2
  have c3 := box_ q2 c3
  have c4 := box_ q2 c4
  have c5 := box_ q2 c5
  have BQ := Lib.hid (BQ.out.trans q2)
  clear q2
  go_wp2
  refine wp_region_held_drew (S := Q w2) (by kernel_rfl) ?szz185 (fun hHeld => ?rzz185)
  case szz185 =>
    exact (Q.refl w2).drew
  case' rzz185 => skip
  refine wpAnyH_take (i := 0) (oi := ?ozz186) (v := ?vzz186) ?hzz186 ?azz186 ?bzz186 ?czz186 ?qzz186 ?yzz186 ?szz186 ?rzz186
  case hzz186 => simp only [List.getElem?_toArray, List.getElem?_cons_zero]; rfl
  case azz186 => kernel_rfl
  case bzz186 => kernel_rfl
  case czz186 => kernel_rfl
  case yzz186 =>
    refine Or.inl ⟨by rfl, ?_⟩
    intro w hSw
    skip
    go_simp
    try with_reducible rfl
  case qzz186 => exact fun _ _ _ h => h
  case szz186 => first | assumption | trivial
  case' rzz186 => simp only [Act.put, List.setIfInBounds_toArray, List.set_cons_zero, List.set_cons_succ]
  refine wpAnyH_take (i := 1) (oi := ?ozz187) (v := ?vzz187) ?hzz187 ?azz187 ?bzz187 ?czz187 ?qzz187 ?yzz187 ?szz187 ?rzz187
  case hzz187 => simp only [List.getElem?_toArray, List.getElem?_cons_zero, List.getElem?_cons_succ]; rfl
  case azz187 => kernel_rfl
  case bzz187 => kernel_rfl
  case czz187 => kernel_rfl
  case yzz187 =>
    refine Or.inl ⟨by rfl, ?_⟩
    intro w hSw
    skip
    go_simp
    try with_reducible rfl
  case qzz187 => exact fun _ _ _ h => h
  case szz187 => first | assumption | trivial
  case' rzz187 => simp only [Act.put, List.setIfInBounds_toArray, List.set_cons_zero, List.set_cons_succ]
  refine wpAnyH_take (i := 2) (oi := ?ozz188) (v := ?vzz188) ?hzz188 ?azz188 ?bzz188 ?czz188 ?qzz188 ?yzz188 ?szz188 ?rzz188
  case hzz188 => simp only [List.getElem?_toArray, List.getElem?_cons_zero, List.getElem?_cons_succ]; rfl
  case azz188 => kernel_rfl
  case bzz188 => kernel_rfl
  case czz188 => kernel_rfl
  case yzz188 =>
    refine Or.inl ⟨by rfl, ?_⟩
    intro w hSw
    have x0 := box_ hSw c0; have x1 := box_ hSw c1; have x2 := box_ hSw c2; have x3 := box_ hSw c3; have x4 := box_ hSw c4; have x5 := box_ hSw c5; clear hSw
    go_simp
    try with_reducible rfl
  case qzz188 => exact fun _ _ _ h => h
  case szz188 => first | assumption | trivial
  case' rzz188 => simp only [Act.put, List.setIfInBounds_toArray, List.set_cons_zero, List.set_cons_succ]
  refine wpAnyH_take (i := 3) (oi := ?ozz189) (v := ?vzz189) ?hzz189 ?azz189 ?bzz189 ?czz189 ?qzz189 ?yzz189 ?szz189 ?rzz189
  case hzz189 => simp only [List.getElem?_toArray, List.getElem?_cons_zero, List.getElem?_cons_succ]; rfl
  case azz189 => kernel_rfl
  case bzz189 => kernel_rfl
  case czz189 => kernel_rfl
  case yzz189 =>
    refine Or.inl ⟨by rfl, ?_⟩
    intro w hSw
    have x0 := box_ hSw c0; have x1 := box_ hSw c1; have x2 := box_ hSw c2; have x3 := box_ hSw c3; have x4 := box_ hSw c4; have x5 := box_ hSw c5; clear hSw
    go_simp
    try with_reducible rfl
  case qzz189 => exact fun _ _ _ h => h
  case szz189 => first | assumption | trivial
  case' rzz189 => simp only [Act.put, List.setIfInBounds_toArray, List.set_cons_zero, List.set_cons_succ]
  refine wpAnyH_ready (rs := [4]) (by kernel_rfl) (by simp) ?_
  refine AllReadyH.cons (o := ?ozz221) ?hzz221 (fun K hK => ?kzz221) ?mzz221
  case hzz221 => simp only [List.getElem?_toArray, List.getElem?_cons_zero, List.getElem?_cons_succ]; rfl
  case kzz221 =>
    go_simp
    refine (K3.out _).mono ?_
    rintro e v1 ⟨rfl, q1⟩
    go_wp2_with fail
    refine hK.out _ _ ?Szz221 (fun hHeld => ?Rzz221)
    case Szz221 =>
      exact hHeld.trans q1
    case Rzz221 =>
      clear hK K
      try simp only [Act.put, List.setIfInBounds_toArray, List.set_cons_zero, List.set_cons_succ]
      refine wpAnyH_take (i := 5) (oi := ?ozz190) (v := ?vzz190) ?hzz190 ?azz190 ?bzz190 ?czz190 ?qzz190 ?yzz190 ?szz190 ?rzz190
      case hzz190 => simp only [List.getElem?_toArray, List.getElem?_cons_zero, List.getElem?_cons_succ]; rfl
      case azz190 => kernel_rfl
      case bzz190 => kernel_rfl
      case czz190 => kernel_rfl
      case yzz190 =>
        refine Or.inl ⟨by rfl, ?_⟩
        intro w hSw
        skip
        go_simp
        try with_reducible rfl
      case qzz190 => exact fun _ _ _ h => h
      case szz190 => first | assumption | trivial
      case' rzz190 => simp only [Act.put, List.setIfInBounds_toArray, List.set_cons_zero, List.set_cons_succ]
      refine wpAnyH_take (i := 6) (oi := ?ozz191) (v := ?vzz191) ?hzz191 ?azz191 ?bzz191 ?czz191 ?qzz191 ?yzz191 ?szz191 ?rzz191
      case hzz191 => simp only [List.getElem?_toArray, List.getElem?_cons_zero, List.getElem?_cons_succ]; rfl
      case azz191 => kernel_rfl
      case bzz191 => kernel_rfl
      case czz191 => kernel_rfl
      case yzz191 =>
        refine Or.inl ⟨by rfl, ?_⟩
        intro w hSw
        skip
        go_simp
        try with_reducible rfl
      case qzz191 => exact fun _ _ _ h => h
      case szz191 => first | assumption | trivial
      case' rzz191 => simp only [Act.put, List.setIfInBounds_toArray, List.set_cons_zero, List.set_cons_succ]
      refine wpAnyH_take (i := 7) (oi := ?ozz192) (v := undef) ?hzz192 ?azz192 ?bzz192 ?czz192 ?qzz192 ?yzz192 ?szz192 ?rzz192
      case hzz192 => simp only [List.getElem?_toArray, List.getElem?_cons_zero, List.getElem?_cons_succ]; rfl
      case azz192 => kernel_rfl
      case bzz192 => kernel_rfl
      case czz192 => kernel_rfl
      case yzz192 => exact Or.inr ⟨by rfl, rfl⟩
      case qzz192 => exact fun _ _ _ h => h
      case szz192 => first | assumption | trivial
      case' rzz192 => simp only [Act.put, List.setIfInBounds_toArray, List.set_cons_zero, List.set_cons_succ]
      refine wpAnyH_take (i := 8) (oi := ?ozz193) (v := undef) ?hzz193 ?azz193 ?bzz193 ?czz193 ?qzz193 ?yzz193 ?szz193 ?rzz193
      case hzz193 => simp only [List.getElem?_toArray, List.getElem?_cons_zero, List.getElem?_cons_succ]; rfl
      case azz193 => kernel_rfl
      case bzz193 => kernel_rfl
      case czz193 => kernel_rfl
      case yzz193 => exact Or.inr ⟨by rfl, rfl⟩
      case qzz193 => exact fun _ _ _ h => h
      case szz193 => first | assumption | trivial
      case' rzz193 => simp only [Act.put, List.setIfInBounds_toArray, List.set_cons_zero, List.set_cons_succ]
      refine wpAnyH_take (i := 9) (oi := ?ozz194) (v := undef) ?hzz194 ?azz194 ?bzz194 ?czz194 ?qzz194 ?yzz194 ?szz194 ?rzz194
      case hzz194 => simp only [List.getElem?_toArray, List.getElem?_cons_zero, List.getElem?_cons_succ]; rfl
      case azz194 => kernel_rfl
      case bzz194 => kernel_rfl
      case czz194 => kernel_rfl
      case yzz194 => exact Or.inr ⟨by rfl, rfl⟩
      case qzz194 => exact fun _ _ _ h => h
      case szz194 => first | assumption | trivial
      case' rzz194 => simp only [Act.put, List.setIfInBounds_toArray, List.set_cons_zero, List.set_cons_succ]
      refine wpAnyH_take (i := 10) (oi := ?ozz195) (v := undef) ?hzz195 ?azz195 ?bzz195 ?czz195 ?qzz195 ?yzz195 ?szz195 ?rzz195
      case hzz195 => simp only [List.getElem?_toArray, List.getElem?_cons_zero, List.getElem?_cons_succ]; rfl
      case azz195 => kernel_rfl
      case bzz195 => kernel_rfl
      case czz195 => kernel_rfl
      case yzz195 => exact Or.inr ⟨by rfl, rfl⟩
      case qzz195 => exact fun _ _ _ h => h
      case szz195 => first | assumption | trivial
      case' rzz195 => simp only [Act.put, List.setIfInBounds_toArray, List.set_cons_zero, List.set_cons_succ]
      refine wpAnyH_take (i := 11) (oi := ?ozz196) (v := undef) ?hzz196 ?azz196 ?bzz196 ?czz196 ?qzz196 ?yzz196 ?szz196 ?rzz196
      case hzz196 => simp only [List.getElem?_toArray, List.getElem?_cons_zero, List.getElem?_cons_succ]; rfl
      case azz196 => kernel_rfl
      case bzz196 => kernel_rfl
      case czz196 => kernel_rfl
      case yzz196 => exact Or.inr ⟨by rfl, rfl⟩
      case qzz196 => exact fun _ _ _ h => h
      case szz196 => first | assumption | trivial
      case' rzz196 => simp only [Act.put, List.setIfInBounds_toArray, List.set_cons_zero, List.set_cons_succ]
      refine wpAnyH_take (i := 12) (oi := ?ozz197) (v := undef) ?hzz197 ?azz197 ?bzz197 ?czz197 ?qzz197 ?yzz197 ?szz197 ?rzz197
      case hzz197 => simp only [List.getElem?_toArray, List.getElem?_cons_zero, List.getElem?_cons_succ]; rfl
      case azz197 => kernel_rfl
      case bzz197 => kernel_rfl
      case czz197 => kernel_rfl
      case yzz197 => exact Or.inr ⟨by rfl, rfl⟩
      case qzz197 => exact fun _ _ _ h => h
      case szz197 => first | assumption | trivial
      case' rzz197 => simp only [Act.put, List.setIfInBounds_toArray, List.set_cons_zero, List.set_cons_succ]
      refine wpAnyH_take (i := 13) (oi := ?ozz198) (v := undef) ?hzz198 ?azz198 ?bzz198 ?czz198 ?qzz198 ?yzz198 ?szz198 ?rzz198
      case hzz198 => simp only [List.getElem?_toArray, List.getElem?_cons_zero, List.getElem?_cons_succ]; rfl
      case azz198 => kernel_rfl
      case bzz198 => kernel_rfl
      case czz198 => kernel_rfl
      case yzz198 => exact Or.inr ⟨by rfl, rfl⟩
      case qzz198 => exact fun _ _ _ h => h
      case szz198 => first | assumption | trivial
      case' rzz198 => simp only [Act.put, List.setIfInBounds_toArray, List.set_cons_zero, List.set_cons_succ]
      refine wpAnyH_take (i := 14) (oi := ?ozz199) (v := undef) ?hzz199 ?azz199 ?bzz199 ?czz199 ?qzz199 ?yzz199 ?szz199 ?rzz199
      case hzz199 => simp only [List.getElem?_toArray, List.getElem?_cons_zero, List.getElem?_cons_succ]; rfl
      case azz199 => kernel_rfl
      case bzz199 => kernel_rfl
      case czz199 => kernel_rfl
      case yzz199 => exact Or.inr ⟨by rfl, rfl⟩
      case qzz199 => exact fun _ _ _ h => h
      case szz199 => first | assumption | trivial
      case' rzz199 => simp only [Act.put, List.setIfInBounds_toArray, List.set_cons_zero, List.set_cons_succ]
      refine wpAnyH_take (i := 15) (oi := ?ozz200) (v := ?vzz200) ?hzz200 ?azz200 ?bzz200 ?czz200 ?qzz200 ?yzz200 ?szz200 ?rzz200
      case hzz200 => simp only [List.getElem?_toArray, List.getElem?_cons_zero, List.getElem?_cons_succ]; rfl
      case azz200 => kernel_rfl
      case bzz200 => kernel_rfl
      case czz200 => kernel_rfl
      case yzz200 =>
        refine Or.inl ⟨by rfl, ?_⟩
        intro w hSw
        skip
        go_simp
        try with_reducible rfl
      case qzz200 => exact fun _ _ _ h => h
      case szz200 => first | assumption | trivial
      case' rzz200 => simp only [Act.put, List.setIfInBounds_toArray, List.set_cons_zero, List.set_cons_succ]
      refine wpAnyH_take (i := 16) (oi := ?ozz201) (v := ?vzz201) ?hzz201 ?azz201 ?bzz201 ?czz201 ?qzz201 ?yzz201 ?szz201 ?rzz201
      case hzz201 => simp only [List.getElem?_toArray, List.getElem?_cons_zero, List.getElem?_cons_succ]; rfl
      case azz201 => kernel_rfl
      case bzz201 => kernel_rfl
      case czz201 => kernel_rfl
      case yzz201 =>
        refine Or.inl ⟨by rfl, ?_⟩
        intro w hSw
        skip
        go_simp
        try with_reducible rfl
      case qzz201 => exact fun _ _ _ h => h
      case szz201 => first | assumption | trivial
      case' rzz201 => simp only [Act.put, List.setIfInBounds_toArray, List.set_cons_zero, List.set_cons_succ]
      refine wpAnyH_take (i := 17) (oi := ?ozz202) (v := ?vzz202) ?hzz202 ?azz202 ?bzz202 ?czz202 ?qzz202 ?yzz202 ?szz202 ?rzz202
      case hzz202 => simp only [List.getElem?_toArray, List.getElem?_cons_zero, List.getElem?_cons_succ]; rfl
      case azz202 => kernel_rfl
      case bzz202 => kernel_rfl
      case czz202 => kernel_rfl
      case yzz202 =>
        refine Or.inl ⟨by rfl, ?_⟩
        intro w hSw
        skip
        go_simp
        try with_reducible rfl
      case qzz202 => exact fun _ _ _ h => h
      case szz202 => first | assumption | trivial
      case' rzz202 => simp only [Act.put, List.setIfInBounds_toArray, List.set_cons_zero, List.set_cons_succ]
      refine wpAnyH_take (i := 18) (oi := ?ozz203) (v := ?vzz203) ?hzz203 ?azz203 ?bzz203 ?czz203 ?qzz203 ?yzz203 ?szz203 ?rzz203
      case hzz203 => simp only [List.getElem?_toArray, List.getElem?_cons_zero, List.getElem?_cons_succ]; rfl
      case azz203 => kernel_rfl
      case bzz203 => kernel_rfl
      case czz203 => kernel_rfl
      case yzz203 =>
        refine Or.inl ⟨by rfl, ?_⟩
        intro w hSw
        have x0 := box_ hSw c0; have x1 := box_ hSw c1; have x2 := box_ hSw c2; have x3 := box_ hSw c3; have x4 := box_ hSw c4; have x5 := box_ hSw c5; clear hSw
        go_simp
        try with_reducible rfl
      case qzz203 => exact fun _ _ _ h => h
      case szz203 => first | assumption | trivial
      case' rzz203 => simp only [Act.put, List.setIfInBounds_toArray, List.set_cons_zero, List.set_cons_succ]
      refine wpAnyH_take (i := 19) (oi := ?ozz204) (v := ?vzz204) ?hzz204 ?azz204 ?bzz204 ?czz204 ?qzz204 ?yzz204 ?szz204 ?rzz204
      case hzz204 => simp only [List.getElem?_toArray, List.getElem?_cons_zero, List.getElem?_cons_succ]; rfl
      case azz204 => kernel_rfl
      case bzz204 => kernel_rfl
      case czz204 => kernel_rfl
      case yzz204 =>
        refine Or.inl ⟨by rfl, ?_⟩
        intro w hSw
        have x0 := box_ hSw c0; have x1 := box_ hSw c1; have x2 := box_ hSw c2; have x3 := box_ hSw c3; have x4 := box_ hSw c4; have x5 := box_ hSw c5; clear hSw
        go_simp
        try with_reducible rfl
      case qzz204 => exact fun _ _ _ h => h
      case szz204 => first | assumption | trivial
      case' rzz204 => simp only [Act.put, List.setIfInBounds_toArray, List.set_cons_zero, List.set_cons_succ]
      refine wpAnyH_take (i := 21) (oi := ?ozz205) (v := ?vzz205) ?hzz205 ?azz205 ?bzz205 ?czz205 ?qzz205 ?yzz205 ?szz205 ?rzz205
      case hzz205 => simp only [List.getElem?_toArray, List.getElem?_cons_zero, List.getElem?_cons_succ]; rfl
      case azz205 => kernel_rfl
      case bzz205 => kernel_rfl
      case czz205 => kernel_rfl
      case yzz205 =>
        refine Or.inl ⟨by rfl, ?_⟩
        intro w hSw
        have x0 := box_ hSw c0; have x1 := box_ hSw c1; have x2 := box_ hSw c2; have x3 := box_ hSw c3; have x4 := box_ hSw c4; have x5 := box_ hSw c5; clear hSw
        go_simp
        try with_reducible rfl
      case qzz205 => exact fun _ _ _ h => h
      case szz205 => first | assumption | trivial
      case' rzz205 => simp only [Act.put, List.setIfInBounds_toArray, List.set_cons_zero, List.set_cons_succ]
      refine wpAnyH_take (i := 22) (oi := ?ozz206) (v := ?vzz206) ?hzz206 ?azz206 ?bzz206 ?czz206 ?qzz206 ?yzz206 ?szz206 ?rzz206
      case hzz206 => simp only [List.getElem?_toArray, List.getElem?_cons_zero, List.getElem?_cons_succ]; rfl
      case azz206 => kernel_rfl
      case bzz206 => kernel_rfl
      case czz206 => kernel_rfl
      case yzz206 =>
        refine Or.inl ⟨by rfl, ?_⟩
        intro w hSw
        have x0 := box_ hSw c0; have x1 := box_ hSw c1; have x2 := box_ hSw c2; have x3 := box_ hSw c3; have x4 := box_ hSw c4; have x5 := box_ hSw c5; clear hSw
        go_simp
        try with_reducible rfl
      case qzz206 => exact fun _ _ _ h => h
      case szz206 => first | assumption | trivial
      case' rzz206 => simp only [Act.put, List.setIfInBounds_toArray, List.set_cons_zero, List.set_cons_succ]
      refine wpAnyH_ready (rs := [20]) (by kernel_rfl) (by simp) ?_
      refine AllReadyH.cons (o := ?ozz220) ?hzz220 (fun K hK => ?kzz220) ?mzz220
      case hzz220 => simp only [List.getElem?_toArray, List.getElem?_cons_zero, List.getElem?_cons_succ]; rfl
      case kzz220 =>
        go_simp
        refine (K3.out _).mono ?_
        rintro e v4 ⟨rfl, q4⟩
        go_wp2_with fail
        refine hK.out _ _ ?Szz220 (fun hHeld => ?Rzz220)
        case Szz220 =>
          exact hHeld.trans q4
        case Rzz220 =>
          clear hK K
          try simp only [Act.put, List.setIfInBounds_toArray, List.set_cons_zero, List.set_cons_succ]
          refine wpAnyH_ready (rs := [23]) (by kernel_rfl) (by simp) ?_
          refine AllReadyH.cons (o := ?ozz219) ?hzz219 (fun K hK => ?kzz219) ?mzz219
          case hzz219 => simp only [List.getElem?_toArray, List.getElem?_cons_zero, List.getElem?_cons_succ]; rfl
          case kzz219 =>
            go_simp
            refine (K4.out _).mono ?_
            rintro e v5 ⟨rfl, q5⟩
            go_wp2_with fail
            refine hK.out _ _ ?Szz219 (fun hHeld => ?Rzz219)
            case Szz219 =>
              exact hHeld.trans q5
            case Rzz219 =>
              clear hK K
              try simp only [Act.put, List.setIfInBounds_toArray, List.set_cons_zero, List.set_cons_succ]
              refine wpAnyH_take (i := 24) (oi := ?ozz207) (v := ?vzz207) ?hzz207 ?azz207 ?bzz207 ?czz207 ?qzz207 ?yzz207 ?szz207 ?rzz207
              case hzz207 => simp only [List.getElem?_toArray, List.getElem?_cons_zero, List.getElem?_cons_succ]; rfl
              case azz207 => kernel_rfl
              case bzz207 => kernel_rfl
              case czz207 => kernel_rfl
              case yzz207 =>
                refine Or.inl ⟨by rfl, ?_⟩
                intro w hSw
                skip
                go_simp
                try with_reducible rfl
              case qzz207 => exact fun _ _ _ h => h
              case szz207 => first | assumption | trivial
              case' rzz207 => simp only [Act.put, List.setIfInBounds_toArray, List.set_cons_zero, List.set_cons_succ]
              refine wpAnyH_take (i := 25) (oi := ?ozz208) (v := ?vzz208) ?hzz208 ?azz208 ?bzz208 ?czz208 ?qzz208 ?yzz208 ?szz208 ?rzz208
              case hzz208 => simp only [List.getElem?_toArray, List.getElem?_cons_zero, List.getElem?_cons_succ]; rfl
              case azz208 => kernel_rfl
              case bzz208 => kernel_rfl
              case czz208 => kernel_rfl
              case yzz208 =>
                refine Or.inl ⟨by rfl, ?_⟩
                intro w hSw
                skip
                go_simp
                try with_reducible rfl
              case qzz208 => exact fun _ _ _ h => h
              case szz208 => first | assumption | trivial
              case' rzz208 => simp only [Act.put, List.setIfInBounds_toArray, List.set_cons_zero, List.set_cons_succ]
              refine wpAnyH_take (i := 26) (oi := ?ozz209) (v := ?vzz209) ?hzz209 ?azz209 ?bzz209 ?czz209 ?qzz209 ?yzz209 ?szz209 ?rzz209
              case hzz209 => simp only [List.getElem?_toArray, List.getElem?_cons_zero, List.getElem?_cons_succ]; rfl
              case azz209 => kernel_rfl
              case bzz209 => kernel_rfl
              case czz209 => kernel_rfl
              case yzz209 =>
                refine Or.inl ⟨by rfl, ?_⟩
                intro w hSw
                skip
                go_simp
                try with_reducible rfl
              case qzz209 => exact fun _ _ _ h => h
              case szz209 => first | assumption | trivial
              case' rzz209 => simp only [Act.put, List.setIfInBounds_toArray, List.set_cons_zero, List.set_cons_succ]
              refine wpAnyH_take (i := 27) (oi := ?ozz210) (v := ?vzz210) ?hzz210 ?azz210 ?bzz210 ?czz210 ?qzz210 ?yzz210 ?szz210 ?rzz210
              case hzz210 => simp only [List.getElem?_toArray, List.getElem?_cons_zero, List.getElem?_cons_succ]; rfl
              case azz210 => kernel_rfl
              case bzz210 => kernel_rfl
              case czz210 => kernel_rfl
              case yzz210 =>
                refine Or.inl ⟨by rfl, ?_⟩
                intro w hSw
                have x0 := box_ hSw c0; have x1 := box_ hSw c1; have x2 := box_ hSw c2; have x3 := box_ hSw c3; have x4 := box_ hSw c4; have x5 := box_ hSw c5; clear hSw
                go_simp
                try with_reducible rfl
              case qzz210 => exact fun _ _ _ h => h
              case szz210 => first | assumption | trivial
              case' rzz210 => simp only [Act.put, List.setIfInBounds_toArray, List.set_cons_zero, List.set_cons_succ]
              refine wpAnyH_take (i := 28) (oi := ?ozz211) (v := ?vzz211) ?hzz211 ?azz211 ?bzz211 ?czz211 ?qzz211 ?yzz211 ?szz211 ?rzz211
              case hzz211 => simp only [List.getElem?_toArray, List.getElem?_cons_zero, List.getElem?_cons_succ]; rfl
              case azz211 => kernel_rfl
              case bzz211 => kernel_rfl
              case czz211 => kernel_rfl
              case yzz211 =>
                refine Or.inl ⟨by rfl, ?_⟩
                intro w hSw
                have x0 := box_ hSw c0; have x1 := box_ hSw c1; have x2 := box_ hSw c2; have x3 := box_ hSw c3; have x4 := box_ hSw c4; have x5 := box_ hSw c5; clear hSw
                go_simp
                try with_reducible rfl
              case qzz211 => exact fun _ _ _ h => h
              case szz211 => first | assumption | trivial
              case' rzz211 => simp only [Act.put, List.setIfInBounds_toArray, List.set_cons_zero, List.set_cons_succ]
              refine wpAnyH_take (i := 30) (oi := ?ozz212) (v := ?vzz212) ?hzz212 ?azz212 ?bzz212 ?czz212 ?qzz212 ?yzz212 ?szz212 ?rzz212
              case hzz212 => simp only [List.getElem?_toArray, List.getElem?_cons_zero, List.getElem?_cons_succ]; rfl
              case azz212 => kernel_rfl
              case bzz212 => kernel_rfl
              case czz212 => kernel_rfl
              case yzz212 =>
                refine Or.inl ⟨by rfl, ?_⟩
                intro w hSw
                have x0 := box_ hSw c0; have x1 := box_ hSw c1; have x2 := box_ hSw c2; have x3 := box_ hSw c3; have x4 := box_ hSw c4; have x5 := box_ hSw c5; clear hSw
                go_simp
                try with_reducible rfl
              case qzz212 => exact fun _ _ _ h => h
              case szz212 => first | assumption | trivial
              case' rzz212 => simp only [Act.put, List.setIfInBounds_toArray, List.set_cons_zero, List.set_cons_succ]
              refine wpAnyH_take (i := 31) (oi := ?ozz213) (v := ?vzz213) ?hzz213 ?azz213 ?bzz213 ?czz213 ?qzz213 ?yzz213 ?szz213 ?rzz213
              case hzz213 => simp only [List.getElem?_toArray, List.getElem?_cons_zero, List.getElem?_cons_succ]; rfl
              case azz213 => kernel_rfl
              case bzz213 => kernel_rfl
              case czz213 => kernel_rfl
              case yzz213 =>
                refine Or.inl ⟨by rfl, ?_⟩
                intro w hSw
                have x0 := box_ hSw c0; have x1 := box_ hSw c1; have x2 := box_ hSw c2; have x3 := box_ hSw c3; have x4 := box_ hSw c4; have x5 := box_ hSw c5; clear hSw
                go_simp
                try with_reducible rfl
              case qzz213 => exact fun _ _ _ h => h
              case szz213 => first | assumption | trivial
              case' rzz213 => simp only [Act.put, List.setIfInBounds_toArray, List.set_cons_zero, List.set_cons_succ]
              refine wpAnyH_ready (rs := [29]) (by kernel_rfl) (by simp) ?_
              refine AllReadyH.cons (o := ?ozz218) ?hzz218 (fun K hK => ?kzz218) ?mzz218
              case hzz218 => simp only [List.getElem?_toArray, List.getElem?_cons_zero, List.getElem?_cons_succ]; rfl
              case kzz218 =>
                go_simp
                refine (K5.out _).mono ?_
                rintro e v6 ⟨rfl, q6⟩
                go_wp2_with fail
                refine hK.out _ _ ?Szz218 (fun hHeld => ?Rzz218)
                case Szz218 =>
                  exact hHeld.trans q6
                case Rzz218 =>
                  clear hK K
                  try simp only [Act.put, List.setIfInBounds_toArray, List.set_cons_zero, List.set_cons_succ]
                  refine wpAnyH_ready (rs := [32]) (by kernel_rfl) (by simp) ?_
                  refine AllReadyH.cons (o := ?ozz217) ?hzz217 (fun K hK => ?kzz217) ?mzz217
                  case hzz217 => simp only [List.getElem?_toArray, List.getElem?_cons_zero, List.getElem?_cons_succ]; rfl
                  case kzz217 =>
                    go_simp
                    refine (K6.out _).mono ?_
                    rintro e v7 ⟨rfl, q7⟩
                    go_wp2_with fail
                    refine hK.out _ _ ?Szz217 (fun hHeld => ?Rzz217)
                    case Szz217 =>
                      exact hHeld.trans q7
                    case Rzz217 =>
                      clear hK K
                      try simp only [Act.put, List.setIfInBounds_toArray, List.set_cons_zero, List.set_cons_succ]
                      refine wpAnyH_take (i := 33) (oi := ?ozz214) (v := ?vzz214) ?hzz214 ?azz214 ?bzz214 ?czz214 ?qzz214 ?yzz214 ?szz214 ?rzz214
                      case hzz214 => simp only [List.getElem?_toArray, List.getElem?_cons_zero, List.getElem?_cons_succ]; rfl
                      case azz214 => kernel_rfl
                      case bzz214 => kernel_rfl
                      case czz214 => kernel_rfl
                      case yzz214 =>
                        refine Or.inl ⟨by rfl, ?_⟩
                        intro w hSw
                        skip
                        go_simp
                        try with_reducible rfl
                      case qzz214 => exact fun _ _ _ h => h
                      case szz214 => first | assumption | trivial
                      case' rzz214 => simp only [Act.put, List.setIfInBounds_toArray, List.set_cons_zero, List.set_cons_succ]
                      refine wpAnyH_take (i := 34) (oi := ?ozz215) (v := ?vzz215) ?hzz215 ?azz215 ?bzz215 ?czz215 ?qzz215 ?yzz215 ?szz215 ?rzz215
                      case hzz215 => simp only [List.getElem?_toArray, List.getElem?_cons_zero, List.getElem?_cons_succ]; rfl
                      case azz215 => kernel_rfl
                      case bzz215 => kernel_rfl
                      case czz215 => kernel_rfl
                      case yzz215 =>
                        refine Or.inl ⟨by rfl, ?_⟩
                        intro w hSw
                        skip
                        go_simp
                        try with_reducible rfl
                      case qzz215 => exact fun _ _ _ h => h
                      case szz215 => first | assumption | trivial
                      case' rzz215 => simp only [Act.put, List.setIfInBounds_toArray, List.set_cons_zero, List.set_cons_succ]
                      refine wpAnyH_take (i := 35) (oi := ?ozz216) (v := ?vzz216) ?hzz216 ?azz216 ?bzz216 ?czz216 ?qzz216 ?yzz216 ?szz216 ?rzz216
                      case hzz216 => simp only [List.getElem?_toArray, List.getElem?_cons_zero, List.getElem?_cons_succ]; rfl
                      case azz216 => kernel_rfl
                      case bzz216 => kernel_rfl
                      case czz216 => kernel_rfl
                      case yzz216 =>
                        refine Or.inl ⟨by rfl, ?_⟩
                        intro w hSw
                        skip
                        go_simp
                        try with_reducible rfl
                      case qzz216 => exact fun _ _ _ h => h
                      case szz216 => first | assumption | trivial
                      case' rzz216 => simp only [Act.put, List.setIfInBounds_toArray, List.set_cons_zero, List.set_cons_succ]
                      refine wpAnyH_done (by kernel_rfl) ?_ _
                      go_wp2
                      go_ret
                      exact ⟨by first | rfl | (simp; done), BQ.out.trans hHeld⟩
                  case' mzz217 => skip
                  exact AllReadyH.nil
              case' mzz218 => skip
              exact AllReadyH.nil
          case' mzz219 => skip
          exact AllReadyH.nil
      case' mzz220 => skip
      exact AllReadyH.nil
  case' mzz221 => skip
  exact AllReadyH.nil
set_option maxHeartbeats 4000000 in
theorem walk_1010 (a : Wn) (b : Wn) (key : ByteArray) (w : World) (h1 : inS a key = true) (h2 : inS b key = false) (h3 : over a b = true) (h4 : lt a.lo b.lo = false) :
    Calls Try.prog 5 #[wnV a, wnV b, .string key] w fun e w' => e = .returned (.bool true) ∧ Q w w' := by
  have K1 := Lib.hid (fun W => sin_any a key W)
  rw [h1] at K1
  have K2 := Lib.hid (fun W => sin_any b key W)
  rw [h2] at K2
  have K3 := Lib.hid (fun W => sover_any a b W)
  rw [h3] at K3
  have K4 := Lib.hid (fun W => sover_any b a W)
  rw [over_comm b a, h3] at K4
  have K5 := Lib.hid (fun W => sclash_any a b W)
  have K6 := Lib.hid (fun W => sclash_any b a W)
  rw [clash_comm b a] at K6
  have KA := Lib.hid (fun W => sin_any a (mx a.lo b.lo) W)
  have KB := Lib.hid (fun W => sin_any b (mx a.lo b.lo) W)
  have hw := witness2 a b
  rw [h3, Bool.not_true, Bool.false_or, Bool.and_eq_true] at hw
  rw [hw.1] at KA
  rw [hw.2] at KB
  clear hw
  rw [show mx a.lo b.lo = a.lo by unfold mx; rw [h4]; rfl] at KA KB
  have e4 := lt_data a.lo b.lo
  rw [h4] at e4
  have r1 := beq_rr (clash a b)
  generalize clash a b = y at *
  clear h1 h2 h3 h4
  have B := wn_box2 w a b
  try unfold wnV at *
  go_enter Try.func5, Try.ntmps5
  go_wp2_with fail
  generalize ((w.alloc (.cells #[.int .i64 a.mode, .string a.lo, .string a.hi] 23)).alloc (.cells #[.int .i64 b.mode, .string b.lo, .string b.hi] 23)) = W0 at B ⊢
  obtain ⟨⟨c0, c1, c2⟩, ⟨c3, c4, c5⟩, bq⟩ := B
  change _ at bq
  refine (spshown_any _).mono ?_
  rintro e W ⟨rfl, q0⟩
  have c0 := box_ q0 c0
  have c1 := box_ q0 c1
  have c2 := box_ q0 c2
  have c3 := box_ q0 c3
  have c4 := box_ q0 c4
  have c5 := box_ q0 c5
  have BQ := Lib.hid (bq.trans q0)
  clear bq q0
  go_wp2_with fail
  refine (K1.out _).mono ?_
  rintro e w1 ⟨rfl, q1⟩
  have c0 := box_ q1 c0
  have c1 := box_ q1 c1
  have c2 := box_ q1 c2
  have c3 := box_ q1 c3
  have c4 := box_ q1 c4
  have c5 := box_ q1 c5
  have BQ := Lib.hid (BQ.out.trans q1)
  clear q1
  go_wp2_with fail
  refine (K2.out _).mono ?_
  rintro e w2 ⟨rfl, q2⟩
  have c0 := box_ q2 c0
  have c1 := box_ q2 c1
  have c2 := box_ q2 c2
  have c3 := box_ q2 c3
  have c4 := box_ q2 c4
  have c5 := box_ q2 c5
  have BQ := Lib.hid (BQ.out.trans q2)
  clear q2
  go_wp2
  refine wp_region_held_drew (S := Q w2) (by kernel_rfl) ?szz222 (fun hHeld => ?rzz222)
  case szz222 =>
    exact (Q.refl w2).drew
  case' rzz222 => skip
  refine wpAnyH_take (i := 0) (oi := ?ozz223) (v := ?vzz223) ?hzz223 ?azz223 ?bzz223 ?czz223 ?qzz223 ?yzz223 ?szz223 ?rzz223
  case hzz223 => simp only [List.getElem?_toArray, List.getElem?_cons_zero]; rfl
  case azz223 => kernel_rfl
  case bzz223 => kernel_rfl
  case czz223 => kernel_rfl
  case yzz223 =>
    refine Or.inl ⟨by rfl, ?_⟩
    intro w hSw
    skip
    go_simp
    try with_reducible rfl
  case qzz223 => exact fun _ _ _ h => h
  case szz223 => first | assumption | trivial
  case' rzz223 => simp only [Act.put, List.setIfInBounds_toArray, List.set_cons_zero, List.set_cons_succ]
  refine wpAnyH_take (i := 1) (oi := ?ozz224) (v := ?vzz224) ?hzz224 ?azz224 ?bzz224 ?czz224 ?qzz224 ?yzz224 ?szz224 ?rzz224
  case hzz224 => simp only [List.getElem?_toArray, List.getElem?_cons_zero, List.getElem?_cons_succ]; rfl
  case azz224 => kernel_rfl
  case bzz224 => kernel_rfl
  case czz224 => kernel_rfl
  case yzz224 =>
    refine Or.inl ⟨by rfl, ?_⟩
    intro w hSw
    skip
    go_simp
    try with_reducible rfl
  case qzz224 => exact fun _ _ _ h => h
  case szz224 => first | assumption | trivial
  case' rzz224 => simp only [Act.put, List.setIfInBounds_toArray, List.set_cons_zero, List.set_cons_succ]
  refine wpAnyH_take (i := 2) (oi := ?ozz225) (v := ?vzz225) ?hzz225 ?azz225 ?bzz225 ?czz225 ?qzz225 ?yzz225 ?szz225 ?rzz225
  case hzz225 => simp only [List.getElem?_toArray, List.getElem?_cons_zero, List.getElem?_cons_succ]; rfl
  case azz225 => kernel_rfl
  case bzz225 => kernel_rfl
  case czz225 => kernel_rfl
  case yzz225 =>
    refine Or.inl ⟨by rfl, ?_⟩
    intro w hSw
    have x0 := box_ hSw c0; have x1 := box_ hSw c1; have x2 := box_ hSw c2; have x3 := box_ hSw c3; have x4 := box_ hSw c4; have x5 := box_ hSw c5; clear hSw
    go_simp
    try with_reducible rfl
  case qzz225 => exact fun _ _ _ h => h
  case szz225 => first | assumption | trivial
  case' rzz225 => simp only [Act.put, List.setIfInBounds_toArray, List.set_cons_zero, List.set_cons_succ]
  refine wpAnyH_take (i := 3) (oi := ?ozz226) (v := ?vzz226) ?hzz226 ?azz226 ?bzz226 ?czz226 ?qzz226 ?yzz226 ?szz226 ?rzz226
  case hzz226 => simp only [List.getElem?_toArray, List.getElem?_cons_zero, List.getElem?_cons_succ]; rfl
  case azz226 => kernel_rfl
  case bzz226 => kernel_rfl
  case czz226 => kernel_rfl
  case yzz226 =>
    refine Or.inl ⟨by rfl, ?_⟩
    intro w hSw
    have x0 := box_ hSw c0; have x1 := box_ hSw c1; have x2 := box_ hSw c2; have x3 := box_ hSw c3; have x4 := box_ hSw c4; have x5 := box_ hSw c5; clear hSw
    go_simp
    try with_reducible rfl
  case qzz226 => exact fun _ _ _ h => h
  case szz226 => first | assumption | trivial
  case' rzz226 => simp only [Act.put, List.setIfInBounds_toArray, List.set_cons_zero, List.set_cons_succ]
  refine wpAnyH_ready (rs := [4]) (by kernel_rfl) (by simp) ?_
  refine AllReadyH.cons (o := ?ozz258) ?hzz258 (fun K hK => ?kzz258) ?mzz258
  case hzz258 => simp only [List.getElem?_toArray, List.getElem?_cons_zero, List.getElem?_cons_succ]; rfl
  case kzz258 =>
    go_simp
    refine (K3.out _).mono ?_
    rintro e v1 ⟨rfl, q1⟩
    go_wp2_with fail
    refine hK.out _ _ ?Szz258 (fun hHeld => ?Rzz258)
    case Szz258 =>
      exact hHeld.trans q1
    case Rzz258 =>
      clear hK K
      try simp only [Act.put, List.setIfInBounds_toArray, List.set_cons_zero, List.set_cons_succ]
      refine wpAnyH_take (i := 5) (oi := ?ozz227) (v := ?vzz227) ?hzz227 ?azz227 ?bzz227 ?czz227 ?qzz227 ?yzz227 ?szz227 ?rzz227
      case hzz227 => simp only [List.getElem?_toArray, List.getElem?_cons_zero, List.getElem?_cons_succ]; rfl
      case azz227 => kernel_rfl
      case bzz227 => kernel_rfl
      case czz227 => kernel_rfl
      case yzz227 =>
        refine Or.inl ⟨by rfl, ?_⟩
        intro w hSw
        skip
        go_simp
        try with_reducible rfl
      case qzz227 => exact fun _ _ _ h => h
      case szz227 => first | assumption | trivial
      case' rzz227 => simp only [Act.put, List.setIfInBounds_toArray, List.set_cons_zero, List.set_cons_succ]
      refine wpAnyH_take (i := 6) (oi := ?ozz228) (v := ?vzz228) ?hzz228 ?azz228 ?bzz228 ?czz228 ?qzz228 ?yzz228 ?szz228 ?rzz228
      case hzz228 => simp only [List.getElem?_toArray, List.getElem?_cons_zero, List.getElem?_cons_succ]; rfl
      case azz228 => kernel_rfl
      case bzz228 => kernel_rfl
      case czz228 => kernel_rfl
      case yzz228 =>
        refine Or.inl ⟨by rfl, ?_⟩
        intro w hSw
        skip
        go_simp
        try with_reducible rfl
      case qzz228 => exact fun _ _ _ h => h
      case szz228 => first | assumption | trivial
      case' rzz228 => simp only [Act.put, List.setIfInBounds_toArray, List.set_cons_zero, List.set_cons_succ]
      refine wpAnyH_take (i := 7) (oi := ?ozz229) (v := ?vzz229) ?hzz229 ?azz229 ?bzz229 ?czz229 ?qzz229 ?yzz229 ?szz229 ?rzz229
      case hzz229 => simp only [List.getElem?_toArray, List.getElem?_cons_zero, List.getElem?_cons_succ]; rfl
      case azz229 => kernel_rfl
      case bzz229 => kernel_rfl
      case czz229 => kernel_rfl
      case yzz229 =>
        refine Or.inl ⟨by rfl, ?_⟩
        intro w hSw
        have x0 := box_ hSw c0; have x1 := box_ hSw c1; have x2 := box_ hSw c2; have x3 := box_ hSw c3; have x4 := box_ hSw c4; have x5 := box_ hSw c5; clear hSw
        go_simp
        try with_reducible rfl
      case qzz229 => exact fun _ _ _ h => h
      case szz229 => first | assumption | trivial
      case' rzz229 => simp only [Act.put, List.setIfInBounds_toArray, List.set_cons_zero, List.set_cons_succ]
      refine wpAnyH_take (i := 8) (oi := ?ozz230) (v := ?vzz230) ?hzz230 ?azz230 ?bzz230 ?czz230 ?qzz230 ?yzz230 ?szz230 ?rzz230
      case hzz230 => simp only [List.getElem?_toArray, List.getElem?_cons_zero, List.getElem?_cons_succ]; rfl
      case azz230 => kernel_rfl
      case bzz230 => kernel_rfl
      case czz230 => kernel_rfl
      case yzz230 =>
        refine Or.inl ⟨by rfl, ?_⟩
        intro w hSw
        skip
        go_simp
        try with_reducible rfl
      case qzz230 => exact fun _ _ _ h => h
      case szz230 => first | assumption | trivial
      case' rzz230 => simp only [Act.put, List.setIfInBounds_toArray, List.set_cons_zero, List.set_cons_succ]
      refine wpAnyH_ready (rs := [9]) (by kernel_rfl) (by simp) ?_
      refine AllReadyH.cons (o := ?ozz257) ?hzz257 (fun K hK => ?kzz257) ?mzz257
      case hzz257 => simp only [List.getElem?_toArray, List.getElem?_cons_zero, List.getElem?_cons_succ]; rfl
      case kzz257 =>
        go_simp
        refine (KA.out _).mono ?_
        rintro e v2 ⟨rfl, q2⟩
        go_wp2_with fail
        refine hK.out _ _ ?Szz257 (fun hHeld => ?Rzz257)
        case Szz257 =>
          exact hHeld.trans q2
        case Rzz257 =>
          clear hK K
          try simp only [Act.put, List.setIfInBounds_toArray, List.set_cons_zero, List.set_cons_succ]
          refine wpAnyH_take (i := 10) (oi := ?ozz231) (v := ?vzz231) ?hzz231 ?azz231 ?bzz231 ?czz231 ?qzz231 ?yzz231 ?szz231 ?rzz231
          case hzz231 => simp only [List.getElem?_toArray, List.getElem?_cons_zero, List.getElem?_cons_succ]; rfl
          case azz231 => kernel_rfl
          case bzz231 => kernel_rfl
          case czz231 => kernel_rfl
          case yzz231 =>
            refine Or.inl ⟨by rfl, ?_⟩
            intro w hSw
            skip
            go_simp
            try with_reducible rfl
          case qzz231 => exact fun _ _ _ h => h
          case szz231 => first | assumption | trivial
          case' rzz231 => simp only [Act.put, List.setIfInBounds_toArray, List.set_cons_zero, List.set_cons_succ]
          refine wpAnyH_take (i := 11) (oi := ?ozz232) (v := ?vzz232) ?hzz232 ?azz232 ?bzz232 ?czz232 ?qzz232 ?yzz232 ?szz232 ?rzz232
          case hzz232 => simp only [List.getElem?_toArray, List.getElem?_cons_zero, List.getElem?_cons_succ]; rfl
          case azz232 => kernel_rfl
          case bzz232 => kernel_rfl
          case czz232 => kernel_rfl
          case yzz232 =>
            refine Or.inl ⟨by rfl, ?_⟩
            intro w hSw
            have x0 := box_ hSw c0; have x1 := box_ hSw c1; have x2 := box_ hSw c2; have x3 := box_ hSw c3; have x4 := box_ hSw c4; have x5 := box_ hSw c5; clear hSw
            go_simp
            try with_reducible rfl
          case qzz232 => exact fun _ _ _ h => h
          case szz232 => first | assumption | trivial
          case' rzz232 => simp only [Act.put, List.setIfInBounds_toArray, List.set_cons_zero, List.set_cons_succ]
          refine wpAnyH_take (i := 12) (oi := ?ozz233) (v := ?vzz233) ?hzz233 ?azz233 ?bzz233 ?czz233 ?qzz233 ?yzz233 ?szz233 ?rzz233
          case hzz233 => simp only [List.getElem?_toArray, List.getElem?_cons_zero, List.getElem?_cons_succ]; rfl
          case azz233 => kernel_rfl
          case bzz233 => kernel_rfl
          case czz233 => kernel_rfl
          case yzz233 =>
            refine Or.inl ⟨by rfl, ?_⟩
            intro w hSw
            skip
            go_simp
            try with_reducible rfl
          case qzz233 => exact fun _ _ _ h => h
          case szz233 => first | assumption | trivial
          case' rzz233 => simp only [Act.put, List.setIfInBounds_toArray, List.set_cons_zero, List.set_cons_succ]
          refine wpAnyH_ready (rs := [13]) (by kernel_rfl) (by simp) ?_
          refine AllReadyH.cons (o := ?ozz256) ?hzz256 (fun K hK => ?kzz256) ?mzz256
          case hzz256 => simp only [List.getElem?_toArray, List.getElem?_cons_zero, List.getElem?_cons_succ]; rfl
          case kzz256 =>
            go_simp
            refine (KB.out _).mono ?_
            rintro e v3 ⟨rfl, q3⟩
            go_wp2_with fail
            refine hK.out _ _ ?Szz256 (fun hHeld => ?Rzz256)
            case Szz256 =>
              exact hHeld.trans q3
            case Rzz256 =>
              clear hK K
              try simp only [Act.put, List.setIfInBounds_toArray, List.set_cons_zero, List.set_cons_succ]
              refine wpAnyH_take (i := 14) (oi := ?ozz234) (v := ?vzz234) ?hzz234 ?azz234 ?bzz234 ?czz234 ?qzz234 ?yzz234 ?szz234 ?rzz234
              case hzz234 => simp only [List.getElem?_toArray, List.getElem?_cons_zero, List.getElem?_cons_succ]; rfl
              case azz234 => kernel_rfl
              case bzz234 => kernel_rfl
              case czz234 => kernel_rfl
              case yzz234 =>
                refine Or.inl ⟨by rfl, ?_⟩
                intro w hSw
                skip
                go_simp
                try with_reducible rfl
              case qzz234 => exact fun _ _ _ h => h
              case szz234 => first | assumption | trivial
              case' rzz234 => simp only [Act.put, List.setIfInBounds_toArray, List.set_cons_zero, List.set_cons_succ]
              refine wpAnyH_take (i := 15) (oi := ?ozz235) (v := ?vzz235) ?hzz235 ?azz235 ?bzz235 ?czz235 ?qzz235 ?yzz235 ?szz235 ?rzz235
              case hzz235 => simp only [List.getElem?_toArray, List.getElem?_cons_zero, List.getElem?_cons_succ]; rfl
              case azz235 => kernel_rfl
              case bzz235 => kernel_rfl
              case czz235 => kernel_rfl
              case yzz235 =>
                refine Or.inl ⟨by rfl, ?_⟩
                intro w hSw
                skip
                go_simp
                try with_reducible rfl
              case qzz235 => exact fun _ _ _ h => h
              case szz235 => first | assumption | trivial
              case' rzz235 => simp only [Act.put, List.setIfInBounds_toArray, List.set_cons_zero, List.set_cons_succ]
              refine wpAnyH_take (i := 16) (oi := ?ozz236) (v := ?vzz236) ?hzz236 ?azz236 ?bzz236 ?czz236 ?qzz236 ?yzz236 ?szz236 ?rzz236
              case hzz236 => simp only [List.getElem?_toArray, List.getElem?_cons_zero, List.getElem?_cons_succ]; rfl
              case azz236 => kernel_rfl
              case bzz236 => kernel_rfl
              case czz236 => kernel_rfl
              case yzz236 =>
                refine Or.inl ⟨by rfl, ?_⟩
                intro w hSw
                skip
                go_simp
                try with_reducible rfl
              case qzz236 => exact fun _ _ _ h => h
              case szz236 => first | assumption | trivial
              case' rzz236 => simp only [Act.put, List.setIfInBounds_toArray, List.set_cons_zero, List.set_cons_succ]
              refine wpAnyH_take (i := 17) (oi := ?ozz237) (v := ?vzz237) ?hzz237 ?azz237 ?bzz237 ?czz237 ?qzz237 ?yzz237 ?szz237 ?rzz237
              case hzz237 => simp only [List.getElem?_toArray, List.getElem?_cons_zero, List.getElem?_cons_succ]; rfl
              case azz237 => kernel_rfl
              case bzz237 => kernel_rfl
              case czz237 => kernel_rfl
              case yzz237 =>
                refine Or.inl ⟨by rfl, ?_⟩
                intro w hSw
                skip
                go_simp
                try with_reducible rfl
              case qzz237 => exact fun _ _ _ h => h
              case szz237 => first | assumption | trivial
              case' rzz237 => simp only [Act.put, List.setIfInBounds_toArray, List.set_cons_zero, List.set_cons_succ]
              refine wpAnyH_take (i := 18) (oi := ?ozz238) (v := ?vzz238) ?hzz238 ?azz238 ?bzz238 ?czz238 ?qzz238 ?yzz238 ?szz238 ?rzz238
              case hzz238 => simp only [List.getElem?_toArray, List.getElem?_cons_zero, List.getElem?_cons_succ]; rfl
              case azz238 => kernel_rfl
              case bzz238 => kernel_rfl
              case czz238 => kernel_rfl
              case yzz238 =>
                refine Or.inl ⟨by rfl, ?_⟩
                intro w hSw
                have x0 := box_ hSw c0; have x1 := box_ hSw c1; have x2 := box_ hSw c2; have x3 := box_ hSw c3; have x4 := box_ hSw c4; have x5 := box_ hSw c5; clear hSw
                go_simp
                try with_reducible rfl
              case qzz238 => exact fun _ _ _ h => h
              case szz238 => first | assumption | trivial
              case' rzz238 => simp only [Act.put, List.setIfInBounds_toArray, List.set_cons_zero, List.set_cons_succ]
              refine wpAnyH_take (i := 19) (oi := ?ozz239) (v := ?vzz239) ?hzz239 ?azz239 ?bzz239 ?czz239 ?qzz239 ?yzz239 ?szz239 ?rzz239
              case hzz239 => simp only [List.getElem?_toArray, List.getElem?_cons_zero, List.getElem?_cons_succ]; rfl
              case azz239 => kernel_rfl
              case bzz239 => kernel_rfl
              case czz239 => kernel_rfl
              case yzz239 =>
                refine Or.inl ⟨by rfl, ?_⟩
                intro w hSw
                have x0 := box_ hSw c0; have x1 := box_ hSw c1; have x2 := box_ hSw c2; have x3 := box_ hSw c3; have x4 := box_ hSw c4; have x5 := box_ hSw c5; clear hSw
                go_simp
                try with_reducible rfl
              case qzz239 => exact fun _ _ _ h => h
              case szz239 => first | assumption | trivial
              case' rzz239 => simp only [Act.put, List.setIfInBounds_toArray, List.set_cons_zero, List.set_cons_succ]
              refine wpAnyH_take (i := 21) (oi := ?ozz240) (v := ?vzz240) ?hzz240 ?azz240 ?bzz240 ?czz240 ?qzz240 ?yzz240 ?szz240 ?rzz240
              case hzz240 => simp only [List.getElem?_toArray, List.getElem?_cons_zero, List.getElem?_cons_succ]; rfl
              case azz240 => kernel_rfl
              case bzz240 => kernel_rfl
              case czz240 => kernel_rfl
              case yzz240 =>
                refine Or.inl ⟨by rfl, ?_⟩
                intro w hSw
                have x0 := box_ hSw c0; have x1 := box_ hSw c1; have x2 := box_ hSw c2; have x3 := box_ hSw c3; have x4 := box_ hSw c4; have x5 := box_ hSw c5; clear hSw
                go_simp
                try with_reducible rfl
              case qzz240 => exact fun _ _ _ h => h
              case szz240 => first | assumption | trivial
              case' rzz240 => simp only [Act.put, List.setIfInBounds_toArray, List.set_cons_zero, List.set_cons_succ]
              refine wpAnyH_take (i := 22) (oi := ?ozz241) (v := ?vzz241) ?hzz241 ?azz241 ?bzz241 ?czz241 ?qzz241 ?yzz241 ?szz241 ?rzz241
              case hzz241 => simp only [List.getElem?_toArray, List.getElem?_cons_zero, List.getElem?_cons_succ]; rfl
              case azz241 => kernel_rfl
              case bzz241 => kernel_rfl
              case czz241 => kernel_rfl
              case yzz241 =>
                refine Or.inl ⟨by rfl, ?_⟩
                intro w hSw
                have x0 := box_ hSw c0; have x1 := box_ hSw c1; have x2 := box_ hSw c2; have x3 := box_ hSw c3; have x4 := box_ hSw c4; have x5 := box_ hSw c5; clear hSw
                go_simp
                try with_reducible rfl
              case qzz241 => exact fun _ _ _ h => h
              case szz241 => first | assumption | trivial
              case' rzz241 => simp only [Act.put, List.setIfInBounds_toArray, List.set_cons_zero, List.set_cons_succ]
              refine wpAnyH_ready (rs := [20]) (by kernel_rfl) (by simp) ?_
              refine AllReadyH.cons (o := ?ozz255) ?hzz255 (fun K hK => ?kzz255) ?mzz255
              case hzz255 => simp only [List.getElem?_toArray, List.getElem?_cons_zero, List.getElem?_cons_succ]; rfl
              case kzz255 =>
                go_simp
                refine (K3.out _).mono ?_
                rintro e v4 ⟨rfl, q4⟩
                go_wp2_with fail
                refine hK.out _ _ ?Szz255 (fun hHeld => ?Rzz255)
                case Szz255 =>
                  exact hHeld.trans q4
                case Rzz255 =>
                  clear hK K
                  try simp only [Act.put, List.setIfInBounds_toArray, List.set_cons_zero, List.set_cons_succ]
                  refine wpAnyH_ready (rs := [23]) (by kernel_rfl) (by simp) ?_
                  refine AllReadyH.cons (o := ?ozz254) ?hzz254 (fun K hK => ?kzz254) ?mzz254
                  case hzz254 => simp only [List.getElem?_toArray, List.getElem?_cons_zero, List.getElem?_cons_succ]; rfl
                  case kzz254 =>
                    go_simp
                    refine (K4.out _).mono ?_
                    rintro e v5 ⟨rfl, q5⟩
                    go_wp2_with fail
                    refine hK.out _ _ ?Szz254 (fun hHeld => ?Rzz254)
                    case Szz254 =>
                      exact hHeld.trans q5
                    case Rzz254 =>
                      clear hK K
                      try simp only [Act.put, List.setIfInBounds_toArray, List.set_cons_zero, List.set_cons_succ]
                      refine wpAnyH_take (i := 24) (oi := ?ozz242) (v := ?vzz242) ?hzz242 ?azz242 ?bzz242 ?czz242 ?qzz242 ?yzz242 ?szz242 ?rzz242
                      case hzz242 => simp only [List.getElem?_toArray, List.getElem?_cons_zero, List.getElem?_cons_succ]; rfl
                      case azz242 => kernel_rfl
                      case bzz242 => kernel_rfl
                      case czz242 => kernel_rfl
                      case yzz242 =>
                        refine Or.inl ⟨by rfl, ?_⟩
                        intro w hSw
                        skip
                        go_simp
                        try with_reducible rfl
                      case qzz242 => exact fun _ _ _ h => h
                      case szz242 => first | assumption | trivial
                      case' rzz242 => simp only [Act.put, List.setIfInBounds_toArray, List.set_cons_zero, List.set_cons_succ]
                      refine wpAnyH_take (i := 25) (oi := ?ozz243) (v := ?vzz243) ?hzz243 ?azz243 ?bzz243 ?czz243 ?qzz243 ?yzz243 ?szz243 ?rzz243
                      case hzz243 => simp only [List.getElem?_toArray, List.getElem?_cons_zero, List.getElem?_cons_succ]; rfl
                      case azz243 => kernel_rfl
                      case bzz243 => kernel_rfl
                      case czz243 => kernel_rfl
                      case yzz243 =>
                        refine Or.inl ⟨by rfl, ?_⟩
                        intro w hSw
                        skip
                        go_simp
                        try with_reducible rfl
                      case qzz243 => exact fun _ _ _ h => h
                      case szz243 => first | assumption | trivial
                      case' rzz243 => simp only [Act.put, List.setIfInBounds_toArray, List.set_cons_zero, List.set_cons_succ]
                      refine wpAnyH_take (i := 26) (oi := ?ozz244) (v := ?vzz244) ?hzz244 ?azz244 ?bzz244 ?czz244 ?qzz244 ?yzz244 ?szz244 ?rzz244
                      case hzz244 => simp only [List.getElem?_toArray, List.getElem?_cons_zero, List.getElem?_cons_succ]; rfl
                      case azz244 => kernel_rfl
                      case bzz244 => kernel_rfl
                      case czz244 => kernel_rfl
                      case yzz244 =>
                        refine Or.inl ⟨by rfl, ?_⟩
                        intro w hSw
                        skip
                        go_simp
                        try with_reducible rfl
                      case qzz244 => exact fun _ _ _ h => h
                      case szz244 => first | assumption | trivial
                      case' rzz244 => simp only [Act.put, List.setIfInBounds_toArray, List.set_cons_zero, List.set_cons_succ]
                      refine wpAnyH_take (i := 27) (oi := ?ozz245) (v := ?vzz245) ?hzz245 ?azz245 ?bzz245 ?czz245 ?qzz245 ?yzz245 ?szz245 ?rzz245
                      case hzz245 => simp only [List.getElem?_toArray, List.getElem?_cons_zero, List.getElem?_cons_succ]; rfl
                      case azz245 => kernel_rfl
                      case bzz245 => kernel_rfl
                      case czz245 => kernel_rfl
                      case yzz245 =>
                        refine Or.inl ⟨by rfl, ?_⟩
                        intro w hSw
                        have x0 := box_ hSw c0; have x1 := box_ hSw c1; have x2 := box_ hSw c2; have x3 := box_ hSw c3; have x4 := box_ hSw c4; have x5 := box_ hSw c5; clear hSw
                        go_simp
                        try with_reducible rfl
                      case qzz245 => exact fun _ _ _ h => h
                      case szz245 => first | assumption | trivial
                      case' rzz245 => simp only [Act.put, List.setIfInBounds_toArray, List.set_cons_zero, List.set_cons_succ]
                      refine wpAnyH_take (i := 28) (oi := ?ozz246) (v := ?vzz246) ?hzz246 ?azz246 ?bzz246 ?czz246 ?qzz246 ?yzz246 ?szz246 ?rzz246
                      case hzz246 => simp only [List.getElem?_toArray, List.getElem?_cons_zero, List.getElem?_cons_succ]; rfl
                      case azz246 => kernel_rfl
                      case bzz246 => kernel_rfl
                      case czz246 => kernel_rfl
                      case yzz246 =>
                        refine Or.inl ⟨by rfl, ?_⟩
                        intro w hSw
                        have x0 := box_ hSw c0; have x1 := box_ hSw c1; have x2 := box_ hSw c2; have x3 := box_ hSw c3; have x4 := box_ hSw c4; have x5 := box_ hSw c5; clear hSw
                        go_simp
                        try with_reducible rfl
                      case qzz246 => exact fun _ _ _ h => h
                      case szz246 => first | assumption | trivial
                      case' rzz246 => simp only [Act.put, List.setIfInBounds_toArray, List.set_cons_zero, List.set_cons_succ]
                      refine wpAnyH_take (i := 30) (oi := ?ozz247) (v := ?vzz247) ?hzz247 ?azz247 ?bzz247 ?czz247 ?qzz247 ?yzz247 ?szz247 ?rzz247
                      case hzz247 => simp only [List.getElem?_toArray, List.getElem?_cons_zero, List.getElem?_cons_succ]; rfl
                      case azz247 => kernel_rfl
                      case bzz247 => kernel_rfl
                      case czz247 => kernel_rfl
                      case yzz247 =>
                        refine Or.inl ⟨by rfl, ?_⟩
                        intro w hSw
                        have x0 := box_ hSw c0; have x1 := box_ hSw c1; have x2 := box_ hSw c2; have x3 := box_ hSw c3; have x4 := box_ hSw c4; have x5 := box_ hSw c5; clear hSw
                        go_simp
                        try with_reducible rfl
                      case qzz247 => exact fun _ _ _ h => h
                      case szz247 => first | assumption | trivial
                      case' rzz247 => simp only [Act.put, List.setIfInBounds_toArray, List.set_cons_zero, List.set_cons_succ]
                      refine wpAnyH_take (i := 31) (oi := ?ozz248) (v := ?vzz248) ?hzz248 ?azz248 ?bzz248 ?czz248 ?qzz248 ?yzz248 ?szz248 ?rzz248
                      case hzz248 => simp only [List.getElem?_toArray, List.getElem?_cons_zero, List.getElem?_cons_succ]; rfl
                      case azz248 => kernel_rfl
                      case bzz248 => kernel_rfl
                      case czz248 => kernel_rfl
                      case yzz248 =>
                        refine Or.inl ⟨by rfl, ?_⟩
                        intro w hSw
                        have x0 := box_ hSw c0; have x1 := box_ hSw c1; have x2 := box_ hSw c2; have x3 := box_ hSw c3; have x4 := box_ hSw c4; have x5 := box_ hSw c5; clear hSw
                        go_simp
                        try with_reducible rfl
                      case qzz248 => exact fun _ _ _ h => h
                      case szz248 => first | assumption | trivial
                      case' rzz248 => simp only [Act.put, List.setIfInBounds_toArray, List.set_cons_zero, List.set_cons_succ]
                      refine wpAnyH_ready (rs := [29]) (by kernel_rfl) (by simp) ?_
                      refine AllReadyH.cons (o := ?ozz253) ?hzz253 (fun K hK => ?kzz253) ?mzz253
                      case hzz253 => simp only [List.getElem?_toArray, List.getElem?_cons_zero, List.getElem?_cons_succ]; rfl
                      case kzz253 =>
                        go_simp
                        refine (K5.out _).mono ?_
                        rintro e v6 ⟨rfl, q6⟩
                        go_wp2_with fail
                        refine hK.out _ _ ?Szz253 (fun hHeld => ?Rzz253)
                        case Szz253 =>
                          exact hHeld.trans q6
                        case Rzz253 =>
                          clear hK K
                          try simp only [Act.put, List.setIfInBounds_toArray, List.set_cons_zero, List.set_cons_succ]
                          refine wpAnyH_ready (rs := [32]) (by kernel_rfl) (by simp) ?_
                          refine AllReadyH.cons (o := ?ozz252) ?hzz252 (fun K hK => ?kzz252) ?mzz252
                          case hzz252 => simp only [List.getElem?_toArray, List.getElem?_cons_zero, List.getElem?_cons_succ]; rfl
                          case kzz252 =>
                            go_simp
                            refine (K6.out _).mono ?_
                            rintro e v7 ⟨rfl, q7⟩
                            go_wp2_with fail
                            refine hK.out _ _ ?Szz252 (fun hHeld => ?Rzz252)
                            case Szz252 =>
                              exact hHeld.trans q7
                            case Rzz252 =>
                              clear hK K
                              try simp only [Act.put, List.setIfInBounds_toArray, List.set_cons_zero, List.set_cons_succ]
                              refine wpAnyH_take (i := 33) (oi := ?ozz249) (v := ?vzz249) ?hzz249 ?azz249 ?bzz249 ?czz249 ?qzz249 ?yzz249 ?szz249 ?rzz249
                              case hzz249 => simp only [List.getElem?_toArray, List.getElem?_cons_zero, List.getElem?_cons_succ]; rfl
                              case azz249 => kernel_rfl
                              case bzz249 => kernel_rfl
                              case czz249 => kernel_rfl
                              case yzz249 =>
                                refine Or.inl ⟨by rfl, ?_⟩
                                intro w hSw
                                skip
                                go_simp
                                try with_reducible rfl
                              case qzz249 => exact fun _ _ _ h => h
                              case szz249 => first | assumption | trivial
                              case' rzz249 => simp only [Act.put, List.setIfInBounds_toArray, List.set_cons_zero, List.set_cons_succ]
                              refine wpAnyH_take (i := 34) (oi := ?ozz250) (v := ?vzz250) ?hzz250 ?azz250 ?bzz250 ?czz250 ?qzz250 ?yzz250 ?szz250 ?rzz250
                              case hzz250 => simp only [List.getElem?_toArray, List.getElem?_cons_zero, List.getElem?_cons_succ]; rfl
                              case azz250 => kernel_rfl
                              case bzz250 => kernel_rfl
                              case czz250 => kernel_rfl
                              case yzz250 =>
                                refine Or.inl ⟨by rfl, ?_⟩
                                intro w hSw
                                skip
                                go_simp
                                try with_reducible rfl
                              case qzz250 => exact fun _ _ _ h => h
                              case szz250 => first | assumption | trivial
                              case' rzz250 => simp only [Act.put, List.setIfInBounds_toArray, List.set_cons_zero, List.set_cons_succ]
                              refine wpAnyH_take (i := 35) (oi := ?ozz251) (v := ?vzz251) ?hzz251 ?azz251 ?bzz251 ?czz251 ?qzz251 ?yzz251 ?szz251 ?rzz251
                              case hzz251 => simp only [List.getElem?_toArray, List.getElem?_cons_zero, List.getElem?_cons_succ]; rfl
                              case azz251 => kernel_rfl
                              case bzz251 => kernel_rfl
                              case czz251 => kernel_rfl
                              case yzz251 =>
                                refine Or.inl ⟨by rfl, ?_⟩
                                intro w hSw
                                skip
                                go_simp
                                try with_reducible rfl
                              case qzz251 => exact fun _ _ _ h => h
                              case szz251 => first | assumption | trivial
                              case' rzz251 => simp only [Act.put, List.setIfInBounds_toArray, List.set_cons_zero, List.set_cons_succ]
                              refine wpAnyH_done (by kernel_rfl) ?_ _
                              go_wp2
                              go_ret
                              exact ⟨by first | rfl | (simp; done), BQ.out.trans hHeld⟩
                          case' mzz252 => skip
                          exact AllReadyH.nil
                      case' mzz253 => skip
                      exact AllReadyH.nil
                  case' mzz254 => skip
                  exact AllReadyH.nil
              case' mzz255 => skip
              exact AllReadyH.nil
          case' mzz256 => skip
          exact AllReadyH.nil
      case' mzz257 => skip
      exact AllReadyH.nil
  case' mzz258 => skip
  exact AllReadyH.nil
set_option maxHeartbeats 4000000 in
theorem walk_1011 (a : Wn) (b : Wn) (key : ByteArray) (w : World) (h1 : inS a key = true) (h2 : inS b key = false) (h3 : over a b = true) (h4 : lt a.lo b.lo = true) :
    Calls Try.prog 5 #[wnV a, wnV b, .string key] w fun e w' => e = .returned (.bool true) ∧ Q w w' := by
  have K1 := Lib.hid (fun W => sin_any a key W)
  rw [h1] at K1
  have K2 := Lib.hid (fun W => sin_any b key W)
  rw [h2] at K2
  have K3 := Lib.hid (fun W => sover_any a b W)
  rw [h3] at K3
  have K4 := Lib.hid (fun W => sover_any b a W)
  rw [over_comm b a, h3] at K4
  have K5 := Lib.hid (fun W => sclash_any a b W)
  have K6 := Lib.hid (fun W => sclash_any b a W)
  rw [clash_comm b a] at K6
  have KA := Lib.hid (fun W => sin_any a (mx a.lo b.lo) W)
  have KB := Lib.hid (fun W => sin_any b (mx a.lo b.lo) W)
  have hw := witness2 a b
  rw [h3, Bool.not_true, Bool.false_or, Bool.and_eq_true] at hw
  rw [hw.1] at KA
  rw [hw.2] at KB
  clear hw
  rw [show mx a.lo b.lo = b.lo by unfold mx; rw [h4]; rfl] at KA KB
  have e4 := lt_data a.lo b.lo
  rw [h4] at e4
  have r1 := beq_rr (clash a b)
  generalize clash a b = y at *
  clear h1 h2 h3 h4
  have B := wn_box2 w a b
  try unfold wnV at *
  go_enter Try.func5, Try.ntmps5
  go_wp2_with fail
  generalize ((w.alloc (.cells #[.int .i64 a.mode, .string a.lo, .string a.hi] 23)).alloc (.cells #[.int .i64 b.mode, .string b.lo, .string b.hi] 23)) = W0 at B ⊢
  obtain ⟨⟨c0, c1, c2⟩, ⟨c3, c4, c5⟩, bq⟩ := B
  change _ at bq
  refine (spshown_any _).mono ?_
  rintro e W ⟨rfl, q0⟩
  have c0 := box_ q0 c0
  have c1 := box_ q0 c1
  have c2 := box_ q0 c2
  have c3 := box_ q0 c3
  have c4 := box_ q0 c4
  have c5 := box_ q0 c5
  have BQ := Lib.hid (bq.trans q0)
  clear bq q0
  go_wp2_with fail
  refine (K1.out _).mono ?_
  rintro e w1 ⟨rfl, q1⟩
  have c0 := box_ q1 c0
  have c1 := box_ q1 c1
  have c2 := box_ q1 c2
  have c3 := box_ q1 c3
  have c4 := box_ q1 c4
  have c5 := box_ q1 c5
  have BQ := Lib.hid (BQ.out.trans q1)
  clear q1
  go_wp2_with fail
  refine (K2.out _).mono ?_
  rintro e w2 ⟨rfl, q2⟩
  have c0 := box_ q2 c0
  have c1 := box_ q2 c1
  have c2 := box_ q2 c2
  have c3 := box_ q2 c3
  have c4 := box_ q2 c4
  have c5 := box_ q2 c5
  have BQ := Lib.hid (BQ.out.trans q2)
  clear q2
  go_wp2
  refine wp_region_held_drew (S := Q w2) (by kernel_rfl) ?szz259 (fun hHeld => ?rzz259)
  case szz259 =>
    exact (Q.refl w2).drew
  case' rzz259 => skip
  refine wpAnyH_take (i := 0) (oi := ?ozz260) (v := ?vzz260) ?hzz260 ?azz260 ?bzz260 ?czz260 ?qzz260 ?yzz260 ?szz260 ?rzz260
  case hzz260 => simp only [List.getElem?_toArray, List.getElem?_cons_zero]; rfl
  case azz260 => kernel_rfl
  case bzz260 => kernel_rfl
  case czz260 => kernel_rfl
  case yzz260 =>
    refine Or.inl ⟨by rfl, ?_⟩
    intro w hSw
    skip
    go_simp
    try with_reducible rfl
  case qzz260 => exact fun _ _ _ h => h
  case szz260 => first | assumption | trivial
  case' rzz260 => simp only [Act.put, List.setIfInBounds_toArray, List.set_cons_zero, List.set_cons_succ]
  refine wpAnyH_take (i := 1) (oi := ?ozz261) (v := ?vzz261) ?hzz261 ?azz261 ?bzz261 ?czz261 ?qzz261 ?yzz261 ?szz261 ?rzz261
  case hzz261 => simp only [List.getElem?_toArray, List.getElem?_cons_zero, List.getElem?_cons_succ]; rfl
  case azz261 => kernel_rfl
  case bzz261 => kernel_rfl
  case czz261 => kernel_rfl
  case yzz261 =>
    refine Or.inl ⟨by rfl, ?_⟩
    intro w hSw
    skip
    go_simp
    try with_reducible rfl
  case qzz261 => exact fun _ _ _ h => h
  case szz261 => first | assumption | trivial
  case' rzz261 => simp only [Act.put, List.setIfInBounds_toArray, List.set_cons_zero, List.set_cons_succ]
  refine wpAnyH_take (i := 2) (oi := ?ozz262) (v := ?vzz262) ?hzz262 ?azz262 ?bzz262 ?czz262 ?qzz262 ?yzz262 ?szz262 ?rzz262
  case hzz262 => simp only [List.getElem?_toArray, List.getElem?_cons_zero, List.getElem?_cons_succ]; rfl
  case azz262 => kernel_rfl
  case bzz262 => kernel_rfl
  case czz262 => kernel_rfl
  case yzz262 =>
    refine Or.inl ⟨by rfl, ?_⟩
    intro w hSw
    have x0 := box_ hSw c0; have x1 := box_ hSw c1; have x2 := box_ hSw c2; have x3 := box_ hSw c3; have x4 := box_ hSw c4; have x5 := box_ hSw c5; clear hSw
    go_simp
    try with_reducible rfl
  case qzz262 => exact fun _ _ _ h => h
  case szz262 => first | assumption | trivial
  case' rzz262 => simp only [Act.put, List.setIfInBounds_toArray, List.set_cons_zero, List.set_cons_succ]
  refine wpAnyH_take (i := 3) (oi := ?ozz263) (v := ?vzz263) ?hzz263 ?azz263 ?bzz263 ?czz263 ?qzz263 ?yzz263 ?szz263 ?rzz263
  case hzz263 => simp only [List.getElem?_toArray, List.getElem?_cons_zero, List.getElem?_cons_succ]; rfl
  case azz263 => kernel_rfl
  case bzz263 => kernel_rfl
  case czz263 => kernel_rfl
  case yzz263 =>
    refine Or.inl ⟨by rfl, ?_⟩
    intro w hSw
    have x0 := box_ hSw c0; have x1 := box_ hSw c1; have x2 := box_ hSw c2; have x3 := box_ hSw c3; have x4 := box_ hSw c4; have x5 := box_ hSw c5; clear hSw
    go_simp
    try with_reducible rfl
  case qzz263 => exact fun _ _ _ h => h
  case szz263 => first | assumption | trivial
  case' rzz263 => simp only [Act.put, List.setIfInBounds_toArray, List.set_cons_zero, List.set_cons_succ]
  refine wpAnyH_ready (rs := [4]) (by kernel_rfl) (by simp) ?_
  refine AllReadyH.cons (o := ?ozz295) ?hzz295 (fun K hK => ?kzz295) ?mzz295
  case hzz295 => simp only [List.getElem?_toArray, List.getElem?_cons_zero, List.getElem?_cons_succ]; rfl
  case kzz295 =>
    go_simp
    refine (K3.out _).mono ?_
    rintro e v1 ⟨rfl, q1⟩
    go_wp2_with fail
    refine hK.out _ _ ?Szz295 (fun hHeld => ?Rzz295)
    case Szz295 =>
      exact hHeld.trans q1
    case Rzz295 =>
      clear hK K
      try simp only [Act.put, List.setIfInBounds_toArray, List.set_cons_zero, List.set_cons_succ]
      refine wpAnyH_take (i := 5) (oi := ?ozz264) (v := ?vzz264) ?hzz264 ?azz264 ?bzz264 ?czz264 ?qzz264 ?yzz264 ?szz264 ?rzz264
      case hzz264 => simp only [List.getElem?_toArray, List.getElem?_cons_zero, List.getElem?_cons_succ]; rfl
      case azz264 => kernel_rfl
      case bzz264 => kernel_rfl
      case czz264 => kernel_rfl
      case yzz264 =>
        refine Or.inl ⟨by rfl, ?_⟩
        intro w hSw
        skip
        go_simp
        try with_reducible rfl
      case qzz264 => exact fun _ _ _ h => h
      case szz264 => first | assumption | trivial
      case' rzz264 => simp only [Act.put, List.setIfInBounds_toArray, List.set_cons_zero, List.set_cons_succ]
      refine wpAnyH_take (i := 6) (oi := ?ozz265) (v := ?vzz265) ?hzz265 ?azz265 ?bzz265 ?czz265 ?qzz265 ?yzz265 ?szz265 ?rzz265
      case hzz265 => simp only [List.getElem?_toArray, List.getElem?_cons_zero, List.getElem?_cons_succ]; rfl
      case azz265 => kernel_rfl
      case bzz265 => kernel_rfl
      case czz265 => kernel_rfl
      case yzz265 =>
        refine Or.inl ⟨by rfl, ?_⟩
        intro w hSw
        skip
        go_simp
        try with_reducible rfl
      case qzz265 => exact fun _ _ _ h => h
      case szz265 => first | assumption | trivial
      case' rzz265 => simp only [Act.put, List.setIfInBounds_toArray, List.set_cons_zero, List.set_cons_succ]
      refine wpAnyH_take (i := 7) (oi := ?ozz266) (v := ?vzz266) ?hzz266 ?azz266 ?bzz266 ?czz266 ?qzz266 ?yzz266 ?szz266 ?rzz266
      case hzz266 => simp only [List.getElem?_toArray, List.getElem?_cons_zero, List.getElem?_cons_succ]; rfl
      case azz266 => kernel_rfl
      case bzz266 => kernel_rfl
      case czz266 => kernel_rfl
      case yzz266 =>
        refine Or.inl ⟨by rfl, ?_⟩
        intro w hSw
        have x0 := box_ hSw c0; have x1 := box_ hSw c1; have x2 := box_ hSw c2; have x3 := box_ hSw c3; have x4 := box_ hSw c4; have x5 := box_ hSw c5; clear hSw
        go_simp
        try with_reducible rfl
      case qzz266 => exact fun _ _ _ h => h
      case szz266 => first | assumption | trivial
      case' rzz266 => simp only [Act.put, List.setIfInBounds_toArray, List.set_cons_zero, List.set_cons_succ]
      refine wpAnyH_take (i := 8) (oi := ?ozz267) (v := ?vzz267) ?hzz267 ?azz267 ?bzz267 ?czz267 ?qzz267 ?yzz267 ?szz267 ?rzz267
      case hzz267 => simp only [List.getElem?_toArray, List.getElem?_cons_zero, List.getElem?_cons_succ]; rfl
      case azz267 => kernel_rfl
      case bzz267 => kernel_rfl
      case czz267 => kernel_rfl
      case yzz267 =>
        refine Or.inl ⟨by rfl, ?_⟩
        intro w hSw
        skip
        go_simp
        try with_reducible rfl
      case qzz267 => exact fun _ _ _ h => h
      case szz267 => first | assumption | trivial
      case' rzz267 => simp only [Act.put, List.setIfInBounds_toArray, List.set_cons_zero, List.set_cons_succ]
      refine wpAnyH_ready (rs := [9]) (by kernel_rfl) (by simp) ?_
      refine AllReadyH.cons (o := ?ozz294) ?hzz294 (fun K hK => ?kzz294) ?mzz294
      case hzz294 => simp only [List.getElem?_toArray, List.getElem?_cons_zero, List.getElem?_cons_succ]; rfl
      case kzz294 =>
        go_simp
        refine (KA.out _).mono ?_
        rintro e v2 ⟨rfl, q2⟩
        go_wp2_with fail
        refine hK.out _ _ ?Szz294 (fun hHeld => ?Rzz294)
        case Szz294 =>
          exact hHeld.trans q2
        case Rzz294 =>
          clear hK K
          try simp only [Act.put, List.setIfInBounds_toArray, List.set_cons_zero, List.set_cons_succ]
          refine wpAnyH_take (i := 10) (oi := ?ozz268) (v := ?vzz268) ?hzz268 ?azz268 ?bzz268 ?czz268 ?qzz268 ?yzz268 ?szz268 ?rzz268
          case hzz268 => simp only [List.getElem?_toArray, List.getElem?_cons_zero, List.getElem?_cons_succ]; rfl
          case azz268 => kernel_rfl
          case bzz268 => kernel_rfl
          case czz268 => kernel_rfl
          case yzz268 =>
            refine Or.inl ⟨by rfl, ?_⟩
            intro w hSw
            skip
            go_simp
            try with_reducible rfl
          case qzz268 => exact fun _ _ _ h => h
          case szz268 => first | assumption | trivial
          case' rzz268 => simp only [Act.put, List.setIfInBounds_toArray, List.set_cons_zero, List.set_cons_succ]
          refine wpAnyH_take (i := 11) (oi := ?ozz269) (v := ?vzz269) ?hzz269 ?azz269 ?bzz269 ?czz269 ?qzz269 ?yzz269 ?szz269 ?rzz269
          case hzz269 => simp only [List.getElem?_toArray, List.getElem?_cons_zero, List.getElem?_cons_succ]; rfl
          case azz269 => kernel_rfl
          case bzz269 => kernel_rfl
          case czz269 => kernel_rfl
          case yzz269 =>
            refine Or.inl ⟨by rfl, ?_⟩
            intro w hSw
            have x0 := box_ hSw c0; have x1 := box_ hSw c1; have x2 := box_ hSw c2; have x3 := box_ hSw c3; have x4 := box_ hSw c4; have x5 := box_ hSw c5; clear hSw
            go_simp
            try with_reducible rfl
          case qzz269 => exact fun _ _ _ h => h
          case szz269 => first | assumption | trivial
          case' rzz269 => simp only [Act.put, List.setIfInBounds_toArray, List.set_cons_zero, List.set_cons_succ]
          refine wpAnyH_take (i := 12) (oi := ?ozz270) (v := ?vzz270) ?hzz270 ?azz270 ?bzz270 ?czz270 ?qzz270 ?yzz270 ?szz270 ?rzz270
          case hzz270 => simp only [List.getElem?_toArray, List.getElem?_cons_zero, List.getElem?_cons_succ]; rfl
          case azz270 => kernel_rfl
          case bzz270 => kernel_rfl
          case czz270 => kernel_rfl
          case yzz270 =>
            refine Or.inl ⟨by rfl, ?_⟩
            intro w hSw
            skip
            go_simp
            try with_reducible rfl
          case qzz270 => exact fun _ _ _ h => h
          case szz270 => first | assumption | trivial
          case' rzz270 => simp only [Act.put, List.setIfInBounds_toArray, List.set_cons_zero, List.set_cons_succ]
          refine wpAnyH_ready (rs := [13]) (by kernel_rfl) (by simp) ?_
          refine AllReadyH.cons (o := ?ozz293) ?hzz293 (fun K hK => ?kzz293) ?mzz293
          case hzz293 => simp only [List.getElem?_toArray, List.getElem?_cons_zero, List.getElem?_cons_succ]; rfl
          case kzz293 =>
            go_simp
            refine (KB.out _).mono ?_
            rintro e v3 ⟨rfl, q3⟩
            go_wp2_with fail
            refine hK.out _ _ ?Szz293 (fun hHeld => ?Rzz293)
            case Szz293 =>
              exact hHeld.trans q3
            case Rzz293 =>
              clear hK K
              try simp only [Act.put, List.setIfInBounds_toArray, List.set_cons_zero, List.set_cons_succ]
              refine wpAnyH_take (i := 14) (oi := ?ozz271) (v := ?vzz271) ?hzz271 ?azz271 ?bzz271 ?czz271 ?qzz271 ?yzz271 ?szz271 ?rzz271
              case hzz271 => simp only [List.getElem?_toArray, List.getElem?_cons_zero, List.getElem?_cons_succ]; rfl
              case azz271 => kernel_rfl
              case bzz271 => kernel_rfl
              case czz271 => kernel_rfl
              case yzz271 =>
                refine Or.inl ⟨by rfl, ?_⟩
                intro w hSw
                skip
                go_simp
                try with_reducible rfl
              case qzz271 => exact fun _ _ _ h => h
              case szz271 => first | assumption | trivial
              case' rzz271 => simp only [Act.put, List.setIfInBounds_toArray, List.set_cons_zero, List.set_cons_succ]
              refine wpAnyH_take (i := 15) (oi := ?ozz272) (v := ?vzz272) ?hzz272 ?azz272 ?bzz272 ?czz272 ?qzz272 ?yzz272 ?szz272 ?rzz272
              case hzz272 => simp only [List.getElem?_toArray, List.getElem?_cons_zero, List.getElem?_cons_succ]; rfl
              case azz272 => kernel_rfl
              case bzz272 => kernel_rfl
              case czz272 => kernel_rfl
              case yzz272 =>
                refine Or.inl ⟨by rfl, ?_⟩
                intro w hSw
                skip
                go_simp
                try with_reducible rfl
              case qzz272 => exact fun _ _ _ h => h
              case szz272 => first | assumption | trivial
              case' rzz272 => simp only [Act.put, List.setIfInBounds_toArray, List.set_cons_zero, List.set_cons_succ]
              refine wpAnyH_take (i := 16) (oi := ?ozz273) (v := ?vzz273) ?hzz273 ?azz273 ?bzz273 ?czz273 ?qzz273 ?yzz273 ?szz273 ?rzz273
              case hzz273 => simp only [List.getElem?_toArray, List.getElem?_cons_zero, List.getElem?_cons_succ]; rfl
              case azz273 => kernel_rfl
              case bzz273 => kernel_rfl
              case czz273 => kernel_rfl
              case yzz273 =>
                refine Or.inl ⟨by rfl, ?_⟩
                intro w hSw
                skip
                go_simp
                try with_reducible rfl
              case qzz273 => exact fun _ _ _ h => h
              case szz273 => first | assumption | trivial
              case' rzz273 => simp only [Act.put, List.setIfInBounds_toArray, List.set_cons_zero, List.set_cons_succ]
              refine wpAnyH_take (i := 17) (oi := ?ozz274) (v := ?vzz274) ?hzz274 ?azz274 ?bzz274 ?czz274 ?qzz274 ?yzz274 ?szz274 ?rzz274
              case hzz274 => simp only [List.getElem?_toArray, List.getElem?_cons_zero, List.getElem?_cons_succ]; rfl
              case azz274 => kernel_rfl
              case bzz274 => kernel_rfl
              case czz274 => kernel_rfl
              case yzz274 =>
                refine Or.inl ⟨by rfl, ?_⟩
                intro w hSw
                skip
                go_simp
                try with_reducible rfl
              case qzz274 => exact fun _ _ _ h => h
              case szz274 => first | assumption | trivial
              case' rzz274 => simp only [Act.put, List.setIfInBounds_toArray, List.set_cons_zero, List.set_cons_succ]
              refine wpAnyH_take (i := 18) (oi := ?ozz275) (v := ?vzz275) ?hzz275 ?azz275 ?bzz275 ?czz275 ?qzz275 ?yzz275 ?szz275 ?rzz275
              case hzz275 => simp only [List.getElem?_toArray, List.getElem?_cons_zero, List.getElem?_cons_succ]; rfl
              case azz275 => kernel_rfl
              case bzz275 => kernel_rfl
              case czz275 => kernel_rfl
              case yzz275 =>
                refine Or.inl ⟨by rfl, ?_⟩
                intro w hSw
                have x0 := box_ hSw c0; have x1 := box_ hSw c1; have x2 := box_ hSw c2; have x3 := box_ hSw c3; have x4 := box_ hSw c4; have x5 := box_ hSw c5; clear hSw
                go_simp
                try with_reducible rfl
              case qzz275 => exact fun _ _ _ h => h
              case szz275 => first | assumption | trivial
              case' rzz275 => simp only [Act.put, List.setIfInBounds_toArray, List.set_cons_zero, List.set_cons_succ]
              refine wpAnyH_take (i := 19) (oi := ?ozz276) (v := ?vzz276) ?hzz276 ?azz276 ?bzz276 ?czz276 ?qzz276 ?yzz276 ?szz276 ?rzz276
              case hzz276 => simp only [List.getElem?_toArray, List.getElem?_cons_zero, List.getElem?_cons_succ]; rfl
              case azz276 => kernel_rfl
              case bzz276 => kernel_rfl
              case czz276 => kernel_rfl
              case yzz276 =>
                refine Or.inl ⟨by rfl, ?_⟩
                intro w hSw
                have x0 := box_ hSw c0; have x1 := box_ hSw c1; have x2 := box_ hSw c2; have x3 := box_ hSw c3; have x4 := box_ hSw c4; have x5 := box_ hSw c5; clear hSw
                go_simp
                try with_reducible rfl
              case qzz276 => exact fun _ _ _ h => h
              case szz276 => first | assumption | trivial
              case' rzz276 => simp only [Act.put, List.setIfInBounds_toArray, List.set_cons_zero, List.set_cons_succ]
              refine wpAnyH_take (i := 21) (oi := ?ozz277) (v := ?vzz277) ?hzz277 ?azz277 ?bzz277 ?czz277 ?qzz277 ?yzz277 ?szz277 ?rzz277
              case hzz277 => simp only [List.getElem?_toArray, List.getElem?_cons_zero, List.getElem?_cons_succ]; rfl
              case azz277 => kernel_rfl
              case bzz277 => kernel_rfl
              case czz277 => kernel_rfl
              case yzz277 =>
                refine Or.inl ⟨by rfl, ?_⟩
                intro w hSw
                have x0 := box_ hSw c0; have x1 := box_ hSw c1; have x2 := box_ hSw c2; have x3 := box_ hSw c3; have x4 := box_ hSw c4; have x5 := box_ hSw c5; clear hSw
                go_simp
                try with_reducible rfl
              case qzz277 => exact fun _ _ _ h => h
              case szz277 => first | assumption | trivial
              case' rzz277 => simp only [Act.put, List.setIfInBounds_toArray, List.set_cons_zero, List.set_cons_succ]
              refine wpAnyH_take (i := 22) (oi := ?ozz278) (v := ?vzz278) ?hzz278 ?azz278 ?bzz278 ?czz278 ?qzz278 ?yzz278 ?szz278 ?rzz278
              case hzz278 => simp only [List.getElem?_toArray, List.getElem?_cons_zero, List.getElem?_cons_succ]; rfl
              case azz278 => kernel_rfl
              case bzz278 => kernel_rfl
              case czz278 => kernel_rfl
              case yzz278 =>
                refine Or.inl ⟨by rfl, ?_⟩
                intro w hSw
                have x0 := box_ hSw c0; have x1 := box_ hSw c1; have x2 := box_ hSw c2; have x3 := box_ hSw c3; have x4 := box_ hSw c4; have x5 := box_ hSw c5; clear hSw
                go_simp
                try with_reducible rfl
              case qzz278 => exact fun _ _ _ h => h
              case szz278 => first | assumption | trivial
              case' rzz278 => simp only [Act.put, List.setIfInBounds_toArray, List.set_cons_zero, List.set_cons_succ]
              refine wpAnyH_ready (rs := [20]) (by kernel_rfl) (by simp) ?_
              refine AllReadyH.cons (o := ?ozz292) ?hzz292 (fun K hK => ?kzz292) ?mzz292
              case hzz292 => simp only [List.getElem?_toArray, List.getElem?_cons_zero, List.getElem?_cons_succ]; rfl
              case kzz292 =>
                go_simp
                refine (K3.out _).mono ?_
                rintro e v4 ⟨rfl, q4⟩
                go_wp2_with fail
                refine hK.out _ _ ?Szz292 (fun hHeld => ?Rzz292)
                case Szz292 =>
                  exact hHeld.trans q4
                case Rzz292 =>
                  clear hK K
                  try simp only [Act.put, List.setIfInBounds_toArray, List.set_cons_zero, List.set_cons_succ]
                  refine wpAnyH_ready (rs := [23]) (by kernel_rfl) (by simp) ?_
                  refine AllReadyH.cons (o := ?ozz291) ?hzz291 (fun K hK => ?kzz291) ?mzz291
                  case hzz291 => simp only [List.getElem?_toArray, List.getElem?_cons_zero, List.getElem?_cons_succ]; rfl
                  case kzz291 =>
                    go_simp
                    refine (K4.out _).mono ?_
                    rintro e v5 ⟨rfl, q5⟩
                    go_wp2_with fail
                    refine hK.out _ _ ?Szz291 (fun hHeld => ?Rzz291)
                    case Szz291 =>
                      exact hHeld.trans q5
                    case Rzz291 =>
                      clear hK K
                      try simp only [Act.put, List.setIfInBounds_toArray, List.set_cons_zero, List.set_cons_succ]
                      refine wpAnyH_take (i := 24) (oi := ?ozz279) (v := ?vzz279) ?hzz279 ?azz279 ?bzz279 ?czz279 ?qzz279 ?yzz279 ?szz279 ?rzz279
                      case hzz279 => simp only [List.getElem?_toArray, List.getElem?_cons_zero, List.getElem?_cons_succ]; rfl
                      case azz279 => kernel_rfl
                      case bzz279 => kernel_rfl
                      case czz279 => kernel_rfl
                      case yzz279 =>
                        refine Or.inl ⟨by rfl, ?_⟩
                        intro w hSw
                        skip
                        go_simp
                        try with_reducible rfl
                      case qzz279 => exact fun _ _ _ h => h
                      case szz279 => first | assumption | trivial
                      case' rzz279 => simp only [Act.put, List.setIfInBounds_toArray, List.set_cons_zero, List.set_cons_succ]
                      refine wpAnyH_take (i := 25) (oi := ?ozz280) (v := ?vzz280) ?hzz280 ?azz280 ?bzz280 ?czz280 ?qzz280 ?yzz280 ?szz280 ?rzz280
                      case hzz280 => simp only [List.getElem?_toArray, List.getElem?_cons_zero, List.getElem?_cons_succ]; rfl
                      case azz280 => kernel_rfl
                      case bzz280 => kernel_rfl
                      case czz280 => kernel_rfl
                      case yzz280 =>
                        refine Or.inl ⟨by rfl, ?_⟩
                        intro w hSw
                        skip
                        go_simp
                        try with_reducible rfl
                      case qzz280 => exact fun _ _ _ h => h
                      case szz280 => first | assumption | trivial
                      case' rzz280 => simp only [Act.put, List.setIfInBounds_toArray, List.set_cons_zero, List.set_cons_succ]
                      refine wpAnyH_take (i := 26) (oi := ?ozz281) (v := ?vzz281) ?hzz281 ?azz281 ?bzz281 ?czz281 ?qzz281 ?yzz281 ?szz281 ?rzz281
                      case hzz281 => simp only [List.getElem?_toArray, List.getElem?_cons_zero, List.getElem?_cons_succ]; rfl
                      case azz281 => kernel_rfl
                      case bzz281 => kernel_rfl
                      case czz281 => kernel_rfl
                      case yzz281 =>
                        refine Or.inl ⟨by rfl, ?_⟩
                        intro w hSw
                        skip
                        go_simp
                        try with_reducible rfl
                      case qzz281 => exact fun _ _ _ h => h
                      case szz281 => first | assumption | trivial
                      case' rzz281 => simp only [Act.put, List.setIfInBounds_toArray, List.set_cons_zero, List.set_cons_succ]
                      refine wpAnyH_take (i := 27) (oi := ?ozz282) (v := ?vzz282) ?hzz282 ?azz282 ?bzz282 ?czz282 ?qzz282 ?yzz282 ?szz282 ?rzz282
                      case hzz282 => simp only [List.getElem?_toArray, List.getElem?_cons_zero, List.getElem?_cons_succ]; rfl
                      case azz282 => kernel_rfl
                      case bzz282 => kernel_rfl
                      case czz282 => kernel_rfl
                      case yzz282 =>
                        refine Or.inl ⟨by rfl, ?_⟩
                        intro w hSw
                        have x0 := box_ hSw c0; have x1 := box_ hSw c1; have x2 := box_ hSw c2; have x3 := box_ hSw c3; have x4 := box_ hSw c4; have x5 := box_ hSw c5; clear hSw
                        go_simp
                        try with_reducible rfl
                      case qzz282 => exact fun _ _ _ h => h
                      case szz282 => first | assumption | trivial
                      case' rzz282 => simp only [Act.put, List.setIfInBounds_toArray, List.set_cons_zero, List.set_cons_succ]
                      refine wpAnyH_take (i := 28) (oi := ?ozz283) (v := ?vzz283) ?hzz283 ?azz283 ?bzz283 ?czz283 ?qzz283 ?yzz283 ?szz283 ?rzz283
                      case hzz283 => simp only [List.getElem?_toArray, List.getElem?_cons_zero, List.getElem?_cons_succ]; rfl
                      case azz283 => kernel_rfl
                      case bzz283 => kernel_rfl
                      case czz283 => kernel_rfl
                      case yzz283 =>
                        refine Or.inl ⟨by rfl, ?_⟩
                        intro w hSw
                        have x0 := box_ hSw c0; have x1 := box_ hSw c1; have x2 := box_ hSw c2; have x3 := box_ hSw c3; have x4 := box_ hSw c4; have x5 := box_ hSw c5; clear hSw
                        go_simp
                        try with_reducible rfl
                      case qzz283 => exact fun _ _ _ h => h
                      case szz283 => first | assumption | trivial
                      case' rzz283 => simp only [Act.put, List.setIfInBounds_toArray, List.set_cons_zero, List.set_cons_succ]
                      refine wpAnyH_take (i := 30) (oi := ?ozz284) (v := ?vzz284) ?hzz284 ?azz284 ?bzz284 ?czz284 ?qzz284 ?yzz284 ?szz284 ?rzz284
                      case hzz284 => simp only [List.getElem?_toArray, List.getElem?_cons_zero, List.getElem?_cons_succ]; rfl
                      case azz284 => kernel_rfl
                      case bzz284 => kernel_rfl
                      case czz284 => kernel_rfl
                      case yzz284 =>
                        refine Or.inl ⟨by rfl, ?_⟩
                        intro w hSw
                        have x0 := box_ hSw c0; have x1 := box_ hSw c1; have x2 := box_ hSw c2; have x3 := box_ hSw c3; have x4 := box_ hSw c4; have x5 := box_ hSw c5; clear hSw
                        go_simp
                        try with_reducible rfl
                      case qzz284 => exact fun _ _ _ h => h
                      case szz284 => first | assumption | trivial
                      case' rzz284 => simp only [Act.put, List.setIfInBounds_toArray, List.set_cons_zero, List.set_cons_succ]
                      refine wpAnyH_take (i := 31) (oi := ?ozz285) (v := ?vzz285) ?hzz285 ?azz285 ?bzz285 ?czz285 ?qzz285 ?yzz285 ?szz285 ?rzz285
                      case hzz285 => simp only [List.getElem?_toArray, List.getElem?_cons_zero, List.getElem?_cons_succ]; rfl
                      case azz285 => kernel_rfl
                      case bzz285 => kernel_rfl
                      case czz285 => kernel_rfl
                      case yzz285 =>
                        refine Or.inl ⟨by rfl, ?_⟩
                        intro w hSw
                        have x0 := box_ hSw c0; have x1 := box_ hSw c1; have x2 := box_ hSw c2; have x3 := box_ hSw c3; have x4 := box_ hSw c4; have x5 := box_ hSw c5; clear hSw
                        go_simp
                        try with_reducible rfl
                      case qzz285 => exact fun _ _ _ h => h
                      case szz285 => first | assumption | trivial
                      case' rzz285 => simp only [Act.put, List.setIfInBounds_toArray, List.set_cons_zero, List.set_cons_succ]
                      refine wpAnyH_ready (rs := [29]) (by kernel_rfl) (by simp) ?_
                      refine AllReadyH.cons (o := ?ozz290) ?hzz290 (fun K hK => ?kzz290) ?mzz290
                      case hzz290 => simp only [List.getElem?_toArray, List.getElem?_cons_zero, List.getElem?_cons_succ]; rfl
                      case kzz290 =>
                        go_simp
                        refine (K5.out _).mono ?_
                        rintro e v6 ⟨rfl, q6⟩
                        go_wp2_with fail
                        refine hK.out _ _ ?Szz290 (fun hHeld => ?Rzz290)
                        case Szz290 =>
                          exact hHeld.trans q6
                        case Rzz290 =>
                          clear hK K
                          try simp only [Act.put, List.setIfInBounds_toArray, List.set_cons_zero, List.set_cons_succ]
                          refine wpAnyH_ready (rs := [32]) (by kernel_rfl) (by simp) ?_
                          refine AllReadyH.cons (o := ?ozz289) ?hzz289 (fun K hK => ?kzz289) ?mzz289
                          case hzz289 => simp only [List.getElem?_toArray, List.getElem?_cons_zero, List.getElem?_cons_succ]; rfl
                          case kzz289 =>
                            go_simp
                            refine (K6.out _).mono ?_
                            rintro e v7 ⟨rfl, q7⟩
                            go_wp2_with fail
                            refine hK.out _ _ ?Szz289 (fun hHeld => ?Rzz289)
                            case Szz289 =>
                              exact hHeld.trans q7
                            case Rzz289 =>
                              clear hK K
                              try simp only [Act.put, List.setIfInBounds_toArray, List.set_cons_zero, List.set_cons_succ]
                              refine wpAnyH_take (i := 33) (oi := ?ozz286) (v := ?vzz286) ?hzz286 ?azz286 ?bzz286 ?czz286 ?qzz286 ?yzz286 ?szz286 ?rzz286
                              case hzz286 => simp only [List.getElem?_toArray, List.getElem?_cons_zero, List.getElem?_cons_succ]; rfl
                              case azz286 => kernel_rfl
                              case bzz286 => kernel_rfl
                              case czz286 => kernel_rfl
                              case yzz286 =>
                                refine Or.inl ⟨by rfl, ?_⟩
                                intro w hSw
                                skip
                                go_simp
                                try with_reducible rfl
                              case qzz286 => exact fun _ _ _ h => h
                              case szz286 => first | assumption | trivial
                              case' rzz286 => simp only [Act.put, List.setIfInBounds_toArray, List.set_cons_zero, List.set_cons_succ]
                              refine wpAnyH_take (i := 34) (oi := ?ozz287) (v := ?vzz287) ?hzz287 ?azz287 ?bzz287 ?czz287 ?qzz287 ?yzz287 ?szz287 ?rzz287
                              case hzz287 => simp only [List.getElem?_toArray, List.getElem?_cons_zero, List.getElem?_cons_succ]; rfl
                              case azz287 => kernel_rfl
                              case bzz287 => kernel_rfl
                              case czz287 => kernel_rfl
                              case yzz287 =>
                                refine Or.inl ⟨by rfl, ?_⟩
                                intro w hSw
                                skip
                                go_simp
                                try with_reducible rfl
                              case qzz287 => exact fun _ _ _ h => h
                              case szz287 => first | assumption | trivial
                              case' rzz287 => simp only [Act.put, List.setIfInBounds_toArray, List.set_cons_zero, List.set_cons_succ]
                              refine wpAnyH_take (i := 35) (oi := ?ozz288) (v := ?vzz288) ?hzz288 ?azz288 ?bzz288 ?czz288 ?qzz288 ?yzz288 ?szz288 ?rzz288
                              case hzz288 => simp only [List.getElem?_toArray, List.getElem?_cons_zero, List.getElem?_cons_succ]; rfl
                              case azz288 => kernel_rfl
                              case bzz288 => kernel_rfl
                              case czz288 => kernel_rfl
                              case yzz288 =>
                                refine Or.inl ⟨by rfl, ?_⟩
                                intro w hSw
                                skip
                                go_simp
                                try with_reducible rfl
                              case qzz288 => exact fun _ _ _ h => h
                              case szz288 => first | assumption | trivial
                              case' rzz288 => simp only [Act.put, List.setIfInBounds_toArray, List.set_cons_zero, List.set_cons_succ]
                              refine wpAnyH_done (by kernel_rfl) ?_ _
                              go_wp2
                              go_ret
                              exact ⟨by first | rfl | (simp; done), BQ.out.trans hHeld⟩
                          case' mzz289 => skip
                          exact AllReadyH.nil
                      case' mzz290 => skip
                      exact AllReadyH.nil
                  case' mzz291 => skip
                  exact AllReadyH.nil
              case' mzz292 => skip
              exact AllReadyH.nil
          case' mzz293 => skip
          exact AllReadyH.nil
      case' mzz294 => skip
      exact AllReadyH.nil
  case' mzz295 => skip
  exact AllReadyH.nil
set_option maxHeartbeats 4000000 in
theorem walk_1110 (a : Wn) (b : Wn) (key : ByteArray) (w : World) (h1 : inS a key = true) (h2 : inS b key = true) (h3 : over a b = true) (h4 : lt a.lo b.lo = false) :
    Calls Try.prog 5 #[wnV a, wnV b, .string key] w fun e w' => e = .returned (.bool true) ∧ Q w w' := by
  have K1 := Lib.hid (fun W => sin_any a key W)
  rw [h1] at K1
  have K2 := Lib.hid (fun W => sin_any b key W)
  rw [h2] at K2
  have K3 := Lib.hid (fun W => sover_any a b W)
  rw [h3] at K3
  have K4 := Lib.hid (fun W => sover_any b a W)
  rw [over_comm b a, h3] at K4
  have K5 := Lib.hid (fun W => sclash_any a b W)
  have K6 := Lib.hid (fun W => sclash_any b a W)
  rw [clash_comm b a] at K6
  have KA := Lib.hid (fun W => sin_any a (mx a.lo b.lo) W)
  have KB := Lib.hid (fun W => sin_any b (mx a.lo b.lo) W)
  have hw := witness2 a b
  rw [h3, Bool.not_true, Bool.false_or, Bool.and_eq_true] at hw
  rw [hw.1] at KA
  rw [hw.2] at KB
  clear hw
  rw [show mx a.lo b.lo = a.lo by unfold mx; rw [h4]; rfl] at KA KB
  have e4 := lt_data a.lo b.lo
  rw [h4] at e4
  have r1 := beq_rr (clash a b)
  generalize clash a b = y at *
  clear h1 h2 h3 h4
  have B := wn_box2 w a b
  try unfold wnV at *
  go_enter Try.func5, Try.ntmps5
  go_wp2_with fail
  generalize ((w.alloc (.cells #[.int .i64 a.mode, .string a.lo, .string a.hi] 23)).alloc (.cells #[.int .i64 b.mode, .string b.lo, .string b.hi] 23)) = W0 at B ⊢
  obtain ⟨⟨c0, c1, c2⟩, ⟨c3, c4, c5⟩, bq⟩ := B
  change _ at bq
  refine (spshown_any _).mono ?_
  rintro e W ⟨rfl, q0⟩
  have c0 := box_ q0 c0
  have c1 := box_ q0 c1
  have c2 := box_ q0 c2
  have c3 := box_ q0 c3
  have c4 := box_ q0 c4
  have c5 := box_ q0 c5
  have BQ := Lib.hid (bq.trans q0)
  clear bq q0
  go_wp2_with fail
  refine (K1.out _).mono ?_
  rintro e w1 ⟨rfl, q1⟩
  have c0 := box_ q1 c0
  have c1 := box_ q1 c1
  have c2 := box_ q1 c2
  have c3 := box_ q1 c3
  have c4 := box_ q1 c4
  have c5 := box_ q1 c5
  have BQ := Lib.hid (BQ.out.trans q1)
  clear q1
  go_wp2_with fail
  refine (K2.out _).mono ?_
  rintro e w2 ⟨rfl, q2⟩
  have c0 := box_ q2 c0
  have c1 := box_ q2 c1
  have c2 := box_ q2 c2
  have c3 := box_ q2 c3
  have c4 := box_ q2 c4
  have c5 := box_ q2 c5
  have BQ := Lib.hid (BQ.out.trans q2)
  clear q2
  go_wp2_with fail
  refine (K3.out _).mono ?_
  rintro e w3 ⟨rfl, q3⟩
  have c0 := box_ q3 c0
  have c1 := box_ q3 c1
  have c2 := box_ q3 c2
  have c3 := box_ q3 c3
  have c4 := box_ q3 c4
  have c5 := box_ q3 c5
  have BQ := Lib.hid (BQ.out.trans q3)
  clear q3
  go_wp2
  refine wp_region_held_drew (S := Q w3) (by kernel_rfl) ?szz296 (fun hHeld => ?rzz296)
  case szz296 =>
    exact (Q.refl w3).drew
  case' rzz296 => skip
  refine wpAnyH_take (i := 0) (oi := ?ozz297) (v := ?vzz297) ?hzz297 ?azz297 ?bzz297 ?czz297 ?qzz297 ?yzz297 ?szz297 ?rzz297
  case hzz297 => simp only [List.getElem?_toArray, List.getElem?_cons_zero]; rfl
  case azz297 => kernel_rfl
  case bzz297 => kernel_rfl
  case czz297 => kernel_rfl
  case yzz297 =>
    refine Or.inl ⟨by rfl, ?_⟩
    intro w hSw
    skip
    go_simp
    try with_reducible rfl
  case qzz297 => exact fun _ _ _ h => h
  case szz297 => first | assumption | trivial
  case' rzz297 => simp only [Act.put, List.setIfInBounds_toArray, List.set_cons_zero, List.set_cons_succ]
  refine wpAnyH_take (i := 1) (oi := ?ozz298) (v := ?vzz298) ?hzz298 ?azz298 ?bzz298 ?czz298 ?qzz298 ?yzz298 ?szz298 ?rzz298
  case hzz298 => simp only [List.getElem?_toArray, List.getElem?_cons_zero, List.getElem?_cons_succ]; rfl
  case azz298 => kernel_rfl
  case bzz298 => kernel_rfl
  case czz298 => kernel_rfl
  case yzz298 =>
    refine Or.inl ⟨by rfl, ?_⟩
    intro w hSw
    skip
    go_simp
    try with_reducible rfl
  case qzz298 => exact fun _ _ _ h => h
  case szz298 => first | assumption | trivial
  case' rzz298 => simp only [Act.put, List.setIfInBounds_toArray, List.set_cons_zero, List.set_cons_succ]
  refine wpAnyH_take (i := 2) (oi := ?ozz299) (v := ?vzz299) ?hzz299 ?azz299 ?bzz299 ?czz299 ?qzz299 ?yzz299 ?szz299 ?rzz299
  case hzz299 => simp only [List.getElem?_toArray, List.getElem?_cons_zero, List.getElem?_cons_succ]; rfl
  case azz299 => kernel_rfl
  case bzz299 => kernel_rfl
  case czz299 => kernel_rfl
  case yzz299 =>
    refine Or.inl ⟨by rfl, ?_⟩
    intro w hSw
    have x0 := box_ hSw c0; have x1 := box_ hSw c1; have x2 := box_ hSw c2; have x3 := box_ hSw c3; have x4 := box_ hSw c4; have x5 := box_ hSw c5; clear hSw
    go_simp
    try with_reducible rfl
  case qzz299 => exact fun _ _ _ h => h
  case szz299 => first | assumption | trivial
  case' rzz299 => simp only [Act.put, List.setIfInBounds_toArray, List.set_cons_zero, List.set_cons_succ]
  refine wpAnyH_take (i := 3) (oi := ?ozz300) (v := ?vzz300) ?hzz300 ?azz300 ?bzz300 ?czz300 ?qzz300 ?yzz300 ?szz300 ?rzz300
  case hzz300 => simp only [List.getElem?_toArray, List.getElem?_cons_zero, List.getElem?_cons_succ]; rfl
  case azz300 => kernel_rfl
  case bzz300 => kernel_rfl
  case czz300 => kernel_rfl
  case yzz300 =>
    refine Or.inl ⟨by rfl, ?_⟩
    intro w hSw
    have x0 := box_ hSw c0; have x1 := box_ hSw c1; have x2 := box_ hSw c2; have x3 := box_ hSw c3; have x4 := box_ hSw c4; have x5 := box_ hSw c5; clear hSw
    go_simp
    try with_reducible rfl
  case qzz300 => exact fun _ _ _ h => h
  case szz300 => first | assumption | trivial
  case' rzz300 => simp only [Act.put, List.setIfInBounds_toArray, List.set_cons_zero, List.set_cons_succ]
  refine wpAnyH_ready (rs := [4]) (by kernel_rfl) (by simp) ?_
  refine AllReadyH.cons (o := ?ozz332) ?hzz332 (fun K hK => ?kzz332) ?mzz332
  case hzz332 => simp only [List.getElem?_toArray, List.getElem?_cons_zero, List.getElem?_cons_succ]; rfl
  case kzz332 =>
    go_simp
    refine (K3.out _).mono ?_
    rintro e v1 ⟨rfl, q1⟩
    go_wp2_with fail
    refine hK.out _ _ ?Szz332 (fun hHeld => ?Rzz332)
    case Szz332 =>
      exact hHeld.trans q1
    case Rzz332 =>
      clear hK K
      try simp only [Act.put, List.setIfInBounds_toArray, List.set_cons_zero, List.set_cons_succ]
      refine wpAnyH_take (i := 5) (oi := ?ozz301) (v := ?vzz301) ?hzz301 ?azz301 ?bzz301 ?czz301 ?qzz301 ?yzz301 ?szz301 ?rzz301
      case hzz301 => simp only [List.getElem?_toArray, List.getElem?_cons_zero, List.getElem?_cons_succ]; rfl
      case azz301 => kernel_rfl
      case bzz301 => kernel_rfl
      case czz301 => kernel_rfl
      case yzz301 =>
        refine Or.inl ⟨by rfl, ?_⟩
        intro w hSw
        skip
        go_simp
        try with_reducible rfl
      case qzz301 => exact fun _ _ _ h => h
      case szz301 => first | assumption | trivial
      case' rzz301 => simp only [Act.put, List.setIfInBounds_toArray, List.set_cons_zero, List.set_cons_succ]
      refine wpAnyH_take (i := 6) (oi := ?ozz302) (v := ?vzz302) ?hzz302 ?azz302 ?bzz302 ?czz302 ?qzz302 ?yzz302 ?szz302 ?rzz302
      case hzz302 => simp only [List.getElem?_toArray, List.getElem?_cons_zero, List.getElem?_cons_succ]; rfl
      case azz302 => kernel_rfl
      case bzz302 => kernel_rfl
      case czz302 => kernel_rfl
      case yzz302 =>
        refine Or.inl ⟨by rfl, ?_⟩
        intro w hSw
        skip
        go_simp
        try with_reducible rfl
      case qzz302 => exact fun _ _ _ h => h
      case szz302 => first | assumption | trivial
      case' rzz302 => simp only [Act.put, List.setIfInBounds_toArray, List.set_cons_zero, List.set_cons_succ]
      refine wpAnyH_take (i := 7) (oi := ?ozz303) (v := ?vzz303) ?hzz303 ?azz303 ?bzz303 ?czz303 ?qzz303 ?yzz303 ?szz303 ?rzz303
      case hzz303 => simp only [List.getElem?_toArray, List.getElem?_cons_zero, List.getElem?_cons_succ]; rfl
      case azz303 => kernel_rfl
      case bzz303 => kernel_rfl
      case czz303 => kernel_rfl
      case yzz303 =>
        refine Or.inl ⟨by rfl, ?_⟩
        intro w hSw
        have x0 := box_ hSw c0; have x1 := box_ hSw c1; have x2 := box_ hSw c2; have x3 := box_ hSw c3; have x4 := box_ hSw c4; have x5 := box_ hSw c5; clear hSw
        go_simp
        try with_reducible rfl
      case qzz303 => exact fun _ _ _ h => h
      case szz303 => first | assumption | trivial
      case' rzz303 => simp only [Act.put, List.setIfInBounds_toArray, List.set_cons_zero, List.set_cons_succ]
      refine wpAnyH_take (i := 8) (oi := ?ozz304) (v := ?vzz304) ?hzz304 ?azz304 ?bzz304 ?czz304 ?qzz304 ?yzz304 ?szz304 ?rzz304
      case hzz304 => simp only [List.getElem?_toArray, List.getElem?_cons_zero, List.getElem?_cons_succ]; rfl
      case azz304 => kernel_rfl
      case bzz304 => kernel_rfl
      case czz304 => kernel_rfl
      case yzz304 =>
        refine Or.inl ⟨by rfl, ?_⟩
        intro w hSw
        skip
        go_simp
        try with_reducible rfl
      case qzz304 => exact fun _ _ _ h => h
      case szz304 => first | assumption | trivial
      case' rzz304 => simp only [Act.put, List.setIfInBounds_toArray, List.set_cons_zero, List.set_cons_succ]
      refine wpAnyH_ready (rs := [9]) (by kernel_rfl) (by simp) ?_
      refine AllReadyH.cons (o := ?ozz331) ?hzz331 (fun K hK => ?kzz331) ?mzz331
      case hzz331 => simp only [List.getElem?_toArray, List.getElem?_cons_zero, List.getElem?_cons_succ]; rfl
      case kzz331 =>
        go_simp
        refine (KA.out _).mono ?_
        rintro e v2 ⟨rfl, q2⟩
        go_wp2_with fail
        refine hK.out _ _ ?Szz331 (fun hHeld => ?Rzz331)
        case Szz331 =>
          exact hHeld.trans q2
        case Rzz331 =>
          clear hK K
          try simp only [Act.put, List.setIfInBounds_toArray, List.set_cons_zero, List.set_cons_succ]
          refine wpAnyH_take (i := 10) (oi := ?ozz305) (v := ?vzz305) ?hzz305 ?azz305 ?bzz305 ?czz305 ?qzz305 ?yzz305 ?szz305 ?rzz305
          case hzz305 => simp only [List.getElem?_toArray, List.getElem?_cons_zero, List.getElem?_cons_succ]; rfl
          case azz305 => kernel_rfl
          case bzz305 => kernel_rfl
          case czz305 => kernel_rfl
          case yzz305 =>
            refine Or.inl ⟨by rfl, ?_⟩
            intro w hSw
            skip
            go_simp
            try with_reducible rfl
          case qzz305 => exact fun _ _ _ h => h
          case szz305 => first | assumption | trivial
          case' rzz305 => simp only [Act.put, List.setIfInBounds_toArray, List.set_cons_zero, List.set_cons_succ]
          refine wpAnyH_take (i := 11) (oi := ?ozz306) (v := ?vzz306) ?hzz306 ?azz306 ?bzz306 ?czz306 ?qzz306 ?yzz306 ?szz306 ?rzz306
          case hzz306 => simp only [List.getElem?_toArray, List.getElem?_cons_zero, List.getElem?_cons_succ]; rfl
          case azz306 => kernel_rfl
          case bzz306 => kernel_rfl
          case czz306 => kernel_rfl
          case yzz306 =>
            refine Or.inl ⟨by rfl, ?_⟩
            intro w hSw
            have x0 := box_ hSw c0; have x1 := box_ hSw c1; have x2 := box_ hSw c2; have x3 := box_ hSw c3; have x4 := box_ hSw c4; have x5 := box_ hSw c5; clear hSw
            go_simp
            try with_reducible rfl
          case qzz306 => exact fun _ _ _ h => h
          case szz306 => first | assumption | trivial
          case' rzz306 => simp only [Act.put, List.setIfInBounds_toArray, List.set_cons_zero, List.set_cons_succ]
          refine wpAnyH_take (i := 12) (oi := ?ozz307) (v := ?vzz307) ?hzz307 ?azz307 ?bzz307 ?czz307 ?qzz307 ?yzz307 ?szz307 ?rzz307
          case hzz307 => simp only [List.getElem?_toArray, List.getElem?_cons_zero, List.getElem?_cons_succ]; rfl
          case azz307 => kernel_rfl
          case bzz307 => kernel_rfl
          case czz307 => kernel_rfl
          case yzz307 =>
            refine Or.inl ⟨by rfl, ?_⟩
            intro w hSw
            skip
            go_simp
            try with_reducible rfl
          case qzz307 => exact fun _ _ _ h => h
          case szz307 => first | assumption | trivial
          case' rzz307 => simp only [Act.put, List.setIfInBounds_toArray, List.set_cons_zero, List.set_cons_succ]
          refine wpAnyH_ready (rs := [13]) (by kernel_rfl) (by simp) ?_
          refine AllReadyH.cons (o := ?ozz330) ?hzz330 (fun K hK => ?kzz330) ?mzz330
          case hzz330 => simp only [List.getElem?_toArray, List.getElem?_cons_zero, List.getElem?_cons_succ]; rfl
          case kzz330 =>
            go_simp
            refine (KB.out _).mono ?_
            rintro e v3 ⟨rfl, q3⟩
            go_wp2_with fail
            refine hK.out _ _ ?Szz330 (fun hHeld => ?Rzz330)
            case Szz330 =>
              exact hHeld.trans q3
            case Rzz330 =>
              clear hK K
              try simp only [Act.put, List.setIfInBounds_toArray, List.set_cons_zero, List.set_cons_succ]
              refine wpAnyH_take (i := 14) (oi := ?ozz308) (v := ?vzz308) ?hzz308 ?azz308 ?bzz308 ?czz308 ?qzz308 ?yzz308 ?szz308 ?rzz308
              case hzz308 => simp only [List.getElem?_toArray, List.getElem?_cons_zero, List.getElem?_cons_succ]; rfl
              case azz308 => kernel_rfl
              case bzz308 => kernel_rfl
              case czz308 => kernel_rfl
              case yzz308 =>
                refine Or.inl ⟨by rfl, ?_⟩
                intro w hSw
                skip
                go_simp
                try with_reducible rfl
              case qzz308 => exact fun _ _ _ h => h
              case szz308 => first | assumption | trivial
              case' rzz308 => simp only [Act.put, List.setIfInBounds_toArray, List.set_cons_zero, List.set_cons_succ]
              refine wpAnyH_take (i := 15) (oi := ?ozz309) (v := ?vzz309) ?hzz309 ?azz309 ?bzz309 ?czz309 ?qzz309 ?yzz309 ?szz309 ?rzz309
              case hzz309 => simp only [List.getElem?_toArray, List.getElem?_cons_zero, List.getElem?_cons_succ]; rfl
              case azz309 => kernel_rfl
              case bzz309 => kernel_rfl
              case czz309 => kernel_rfl
              case yzz309 =>
                refine Or.inl ⟨by rfl, ?_⟩
                intro w hSw
                skip
                go_simp
                try with_reducible rfl
              case qzz309 => exact fun _ _ _ h => h
              case szz309 => first | assumption | trivial
              case' rzz309 => simp only [Act.put, List.setIfInBounds_toArray, List.set_cons_zero, List.set_cons_succ]
              refine wpAnyH_take (i := 16) (oi := ?ozz310) (v := ?vzz310) ?hzz310 ?azz310 ?bzz310 ?czz310 ?qzz310 ?yzz310 ?szz310 ?rzz310
              case hzz310 => simp only [List.getElem?_toArray, List.getElem?_cons_zero, List.getElem?_cons_succ]; rfl
              case azz310 => kernel_rfl
              case bzz310 => kernel_rfl
              case czz310 => kernel_rfl
              case yzz310 =>
                refine Or.inl ⟨by rfl, ?_⟩
                intro w hSw
                skip
                go_simp
                try with_reducible rfl
              case qzz310 => exact fun _ _ _ h => h
              case szz310 => first | assumption | trivial
              case' rzz310 => simp only [Act.put, List.setIfInBounds_toArray, List.set_cons_zero, List.set_cons_succ]
              refine wpAnyH_take (i := 17) (oi := ?ozz311) (v := ?vzz311) ?hzz311 ?azz311 ?bzz311 ?czz311 ?qzz311 ?yzz311 ?szz311 ?rzz311
              case hzz311 => simp only [List.getElem?_toArray, List.getElem?_cons_zero, List.getElem?_cons_succ]; rfl
              case azz311 => kernel_rfl
              case bzz311 => kernel_rfl
              case czz311 => kernel_rfl
              case yzz311 =>
                refine Or.inl ⟨by rfl, ?_⟩
                intro w hSw
                skip
                go_simp
                try with_reducible rfl
              case qzz311 => exact fun _ _ _ h => h
              case szz311 => first | assumption | trivial
              case' rzz311 => simp only [Act.put, List.setIfInBounds_toArray, List.set_cons_zero, List.set_cons_succ]
              refine wpAnyH_take (i := 18) (oi := ?ozz312) (v := ?vzz312) ?hzz312 ?azz312 ?bzz312 ?czz312 ?qzz312 ?yzz312 ?szz312 ?rzz312
              case hzz312 => simp only [List.getElem?_toArray, List.getElem?_cons_zero, List.getElem?_cons_succ]; rfl
              case azz312 => kernel_rfl
              case bzz312 => kernel_rfl
              case czz312 => kernel_rfl
              case yzz312 =>
                refine Or.inl ⟨by rfl, ?_⟩
                intro w hSw
                have x0 := box_ hSw c0; have x1 := box_ hSw c1; have x2 := box_ hSw c2; have x3 := box_ hSw c3; have x4 := box_ hSw c4; have x5 := box_ hSw c5; clear hSw
                go_simp
                try with_reducible rfl
              case qzz312 => exact fun _ _ _ h => h
              case szz312 => first | assumption | trivial
              case' rzz312 => simp only [Act.put, List.setIfInBounds_toArray, List.set_cons_zero, List.set_cons_succ]
              refine wpAnyH_take (i := 19) (oi := ?ozz313) (v := ?vzz313) ?hzz313 ?azz313 ?bzz313 ?czz313 ?qzz313 ?yzz313 ?szz313 ?rzz313
              case hzz313 => simp only [List.getElem?_toArray, List.getElem?_cons_zero, List.getElem?_cons_succ]; rfl
              case azz313 => kernel_rfl
              case bzz313 => kernel_rfl
              case czz313 => kernel_rfl
              case yzz313 =>
                refine Or.inl ⟨by rfl, ?_⟩
                intro w hSw
                have x0 := box_ hSw c0; have x1 := box_ hSw c1; have x2 := box_ hSw c2; have x3 := box_ hSw c3; have x4 := box_ hSw c4; have x5 := box_ hSw c5; clear hSw
                go_simp
                try with_reducible rfl
              case qzz313 => exact fun _ _ _ h => h
              case szz313 => first | assumption | trivial
              case' rzz313 => simp only [Act.put, List.setIfInBounds_toArray, List.set_cons_zero, List.set_cons_succ]
              refine wpAnyH_take (i := 21) (oi := ?ozz314) (v := ?vzz314) ?hzz314 ?azz314 ?bzz314 ?czz314 ?qzz314 ?yzz314 ?szz314 ?rzz314
              case hzz314 => simp only [List.getElem?_toArray, List.getElem?_cons_zero, List.getElem?_cons_succ]; rfl
              case azz314 => kernel_rfl
              case bzz314 => kernel_rfl
              case czz314 => kernel_rfl
              case yzz314 =>
                refine Or.inl ⟨by rfl, ?_⟩
                intro w hSw
                have x0 := box_ hSw c0; have x1 := box_ hSw c1; have x2 := box_ hSw c2; have x3 := box_ hSw c3; have x4 := box_ hSw c4; have x5 := box_ hSw c5; clear hSw
                go_simp
                try with_reducible rfl
              case qzz314 => exact fun _ _ _ h => h
              case szz314 => first | assumption | trivial
              case' rzz314 => simp only [Act.put, List.setIfInBounds_toArray, List.set_cons_zero, List.set_cons_succ]
              refine wpAnyH_take (i := 22) (oi := ?ozz315) (v := ?vzz315) ?hzz315 ?azz315 ?bzz315 ?czz315 ?qzz315 ?yzz315 ?szz315 ?rzz315
              case hzz315 => simp only [List.getElem?_toArray, List.getElem?_cons_zero, List.getElem?_cons_succ]; rfl
              case azz315 => kernel_rfl
              case bzz315 => kernel_rfl
              case czz315 => kernel_rfl
              case yzz315 =>
                refine Or.inl ⟨by rfl, ?_⟩
                intro w hSw
                have x0 := box_ hSw c0; have x1 := box_ hSw c1; have x2 := box_ hSw c2; have x3 := box_ hSw c3; have x4 := box_ hSw c4; have x5 := box_ hSw c5; clear hSw
                go_simp
                try with_reducible rfl
              case qzz315 => exact fun _ _ _ h => h
              case szz315 => first | assumption | trivial
              case' rzz315 => simp only [Act.put, List.setIfInBounds_toArray, List.set_cons_zero, List.set_cons_succ]
              refine wpAnyH_ready (rs := [20]) (by kernel_rfl) (by simp) ?_
              refine AllReadyH.cons (o := ?ozz329) ?hzz329 (fun K hK => ?kzz329) ?mzz329
              case hzz329 => simp only [List.getElem?_toArray, List.getElem?_cons_zero, List.getElem?_cons_succ]; rfl
              case kzz329 =>
                go_simp
                refine (K3.out _).mono ?_
                rintro e v4 ⟨rfl, q4⟩
                go_wp2_with fail
                refine hK.out _ _ ?Szz329 (fun hHeld => ?Rzz329)
                case Szz329 =>
                  exact hHeld.trans q4
                case Rzz329 =>
                  clear hK K
                  try simp only [Act.put, List.setIfInBounds_toArray, List.set_cons_zero, List.set_cons_succ]
                  refine wpAnyH_ready (rs := [23]) (by kernel_rfl) (by simp) ?_
                  refine AllReadyH.cons (o := ?ozz328) ?hzz328 (fun K hK => ?kzz328) ?mzz328
                  case hzz328 => simp only [List.getElem?_toArray, List.getElem?_cons_zero, List.getElem?_cons_succ]; rfl
                  case kzz328 =>
                    go_simp
                    refine (K4.out _).mono ?_
                    rintro e v5 ⟨rfl, q5⟩
                    go_wp2_with fail
                    refine hK.out _ _ ?Szz328 (fun hHeld => ?Rzz328)
                    case Szz328 =>
                      exact hHeld.trans q5
                    case Rzz328 =>
                      clear hK K
                      try simp only [Act.put, List.setIfInBounds_toArray, List.set_cons_zero, List.set_cons_succ]
                      refine wpAnyH_take (i := 24) (oi := ?ozz316) (v := ?vzz316) ?hzz316 ?azz316 ?bzz316 ?czz316 ?qzz316 ?yzz316 ?szz316 ?rzz316
                      case hzz316 => simp only [List.getElem?_toArray, List.getElem?_cons_zero, List.getElem?_cons_succ]; rfl
                      case azz316 => kernel_rfl
                      case bzz316 => kernel_rfl
                      case czz316 => kernel_rfl
                      case yzz316 =>
                        refine Or.inl ⟨by rfl, ?_⟩
                        intro w hSw
                        skip
                        go_simp
                        try with_reducible rfl
                      case qzz316 => exact fun _ _ _ h => h
                      case szz316 => first | assumption | trivial
                      case' rzz316 => simp only [Act.put, List.setIfInBounds_toArray, List.set_cons_zero, List.set_cons_succ]
                      refine wpAnyH_take (i := 25) (oi := ?ozz317) (v := ?vzz317) ?hzz317 ?azz317 ?bzz317 ?czz317 ?qzz317 ?yzz317 ?szz317 ?rzz317
                      case hzz317 => simp only [List.getElem?_toArray, List.getElem?_cons_zero, List.getElem?_cons_succ]; rfl
                      case azz317 => kernel_rfl
                      case bzz317 => kernel_rfl
                      case czz317 => kernel_rfl
                      case yzz317 =>
                        refine Or.inl ⟨by rfl, ?_⟩
                        intro w hSw
                        skip
                        go_simp
                        try with_reducible rfl
                      case qzz317 => exact fun _ _ _ h => h
                      case szz317 => first | assumption | trivial
                      case' rzz317 => simp only [Act.put, List.setIfInBounds_toArray, List.set_cons_zero, List.set_cons_succ]
                      refine wpAnyH_take (i := 26) (oi := ?ozz318) (v := ?vzz318) ?hzz318 ?azz318 ?bzz318 ?czz318 ?qzz318 ?yzz318 ?szz318 ?rzz318
                      case hzz318 => simp only [List.getElem?_toArray, List.getElem?_cons_zero, List.getElem?_cons_succ]; rfl
                      case azz318 => kernel_rfl
                      case bzz318 => kernel_rfl
                      case czz318 => kernel_rfl
                      case yzz318 =>
                        refine Or.inl ⟨by rfl, ?_⟩
                        intro w hSw
                        skip
                        go_simp
                        try with_reducible rfl
                      case qzz318 => exact fun _ _ _ h => h
                      case szz318 => first | assumption | trivial
                      case' rzz318 => simp only [Act.put, List.setIfInBounds_toArray, List.set_cons_zero, List.set_cons_succ]
                      refine wpAnyH_take (i := 27) (oi := ?ozz319) (v := ?vzz319) ?hzz319 ?azz319 ?bzz319 ?czz319 ?qzz319 ?yzz319 ?szz319 ?rzz319
                      case hzz319 => simp only [List.getElem?_toArray, List.getElem?_cons_zero, List.getElem?_cons_succ]; rfl
                      case azz319 => kernel_rfl
                      case bzz319 => kernel_rfl
                      case czz319 => kernel_rfl
                      case yzz319 =>
                        refine Or.inl ⟨by rfl, ?_⟩
                        intro w hSw
                        have x0 := box_ hSw c0; have x1 := box_ hSw c1; have x2 := box_ hSw c2; have x3 := box_ hSw c3; have x4 := box_ hSw c4; have x5 := box_ hSw c5; clear hSw
                        go_simp
                        try with_reducible rfl
                      case qzz319 => exact fun _ _ _ h => h
                      case szz319 => first | assumption | trivial
                      case' rzz319 => simp only [Act.put, List.setIfInBounds_toArray, List.set_cons_zero, List.set_cons_succ]
                      refine wpAnyH_take (i := 28) (oi := ?ozz320) (v := ?vzz320) ?hzz320 ?azz320 ?bzz320 ?czz320 ?qzz320 ?yzz320 ?szz320 ?rzz320
                      case hzz320 => simp only [List.getElem?_toArray, List.getElem?_cons_zero, List.getElem?_cons_succ]; rfl
                      case azz320 => kernel_rfl
                      case bzz320 => kernel_rfl
                      case czz320 => kernel_rfl
                      case yzz320 =>
                        refine Or.inl ⟨by rfl, ?_⟩
                        intro w hSw
                        have x0 := box_ hSw c0; have x1 := box_ hSw c1; have x2 := box_ hSw c2; have x3 := box_ hSw c3; have x4 := box_ hSw c4; have x5 := box_ hSw c5; clear hSw
                        go_simp
                        try with_reducible rfl
                      case qzz320 => exact fun _ _ _ h => h
                      case szz320 => first | assumption | trivial
                      case' rzz320 => simp only [Act.put, List.setIfInBounds_toArray, List.set_cons_zero, List.set_cons_succ]
                      refine wpAnyH_take (i := 30) (oi := ?ozz321) (v := ?vzz321) ?hzz321 ?azz321 ?bzz321 ?czz321 ?qzz321 ?yzz321 ?szz321 ?rzz321
                      case hzz321 => simp only [List.getElem?_toArray, List.getElem?_cons_zero, List.getElem?_cons_succ]; rfl
                      case azz321 => kernel_rfl
                      case bzz321 => kernel_rfl
                      case czz321 => kernel_rfl
                      case yzz321 =>
                        refine Or.inl ⟨by rfl, ?_⟩
                        intro w hSw
                        have x0 := box_ hSw c0; have x1 := box_ hSw c1; have x2 := box_ hSw c2; have x3 := box_ hSw c3; have x4 := box_ hSw c4; have x5 := box_ hSw c5; clear hSw
                        go_simp
                        try with_reducible rfl
                      case qzz321 => exact fun _ _ _ h => h
                      case szz321 => first | assumption | trivial
                      case' rzz321 => simp only [Act.put, List.setIfInBounds_toArray, List.set_cons_zero, List.set_cons_succ]
                      refine wpAnyH_take (i := 31) (oi := ?ozz322) (v := ?vzz322) ?hzz322 ?azz322 ?bzz322 ?czz322 ?qzz322 ?yzz322 ?szz322 ?rzz322
                      case hzz322 => simp only [List.getElem?_toArray, List.getElem?_cons_zero, List.getElem?_cons_succ]; rfl
                      case azz322 => kernel_rfl
                      case bzz322 => kernel_rfl
                      case czz322 => kernel_rfl
                      case yzz322 =>
                        refine Or.inl ⟨by rfl, ?_⟩
                        intro w hSw
                        have x0 := box_ hSw c0; have x1 := box_ hSw c1; have x2 := box_ hSw c2; have x3 := box_ hSw c3; have x4 := box_ hSw c4; have x5 := box_ hSw c5; clear hSw
                        go_simp
                        try with_reducible rfl
                      case qzz322 => exact fun _ _ _ h => h
                      case szz322 => first | assumption | trivial
                      case' rzz322 => simp only [Act.put, List.setIfInBounds_toArray, List.set_cons_zero, List.set_cons_succ]
                      refine wpAnyH_ready (rs := [29]) (by kernel_rfl) (by simp) ?_
                      refine AllReadyH.cons (o := ?ozz327) ?hzz327 (fun K hK => ?kzz327) ?mzz327
                      case hzz327 => simp only [List.getElem?_toArray, List.getElem?_cons_zero, List.getElem?_cons_succ]; rfl
                      case kzz327 =>
                        go_simp
                        refine (K5.out _).mono ?_
                        rintro e v6 ⟨rfl, q6⟩
                        go_wp2_with fail
                        refine hK.out _ _ ?Szz327 (fun hHeld => ?Rzz327)
                        case Szz327 =>
                          exact hHeld.trans q6
                        case Rzz327 =>
                          clear hK K
                          try simp only [Act.put, List.setIfInBounds_toArray, List.set_cons_zero, List.set_cons_succ]
                          refine wpAnyH_ready (rs := [32]) (by kernel_rfl) (by simp) ?_
                          refine AllReadyH.cons (o := ?ozz326) ?hzz326 (fun K hK => ?kzz326) ?mzz326
                          case hzz326 => simp only [List.getElem?_toArray, List.getElem?_cons_zero, List.getElem?_cons_succ]; rfl
                          case kzz326 =>
                            go_simp
                            refine (K6.out _).mono ?_
                            rintro e v7 ⟨rfl, q7⟩
                            go_wp2_with fail
                            refine hK.out _ _ ?Szz326 (fun hHeld => ?Rzz326)
                            case Szz326 =>
                              exact hHeld.trans q7
                            case Rzz326 =>
                              clear hK K
                              try simp only [Act.put, List.setIfInBounds_toArray, List.set_cons_zero, List.set_cons_succ]
                              refine wpAnyH_take (i := 33) (oi := ?ozz323) (v := ?vzz323) ?hzz323 ?azz323 ?bzz323 ?czz323 ?qzz323 ?yzz323 ?szz323 ?rzz323
                              case hzz323 => simp only [List.getElem?_toArray, List.getElem?_cons_zero, List.getElem?_cons_succ]; rfl
                              case azz323 => kernel_rfl
                              case bzz323 => kernel_rfl
                              case czz323 => kernel_rfl
                              case yzz323 =>
                                refine Or.inl ⟨by rfl, ?_⟩
                                intro w hSw
                                skip
                                go_simp
                                try with_reducible rfl
                              case qzz323 => exact fun _ _ _ h => h
                              case szz323 => first | assumption | trivial
                              case' rzz323 => simp only [Act.put, List.setIfInBounds_toArray, List.set_cons_zero, List.set_cons_succ]
                              refine wpAnyH_take (i := 34) (oi := ?ozz324) (v := ?vzz324) ?hzz324 ?azz324 ?bzz324 ?czz324 ?qzz324 ?yzz324 ?szz324 ?rzz324
                              case hzz324 => simp only [List.getElem?_toArray, List.getElem?_cons_zero, List.getElem?_cons_succ]; rfl
                              case azz324 => kernel_rfl
                              case bzz324 => kernel_rfl
                              case czz324 => kernel_rfl
                              case yzz324 =>
                                refine Or.inl ⟨by rfl, ?_⟩
                                intro w hSw
                                skip
                                go_simp
                                try with_reducible rfl
                              case qzz324 => exact fun _ _ _ h => h
                              case szz324 => first | assumption | trivial
                              case' rzz324 => simp only [Act.put, List.setIfInBounds_toArray, List.set_cons_zero, List.set_cons_succ]
                              refine wpAnyH_take (i := 35) (oi := ?ozz325) (v := ?vzz325) ?hzz325 ?azz325 ?bzz325 ?czz325 ?qzz325 ?yzz325 ?szz325 ?rzz325
                              case hzz325 => simp only [List.getElem?_toArray, List.getElem?_cons_zero, List.getElem?_cons_succ]; rfl
                              case azz325 => kernel_rfl
                              case bzz325 => kernel_rfl
                              case czz325 => kernel_rfl
                              case yzz325 =>
                                refine Or.inl ⟨by rfl, ?_⟩
                                intro w hSw
                                skip
                                go_simp
                                try with_reducible rfl
                              case qzz325 => exact fun _ _ _ h => h
                              case szz325 => first | assumption | trivial
                              case' rzz325 => simp only [Act.put, List.setIfInBounds_toArray, List.set_cons_zero, List.set_cons_succ]
                              refine wpAnyH_done (by kernel_rfl) ?_ _
                              go_wp2
                              go_ret
                              exact ⟨by first | rfl | (simp; done), BQ.out.trans hHeld⟩
                          case' mzz326 => skip
                          exact AllReadyH.nil
                      case' mzz327 => skip
                      exact AllReadyH.nil
                  case' mzz328 => skip
                  exact AllReadyH.nil
              case' mzz329 => skip
              exact AllReadyH.nil
          case' mzz330 => skip
          exact AllReadyH.nil
      case' mzz331 => skip
      exact AllReadyH.nil
  case' mzz332 => skip
  exact AllReadyH.nil
set_option maxHeartbeats 4000000 in
theorem walk_1111 (a : Wn) (b : Wn) (key : ByteArray) (w : World) (h1 : inS a key = true) (h2 : inS b key = true) (h3 : over a b = true) (h4 : lt a.lo b.lo = true) :
    Calls Try.prog 5 #[wnV a, wnV b, .string key] w fun e w' => e = .returned (.bool true) ∧ Q w w' := by
  have K1 := Lib.hid (fun W => sin_any a key W)
  rw [h1] at K1
  have K2 := Lib.hid (fun W => sin_any b key W)
  rw [h2] at K2
  have K3 := Lib.hid (fun W => sover_any a b W)
  rw [h3] at K3
  have K4 := Lib.hid (fun W => sover_any b a W)
  rw [over_comm b a, h3] at K4
  have K5 := Lib.hid (fun W => sclash_any a b W)
  have K6 := Lib.hid (fun W => sclash_any b a W)
  rw [clash_comm b a] at K6
  have KA := Lib.hid (fun W => sin_any a (mx a.lo b.lo) W)
  have KB := Lib.hid (fun W => sin_any b (mx a.lo b.lo) W)
  have hw := witness2 a b
  rw [h3, Bool.not_true, Bool.false_or, Bool.and_eq_true] at hw
  rw [hw.1] at KA
  rw [hw.2] at KB
  clear hw
  rw [show mx a.lo b.lo = b.lo by unfold mx; rw [h4]; rfl] at KA KB
  have e4 := lt_data a.lo b.lo
  rw [h4] at e4
  have r1 := beq_rr (clash a b)
  generalize clash a b = y at *
  clear h1 h2 h3 h4
  have B := wn_box2 w a b
  try unfold wnV at *
  go_enter Try.func5, Try.ntmps5
  go_wp2_with fail
  generalize ((w.alloc (.cells #[.int .i64 a.mode, .string a.lo, .string a.hi] 23)).alloc (.cells #[.int .i64 b.mode, .string b.lo, .string b.hi] 23)) = W0 at B ⊢
  obtain ⟨⟨c0, c1, c2⟩, ⟨c3, c4, c5⟩, bq⟩ := B
  change _ at bq
  refine (spshown_any _).mono ?_
  rintro e W ⟨rfl, q0⟩
  have c0 := box_ q0 c0
  have c1 := box_ q0 c1
  have c2 := box_ q0 c2
  have c3 := box_ q0 c3
  have c4 := box_ q0 c4
  have c5 := box_ q0 c5
  have BQ := Lib.hid (bq.trans q0)
  clear bq q0
  go_wp2_with fail
  refine (K1.out _).mono ?_
  rintro e w1 ⟨rfl, q1⟩
  have c0 := box_ q1 c0
  have c1 := box_ q1 c1
  have c2 := box_ q1 c2
  have c3 := box_ q1 c3
  have c4 := box_ q1 c4
  have c5 := box_ q1 c5
  have BQ := Lib.hid (BQ.out.trans q1)
  clear q1
  go_wp2_with fail
  refine (K2.out _).mono ?_
  rintro e w2 ⟨rfl, q2⟩
  have c0 := box_ q2 c0
  have c1 := box_ q2 c1
  have c2 := box_ q2 c2
  have c3 := box_ q2 c3
  have c4 := box_ q2 c4
  have c5 := box_ q2 c5
  have BQ := Lib.hid (BQ.out.trans q2)
  clear q2
  go_wp2_with fail
  refine (K3.out _).mono ?_
  rintro e w3 ⟨rfl, q3⟩
  have c0 := box_ q3 c0
  have c1 := box_ q3 c1
  have c2 := box_ q3 c2
  have c3 := box_ q3 c3
  have c4 := box_ q3 c4
  have c5 := box_ q3 c5
  have BQ := Lib.hid (BQ.out.trans q3)
  clear q3
  go_wp2
  refine wp_region_held_drew (S := Q w3) (by kernel_rfl) ?szz333 (fun hHeld => ?rzz333)
  case szz333 =>
    exact (Q.refl w3).drew
  case' rzz333 => skip
  refine wpAnyH_take (i := 0) (oi := ?ozz334) (v := ?vzz334) ?hzz334 ?azz334 ?bzz334 ?czz334 ?qzz334 ?yzz334 ?szz334 ?rzz334
  case hzz334 => simp only [List.getElem?_toArray, List.getElem?_cons_zero]; rfl
  case azz334 => kernel_rfl
  case bzz334 => kernel_rfl
  case czz334 => kernel_rfl
  case yzz334 =>
    refine Or.inl ⟨by rfl, ?_⟩
    intro w hSw
    skip
    go_simp
    try with_reducible rfl
  case qzz334 => exact fun _ _ _ h => h
  case szz334 => first | assumption | trivial
  case' rzz334 => simp only [Act.put, List.setIfInBounds_toArray, List.set_cons_zero, List.set_cons_succ]
  refine wpAnyH_take (i := 1) (oi := ?ozz335) (v := ?vzz335) ?hzz335 ?azz335 ?bzz335 ?czz335 ?qzz335 ?yzz335 ?szz335 ?rzz335
  case hzz335 => simp only [List.getElem?_toArray, List.getElem?_cons_zero, List.getElem?_cons_succ]; rfl
  case azz335 => kernel_rfl
  case bzz335 => kernel_rfl
  case czz335 => kernel_rfl
  case yzz335 =>
    refine Or.inl ⟨by rfl, ?_⟩
    intro w hSw
    skip
    go_simp
    try with_reducible rfl
  case qzz335 => exact fun _ _ _ h => h
  case szz335 => first | assumption | trivial
  case' rzz335 => simp only [Act.put, List.setIfInBounds_toArray, List.set_cons_zero, List.set_cons_succ]
  refine wpAnyH_take (i := 2) (oi := ?ozz336) (v := ?vzz336) ?hzz336 ?azz336 ?bzz336 ?czz336 ?qzz336 ?yzz336 ?szz336 ?rzz336
  case hzz336 => simp only [List.getElem?_toArray, List.getElem?_cons_zero, List.getElem?_cons_succ]; rfl
  case azz336 => kernel_rfl
  case bzz336 => kernel_rfl
  case czz336 => kernel_rfl
  case yzz336 =>
    refine Or.inl ⟨by rfl, ?_⟩
    intro w hSw
    have x0 := box_ hSw c0; have x1 := box_ hSw c1; have x2 := box_ hSw c2; have x3 := box_ hSw c3; have x4 := box_ hSw c4; have x5 := box_ hSw c5; clear hSw
    go_simp
    try with_reducible rfl
  case qzz336 => exact fun _ _ _ h => h
  case szz336 => first | assumption | trivial
  case' rzz336 => simp only [Act.put, List.setIfInBounds_toArray, List.set_cons_zero, List.set_cons_succ]
  refine wpAnyH_take (i := 3) (oi := ?ozz337) (v := ?vzz337) ?hzz337 ?azz337 ?bzz337 ?czz337 ?qzz337 ?yzz337 ?szz337 ?rzz337
  case hzz337 => simp only [List.getElem?_toArray, List.getElem?_cons_zero, List.getElem?_cons_succ]; rfl
  case azz337 => kernel_rfl
  case bzz337 => kernel_rfl
  case czz337 => kernel_rfl
  case yzz337 =>
    refine Or.inl ⟨by rfl, ?_⟩
    intro w hSw
    have x0 := box_ hSw c0; have x1 := box_ hSw c1; have x2 := box_ hSw c2; have x3 := box_ hSw c3; have x4 := box_ hSw c4; have x5 := box_ hSw c5; clear hSw
    go_simp
    try with_reducible rfl
  case qzz337 => exact fun _ _ _ h => h
  case szz337 => first | assumption | trivial
  case' rzz337 => simp only [Act.put, List.setIfInBounds_toArray, List.set_cons_zero, List.set_cons_succ]
  refine wpAnyH_ready (rs := [4]) (by kernel_rfl) (by simp) ?_
  refine AllReadyH.cons (o := ?ozz369) ?hzz369 (fun K hK => ?kzz369) ?mzz369
  case hzz369 => simp only [List.getElem?_toArray, List.getElem?_cons_zero, List.getElem?_cons_succ]; rfl
  case kzz369 =>
    go_simp
    refine (K3.out _).mono ?_
    rintro e v1 ⟨rfl, q1⟩
    go_wp2_with fail
    refine hK.out _ _ ?Szz369 (fun hHeld => ?Rzz369)
    case Szz369 =>
      exact hHeld.trans q1
    case Rzz369 =>
      clear hK K
      try simp only [Act.put, List.setIfInBounds_toArray, List.set_cons_zero, List.set_cons_succ]
      refine wpAnyH_take (i := 5) (oi := ?ozz338) (v := ?vzz338) ?hzz338 ?azz338 ?bzz338 ?czz338 ?qzz338 ?yzz338 ?szz338 ?rzz338
      case hzz338 => simp only [List.getElem?_toArray, List.getElem?_cons_zero, List.getElem?_cons_succ]; rfl
      case azz338 => kernel_rfl
      case bzz338 => kernel_rfl
      case czz338 => kernel_rfl
      case yzz338 =>
        refine Or.inl ⟨by rfl, ?_⟩
        intro w hSw
        skip
        go_simp
        try with_reducible rfl
      case qzz338 => exact fun _ _ _ h => h
      case szz338 => first | assumption | trivial
      case' rzz338 => simp only [Act.put, List.setIfInBounds_toArray, List.set_cons_zero, List.set_cons_succ]
      refine wpAnyH_take (i := 6) (oi := ?ozz339) (v := ?vzz339) ?hzz339 ?azz339 ?bzz339 ?czz339 ?qzz339 ?yzz339 ?szz339 ?rzz339
      case hzz339 => simp only [List.getElem?_toArray, List.getElem?_cons_zero, List.getElem?_cons_succ]; rfl
      case azz339 => kernel_rfl
      case bzz339 => kernel_rfl
      case czz339 => kernel_rfl
      case yzz339 =>
        refine Or.inl ⟨by rfl, ?_⟩
        intro w hSw
        skip
        go_simp
        try with_reducible rfl
      case qzz339 => exact fun _ _ _ h => h
      case szz339 => first | assumption | trivial
      case' rzz339 => simp only [Act.put, List.setIfInBounds_toArray, List.set_cons_zero, List.set_cons_succ]
      refine wpAnyH_take (i := 7) (oi := ?ozz340) (v := ?vzz340) ?hzz340 ?azz340 ?bzz340 ?czz340 ?qzz340 ?yzz340 ?szz340 ?rzz340
      case hzz340 => simp only [List.getElem?_toArray, List.getElem?_cons_zero, List.getElem?_cons_succ]; rfl
      case azz340 => kernel_rfl
      case bzz340 => kernel_rfl
      case czz340 => kernel_rfl
      case yzz340 =>
        refine Or.inl ⟨by rfl, ?_⟩
        intro w hSw
        have x0 := box_ hSw c0; have x1 := box_ hSw c1; have x2 := box_ hSw c2; have x3 := box_ hSw c3; have x4 := box_ hSw c4; have x5 := box_ hSw c5; clear hSw
        go_simp
        try with_reducible rfl
      case qzz340 => exact fun _ _ _ h => h
      case szz340 => first | assumption | trivial
      case' rzz340 => simp only [Act.put, List.setIfInBounds_toArray, List.set_cons_zero, List.set_cons_succ]
      refine wpAnyH_take (i := 8) (oi := ?ozz341) (v := ?vzz341) ?hzz341 ?azz341 ?bzz341 ?czz341 ?qzz341 ?yzz341 ?szz341 ?rzz341
      case hzz341 => simp only [List.getElem?_toArray, List.getElem?_cons_zero, List.getElem?_cons_succ]; rfl
      case azz341 => kernel_rfl
      case bzz341 => kernel_rfl
      case czz341 => kernel_rfl
      case yzz341 =>
        refine Or.inl ⟨by rfl, ?_⟩
        intro w hSw
        skip
        go_simp
        try with_reducible rfl
      case qzz341 => exact fun _ _ _ h => h
      case szz341 => first | assumption | trivial
      case' rzz341 => simp only [Act.put, List.setIfInBounds_toArray, List.set_cons_zero, List.set_cons_succ]
      refine wpAnyH_ready (rs := [9]) (by kernel_rfl) (by simp) ?_
      refine AllReadyH.cons (o := ?ozz368) ?hzz368 (fun K hK => ?kzz368) ?mzz368
      case hzz368 => simp only [List.getElem?_toArray, List.getElem?_cons_zero, List.getElem?_cons_succ]; rfl
      case kzz368 =>
        go_simp
        refine (KA.out _).mono ?_
        rintro e v2 ⟨rfl, q2⟩
        go_wp2_with fail
        refine hK.out _ _ ?Szz368 (fun hHeld => ?Rzz368)
        case Szz368 =>
          exact hHeld.trans q2
        case Rzz368 =>
          clear hK K
          try simp only [Act.put, List.setIfInBounds_toArray, List.set_cons_zero, List.set_cons_succ]
          refine wpAnyH_take (i := 10) (oi := ?ozz342) (v := ?vzz342) ?hzz342 ?azz342 ?bzz342 ?czz342 ?qzz342 ?yzz342 ?szz342 ?rzz342
          case hzz342 => simp only [List.getElem?_toArray, List.getElem?_cons_zero, List.getElem?_cons_succ]; rfl
          case azz342 => kernel_rfl
          case bzz342 => kernel_rfl
          case czz342 => kernel_rfl
          case yzz342 =>
            refine Or.inl ⟨by rfl, ?_⟩
            intro w hSw
            skip
            go_simp
            try with_reducible rfl
          case qzz342 => exact fun _ _ _ h => h
          case szz342 => first | assumption | trivial
          case' rzz342 => simp only [Act.put, List.setIfInBounds_toArray, List.set_cons_zero, List.set_cons_succ]
          refine wpAnyH_take (i := 11) (oi := ?ozz343) (v := ?vzz343) ?hzz343 ?azz343 ?bzz343 ?czz343 ?qzz343 ?yzz343 ?szz343 ?rzz343
          case hzz343 => simp only [List.getElem?_toArray, List.getElem?_cons_zero, List.getElem?_cons_succ]; rfl
          case azz343 => kernel_rfl
          case bzz343 => kernel_rfl
          case czz343 => kernel_rfl
          case yzz343 =>
            refine Or.inl ⟨by rfl, ?_⟩
            intro w hSw
            have x0 := box_ hSw c0; have x1 := box_ hSw c1; have x2 := box_ hSw c2; have x3 := box_ hSw c3; have x4 := box_ hSw c4; have x5 := box_ hSw c5; clear hSw
            go_simp
            try with_reducible rfl
          case qzz343 => exact fun _ _ _ h => h
          case szz343 => first | assumption | trivial
          case' rzz343 => simp only [Act.put, List.setIfInBounds_toArray, List.set_cons_zero, List.set_cons_succ]
          refine wpAnyH_take (i := 12) (oi := ?ozz344) (v := ?vzz344) ?hzz344 ?azz344 ?bzz344 ?czz344 ?qzz344 ?yzz344 ?szz344 ?rzz344
          case hzz344 => simp only [List.getElem?_toArray, List.getElem?_cons_zero, List.getElem?_cons_succ]; rfl
          case azz344 => kernel_rfl
          case bzz344 => kernel_rfl
          case czz344 => kernel_rfl
          case yzz344 =>
            refine Or.inl ⟨by rfl, ?_⟩
            intro w hSw
            skip
            go_simp
            try with_reducible rfl
          case qzz344 => exact fun _ _ _ h => h
          case szz344 => first | assumption | trivial
          case' rzz344 => simp only [Act.put, List.setIfInBounds_toArray, List.set_cons_zero, List.set_cons_succ]
          refine wpAnyH_ready (rs := [13]) (by kernel_rfl) (by simp) ?_
          refine AllReadyH.cons (o := ?ozz367) ?hzz367 (fun K hK => ?kzz367) ?mzz367
          case hzz367 => simp only [List.getElem?_toArray, List.getElem?_cons_zero, List.getElem?_cons_succ]; rfl
          case kzz367 =>
            go_simp
            refine (KB.out _).mono ?_
            rintro e v3 ⟨rfl, q3⟩
            go_wp2_with fail
            refine hK.out _ _ ?Szz367 (fun hHeld => ?Rzz367)
            case Szz367 =>
              exact hHeld.trans q3
            case Rzz367 =>
              clear hK K
              try simp only [Act.put, List.setIfInBounds_toArray, List.set_cons_zero, List.set_cons_succ]
              refine wpAnyH_take (i := 14) (oi := ?ozz345) (v := ?vzz345) ?hzz345 ?azz345 ?bzz345 ?czz345 ?qzz345 ?yzz345 ?szz345 ?rzz345
              case hzz345 => simp only [List.getElem?_toArray, List.getElem?_cons_zero, List.getElem?_cons_succ]; rfl
              case azz345 => kernel_rfl
              case bzz345 => kernel_rfl
              case czz345 => kernel_rfl
              case yzz345 =>
                refine Or.inl ⟨by rfl, ?_⟩
                intro w hSw
                skip
                go_simp
                try with_reducible rfl
              case qzz345 => exact fun _ _ _ h => h
              case szz345 => first | assumption | trivial
              case' rzz345 => simp only [Act.put, List.setIfInBounds_toArray, List.set_cons_zero, List.set_cons_succ]
              refine wpAnyH_take (i := 15) (oi := ?ozz346) (v := ?vzz346) ?hzz346 ?azz346 ?bzz346 ?czz346 ?qzz346 ?yzz346 ?szz346 ?rzz346
              case hzz346 => simp only [List.getElem?_toArray, List.getElem?_cons_zero, List.getElem?_cons_succ]; rfl
              case azz346 => kernel_rfl
              case bzz346 => kernel_rfl
              case czz346 => kernel_rfl
              case yzz346 =>
                refine Or.inl ⟨by rfl, ?_⟩
                intro w hSw
                skip
                go_simp
                try with_reducible rfl
              case qzz346 => exact fun _ _ _ h => h
              case szz346 => first | assumption | trivial
              case' rzz346 => simp only [Act.put, List.setIfInBounds_toArray, List.set_cons_zero, List.set_cons_succ]
              refine wpAnyH_take (i := 16) (oi := ?ozz347) (v := ?vzz347) ?hzz347 ?azz347 ?bzz347 ?czz347 ?qzz347 ?yzz347 ?szz347 ?rzz347
              case hzz347 => simp only [List.getElem?_toArray, List.getElem?_cons_zero, List.getElem?_cons_succ]; rfl
              case azz347 => kernel_rfl
              case bzz347 => kernel_rfl
              case czz347 => kernel_rfl
              case yzz347 =>
                refine Or.inl ⟨by rfl, ?_⟩
                intro w hSw
                skip
                go_simp
                try with_reducible rfl
              case qzz347 => exact fun _ _ _ h => h
              case szz347 => first | assumption | trivial
              case' rzz347 => simp only [Act.put, List.setIfInBounds_toArray, List.set_cons_zero, List.set_cons_succ]
              refine wpAnyH_take (i := 17) (oi := ?ozz348) (v := ?vzz348) ?hzz348 ?azz348 ?bzz348 ?czz348 ?qzz348 ?yzz348 ?szz348 ?rzz348
              case hzz348 => simp only [List.getElem?_toArray, List.getElem?_cons_zero, List.getElem?_cons_succ]; rfl
              case azz348 => kernel_rfl
              case bzz348 => kernel_rfl
              case czz348 => kernel_rfl
              case yzz348 =>
                refine Or.inl ⟨by rfl, ?_⟩
                intro w hSw
                skip
                go_simp
                try with_reducible rfl
              case qzz348 => exact fun _ _ _ h => h
              case szz348 => first | assumption | trivial
              case' rzz348 => simp only [Act.put, List.setIfInBounds_toArray, List.set_cons_zero, List.set_cons_succ]
              refine wpAnyH_take (i := 18) (oi := ?ozz349) (v := ?vzz349) ?hzz349 ?azz349 ?bzz349 ?czz349 ?qzz349 ?yzz349 ?szz349 ?rzz349
              case hzz349 => simp only [List.getElem?_toArray, List.getElem?_cons_zero, List.getElem?_cons_succ]; rfl
              case azz349 => kernel_rfl
              case bzz349 => kernel_rfl
              case czz349 => kernel_rfl
              case yzz349 =>
                refine Or.inl ⟨by rfl, ?_⟩
                intro w hSw
                have x0 := box_ hSw c0; have x1 := box_ hSw c1; have x2 := box_ hSw c2; have x3 := box_ hSw c3; have x4 := box_ hSw c4; have x5 := box_ hSw c5; clear hSw
                go_simp
                try with_reducible rfl
              case qzz349 => exact fun _ _ _ h => h
              case szz349 => first | assumption | trivial
              case' rzz349 => simp only [Act.put, List.setIfInBounds_toArray, List.set_cons_zero, List.set_cons_succ]
              refine wpAnyH_take (i := 19) (oi := ?ozz350) (v := ?vzz350) ?hzz350 ?azz350 ?bzz350 ?czz350 ?qzz350 ?yzz350 ?szz350 ?rzz350
              case hzz350 => simp only [List.getElem?_toArray, List.getElem?_cons_zero, List.getElem?_cons_succ]; rfl
              case azz350 => kernel_rfl
              case bzz350 => kernel_rfl
              case czz350 => kernel_rfl
              case yzz350 =>
                refine Or.inl ⟨by rfl, ?_⟩
                intro w hSw
                have x0 := box_ hSw c0; have x1 := box_ hSw c1; have x2 := box_ hSw c2; have x3 := box_ hSw c3; have x4 := box_ hSw c4; have x5 := box_ hSw c5; clear hSw
                go_simp
                try with_reducible rfl
              case qzz350 => exact fun _ _ _ h => h
              case szz350 => first | assumption | trivial
              case' rzz350 => simp only [Act.put, List.setIfInBounds_toArray, List.set_cons_zero, List.set_cons_succ]
              refine wpAnyH_take (i := 21) (oi := ?ozz351) (v := ?vzz351) ?hzz351 ?azz351 ?bzz351 ?czz351 ?qzz351 ?yzz351 ?szz351 ?rzz351
              case hzz351 => simp only [List.getElem?_toArray, List.getElem?_cons_zero, List.getElem?_cons_succ]; rfl
              case azz351 => kernel_rfl
              case bzz351 => kernel_rfl
              case czz351 => kernel_rfl
              case yzz351 =>
                refine Or.inl ⟨by rfl, ?_⟩
                intro w hSw
                have x0 := box_ hSw c0; have x1 := box_ hSw c1; have x2 := box_ hSw c2; have x3 := box_ hSw c3; have x4 := box_ hSw c4; have x5 := box_ hSw c5; clear hSw
                go_simp
                try with_reducible rfl
              case qzz351 => exact fun _ _ _ h => h
              case szz351 => first | assumption | trivial
              case' rzz351 => simp only [Act.put, List.setIfInBounds_toArray, List.set_cons_zero, List.set_cons_succ]
              refine wpAnyH_take (i := 22) (oi := ?ozz352) (v := ?vzz352) ?hzz352 ?azz352 ?bzz352 ?czz352 ?qzz352 ?yzz352 ?szz352 ?rzz352
              case hzz352 => simp only [List.getElem?_toArray, List.getElem?_cons_zero, List.getElem?_cons_succ]; rfl
              case azz352 => kernel_rfl
              case bzz352 => kernel_rfl
              case czz352 => kernel_rfl
              case yzz352 =>
                refine Or.inl ⟨by rfl, ?_⟩
                intro w hSw
                have x0 := box_ hSw c0; have x1 := box_ hSw c1; have x2 := box_ hSw c2; have x3 := box_ hSw c3; have x4 := box_ hSw c4; have x5 := box_ hSw c5; clear hSw
                go_simp
                try with_reducible rfl
              case qzz352 => exact fun _ _ _ h => h
              case szz352 => first | assumption | trivial
              case' rzz352 => simp only [Act.put, List.setIfInBounds_toArray, List.set_cons_zero, List.set_cons_succ]
              refine wpAnyH_ready (rs := [20]) (by kernel_rfl) (by simp) ?_
              refine AllReadyH.cons (o := ?ozz366) ?hzz366 (fun K hK => ?kzz366) ?mzz366
              case hzz366 => simp only [List.getElem?_toArray, List.getElem?_cons_zero, List.getElem?_cons_succ]; rfl
              case kzz366 =>
                go_simp
                refine (K3.out _).mono ?_
                rintro e v4 ⟨rfl, q4⟩
                go_wp2_with fail
                refine hK.out _ _ ?Szz366 (fun hHeld => ?Rzz366)
                case Szz366 =>
                  exact hHeld.trans q4
                case Rzz366 =>
                  clear hK K
                  try simp only [Act.put, List.setIfInBounds_toArray, List.set_cons_zero, List.set_cons_succ]
                  refine wpAnyH_ready (rs := [23]) (by kernel_rfl) (by simp) ?_
                  refine AllReadyH.cons (o := ?ozz365) ?hzz365 (fun K hK => ?kzz365) ?mzz365
                  case hzz365 => simp only [List.getElem?_toArray, List.getElem?_cons_zero, List.getElem?_cons_succ]; rfl
                  case kzz365 =>
                    go_simp
                    refine (K4.out _).mono ?_
                    rintro e v5 ⟨rfl, q5⟩
                    go_wp2_with fail
                    refine hK.out _ _ ?Szz365 (fun hHeld => ?Rzz365)
                    case Szz365 =>
                      exact hHeld.trans q5
                    case Rzz365 =>
                      clear hK K
                      try simp only [Act.put, List.setIfInBounds_toArray, List.set_cons_zero, List.set_cons_succ]
                      refine wpAnyH_take (i := 24) (oi := ?ozz353) (v := ?vzz353) ?hzz353 ?azz353 ?bzz353 ?czz353 ?qzz353 ?yzz353 ?szz353 ?rzz353
                      case hzz353 => simp only [List.getElem?_toArray, List.getElem?_cons_zero, List.getElem?_cons_succ]; rfl
                      case azz353 => kernel_rfl
                      case bzz353 => kernel_rfl
                      case czz353 => kernel_rfl
                      case yzz353 =>
                        refine Or.inl ⟨by rfl, ?_⟩
                        intro w hSw
                        skip
                        go_simp
                        try with_reducible rfl
                      case qzz353 => exact fun _ _ _ h => h
                      case szz353 => first | assumption | trivial
                      case' rzz353 => simp only [Act.put, List.setIfInBounds_toArray, List.set_cons_zero, List.set_cons_succ]
                      refine wpAnyH_take (i := 25) (oi := ?ozz354) (v := ?vzz354) ?hzz354 ?azz354 ?bzz354 ?czz354 ?qzz354 ?yzz354 ?szz354 ?rzz354
                      case hzz354 => simp only [List.getElem?_toArray, List.getElem?_cons_zero, List.getElem?_cons_succ]; rfl
                      case azz354 => kernel_rfl
                      case bzz354 => kernel_rfl
                      case czz354 => kernel_rfl
                      case yzz354 =>
                        refine Or.inl ⟨by rfl, ?_⟩
                        intro w hSw
                        skip
                        go_simp
                        try with_reducible rfl
                      case qzz354 => exact fun _ _ _ h => h
                      case szz354 => first | assumption | trivial
                      case' rzz354 => simp only [Act.put, List.setIfInBounds_toArray, List.set_cons_zero, List.set_cons_succ]
                      refine wpAnyH_take (i := 26) (oi := ?ozz355) (v := ?vzz355) ?hzz355 ?azz355 ?bzz355 ?czz355 ?qzz355 ?yzz355 ?szz355 ?rzz355
                      case hzz355 => simp only [List.getElem?_toArray, List.getElem?_cons_zero, List.getElem?_cons_succ]; rfl
                      case azz355 => kernel_rfl
                      case bzz355 => kernel_rfl
                      case czz355 => kernel_rfl
                      case yzz355 =>
                        refine Or.inl ⟨by rfl, ?_⟩
                        intro w hSw
                        skip
                        go_simp
                        try with_reducible rfl
                      case qzz355 => exact fun _ _ _ h => h
                      case szz355 => first | assumption | trivial
                      case' rzz355 => simp only [Act.put, List.setIfInBounds_toArray, List.set_cons_zero, List.set_cons_succ]
                      refine wpAnyH_take (i := 27) (oi := ?ozz356) (v := ?vzz356) ?hzz356 ?azz356 ?bzz356 ?czz356 ?qzz356 ?yzz356 ?szz356 ?rzz356
                      case hzz356 => simp only [List.getElem?_toArray, List.getElem?_cons_zero, List.getElem?_cons_succ]; rfl
                      case azz356 => kernel_rfl
                      case bzz356 => kernel_rfl
                      case czz356 => kernel_rfl
                      case yzz356 =>
                        refine Or.inl ⟨by rfl, ?_⟩
                        intro w hSw
                        have x0 := box_ hSw c0; have x1 := box_ hSw c1; have x2 := box_ hSw c2; have x3 := box_ hSw c3; have x4 := box_ hSw c4; have x5 := box_ hSw c5; clear hSw
                        go_simp
                        try with_reducible rfl
                      case qzz356 => exact fun _ _ _ h => h
                      case szz356 => first | assumption | trivial
                      case' rzz356 => simp only [Act.put, List.setIfInBounds_toArray, List.set_cons_zero, List.set_cons_succ]
                      refine wpAnyH_take (i := 28) (oi := ?ozz357) (v := ?vzz357) ?hzz357 ?azz357 ?bzz357 ?czz357 ?qzz357 ?yzz357 ?szz357 ?rzz357
                      case hzz357 => simp only [List.getElem?_toArray, List.getElem?_cons_zero, List.getElem?_cons_succ]; rfl
                      case azz357 => kernel_rfl
                      case bzz357 => kernel_rfl
                      case czz357 => kernel_rfl
                      case yzz357 =>
                        refine Or.inl ⟨by rfl, ?_⟩
                        intro w hSw
                        have x0 := box_ hSw c0; have x1 := box_ hSw c1; have x2 := box_ hSw c2; have x3 := box_ hSw c3; have x4 := box_ hSw c4; have x5 := box_ hSw c5; clear hSw
                        go_simp
                        try with_reducible rfl
                      case qzz357 => exact fun _ _ _ h => h
                      case szz357 => first | assumption | trivial
                      case' rzz357 => simp only [Act.put, List.setIfInBounds_toArray, List.set_cons_zero, List.set_cons_succ]
                      refine wpAnyH_take (i := 30) (oi := ?ozz358) (v := ?vzz358) ?hzz358 ?azz358 ?bzz358 ?czz358 ?qzz358 ?yzz358 ?szz358 ?rzz358
                      case hzz358 => simp only [List.getElem?_toArray, List.getElem?_cons_zero, List.getElem?_cons_succ]; rfl
                      case azz358 => kernel_rfl
                      case bzz358 => kernel_rfl
                      case czz358 => kernel_rfl
                      case yzz358 =>
                        refine Or.inl ⟨by rfl, ?_⟩
                        intro w hSw
                        have x0 := box_ hSw c0; have x1 := box_ hSw c1; have x2 := box_ hSw c2; have x3 := box_ hSw c3; have x4 := box_ hSw c4; have x5 := box_ hSw c5; clear hSw
                        go_simp
                        try with_reducible rfl
                      case qzz358 => exact fun _ _ _ h => h
                      case szz358 => first | assumption | trivial
                      case' rzz358 => simp only [Act.put, List.setIfInBounds_toArray, List.set_cons_zero, List.set_cons_succ]
                      refine wpAnyH_take (i := 31) (oi := ?ozz359) (v := ?vzz359) ?hzz359 ?azz359 ?bzz359 ?czz359 ?qzz359 ?yzz359 ?szz359 ?rzz359
                      case hzz359 => simp only [List.getElem?_toArray, List.getElem?_cons_zero, List.getElem?_cons_succ]; rfl
                      case azz359 => kernel_rfl
                      case bzz359 => kernel_rfl
                      case czz359 => kernel_rfl
                      case yzz359 =>
                        refine Or.inl ⟨by rfl, ?_⟩
                        intro w hSw
                        have x0 := box_ hSw c0; have x1 := box_ hSw c1; have x2 := box_ hSw c2; have x3 := box_ hSw c3; have x4 := box_ hSw c4; have x5 := box_ hSw c5; clear hSw
                        go_simp
                        try with_reducible rfl
                      case qzz359 => exact fun _ _ _ h => h
                      case szz359 => first | assumption | trivial
                      case' rzz359 => simp only [Act.put, List.setIfInBounds_toArray, List.set_cons_zero, List.set_cons_succ]
                      refine wpAnyH_ready (rs := [29]) (by kernel_rfl) (by simp) ?_
                      refine AllReadyH.cons (o := ?ozz364) ?hzz364 (fun K hK => ?kzz364) ?mzz364
                      case hzz364 => simp only [List.getElem?_toArray, List.getElem?_cons_zero, List.getElem?_cons_succ]; rfl
                      case kzz364 =>
                        go_simp
                        refine (K5.out _).mono ?_
                        rintro e v6 ⟨rfl, q6⟩
                        go_wp2_with fail
                        refine hK.out _ _ ?Szz364 (fun hHeld => ?Rzz364)
                        case Szz364 =>
                          exact hHeld.trans q6
                        case Rzz364 =>
                          clear hK K
                          try simp only [Act.put, List.setIfInBounds_toArray, List.set_cons_zero, List.set_cons_succ]
                          refine wpAnyH_ready (rs := [32]) (by kernel_rfl) (by simp) ?_
                          refine AllReadyH.cons (o := ?ozz363) ?hzz363 (fun K hK => ?kzz363) ?mzz363
                          case hzz363 => simp only [List.getElem?_toArray, List.getElem?_cons_zero, List.getElem?_cons_succ]; rfl
                          case kzz363 =>
                            go_simp
                            refine (K6.out _).mono ?_
                            rintro e v7 ⟨rfl, q7⟩
                            go_wp2_with fail
                            refine hK.out _ _ ?Szz363 (fun hHeld => ?Rzz363)
                            case Szz363 =>
                              exact hHeld.trans q7
                            case Rzz363 =>
                              clear hK K
                              try simp only [Act.put, List.setIfInBounds_toArray, List.set_cons_zero, List.set_cons_succ]
                              refine wpAnyH_take (i := 33) (oi := ?ozz360) (v := ?vzz360) ?hzz360 ?azz360 ?bzz360 ?czz360 ?qzz360 ?yzz360 ?szz360 ?rzz360
                              case hzz360 => simp only [List.getElem?_toArray, List.getElem?_cons_zero, List.getElem?_cons_succ]; rfl
                              case azz360 => kernel_rfl
                              case bzz360 => kernel_rfl
                              case czz360 => kernel_rfl
                              case yzz360 =>
                                refine Or.inl ⟨by rfl, ?_⟩
                                intro w hSw
                                skip
                                go_simp
                                try with_reducible rfl
                              case qzz360 => exact fun _ _ _ h => h
                              case szz360 => first | assumption | trivial
                              case' rzz360 => simp only [Act.put, List.setIfInBounds_toArray, List.set_cons_zero, List.set_cons_succ]
                              refine wpAnyH_take (i := 34) (oi := ?ozz361) (v := ?vzz361) ?hzz361 ?azz361 ?bzz361 ?czz361 ?qzz361 ?yzz361 ?szz361 ?rzz361
                              case hzz361 => simp only [List.getElem?_toArray, List.getElem?_cons_zero, List.getElem?_cons_succ]; rfl
                              case azz361 => kernel_rfl
                              case bzz361 => kernel_rfl
                              case czz361 => kernel_rfl
                              case yzz361 =>
                                refine Or.inl ⟨by rfl, ?_⟩
                                intro w hSw
                                skip
                                go_simp
                                try with_reducible rfl
                              case qzz361 => exact fun _ _ _ h => h
                              case szz361 => first | assumption | trivial
                              case' rzz361 => simp only [Act.put, List.setIfInBounds_toArray, List.set_cons_zero, List.set_cons_succ]
                              refine wpAnyH_take (i := 35) (oi := ?ozz362) (v := ?vzz362) ?hzz362 ?azz362 ?bzz362 ?czz362 ?qzz362 ?yzz362 ?szz362 ?rzz362
                              case hzz362 => simp only [List.getElem?_toArray, List.getElem?_cons_zero, List.getElem?_cons_succ]; rfl
                              case azz362 => kernel_rfl
                              case bzz362 => kernel_rfl
                              case czz362 => kernel_rfl
                              case yzz362 =>
                                refine Or.inl ⟨by rfl, ?_⟩
                                intro w hSw
                                skip
                                go_simp
                                try with_reducible rfl
                              case qzz362 => exact fun _ _ _ h => h
                              case szz362 => first | assumption | trivial
                              case' rzz362 => simp only [Act.put, List.setIfInBounds_toArray, List.set_cons_zero, List.set_cons_succ]
                              refine wpAnyH_done (by kernel_rfl) ?_ _
                              go_wp2
                              go_ret
                              exact ⟨by first | rfl | (simp; done), BQ.out.trans hHeld⟩
                          case' mzz363 => skip
                          exact AllReadyH.nil
                      case' mzz364 => skip
                      exact AllReadyH.nil
                  case' mzz365 => skip
                  exact AllReadyH.nil
              case' mzz366 => skip
              exact AllReadyH.nil
          case' mzz367 => skip
          exact AllReadyH.nil
      case' mzz368 => skip
      exact AllReadyH.nil
  case' mzz369 => skip
  exact AllReadyH.nil
set_option maxHeartbeats 4000000 in
theorem walk (a : Wn) (b : Wn) (key : ByteArray) (w : World) :
    Calls Try.prog 5 #[wnV a, wnV b, .string key] w fun e w' => e = .returned (.bool true) ∧ Q w w' := by
  cases h1 : inS a key <;> cases h2 : inS b key <;> cases h3 : over a b <;> cases h4 : lt a.lo b.lo
  · exact walk_0x00 a b key w h1 h3 h4
  · exact walk_0x01 a b key w h1 h3 h4
  · exact walk_0x10 a b key w h1 h3 h4
  · exact walk_0x11 a b key w h1 h3 h4
  · exact walk_0x00 a b key w h1 h3 h4
  · exact walk_0x01 a b key w h1 h3 h4
  · exact walk_0x10 a b key w h1 h3 h4
  · exact walk_0x11 a b key w h1 h3 h4
  · exact walk_1000 a b key w h1 h2 h3 h4
  · exact walk_1001 a b key w h1 h2 h3 h4
  · exact walk_1010 a b key w h1 h2 h3 h4
  · exact walk_1011 a b key w h1 h2 h3 h4
  · exact absurd (witness1 h1 h2) (by simp [h3])
  · exact absurd (witness1 h1 h2) (by simp [h3])
  · exact walk_1110 a b key w h1 h2 h3 h4
  · exact walk_1111 a b key w h1 h2 h3 h4

theorem opened (W : World) (args : Array Value) (hn : args.size = 3) (h : ∀ (j : Nat) t v, Try.f5.params[j]? = some t → args[j]? = some v → RdV W t v) :
    Calls Try.prog 5 args W fun e W' => e = .returned (.bool true) ∧ Q W W' := by
  obtain ⟨v0, v1, v2, rfl⟩ := args3 hn
  rw [Try.params5] at h
  obtain ⟨cs0, rfl, hr0⟩ := (h 0 23 v0 rfl rfl).struct Try.underlying23
  obtain ⟨a, rfl, a0, a1, a2, a3⟩ := open_want hr0
  obtain ⟨cs1, rfl, hr1⟩ := (h 1 23 v1 rfl rfl).struct Try.underlying23
  obtain ⟨b, rfl, b0, b1, b2, b3⟩ := open_want hr1
  obtain ⟨key, rfl, key0⟩ := (h 2 9 v2 rfl rfl).string Try.underlying9
  exact walk a b key W

set_option maxRecDepth 100000 in
theorem lifted (os : Os) (started : os.Started) (H : Type) (enc : TypeId × Value → H) :
    ReturnsInHanded {} Try.checked os 5 .any (Rows.spanWitnessSpec.pre6 enc Try.prog Try.f5 Rows.spanWitnessRow.domain false) (Rows.spanWitnessSpec.post enc Try.prog Try.f5 false true false false) :=
  framed 3 Try.func5 (by rw [Try.params5]; rfl) rfl (by kernel_rfl) (by kernel_rfl) (by kernel_rfl)
    (fun H ds h => by match ds, h with | [d0, d1, d2], _ => exact ⟨rfl, rfl, rfl⟩)
    opened os started H enc
    (ChangeSpec.witness6 (enc := enc) (C := Try.checked) false ⟨#[], #[.agg #[.int .i64 0, .string ByteArray.empty, .string ByteArray.empty], .agg #[.int .i64 0, .string ByteArray.empty, .string ByteArray.empty], .string ByteArray.empty], []⟩ 8 (by kernel_rfl) (by kernel_rfl) (by kernel_rfl) (by kernel_rfl))

theorem over : Rows.spanWitnessRow.holds Try.pinned (OpenSpec.ofChange Rows.spanWitnessSpec) :=
  OpenClaim.holds_of_wide 5 Try.f5 rfl rfl rfl rfl rfl rfl rfl ⟨rfl, rfl, rfl, rfl, rfl⟩ rfl rfl rfl rfl rfl (by kernel_rfl) Try.func5 (by kernel_rfl)
    (of_decide_eq_true (by kernel_rfl)) (by unfold Func.isWrapper; first | (rw [if_pos (by decide +kernel)]; kernel_rfl) | (rw [if_neg (by decide +kernel)]; exact ⟨rfl, rfl⟩))
    (fun os started H enc _ => lifted os started H enc)

theorem proved : Rows.SpanWitnessSaid := over
end Go.Proofs.Ytjbjkmbipdbejaa.spanWitness
