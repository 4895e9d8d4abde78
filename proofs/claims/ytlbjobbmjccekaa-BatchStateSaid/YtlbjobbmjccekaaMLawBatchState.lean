/- For every list of batches: of at most 200 of them, done one after another, the state as pairs rises, and is that state again. No condition. -/
import Derived.Test.YtlbjobbmjccekaaMBatchRun
import Derived.Test.YtlbjobbmjccekaaA5
import Derived.Test.YtlbjobbmjccekaaA7
import Derived.Test.YtlbjobbmjccekaaA8
import Derived.Test.YtlbjobbmjccekaaA2
import Derived.Test.YtlbjobbmjccekaaA3
import Derived.Test.YtlbjobbmjccekaaA6
namespace Go.Proofs.Ytlbjobbmjccekaa.batchState
set_option maxRecDepth 100000
open Go.ChangeShapes Go.WideShapes Go.ChangeAt Go.RowKit Prm
set_option linter.unusedVariables false
set_option linter.unusedSimpArgs false

set_option maxHeartbeats 8000000 in
set_option maxRecDepth 100000 in
theorem walk (A : Option Addr) (n c : Nat) (rl : List BRaw) (bl : List Bm.Bt) (w : World) (hA : In_ rawK w A n c rl) (hbl : bl.length = n) (hst : ∀ i, ∀ h1 : i < rl.length, ∀ h2 : i < bl.length, Stands w rl[i] bl[i]) :
    Calls Try.prog 8 #[.slice A n c] w fun e w' => e = .returned (.bool true) ∧ Q w w' := by
  have HA := Lib.hid hA
  have HS := Lib.hid hst
  have HB := Lib.hid hbl
  have HL := Lib.hid hA.len
  have hn0 : n ≤ 9223372036854775807 := hA.max
  clear hA hst hbl
  go_enter Try.func8, Try.ntmps8
  go_wp2_with fail
  refine (bshown_any _).mono ?_
  rintro e w1 ⟨rfl, q1⟩
  have X0 := Lib.hid (Sb7.new w w1 q1)
  clear q1
  go_wp2
  generalize w1.heap.size = g at X0 ⊢
  go_loopw [5] (fun i wr => ∃ (j : Nat) (P R : Option Addr) (pc rc : Nat), j ≤ n ∧ j ≤ 200 ∧ i = .int .i64 j ∧ Sb7 w g P R pc rc (Bm.st bl j) wr) (fun i _ => n - (intOf i).toNat)
  case atStart => exact ⟨0, none, none, 0, 0, Nat.zero_le _, Nat.zero_le _, rfl, X0.out⟩
  case round =>
    obtain ⟨j, P, R, pc, rc, hj, hj2, rfl, x1⟩ := hrel
    have X := Lib.hid x1
    have hsl := Bm.st_len bl j (by rw [HB.out]; exact hj)
    clear x1 X0
    by_cases hlt : j < n ∧ j < 200
    · obtain ⟨hlt, hlt2⟩ := hlt
      have hjn : (j : Int) < (n : Int) := by omega
      have hjn2 : (j : Int) < 200 := by omega
      have hj0 : (0 : Int) ≤ (j : Int) := by omega
      have hrl : j < rl.length := by have := HL.out; omega
      have hbl : j < bl.length := by have := HB.out; omega
      obtain ⟨ad, rfl, hab0, y0, y1, y2⟩ := load_raw HA.out.lst hlt hrl
      obtain ⟨e1, e2, hC⟩ := HS.out j hrl hbl
      have HSt := Lib.hid (Bm.st_succ bl hbl)
      generalize rl[j] = r at y0 y1 y2 e1 e2 hC
      generalize bl[j] = b at e1 e2 hC HSt
      obtain ⟨rk, rt, C, p, q⟩ := r
      obtain ⟨k, tok, ws⟩ := b
      simp only at e1 e2 hC y0 y1 y2
      subst e1 e2
      have y0 := box_ X.out.q y0
      have y1 := box_ X.out.q y1
      have y2 := box_ X.out.q y2
      generalize Bm.st bl j = s at X hsl HSt
      have KD := Lib.hid (fun W (y : Q wr W) => bdo_any rk rt P R C s.data.length pc s.toks.length rc p q s.data s.toks ws W ((X.out.o1.q y).in_ (by show s.data.length * 32 ≤ _; omega)) ((X.out.o2.q y).in_ (by show s.toks.length * 32 ≤ _; omega)) ((hC.lst.q X.out.q).q y) hC.max (by omega) (by omega))
      have hss : (⟨s.data, s.toks⟩ : Bm.Sta) = s := rfl
      rw [hss] at KD
      generalize Bm.doo s ⟨rk, rt, ws⟩ = T at KD HSt
      obtain ⟨T, er⟩ := T
      obtain ⟨c0, c1⟩ := X.out.bx.get2.1
      clear hss hC
      go_upto_region 6 with (fail)
      refine wp_region_heldL 9 (fun w' => (w'.cell? ⟨g, 0, none⟩ = some (.slice P s.data.length pc) ∧ w'.cell? ⟨g, 1, none⟩ = some (.slice R s.toks.length rc)) ∧ w'.cell? (ad.add (j * 3)) = some (.int .i64 rk) ∧ w'.cell? ⟨(ad.add (j * 3)).block, (ad.add (j * 3)).off + 1, none⟩ = some (.string rt) ∧ w'.cell? ⟨(ad.add (j * 3)).block, (ad.add (j * 3)).off + 2, none⟩ = some (.slice C p q)) (by kernel_rfl) ?szz0 (fun hHeld => ?rzz0)
      case szz0 =>
        exact ⟨⟨c0, c1⟩, y0, y1, y2⟩
      case' rzz0 => skip
      refine wpAnyL_take (i := 0) (oi := ?ozz1) (v := ?vzz1) ?hzz1 ?azz1 ?bzz1 ?czz1 ?kzz1 ?qzz1 ?yzz1 ?szz1 ?rzz1
      case hzz1 => simp only [List.getElem?_toArray, List.getElem?_cons_zero]; rfl
      case azz1 => kernel_rfl
      case bzz1 => kernel_rfl
      case czz1 => kernel_rfl
      case kzz1 => kernel_rfl
      case yzz1 =>
        refine Or.inl ⟨by rfl, ?_⟩
        intro w hSw
        obtain ⟨⟨s0, s1⟩, s2, s3, s4⟩ := hSw
        go_simp
        try with_reducible rfl
      case qzz1 => exact fun _ _ _ h => h
      case szz1 => first | assumption | trivial
      case' rzz1 => simp only [Act.put, List.setIfInBounds_toArray, List.set_cons_zero, List.set_cons_succ]
      refine wpAnyL_take (i := 1) (oi := ?ozz2) (v := ?vzz2) ?hzz2 ?azz2 ?bzz2 ?czz2 ?kzz2 ?qzz2 ?yzz2 ?szz2 ?rzz2
      case hzz2 => simp only [List.getElem?_toArray, List.getElem?_cons_zero, List.getElem?_cons_succ]; rfl
      case azz2 => kernel_rfl
      case bzz2 => kernel_rfl
      case czz2 => kernel_rfl
      case kzz2 => kernel_rfl
      case yzz2 =>
        refine Or.inl ⟨by rfl, ?_⟩
        intro w hSw
        obtain ⟨⟨s0, s1⟩, s2, s3, s4⟩ := hSw
        go_simp
        try with_reducible rfl
      case qzz2 => exact fun _ _ _ h => h
      case szz2 => first | assumption | trivial
      case' rzz2 => simp only [Act.put, List.setIfInBounds_toArray, List.set_cons_zero, List.set_cons_succ]
      refine wpAnyL_take (i := 2) (oi := ?ozz3) (v := ?vzz3) ?hzz3 ?azz3 ?bzz3 ?czz3 ?kzz3 ?qzz3 ?yzz3 ?szz3 ?rzz3
      case hzz3 => simp only [List.getElem?_toArray, List.getElem?_cons_zero, List.getElem?_cons_succ]; rfl
      case azz3 => kernel_rfl
      case bzz3 => kernel_rfl
      case czz3 => kernel_rfl
      case kzz3 => kernel_rfl
      case yzz3 =>
        refine Or.inl ⟨by rfl, ?_⟩
        intro w hSw
        obtain ⟨⟨s0, s1⟩, s2, s3, s4⟩ := hSw
        go_simp
        try with_reducible rfl
      case qzz3 => exact fun _ _ _ h => h
      case szz3 => first | assumption | trivial
      case' rzz3 => simp only [Act.put, List.setIfInBounds_toArray, List.set_cons_zero, List.set_cons_succ]
      refine wpAnyL_take (i := 3) (oi := ?ozz4) (v := ?vzz4) ?hzz4 ?azz4 ?bzz4 ?czz4 ?kzz4 ?qzz4 ?yzz4 ?szz4 ?rzz4
      case hzz4 => simp only [List.getElem?_toArray, List.getElem?_cons_zero, List.getElem?_cons_succ]; rfl
      case azz4 => kernel_rfl
      case bzz4 => kernel_rfl
      case czz4 => kernel_rfl
      case kzz4 => kernel_rfl
      case yzz4 =>
        refine Or.inl ⟨by rfl, ?_⟩
        intro w hSw
        obtain ⟨⟨s0, s1⟩, s2, s3, s4⟩ := hSw
        go_simp
        try with_reducible rfl
      case qzz4 => exact fun _ _ _ h => h
      case szz4 => first | assumption | trivial
      case' rzz4 => simp only [Act.put, List.setIfInBounds_toArray, List.set_cons_zero, List.set_cons_succ]
      refine wpAnyL_take (i := 4) (oi := ?ozz5) (v := ?vzz5) ?hzz5 ?azz5 ?bzz5 ?czz5 ?kzz5 ?qzz5 ?yzz5 ?szz5 ?rzz5
      case hzz5 => simp only [List.getElem?_toArray, List.getElem?_cons_zero, List.getElem?_cons_succ]; rfl
      case azz5 => kernel_rfl
      case bzz5 => kernel_rfl
      case czz5 => kernel_rfl
      case kzz5 => kernel_rfl
      case yzz5 =>
        refine Or.inl ⟨by rfl, ?_⟩
        intro w hSw
        obtain ⟨⟨s0, s1⟩, s2, s3, s4⟩ := hSw
        go_simp
        try with_reducible rfl
      case qzz5 => exact fun _ _ _ h => h
      case szz5 => first | assumption | trivial
      case' rzz5 => simp only [Act.put, List.setIfInBounds_toArray, List.set_cons_zero, List.set_cons_succ]
      refine wpAnyL_ready (rs := [5]) (by kernel_rfl) (by simp) ?_
      refine AllReadyL.cons (o := ?ozz12) ?hzz12 (fun K hK => ?kzz12) ?mzz12
      case hzz12 => simp only [List.getElem?_toArray, List.getElem?_cons_zero, List.getElem?_cons_succ]; rfl
      case kzz12 =>
        go_simp
        refine (KD.out _ ((Q.refl _).drew)).mono ?_
        rintro e w5 ⟨A5, c5, B5, d5, rfl, o5, t5, q5⟩
        simp only at o5 t5
        have X5 := Lib.hid (X.out.step ((Q.refl _).drew.trans q5))
        have O5 := Lib.hid (o5.lower (b2 := g + 1) (by have := X.out.bx.lt; simp only [World.size_drew]; omega))
        have T5 := Lib.hid (t5.lower (b2 := g + 1) (by have := X.out.bx.lt; simp only [World.size_drew]; omega))
        have Q5 := Lib.hid ((Q.refl wr).drew.trans q5)
        clear o5 t5 q5
        go_wp2_with fail
        refine hK.out _ _ ?Szz12 (fun hHeld => ?Rzz12)
        case Szz12 =>
          exact ⟨X5.out.bx.get2.1, box_ Q5.out y0, box_ Q5.out y1, box_ Q5.out y2⟩
        case Rzz12 =>
          clear hK K
          try simp only [Act.put, List.setIfInBounds_toArray, List.set_cons_zero, List.set_cons_succ]
          refine wpAnyL_take (i := 6) (oi := ?ozz6) (v := ?vzz6) ?hzz6 ?azz6 ?bzz6 ?czz6 ?kzz6 ?qzz6 ?yzz6 ?szz6 ?rzz6
          case hzz6 => simp only [List.getElem?_toArray, List.getElem?_cons_zero, List.getElem?_cons_succ]; rfl
          case azz6 => kernel_rfl
          case bzz6 => kernel_rfl
          case czz6 => kernel_rfl
          case kzz6 => kernel_rfl
          case yzz6 =>
            refine Or.inl ⟨by rfl, ?_⟩
            intro w hSw
            obtain ⟨⟨s0, s1⟩, s2, s3, s4⟩ := hSw
            go_simp
            try with_reducible rfl
          case qzz6 => exact fun _ _ _ h => h
          case szz6 => first | assumption | trivial
          case' rzz6 => simp only [Act.put, List.setIfInBounds_toArray, List.set_cons_zero, List.set_cons_succ]
          refine wpAnyL_take (i := 7) (oi := ?ozz7) (v := ?vzz7) ?hzz7 ?azz7 ?bzz7 ?czz7 ?kzz7 ?qzz7 ?yzz7 ?szz7 ?rzz7
          case hzz7 => simp only [List.getElem?_toArray, List.getElem?_cons_zero, List.getElem?_cons_succ]; rfl
          case azz7 => kernel_rfl
          case bzz7 => kernel_rfl
          case czz7 => kernel_rfl
          case kzz7 => kernel_rfl
          case yzz7 =>
            refine Or.inl ⟨by rfl, ?_⟩
            intro w hSw
            obtain ⟨⟨s0, s1⟩, s2, s3, s4⟩ := hSw
            go_simp
            try with_reducible rfl
          case qzz7 => exact fun _ _ _ h => h
          case szz7 => first | assumption | trivial
          case' rzz7 => simp only [Act.put, List.setIfInBounds_toArray, List.set_cons_zero, List.set_cons_succ]
          refine wpAnyL_ready (rs := [8, 9]) (by kernel_rfl) (by simp) ?_
          refine AllReadyL.cons (o := ?ozz10) ?hzz10 (fun K hK => ?kzz10) ?mzz10
          case hzz10 => simp only [List.getElem?_toArray, List.getElem?_cons_zero, List.getElem?_cons_succ]; rfl
          case kzz10 =>
            go_simp
            refine hK.out _ _ ?Szz10 (fun hHeld => ?Rzz10)
            case Szz10 =>
              exact ⟨X5.out.bx.get2.1, box_ Q5.out y0, box_ Q5.out y1, box_ Q5.out y2⟩
            case Rzz10 =>
              clear hK K
              try simp only [Act.put, List.setIfInBounds_toArray, List.set_cons_zero, List.set_cons_succ]
              refine wpAnyL_ready (rs := [9]) (by kernel_rfl) (by simp) ?_
              refine AllReadyL.consK (o := ?ozz8) ?hzz8 ?lzz8 (fun K hK => ?kzz8) ?mzz8
              case hzz8 => simp only [List.getElem?_toArray, List.getElem?_cons_zero, List.getElem?_cons_succ]; rfl
              case lzz8 => kernel_rfl
              case kzz8 =>
                obtain ⟨⟨p0, p1⟩, p2, p3⟩ := X5.out.bx.get2
                go_simp
                refine hK.out _ _ ?Rzz8
                case Rzz8 =>
                  clear hK K
                  try simp only [Act.put, List.setIfInBounds_toArray, List.set_cons_zero, List.set_cons_succ]
                  refine wpAnyH_done (by kernel_rfl) ?_ _
                  have X9 := Lib.hid (X.out.set Q5.out O5.out T5.out)
                  go_wp2
                  go_roundw
                  case rel => exact ⟨j + 1, A5, B5, c5, d5, by omega, by omega, by go_num, by rw [HSt.out]; exact X9.out⟩
                  case measure => simp [intOf]; omega
              case' mzz8 => skip
              exact AllReadyL.nil
          case' mzz10 => skip
          refine AllReadyL.consK (o := ?ozz11) ?hzz11 ?lzz11 (fun K hK => ?kzz11) ?mzz11
          case hzz11 => simp only [List.getElem?_toArray, List.getElem?_cons_zero, List.getElem?_cons_succ]; rfl
          case lzz11 => kernel_rfl
          case kzz11 =>
            obtain ⟨⟨p0, p1⟩, p2, p3⟩ := X5.out.bx.get2
            go_simp
            refine hK.out _ _ ?Rzz11
            case Rzz11 =>
              clear hK K
              try simp only [Act.put, List.setIfInBounds_toArray, List.set_cons_zero, List.set_cons_succ]
              refine wpAnyH_take (i := 8) (oi := ?ozz9) (v := ?vzz9) ?hzz9 ?azz9 ?bzz9 ?czz9 ?qzz9 ?yzz9 ?szz9 ?rzz9
              case hzz9 => simp only [List.getElem?_toArray, List.getElem?_cons_zero, List.getElem?_cons_succ]; rfl
              case azz9 => kernel_rfl
              case bzz9 => kernel_rfl
              case czz9 => kernel_rfl
              case yzz9 =>
                refine Or.inl ⟨by rfl, ?_⟩
                intro w hSw
                skip
                go_simp
                try with_reducible rfl
              case qzz9 => exact fun _ _ _ h => h
              case szz9 => first | assumption | trivial
              case' rzz9 => simp only [Act.put, List.setIfInBounds_toArray, List.set_cons_zero, List.set_cons_succ]
              refine wpAnyH_done (by kernel_rfl) ?_ _
              have X9 := Lib.hid (X.out.set Q5.out O5.out T5.out)
              go_wp2
              go_roundw
              case rel => exact ⟨j + 1, A5, B5, c5, d5, by omega, by omega, by go_num, by rw [HSt.out]; exact X9.out⟩
              case measure => simp [intOf]; omega
          case' mzz11 => skip
          exact AllReadyL.nil
      case' mzz12 => skip
      exact AllReadyL.nil
    · have hexit : ¬((j : Int) < (n : Int)) ∨ ((j : Int) < (n : Int) ∧ ¬((j : Int) < 200)) := by
        by_cases h : j < n
        · exact .inr ⟨by omega, by omega⟩
        · exact .inl (by omega)
      have hgd := Bm.st_good bl j (by rw [HB.out]; exact hj)
      have hsh := Bm.st_short bl j (by rw [HB.out]; exact hj)
      generalize Bm.st bl j = s at X hsl hgd hsh
      have KP := Lib.hid (bpairs_any P R s.data.length pc s.toks.length rc s wr X.out.o1.lst X.out.o2.lst (by omega) (Bm.short_low hsh.1) (Bm.short_low hsh.2))
      have HBk := Lib.hid (Bm.back_pairs hgd.2.2)
      have HRt := Lib.hid (Bm.right_pairs hgd)
      have HKi := Lib.hid (Bm.short_pairs hsh)
      have hl1 : s.data.length * 32 ≤ 140737488355328 := by omega
      have hl2 : s.toks.length * 32 ≤ 140737488355328 := by omega
      have hl3 : (s.data.length + s.toks.length) * 32 ≤ 140737488355328 := by omega
      have hl4 : s.data.length + s.toks.length ≤ maxLen := by unfold maxLen; omega
      obtain ⟨c0, c1⟩ := X.out.bx.get2.1
      clear hgd hsh hlt
      rcases hexit with hx1 | ⟨hx1, hx2⟩
      all_goals
        go_wp2_with fail
        refine KP.out.mono ?_
        rintro e w3 ⟨A3, c3, rfl, o3, q3⟩
        have X3 := Lib.hid (X.out.step q3)
        have O3 := Lib.hid o3
        have KB := Lib.hid (bback_any A3 (s.data.length + s.toks.length) c3 (Bm.pairs s) w3 o3.lst hl3)
        rw [HBk.out] at KB
        clear q3 o3 c0 c1
        go_wp2_with fail
        refine KB.out.mono ?_
        rintro e w4 ⟨A4, c4, B4, d4, rfl, o4, t4, q4⟩
        simp only at o4 t4
        have X4 := Lib.hid ((X3.out.step q4).step ((Q.refl _).alloc (.cells #[.slice A4 s.data.length c4, .slice B4 s.toks.length d4] 40)))
        have Y4 := Lib.hid (Bx.new w4 [.slice A4 s.data.length c4, .slice B4 s.toks.length d4] 40)
        have O4 := Lib.hid (And.intro ((o4.in_ hl1).q ((Q.refl _).alloc (.cells #[.slice A4 s.data.length c4, .slice B4 s.toks.length d4] 40))) ((t4.in_ hl2).q ((Q.refl _).alloc (.cells #[.slice A4 s.data.length c4, .slice B4 s.toks.length d4] 40))))
        have P4 := Lib.hid ((O3.out.lst.q q4).q ((Q.refl _).alloc (.cells #[.slice A4 s.data.length c4, .slice B4 s.toks.length d4] 40)))
        clear o4 t4 q4 O3 X3
        go_wp2_with fail
        refine (refRight_any A3 (s.data.length + s.toks.length) c3 (Bm.pairs s) _ P4.out hl4 HKi.out).mono ?_
        rw [HRt.out]
        rintro e w5 ⟨rfl, q5⟩
        have X5 := Lib.hid (X4.out.step q5)
        have O5 := Lib.hid (And.intro (O4.out.1.q q5) (O4.out.2.q q5))
        have Y5 := Lib.hid (Y4.out.q q5)
        clear q5
        obtain ⟨c0, c1⟩ := X5.out.bx.get2.1
        obtain ⟨d0, d1⟩ := Y5.out.get2.1
        go_wp2_with fail
        refine (bsame_any P R A4 B4 s.data.length pc s.toks.length rc s.data.length c4 s.toks.length d4 s s _ (X5.out.o1.in_ hl1) (X5.out.o2.in_ hl2) O5.out.1 O5.out.2).mono ?_
        rw [decide_eq_true rfl]
        rintro e w6 ⟨rfl, q6⟩
        have Q6 := Lib.hid (X5.out.q.trans q6)
        clear q6
        go_wp2
        go_ret
        exact ⟨by first | rfl | simp, Q6.out⟩
theorem opened (W : World) (args : Array Value) (hn : args.size = 1) (h : ∀ (j : Nat) t v, Try.f8.params[j]? = some t → args[j]? = some v → RdV W t v) :
    Calls Try.prog 8 args W fun e W' => e = .returned (.bool true) ∧ Q W W' := by
  obtain ⟨v, rfl⟩ := args1 hn
  rw [Try.params8] at h
  obtain ⟨A0, n0, c0, rfl, hr⟩ := (h 0 57 v rfl rfl).slice Try.underlying57
  obtain ⟨A, n, c, rl, e, hA, bl, hb, hs⟩ := open_batches hr
  simp only [List.cons.injEq, Value.slice.injEq, and_true] at e
  obtain ⟨rfl, rfl, rfl⟩ := e
  exact walk A0 n0 c0 rl bl W hA hb hs

set_option maxRecDepth 100000 in
theorem lifted (os : Os) (started : os.Started) (H : Type) (enc : TypeId × Value → H) :
    ReturnsInHanded {} Try.checked os 8 .any (Rows.batchStateSpec.pre6 enc Try.prog Try.f8 Rows.batchStateRow.domain false) (Rows.batchStateSpec.post enc Try.prog Try.f8 false true false false) :=
  framed 1 Try.func8 (by rw [Try.params8]; rfl) rfl (by kernel_rfl) (by kernel_rfl) (by kernel_rfl)
    (fun H ds h => by match ds, h with | [d0], _ => exact ⟨rfl, rfl, rfl⟩)
    opened os started H enc
    (ChangeSpec.witness6 (enc := enc) (C := Try.checked) false ⟨#[], #[.slice none 0 0], []⟩ 8 (by kernel_rfl) (by kernel_rfl) (by kernel_rfl) (by kernel_rfl))

theorem over : Rows.batchStateRow.holds Try.pinned (OpenSpec.ofChange Rows.batchStateSpec) :=
  OpenClaim.holds_of_wide 8 Try.f8 rfl rfl rfl rfl rfl rfl rfl ⟨rfl, rfl, rfl, rfl, rfl⟩ rfl rfl rfl rfl rfl (by kernel_rfl) Try.func8 (by kernel_rfl)
    (of_decide_eq_true (by kernel_rfl)) (by unfold Func.isWrapper; first | (rw [if_pos (by decide +kernel)]; kernel_rfl) | (rw [if_neg (by decide +kernel)]; exact ⟨rfl, rfl⟩))
    (fun os started H enc _ => lifted os started H enc)

theorem proved : Rows.BatchStateSaid := over
end Go.Proofs.Ytlbjobbmjccekaa.batchState
