/- WiReqO: merged. -/
import Derived.Test.YtdipikdebapmlaaP2
/- The contract of the package's Req. -/
namespace Go.Proofs.Ytdipikdebapmlaa
set_option maxRecDepth 100000
open Go.RowKit
set_option linter.unusedVariables false
set_option linter.unusedSimpArgs false
namespace Wi

set_option maxRecDepth 100000 in
set_option maxHeartbeats 8000000 in
theorem preq_any (q : Rq) (w : World) : Calls Try.prog 5 #[rqV q] w fun e w' => e = .returned (.tuple #[.string (ba (reqM q).1), .int .i64 (reqM q).2]) ∧ Q w w' := by
  obtain ⟨k, e, s, n, t, ⟨ok, ky, vl, lo, hi, m⟩⟩ := q
  have KM : Hid (∀ W, Calls Try.prog 7 #[.agg #[.int .i64 k, .int .i64 e, .int .i64 s, .int .i64 n, .string t, .int .i64 ok, .string ky, .string vl, .string lo, .string hi, .int .i64 m]] W fun e' w' => e' = .returned (.bool (may ⟨k, e, s, n, t, ⟨ok, ky, vl, lo, hi, m⟩⟩)) ∧ Q W w') := Lib.hid (fun W => pmay_any ⟨k, e, s, n, t, ⟨ok, ky, vl, lo, hi, m⟩⟩ W)
  have HR : Hid (reqM ⟨k, e, s, n, t, ⟨ok, ky, vl, lo, hi, m⟩⟩ = if may ⟨k, e, s, n, t, ⟨ok, ky, vl, lo, hi, m⟩⟩ = true then (req ⟨k, e, s, n, t, ⟨ok, ky, vl, lo, hi, m⟩⟩, 0) else ([], 1)) := Lib.hid rfl
  have X0 : Hid (Bx (w.alloc (.cells #[.int .i64 k, .int .i64 e, .int .i64 s, .int .i64 n, .string t, .int .i64 ok, .string ky, .string vl, .string lo, .string hi, .int .i64 m] 25)) w.heap.size [.int .i64 k, .int .i64 e, .int .i64 s, .int .i64 n, .string t, .int .i64 ok, .string ky, .string vl, .string lo, .string hi, .int .i64 m]) := Lib.hid (Bx.new w [.int .i64 k, .int .i64 e, .int .i64 s, .int .i64 n, .string t, .int .i64 ok, .string ky, .string vl, .string lo, .string hi, .int .i64 m] 25)
  have QF := Lib.hid ((Q.refl w).alloc (.cells #[.int .i64 k, .int .i64 e, .int .i64 s, .int .i64 n, .string t, .int .i64 ok, .string ky, .string vl, .string lo, .string hi, .int .i64 m] 25))
  show Calls _ _ #[.agg #[.int .i64 k, .int .i64 e, .int .i64 s, .int .i64 n, .string t, .int .i64 ok, .string ky, .string vl, .string lo, .string hi, .int .i64 m]] _ _
  generalize reqM ⟨k, e, s, n, t, ⟨ok, ky, vl, lo, hi, m⟩⟩ = res at HR ⊢
  have HMay := Lib.hid (fun h => may_of (q := ⟨k, e, s, n, t, ⟨ok, ky, vl, lo, hi, m⟩⟩) h)
  cases hm : may ⟨k, e, s, n, t, ⟨ok, ky, vl, lo, hi, m⟩⟩ with
  | false =>
    rw [hm] at KM HR
    clear HMay hm
    go_enter Try.func5, Try.ntmps5
    go_upto_region 1 with (fail)
    generalize w.alloc (.cells #[.int .i64 k, .int .i64 e, .int .i64 s, .int .i64 n, .string t, .int .i64 ok, .string ky, .string vl, .string lo, .string hi, .int .i64 m] 25) = W0 at X0 QF ⊢
    generalize w.heap.size = b0 at X0 ⊢
    have x0 := (X0.out 0 _ rfl).1
    have x1 := (X0.out 1 _ rfl).1
    have x2 := (X0.out 2 _ rfl).1
    have x3 := (X0.out 3 _ rfl).1
    have x4 := (X0.out 4 _ rfl).1
    have x5 := (X0.out 5 _ rfl).1
    have x6 := (X0.out 6 _ rfl).1
    have x7 := (X0.out 7 _ rfl).1
    have x8 := (X0.out 8 _ rfl).1
    have x9 := (X0.out 9 _ rfl).1
    have x10 := (X0.out 10 _ rfl).1
    go_wp2_with fail
    refine (KM.out _).mono ?_
    rintro e1 w1 ⟨rfl, q1⟩
    go_wp2
    go_ret2
    exact ⟨by rw [HR.out]; rfl, QF.out.trans q1⟩
  | true =>
    have hr := HR.out
    rw [if_pos hm] at hr
    have HR2 := Lib.hid hr
    have M := Lib.hid (HMay.out hm)
    rw [hm] at KM
    clear HMay hm hr HR
    have hk : small k = true := small_iff.2 (by have := M.out.k1; have := M.out.k2; simp only at *; omega)
    have he : small e = true := M.out.e
    have hs : small s = true := M.out.s
    have hn : small n = true := M.out.n
    have hm : small m = true := M.out.m
    have ht : t.size ≤ 64 := by have := M.out.t; simp only at this; omega
    have K1 : Hid (∀ W b, Lst numK W (some ⟨b, 0, none⟩) 4 [k, e, s, n] → Calls Try.prog 8 #[.slice (some ⟨b, 0, none⟩) 4 4] W fun e' w' => e' = .returned (.string (ba (catN [k, e, s, n]))) ∧ Q W w') := Lib.hid (fun W b h => onums_any _ 4 4 _ W h (by omega) (by simp only [List.mem_cons, List.not_mem_nil, or_false]; rintro x (rfl | rfl | rfl | rfl) <;> assumption))
    have K2 : Hid (∀ W b, Lst strK W (some ⟨b, 0, none⟩) 1 [t] → Calls Try.prog 9 #[.slice (some ⟨b, 0, none⟩) 1 1] W fun e' w' => e' = .returned (.string (ba (catT [t]))) ∧ Q W w') := Lib.hid (fun W b h => otexts_any _ 1 1 _ W h (by omega) (by simp only [List.mem_cons, List.not_mem_nil, or_false]; rintro x rfl; exact ht))
    have HH : Hid (ba (catN [k, e, s, n]) ++ ba (catT [t]) = ba (headQ ⟨k, e, s, n, t, ⟨ok, ky, vl, lo, hi, m⟩⟩ [])) := Lib.hid (by unfold headQ catN catT; simp only [ba_app, List.flatMap_cons, List.flatMap_nil, List.append_assoc, List.append_nil])
    have l1 : (ba (catN [k, e, s, n])).size ≤ 84 := by rw [ba_size]; exact catN_len _ (by simp only [List.mem_cons, List.not_mem_nil, or_false]; rintro x (rfl | rfl | rfl | rfl) <;> assumption)
    have l2 : (ba (catT [t])).size ≤ 67 := by rw [ba_size]; exact catT_len _ (by simp only [List.mem_cons, List.not_mem_nil, or_false]; rintro x rfl; exact ht)
    have c1 : ¬ 9223372036854775807 < (ba (catN [k, e, s, n])).size + (ba (catT [t])).size := by omega
    have HSZ : Hid ((ba (catN [k, e, s, n]) ++ ba (catT [t])).size ≤ 200) := Lib.hid (by simp only [ByteArray.size_append]; omega)
    generalize ba (catN [k, e, s, n]) = S1 at K1 l1 HH c1 HSZ
    generalize ba (catT [t]) = S2 at K2 l2 HH c1 HSZ
    clear hk he hs hn ht
    go_enter Try.func5, Try.ntmps5
    go_upto_region 1 with (fail)
    generalize w.alloc (.cells #[.int .i64 k, .int .i64 e, .int .i64 s, .int .i64 n, .string t, .int .i64 ok, .string ky, .string vl, .string lo, .string hi, .int .i64 m] 25) = W0 at X0 QF ⊢
    generalize w.heap.size = b0 at X0 ⊢
    have x0 := (X0.out 0 _ rfl).1
    have x1 := (X0.out 1 _ rfl).1
    have x2 := (X0.out 2 _ rfl).1
    have x3 := (X0.out 3 _ rfl).1
    have x4 := (X0.out 4 _ rfl).1
    have x5 := (X0.out 5 _ rfl).1
    have x6 := (X0.out 6 _ rfl).1
    have x7 := (X0.out 7 _ rfl).1
    have x8 := (X0.out 8 _ rfl).1
    have x9 := (X0.out 9 _ rfl).1
    have x10 := (X0.out 10 _ rfl).1
    go_wp2_with fail
    refine (KM.out _).mono ?_
    rintro e1 w1 ⟨rfl, q1⟩
    replace X0 := Lib.hid (X0.out.q q1)
    replace QF := Lib.hid (QF.out.trans q1)
    clear x0 x1 x2 x3 x4 x5 x6 x7 x8 x9 x10
    clear q1 KM
    have x0 := (X0.out 0 _ rfl).1
    have x1 := (X0.out 1 _ rfl).1
    have x2 := (X0.out 2 _ rfl).1
    have x3 := (X0.out 3 _ rfl).1
    have x4 := (X0.out 4 _ rfl).1
    have x5 := (X0.out 5 _ rfl).1
    have x6 := (X0.out 6 _ rfl).1
    have x7 := (X0.out 7 _ rfl).1
    have x8 := (X0.out 8 _ rfl).1
    have x9 := (X0.out 9 _ rfl).1
    have x10 := (X0.out 10 _ rfl).1
    go_upto_region 3 with (fail)
    go_cut [4] (fun s4 wx => s4 = .string (S1 ++ S2) ∧ Q w1 wx)
    case first =>
      refine wp_region_held_drew (S := Q w1) (by kernel_rfl) ?szz0 (fun hHeld => ?rzz0)
      case szz0 =>
        exact (Q.refl w1).drew
      case' rzz0 => skip
      generalize hgen : w1.drew = D0 at hHeld ⊢
      clear hgen
      refine wpAnyH_take (i := 0) (oi := ?ozz1) (v := ?vzz1) ?hzz1 ?azz1 ?bzz1 ?czz1 ?qzz1 ?yzz1 ?szz1 ?rzz1
      case hzz1 => simp only [List.getElem?_toArray, List.getElem?_cons_zero]; rfl
      case azz1 => kernel_rfl
      case bzz1 => kernel_rfl
      case czz1 => kernel_rfl
      case yzz1 =>
        refine Or.inl ⟨by rfl, ?_⟩
        intro w hSw
        skip
        go_simp
        try with_reducible rfl
      case qzz1 => exact fun _ _ _ h => h
      case szz1 => first | assumption | trivial
      case' rzz1 => simp only [Act.put, List.setIfInBounds_toArray, List.set_cons_zero, List.set_cons_succ]
      refine wpAnyH_take (i := 1) (oi := ?ozz2) (v := ?vzz2) ?hzz2 ?azz2 ?bzz2 ?czz2 ?qzz2 ?yzz2 ?szz2 ?rzz2
      case hzz2 => simp only [List.getElem?_toArray, List.getElem?_cons_zero, List.getElem?_cons_succ]; rfl
      case azz2 => kernel_rfl
      case bzz2 => kernel_rfl
      case czz2 => kernel_rfl
      case yzz2 =>
        refine Or.inl ⟨by rfl, ?_⟩
        intro w hSw
        have a0 := box_ hSw x0; have a1 := box_ hSw x1; have a2 := box_ hSw x2; have a3 := box_ hSw x3; have a4 := box_ hSw x4; clear hSw
        go_simp
        try with_reducible rfl
      case qzz2 => exact fun _ _ _ h => h
      case szz2 => first | assumption | trivial
      case' rzz2 => simp only [Act.put, List.setIfInBounds_toArray, List.set_cons_zero, List.set_cons_succ]
      refine wpAnyH_take (i := 2) (oi := ?ozz3) (v := ?vzz3) ?hzz3 ?azz3 ?bzz3 ?czz3 ?qzz3 ?yzz3 ?szz3 ?rzz3
      case hzz3 => simp only [List.getElem?_toArray, List.getElem?_cons_zero, List.getElem?_cons_succ]; rfl
      case azz3 => kernel_rfl
      case bzz3 => kernel_rfl
      case czz3 => kernel_rfl
      case yzz3 =>
        refine Or.inl ⟨by rfl, ?_⟩
        intro w hSw
        skip
        go_simp
        try with_reducible rfl
      case qzz3 => exact fun _ _ _ h => h
      case szz3 => first | assumption | trivial
      case' rzz3 => simp only [Act.put, List.setIfInBounds_toArray, List.set_cons_zero, List.set_cons_succ]
      refine wpAnyH_take (i := 3) (oi := ?ozz4) (v := ?vzz4) ?hzz4 ?azz4 ?bzz4 ?czz4 ?qzz4 ?yzz4 ?szz4 ?rzz4
      case hzz4 => simp only [List.getElem?_toArray, List.getElem?_cons_zero, List.getElem?_cons_succ]; rfl
      case azz4 => kernel_rfl
      case bzz4 => kernel_rfl
      case czz4 => kernel_rfl
      case yzz4 =>
        refine Or.inl ⟨by rfl, ?_⟩
        intro w hSw
        have a0 := box_ hSw x0; have a1 := box_ hSw x1; have a2 := box_ hSw x2; have a3 := box_ hSw x3; have a4 := box_ hSw x4; clear hSw
        go_simp
        try with_reducible rfl
      case qzz4 => exact fun _ _ _ h => h
      case szz4 => first | assumption | trivial
      case' rzz4 => simp only [Act.put, List.setIfInBounds_toArray, List.set_cons_zero, List.set_cons_succ]
      refine wpAnyH_take (i := 4) (oi := ?ozz5) (v := ?vzz5) ?hzz5 ?azz5 ?bzz5 ?czz5 ?qzz5 ?yzz5 ?szz5 ?rzz5
      case hzz5 => simp only [List.getElem?_toArray, List.getElem?_cons_zero, List.getElem?_cons_succ]; rfl
      case azz5 => kernel_rfl
      case bzz5 => kernel_rfl
      case czz5 => kernel_rfl
      case yzz5 =>
        refine Or.inl ⟨by rfl, ?_⟩
        intro w hSw
        skip
        go_simp
        try with_reducible rfl
      case qzz5 => exact fun _ _ _ h => h
      case szz5 => first | assumption | trivial
      case' rzz5 => simp only [Act.put, List.setIfInBounds_toArray, List.set_cons_zero, List.set_cons_succ]
      refine wpAnyH_take (i := 5) (oi := ?ozz6) (v := ?vzz6) ?hzz6 ?azz6 ?bzz6 ?czz6 ?qzz6 ?yzz6 ?szz6 ?rzz6
      case hzz6 => simp only [List.getElem?_toArray, List.getElem?_cons_zero, List.getElem?_cons_succ]; rfl
      case azz6 => kernel_rfl
      case bzz6 => kernel_rfl
      case czz6 => kernel_rfl
      case yzz6 =>
        refine Or.inl ⟨by rfl, ?_⟩
        intro w hSw
        have a0 := box_ hSw x0; have a1 := box_ hSw x1; have a2 := box_ hSw x2; have a3 := box_ hSw x3; have a4 := box_ hSw x4; clear hSw
        go_simp
        try with_reducible rfl
      case qzz6 => exact fun _ _ _ h => h
      case szz6 => first | assumption | trivial
      case' rzz6 => simp only [Act.put, List.setIfInBounds_toArray, List.set_cons_zero, List.set_cons_succ]
      refine wpAnyH_take (i := 6) (oi := ?ozz7) (v := ?vzz7) ?hzz7 ?azz7 ?bzz7 ?czz7 ?qzz7 ?yzz7 ?szz7 ?rzz7
      case hzz7 => simp only [List.getElem?_toArray, List.getElem?_cons_zero, List.getElem?_cons_succ]; rfl
      case azz7 => kernel_rfl
      case bzz7 => kernel_rfl
      case czz7 => kernel_rfl
      case yzz7 =>
        refine Or.inl ⟨by rfl, ?_⟩
        intro w hSw
        skip
        go_simp
        try with_reducible rfl
      case qzz7 => exact fun _ _ _ h => h
      case szz7 => first | assumption | trivial
      case' rzz7 => simp only [Act.put, List.setIfInBounds_toArray, List.set_cons_zero, List.set_cons_succ]
      refine wpAnyH_take (i := 7) (oi := ?ozz8) (v := ?vzz8) ?hzz8 ?azz8 ?bzz8 ?czz8 ?qzz8 ?yzz8 ?szz8 ?rzz8
      case hzz8 => simp only [List.getElem?_toArray, List.getElem?_cons_zero, List.getElem?_cons_succ]; rfl
      case azz8 => kernel_rfl
      case bzz8 => kernel_rfl
      case czz8 => kernel_rfl
      case yzz8 =>
        refine Or.inl ⟨by rfl, ?_⟩
        intro w hSw
        have a0 := box_ hSw x0; have a1 := box_ hSw x1; have a2 := box_ hSw x2; have a3 := box_ hSw x3; have a4 := box_ hSw x4; clear hSw
        go_simp
        try with_reducible rfl
      case qzz8 => exact fun _ _ _ h => h
      case szz8 => first | assumption | trivial
      case' rzz8 => simp only [Act.put, List.setIfInBounds_toArray, List.set_cons_zero, List.set_cons_succ]
      refine wpAnyH_take (i := 10) (oi := ?ozz9) (v := ?vzz9) ?hzz9 ?azz9 ?bzz9 ?czz9 ?qzz9 ?yzz9 ?szz9 ?rzz9
      case hzz9 => simp only [List.getElem?_toArray, List.getElem?_cons_zero, List.getElem?_cons_succ]; rfl
      case azz9 => kernel_rfl
      case bzz9 => kernel_rfl
      case czz9 => kernel_rfl
      case yzz9 =>
        refine Or.inl ⟨by rfl, ?_⟩
        intro w hSw
        skip
        go_simp
        try with_reducible rfl
      case qzz9 => exact fun _ _ _ h => h
      case szz9 => first | assumption | trivial
      case' rzz9 => simp only [Act.put, List.setIfInBounds_toArray, List.set_cons_zero, List.set_cons_succ]
      refine wpAnyH_take (i := 11) (oi := ?ozz10) (v := ?vzz10) ?hzz10 ?azz10 ?bzz10 ?czz10 ?qzz10 ?yzz10 ?szz10 ?rzz10
      case hzz10 => simp only [List.getElem?_toArray, List.getElem?_cons_zero, List.getElem?_cons_succ]; rfl
      case azz10 => kernel_rfl
      case bzz10 => kernel_rfl
      case czz10 => kernel_rfl
      case yzz10 =>
        refine Or.inl ⟨by rfl, ?_⟩
        intro w hSw
        have a0 := box_ hSw x0; have a1 := box_ hSw x1; have a2 := box_ hSw x2; have a3 := box_ hSw x3; have a4 := box_ hSw x4; clear hSw
        go_simp
        try with_reducible rfl
      case qzz10 => exact fun _ _ _ h => h
      case szz10 => first | assumption | trivial
      case' rzz10 => simp only [Act.put, List.setIfInBounds_toArray, List.set_cons_zero, List.set_cons_succ]
      refine wpAnyH_ready (rs := [8, 12]) (by kernel_rfl) (by simp) ?_
      refine AllReadyH.cons (o := ?ozz26) ?hzz26 (fun K hK => ?kzz26) ?mzz26
      case hzz26 => simp only [List.getElem?_toArray, List.getElem?_cons_zero, List.getElem?_cons_succ]; rfl
      case kzz26 =>
        go_simp
        have qa := (Q.refl D0).alloc (.cells #[.int .i64 k, .int .i64 e, .int .i64 s, .int .i64 n] 3)
        have BN1 : Hid (Lst numK (D0.alloc (.cells #[.int .i64 k, .int .i64 e, .int .i64 s, .int .i64 n] 3)) (some ⟨D0.heap.size, 0, none⟩) 4 [k, e, s, n]) := Lib.hid (lst_litn D0 [k, e, s, n])
        generalize D0.alloc (.cells #[.int .i64 k, .int .i64 e, .int .i64 s, .int .i64 n] 3) = Y0 at qa BN1 ⊢
        generalize D0.heap.size = nbN1 at BN1 ⊢
        refine hK.out _ _ ?Szz26 (fun hHeld => ?Rzz26)
        case Szz26 =>
          exact hHeld.trans qa
        case Rzz26 =>
          clear hK K
          try simp only [Act.put, List.setIfInBounds_toArray, List.set_cons_zero, List.set_cons_succ]
          refine wpAnyH_ready (rs := [9, 12]) (by kernel_rfl) (by simp) ?_
          refine AllReadyH.cons (o := ?ozz19) ?hzz19 (fun K hK => ?kzz19) ?mzz19
          case hzz19 => simp only [List.getElem?_toArray, List.getElem?_cons_zero, List.getElem?_cons_succ]; rfl
          case kzz19 =>
            go_simp
            refine (K1.out _ nbN1 BN1.out).mono ?_
            rintro e5 v5 ⟨rfl, q5⟩
            replace BN1 := Lib.hid (BN1.out.q q5)
            go_wp2_with fail
            refine hK.out _ _ ?Szz19 (fun hHeld => ?Rzz19)
            case Szz19 =>
              exact hHeld.trans q5
            case Rzz19 =>
              clear hK K
              try simp only [Act.put, List.setIfInBounds_toArray, List.set_cons_zero, List.set_cons_succ]
              refine wpAnyH_ready (rs := [12]) (by kernel_rfl) (by simp) ?_
              refine AllReadyH.cons (o := ?ozz14) ?hzz14 (fun K hK => ?kzz14) ?mzz14
              case hzz14 => simp only [List.getElem?_toArray, List.getElem?_cons_zero, List.getElem?_cons_succ]; rfl
              case kzz14 =>
                go_simp
                have qa := (Q.refl v5).alloc (.cells #[.string t] 9)
                have BT2 : Hid (Lst strK (v5.alloc (.cells #[.string t] 9)) (some ⟨v5.heap.size, 0, none⟩) 1 [t]) := Lib.hid (lst_lits v5 [t])
                replace BN1 := Lib.hid (BN1.out.q qa)
                generalize v5.alloc (.cells #[.string t] 9) = Y1 at qa BT2 BN1 ⊢
                generalize v5.heap.size = nbT2 at BT2 ⊢
                refine hK.out _ _ ?Szz14 (fun hHeld => ?Rzz14)
                case Szz14 =>
                  exact hHeld.trans qa
                case Rzz14 =>
                  clear hK K
                  try simp only [Act.put, List.setIfInBounds_toArray, List.set_cons_zero, List.set_cons_succ]
                  refine wpAnyH_ready (rs := [13]) (by kernel_rfl) (by simp) ?_
                  refine AllReadyH.cons (o := ?ozz13) ?hzz13 (fun K hK => ?kzz13) ?mzz13
                  case hzz13 => simp only [List.getElem?_toArray, List.getElem?_cons_zero, List.getElem?_cons_succ]; rfl
                  case kzz13 =>
                    go_simp
                    refine (K2.out _ nbT2 BT2.out).mono ?_
                    rintro e6 v6 ⟨rfl, q6⟩
                    replace BN1 := Lib.hid (BN1.out.q q6)
                    replace BT2 := Lib.hid (BT2.out.q q6)
                    go_wp2_with fail
                    refine hK.out _ _ ?Szz13 (fun hHeld => ?Rzz13)
                    case Szz13 =>
                      exact hHeld.trans q6
                    case Rzz13 =>
                      clear hK K
                      try simp only [Act.put, List.setIfInBounds_toArray, List.set_cons_zero, List.set_cons_succ]
                      refine wpAnyH_take (i := 14) (oi := ?ozz11) (v := ?vzz11) ?hzz11 ?azz11 ?bzz11 ?czz11 ?qzz11 ?yzz11 ?szz11 ?rzz11
                      case hzz11 => simp only [List.getElem?_toArray, List.getElem?_cons_zero, List.getElem?_cons_succ]; rfl
                      case azz11 => kernel_rfl
                      case bzz11 => kernel_rfl
                      case czz11 => kernel_rfl
                      case yzz11 =>
                        refine Or.inl ⟨by rfl, ?_⟩
                        intro w hSw
                        skip
                        go_simp
                        try with_reducible rfl
                      case qzz11 => exact fun _ _ _ h => h
                      case szz11 => first | assumption | trivial
                      case' rzz11 => simp only [Act.put, List.setIfInBounds_toArray, List.set_cons_zero, List.set_cons_succ]
                      refine wpAnyH_take (i := 15) (oi := ?ozz12) (v := ?vzz12) ?hzz12 ?azz12 ?bzz12 ?czz12 ?qzz12 ?yzz12 ?szz12 ?rzz12
                      case hzz12 => simp only [List.getElem?_toArray, List.getElem?_cons_zero, List.getElem?_cons_succ]; rfl
                      case azz12 => kernel_rfl
                      case bzz12 => kernel_rfl
                      case czz12 => kernel_rfl
                      case yzz12 =>
                        refine Or.inl ⟨by rfl, ?_⟩
                        intro w hSw
                        skip
                        go_simp
                        try with_reducible rfl
                      case qzz12 => exact fun _ _ _ h => h
                      case szz12 => first | assumption | trivial
                      case' rzz12 => simp only [Act.put, List.setIfInBounds_toArray, List.set_cons_zero, List.set_cons_succ]
                      refine wpAnyH_done (by kernel_rfl) ?_ _
                      go_wp2_with fail
                      go_meet
                      exact ⟨rfl, hHeld⟩
                  case' mzz13 => skip
                  exact AllReadyH.nil
              case' mzz14 => skip
              exact AllReadyH.nil
          case' mzz19 => skip
          refine AllReadyH.cons (o := ?ozz20) ?hzz20 (fun K hK => ?kzz20) ?mzz20
          case hzz20 => simp only [List.getElem?_toArray, List.getElem?_cons_zero, List.getElem?_cons_succ]; rfl
          case kzz20 =>
            go_simp
            have qa := (Q.refl Y0).alloc (.cells #[.string t] 9)
            have BT2 : Hid (Lst strK (Y0.alloc (.cells #[.string t] 9)) (some ⟨Y0.heap.size, 0, none⟩) 1 [t]) := Lib.hid (lst_lits Y0 [t])
            replace BN1 := Lib.hid (BN1.out.q qa)
            generalize Y0.alloc (.cells #[.string t] 9) = Y2 at qa BT2 BN1 ⊢
            generalize Y0.heap.size = nbT2 at BT2 ⊢
            refine hK.out _ _ ?Szz20 (fun hHeld => ?Rzz20)
            case Szz20 =>
              exact hHeld.trans qa
            case Rzz20 =>
              clear hK K
              try simp only [Act.put, List.setIfInBounds_toArray, List.set_cons_zero, List.set_cons_succ]
              refine wpAnyH_ready (rs := [9]) (by kernel_rfl) (by simp) ?_
              refine AllReadyH.cons (o := ?ozz18) ?hzz18 (fun K hK => ?kzz18) ?mzz18
              case hzz18 => simp only [List.getElem?_toArray, List.getElem?_cons_zero, List.getElem?_cons_succ]; rfl
              case kzz18 =>
                go_simp
                refine (K1.out _ nbN1 BN1.out).mono ?_
                rintro e5 v5 ⟨rfl, q5⟩
                replace BN1 := Lib.hid (BN1.out.q q5)
                replace BT2 := Lib.hid (BT2.out.q q5)
                go_wp2_with fail
                refine hK.out _ _ ?Szz18 (fun hHeld => ?Rzz18)
                case Szz18 =>
                  exact hHeld.trans q5
                case Rzz18 =>
                  clear hK K
                  try simp only [Act.put, List.setIfInBounds_toArray, List.set_cons_zero, List.set_cons_succ]
                  refine wpAnyH_ready (rs := [13]) (by kernel_rfl) (by simp) ?_
                  refine AllReadyH.cons (o := ?ozz17) ?hzz17 (fun K hK => ?kzz17) ?mzz17
                  case hzz17 => simp only [List.getElem?_toArray, List.getElem?_cons_zero, List.getElem?_cons_succ]; rfl
                  case kzz17 =>
                    go_simp
                    refine (K2.out _ nbT2 BT2.out).mono ?_
                    rintro e6 v6 ⟨rfl, q6⟩
                    replace BN1 := Lib.hid (BN1.out.q q6)
                    replace BT2 := Lib.hid (BT2.out.q q6)
                    go_wp2_with fail
                    refine hK.out _ _ ?Szz17 (fun hHeld => ?Rzz17)
                    case Szz17 =>
                      exact hHeld.trans q6
                    case Rzz17 =>
                      clear hK K
                      try simp only [Act.put, List.setIfInBounds_toArray, List.set_cons_zero, List.set_cons_succ]
                      refine wpAnyH_take (i := 14) (oi := ?ozz15) (v := ?vzz15) ?hzz15 ?azz15 ?bzz15 ?czz15 ?qzz15 ?yzz15 ?szz15 ?rzz15
                      case hzz15 => simp only [List.getElem?_toArray, List.getElem?_cons_zero, List.getElem?_cons_succ]; rfl
                      case azz15 => kernel_rfl
                      case bzz15 => kernel_rfl
                      case czz15 => kernel_rfl
                      case yzz15 =>
                        refine Or.inl ⟨by rfl, ?_⟩
                        intro w hSw
                        skip
                        go_simp
                        try with_reducible rfl
                      case qzz15 => exact fun _ _ _ h => h
                      case szz15 => first | assumption | trivial
                      case' rzz15 => simp only [Act.put, List.setIfInBounds_toArray, List.set_cons_zero, List.set_cons_succ]
                      refine wpAnyH_take (i := 15) (oi := ?ozz16) (v := ?vzz16) ?hzz16 ?azz16 ?bzz16 ?czz16 ?qzz16 ?yzz16 ?szz16 ?rzz16
                      case hzz16 => simp only [List.getElem?_toArray, List.getElem?_cons_zero, List.getElem?_cons_succ]; rfl
                      case azz16 => kernel_rfl
                      case bzz16 => kernel_rfl
                      case czz16 => kernel_rfl
                      case yzz16 =>
                        refine Or.inl ⟨by rfl, ?_⟩
                        intro w hSw
                        skip
                        go_simp
                        try with_reducible rfl
                      case qzz16 => exact fun _ _ _ h => h
                      case szz16 => first | assumption | trivial
                      case' rzz16 => simp only [Act.put, List.setIfInBounds_toArray, List.set_cons_zero, List.set_cons_succ]
                      refine wpAnyH_done (by kernel_rfl) ?_ _
                      go_wp2_with fail
                      go_meet
                      exact ⟨rfl, hHeld⟩
                  case' mzz17 => skip
                  exact AllReadyH.nil
              case' mzz18 => skip
              exact AllReadyH.nil
          case' mzz20 => skip
          exact AllReadyH.nil
      case' mzz26 => skip
      refine AllReadyH.cons (o := ?ozz27) ?hzz27 (fun K hK => ?kzz27) ?mzz27
      case hzz27 => simp only [List.getElem?_toArray, List.getElem?_cons_zero, List.getElem?_cons_succ]; rfl
      case kzz27 =>
        go_simp
        have qa := (Q.refl D0).alloc (.cells #[.string t] 9)
        have BT2 : Hid (Lst strK (D0.alloc (.cells #[.string t] 9)) (some ⟨D0.heap.size, 0, none⟩) 1 [t]) := Lib.hid (lst_lits D0 [t])
        generalize D0.alloc (.cells #[.string t] 9) = Y3 at qa BT2 ⊢
        generalize D0.heap.size = nbT2 at BT2 ⊢
        refine hK.out _ _ ?Szz27 (fun hHeld => ?Rzz27)
        case Szz27 =>
          exact hHeld.trans qa
        case Rzz27 =>
          clear hK K
          try simp only [Act.put, List.setIfInBounds_toArray, List.set_cons_zero, List.set_cons_succ]
          refine wpAnyH_ready (rs := [8]) (by kernel_rfl) (by simp) ?_
          refine AllReadyH.cons (o := ?ozz25) ?hzz25 (fun K hK => ?kzz25) ?mzz25
          case hzz25 => simp only [List.getElem?_toArray, List.getElem?_cons_zero, List.getElem?_cons_succ]; rfl
          case kzz25 =>
            go_simp
            have qa := (Q.refl Y3).alloc (.cells #[.int .i64 k, .int .i64 e, .int .i64 s, .int .i64 n] 3)
            have BN1 : Hid (Lst numK (Y3.alloc (.cells #[.int .i64 k, .int .i64 e, .int .i64 s, .int .i64 n] 3)) (some ⟨Y3.heap.size, 0, none⟩) 4 [k, e, s, n]) := Lib.hid (lst_litn Y3 [k, e, s, n])
            replace BT2 := Lib.hid (BT2.out.q qa)
            generalize Y3.alloc (.cells #[.int .i64 k, .int .i64 e, .int .i64 s, .int .i64 n] 3) = Y4 at qa BN1 BT2 ⊢
            generalize Y3.heap.size = nbN1 at BN1 ⊢
            refine hK.out _ _ ?Szz25 (fun hHeld => ?Rzz25)
            case Szz25 =>
              exact hHeld.trans qa
            case Rzz25 =>
              clear hK K
              try simp only [Act.put, List.setIfInBounds_toArray, List.set_cons_zero, List.set_cons_succ]
              refine wpAnyH_ready (rs := [9]) (by kernel_rfl) (by simp) ?_
              refine AllReadyH.cons (o := ?ozz24) ?hzz24 (fun K hK => ?kzz24) ?mzz24
              case hzz24 => simp only [List.getElem?_toArray, List.getElem?_cons_zero, List.getElem?_cons_succ]; rfl
              case kzz24 =>
                go_simp
                refine (K1.out _ nbN1 BN1.out).mono ?_
                rintro e5 v5 ⟨rfl, q5⟩
                replace BT2 := Lib.hid (BT2.out.q q5)
                replace BN1 := Lib.hid (BN1.out.q q5)
                go_wp2_with fail
                refine hK.out _ _ ?Szz24 (fun hHeld => ?Rzz24)
                case Szz24 =>
                  exact hHeld.trans q5
                case Rzz24 =>
                  clear hK K
                  try simp only [Act.put, List.setIfInBounds_toArray, List.set_cons_zero, List.set_cons_succ]
                  refine wpAnyH_ready (rs := [13]) (by kernel_rfl) (by simp) ?_
                  refine AllReadyH.cons (o := ?ozz23) ?hzz23 (fun K hK => ?kzz23) ?mzz23
                  case hzz23 => simp only [List.getElem?_toArray, List.getElem?_cons_zero, List.getElem?_cons_succ]; rfl
                  case kzz23 =>
                    go_simp
                    refine (K2.out _ nbT2 BT2.out).mono ?_
                    rintro e6 v6 ⟨rfl, q6⟩
                    replace BT2 := Lib.hid (BT2.out.q q6)
                    replace BN1 := Lib.hid (BN1.out.q q6)
                    go_wp2_with fail
                    refine hK.out _ _ ?Szz23 (fun hHeld => ?Rzz23)
                    case Szz23 =>
                      exact hHeld.trans q6
                    case Rzz23 =>
                      clear hK K
                      try simp only [Act.put, List.setIfInBounds_toArray, List.set_cons_zero, List.set_cons_succ]
                      refine wpAnyH_take (i := 14) (oi := ?ozz21) (v := ?vzz21) ?hzz21 ?azz21 ?bzz21 ?czz21 ?qzz21 ?yzz21 ?szz21 ?rzz21
                      case hzz21 => simp only [List.getElem?_toArray, List.getElem?_cons_zero, List.getElem?_cons_succ]; rfl
                      case azz21 => kernel_rfl
                      case bzz21 => kernel_rfl
                      case czz21 => kernel_rfl
                      case yzz21 =>
                        refine Or.inl ⟨by rfl, ?_⟩
                        intro w hSw
                        skip
                        go_simp
                        try with_reducible rfl
                      case qzz21 => exact fun _ _ _ h => h
                      case szz21 => first | assumption | trivial
                      case' rzz21 => simp only [Act.put, List.setIfInBounds_toArray, List.set_cons_zero, List.set_cons_succ]
                      refine wpAnyH_take (i := 15) (oi := ?ozz22) (v := ?vzz22) ?hzz22 ?azz22 ?bzz22 ?czz22 ?qzz22 ?yzz22 ?szz22 ?rzz22
                      case hzz22 => simp only [List.getElem?_toArray, List.getElem?_cons_zero, List.getElem?_cons_succ]; rfl
                      case azz22 => kernel_rfl
                      case bzz22 => kernel_rfl
                      case czz22 => kernel_rfl
                      case yzz22 =>
                        refine Or.inl ⟨by rfl, ?_⟩
                        intro w hSw
                        skip
                        go_simp
                        try with_reducible rfl
                      case qzz22 => exact fun _ _ _ h => h
                      case szz22 => first | assumption | trivial
                      case' rzz22 => simp only [Act.put, List.setIfInBounds_toArray, List.set_cons_zero, List.set_cons_succ]
                      refine wpAnyH_done (by kernel_rfl) ?_ _
                      go_wp2_with fail
                      go_meet
                      exact ⟨rfl, hHeld⟩
                  case' mzz23 => skip
                  exact AllReadyH.nil
              case' mzz24 => skip
              exact AllReadyH.nil
          case' mzz25 => skip
          exact AllReadyH.nil
      case' mzz27 => skip
      exact AllReadyH.nil
    case rest =>
      obtain ⟨rfl, q2⟩ := hcut
      replace X0 := Lib.hid (X0.out.q q2)
      replace QF := Lib.hid (QF.out.trans q2)
      clear q2 c1 l1 l2 K1 K2
      clear x0 x1 x2 x3 x4 x5 x6 x7 x8 x9 x10
      generalize S1 ++ S2 = HD at HH HSZ ⊢
      have x0 := (X0.out 0 _ rfl).1
      have x1 := (X0.out 1 _ rfl).1
      have x2 := (X0.out 2 _ rfl).1
      have x3 := (X0.out 3 _ rfl).1
      have x4 := (X0.out 4 _ rfl).1
      have x5 := (X0.out 5 _ rfl).1
      have x6 := (X0.out 6 _ rfl).1
      have x7 := (X0.out 7 _ rfl).1
      have x8 := (X0.out 8 _ rfl).1
      have x9 := (X0.out 9 _ rfl).1
      have x10 := (X0.out 10 _ rfl).1
      by_cases h5 : k = 5
      · subst h5
        have HO := Lib.hid (M.out.o5 rfl)
        obtain ⟨g1, g2, g3, g4, g5, g6⟩ := mayOp_iff.1 HO.out
        simp only at g1 g2 g3 g4 g5 g6
        have hok : small ok = true := small_iff.2 (by omega)
        have K3 : Hid (∀ W b, Lst numK W (some ⟨b, 0, none⟩) 1 [ok] → Calls Try.prog 8 #[.slice (some ⟨b, 0, none⟩) 1 1] W fun e' w' => e' = .returned (.string (ba (catN [ok]))) ∧ Q W w') := Lib.hid (fun W b h => onums_any _ 1 1 _ W h (by omega) (by simp only [List.mem_cons, List.not_mem_nil, or_false]; rintro x rfl; exact hok))
        have K4 : Hid (∀ W b, Lst strK W (some ⟨b, 0, none⟩) 4 [ky, vl, lo, hi] → Calls Try.prog 9 #[.slice (some ⟨b, 0, none⟩) 4 4] W fun e' w' => e' = .returned (.string (ba (catT [ky, vl, lo, hi]))) ∧ Q W w') := Lib.hid (fun W b h => otexts_any _ 4 4 _ W h (by omega) (by simp only [List.mem_cons, List.not_mem_nil, or_false]; rintro x (rfl | rfl | rfl | rfl) <;> omega))
        have K5 : Hid (∀ W b, Lst numK W (some ⟨b, 0, none⟩) 1 [m] → Calls Try.prog 8 #[.slice (some ⟨b, 0, none⟩) 1 1] W fun e' w' => e' = .returned (.string (ba (catN [m]))) ∧ Q W w') := Lib.hid (fun W b h => onums_any _ 1 1 _ W h (by omega) (by simp only [List.mem_cons, List.not_mem_nil, or_false]; rintro x rfl; exact hm))
        have HE : Hid (HD ++ (ba (catN [ok]) ++ ba (catT [ky, vl, lo, hi]) ++ ba (catN [m])) = ba (req ⟨5, e, s, n, t, ⟨ok, ky, vl, lo, hi, m⟩⟩)) := Lib.hid (by
          rw [HH.out]; unfold req reqR
          rw [if_pos rfl]
          unfold headQ opB catN catT
          simp only [ba_app, List.flatMap_cons, List.flatMap_nil, List.append_assoc, List.append_nil, List.nil_append])
        have l3 : (ba (catN [ok])).size ≤ 21 := by rw [ba_size]; exact catN_len _ (by simp only [List.mem_cons, List.not_mem_nil, or_false]; rintro x rfl; exact hok)
        have l4 : (ba (catT [ky, vl, lo, hi])).size ≤ 268 := by rw [ba_size]; exact catT_len _ (by simp only [List.mem_cons, List.not_mem_nil, or_false]; rintro x (rfl | rfl | rfl | rfl) <;> omega)
        have l5 : (ba (catN [m])).size ≤ 21 := by rw [ba_size]; exact catN_len _ (by simp only [List.mem_cons, List.not_mem_nil, or_false]; rintro x rfl; exact hm)
        have c1 : ¬ 9223372036854775807 < (ba (catN [ok])).size + (ba (catT [ky, vl, lo, hi])).size := by omega
        have c2 : ¬ 9223372036854775807 < (ba (catN [ok])).size + (ba (catT [ky, vl, lo, hi])).size + (ba (catN [m])).size := by omega
        have c3 : ¬ 9223372036854775807 < HD.size + ((ba (catN [ok])).size + (ba (catT [ky, vl, lo, hi])).size + (ba (catN [m])).size) := by have := HSZ.out; omega
        generalize ba (catN [ok]) = S3 at K3 l3 HE c1 c2 c3
        generalize ba (catT [ky, vl, lo, hi]) = S4 at K4 l4 HE c1 c2 c3
        generalize ba (catN [m]) = S5 at K5 l5 HE c1 c2 c3
        clear g1 g2 g3 g4 g5 g6 hok hm
        have qb := (Q.refl wc).alloc (.cells #[.int .i64 ok, .string ky, .string vl, .string lo, .string hi, .int .i64 m] 23)
        have X5 : Hid (Bx (wc.alloc (.cells #[.int .i64 ok, .string ky, .string vl, .string lo, .string hi, .int .i64 m] 23)) wc.heap.size [.int .i64 ok, .string ky, .string vl, .string lo, .string hi, .int .i64 m]) := Lib.hid (Bx.new wc [.int .i64 ok, .string ky, .string vl, .string lo, .string hi, .int .i64 m] 23)
        replace QF := Lib.hid (QF.out.trans qb)
        clear qb
        go_upto_region 6 with (fail)
        generalize wc.alloc (.cells #[.int .i64 ok, .string ky, .string vl, .string lo, .string hi, .int .i64 m] 23) = W5 at X5 QF ⊢
        generalize wc.heap.size = b5 at X5 ⊢
        clear x0 x1 x2 x3 x4 x5 x6 x7 x8 x9 x10
        clear X0
        have y0 := (X5.out 0 _ rfl).1
        have y1 := (X5.out 1 _ rfl).1
        have y2 := (X5.out 2 _ rfl).1
        have y3 := (X5.out 3 _ rfl).1
        have y4 := (X5.out 4 _ rfl).1
        have y5 := (X5.out 5 _ rfl).1
        go_cut [4] (fun s4 wx => s4 = .string (HD ++ (S3 ++ S4 ++ S5)) ∧ Q W5 wx)
        case first =>
          refine wp_region_held_drew (S := Q W5) (by kernel_rfl) ?szz28 (fun hHeld => ?rzz28)
          case szz28 =>
            exact (Q.refl W5).drew
          case' rzz28 => skip
          generalize hgen : W5.drew = D0 at hHeld ⊢
          clear hgen
          refine wpAnyH_take (i := 0) (oi := ?ozz29) (v := ?vzz29) ?hzz29 ?azz29 ?bzz29 ?czz29 ?qzz29 ?yzz29 ?szz29 ?rzz29
          case hzz29 => simp only [List.getElem?_toArray, List.getElem?_cons_zero]; rfl
          case azz29 => kernel_rfl
          case bzz29 => kernel_rfl
          case czz29 => kernel_rfl
          case yzz29 =>
            refine Or.inl ⟨by rfl, ?_⟩
            intro w hSw
            skip
            go_simp
            try with_reducible rfl
          case qzz29 => exact fun _ _ _ h => h
          case szz29 => first | assumption | trivial
          case' rzz29 => simp only [Act.put, List.setIfInBounds_toArray, List.set_cons_zero, List.set_cons_succ]
          refine wpAnyH_take (i := 1) (oi := ?ozz30) (v := ?vzz30) ?hzz30 ?azz30 ?bzz30 ?czz30 ?qzz30 ?yzz30 ?szz30 ?rzz30
          case hzz30 => simp only [List.getElem?_toArray, List.getElem?_cons_zero, List.getElem?_cons_succ]; rfl
          case azz30 => kernel_rfl
          case bzz30 => kernel_rfl
          case czz30 => kernel_rfl
          case yzz30 =>
            refine Or.inl ⟨by rfl, ?_⟩
            intro w hSw
            skip
            go_simp
            try with_reducible rfl
          case qzz30 => exact fun _ _ _ h => h
          case szz30 => first | assumption | trivial
          case' rzz30 => simp only [Act.put, List.setIfInBounds_toArray, List.set_cons_zero, List.set_cons_succ]
          refine wpAnyH_take (i := 2) (oi := ?ozz31) (v := ?vzz31) ?hzz31 ?azz31 ?bzz31 ?czz31 ?qzz31 ?yzz31 ?szz31 ?rzz31
          case hzz31 => simp only [List.getElem?_toArray, List.getElem?_cons_zero, List.getElem?_cons_succ]; rfl
          case azz31 => kernel_rfl
          case bzz31 => kernel_rfl
          case czz31 => kernel_rfl
          case yzz31 =>
            refine Or.inl ⟨by rfl, ?_⟩
            intro w hSw
            have a0 := box_ hSw y0; have a1 := box_ hSw y1; have a2 := box_ hSw y2; have a3 := box_ hSw y3; have a4 := box_ hSw y4; have a5 := box_ hSw y5; clear hSw
            go_simp
            try with_reducible rfl
          case qzz31 => exact fun _ _ _ h => h
          case szz31 => first | assumption | trivial
          case' rzz31 => simp only [Act.put, List.setIfInBounds_toArray, List.set_cons_zero, List.set_cons_succ]
          refine wpAnyH_take (i := 5) (oi := ?ozz32) (v := ?vzz32) ?hzz32 ?azz32 ?bzz32 ?czz32 ?qzz32 ?yzz32 ?szz32 ?rzz32
          case hzz32 => simp only [List.getElem?_toArray, List.getElem?_cons_zero, List.getElem?_cons_succ]; rfl
          case azz32 => kernel_rfl
          case bzz32 => kernel_rfl
          case czz32 => kernel_rfl
          case yzz32 =>
            refine Or.inl ⟨by rfl, ?_⟩
            intro w hSw
            skip
            go_simp
            try with_reducible rfl
          case qzz32 => exact fun _ _ _ h => h
          case szz32 => first | assumption | trivial
          case' rzz32 => simp only [Act.put, List.setIfInBounds_toArray, List.set_cons_zero, List.set_cons_succ]
          refine wpAnyH_take (i := 6) (oi := ?ozz33) (v := ?vzz33) ?hzz33 ?azz33 ?bzz33 ?czz33 ?qzz33 ?yzz33 ?szz33 ?rzz33
          case hzz33 => simp only [List.getElem?_toArray, List.getElem?_cons_zero, List.getElem?_cons_succ]; rfl
          case azz33 => kernel_rfl
          case bzz33 => kernel_rfl
          case czz33 => kernel_rfl
          case yzz33 =>
            refine Or.inl ⟨by rfl, ?_⟩
            intro w hSw
            have a0 := box_ hSw y0; have a1 := box_ hSw y1; have a2 := box_ hSw y2; have a3 := box_ hSw y3; have a4 := box_ hSw y4; have a5 := box_ hSw y5; clear hSw
            go_simp
            try with_reducible rfl
          case qzz33 => exact fun _ _ _ h => h
          case szz33 => first | assumption | trivial
          case' rzz33 => simp only [Act.put, List.setIfInBounds_toArray, List.set_cons_zero, List.set_cons_succ]
          refine wpAnyH_take (i := 7) (oi := ?ozz34) (v := ?vzz34) ?hzz34 ?azz34 ?bzz34 ?czz34 ?qzz34 ?yzz34 ?szz34 ?rzz34
          case hzz34 => simp only [List.getElem?_toArray, List.getElem?_cons_zero, List.getElem?_cons_succ]; rfl
          case azz34 => kernel_rfl
          case bzz34 => kernel_rfl
          case czz34 => kernel_rfl
          case yzz34 =>
            refine Or.inl ⟨by rfl, ?_⟩
            intro w hSw
            skip
            go_simp
            try with_reducible rfl
          case qzz34 => exact fun _ _ _ h => h
          case szz34 => first | assumption | trivial
          case' rzz34 => simp only [Act.put, List.setIfInBounds_toArray, List.set_cons_zero, List.set_cons_succ]
          refine wpAnyH_take (i := 8) (oi := ?ozz35) (v := ?vzz35) ?hzz35 ?azz35 ?bzz35 ?czz35 ?qzz35 ?yzz35 ?szz35 ?rzz35
          case hzz35 => simp only [List.getElem?_toArray, List.getElem?_cons_zero, List.getElem?_cons_succ]; rfl
          case azz35 => kernel_rfl
          case bzz35 => kernel_rfl
          case czz35 => kernel_rfl
          case yzz35 =>
            refine Or.inl ⟨by rfl, ?_⟩
            intro w hSw
            have a0 := box_ hSw y0; have a1 := box_ hSw y1; have a2 := box_ hSw y2; have a3 := box_ hSw y3; have a4 := box_ hSw y4; have a5 := box_ hSw y5; clear hSw
            go_simp
            try with_reducible rfl
          case qzz35 => exact fun _ _ _ h => h
          case szz35 => first | assumption | trivial
          case' rzz35 => simp only [Act.put, List.setIfInBounds_toArray, List.set_cons_zero, List.set_cons_succ]
          refine wpAnyH_take (i := 9) (oi := ?ozz36) (v := ?vzz36) ?hzz36 ?azz36 ?bzz36 ?czz36 ?qzz36 ?yzz36 ?szz36 ?rzz36
          case hzz36 => simp only [List.getElem?_toArray, List.getElem?_cons_zero, List.getElem?_cons_succ]; rfl
          case azz36 => kernel_rfl
          case bzz36 => kernel_rfl
          case czz36 => kernel_rfl
          case yzz36 =>
            refine Or.inl ⟨by rfl, ?_⟩
            intro w hSw
            skip
            go_simp
            try with_reducible rfl
          case qzz36 => exact fun _ _ _ h => h
          case szz36 => first | assumption | trivial
          case' rzz36 => simp only [Act.put, List.setIfInBounds_toArray, List.set_cons_zero, List.set_cons_succ]
          refine wpAnyH_take (i := 10) (oi := ?ozz37) (v := ?vzz37) ?hzz37 ?azz37 ?bzz37 ?czz37 ?qzz37 ?yzz37 ?szz37 ?rzz37
          case hzz37 => simp only [List.getElem?_toArray, List.getElem?_cons_zero, List.getElem?_cons_succ]; rfl
          case azz37 => kernel_rfl
          case bzz37 => kernel_rfl
          case czz37 => kernel_rfl
          case yzz37 =>
            refine Or.inl ⟨by rfl, ?_⟩
            intro w hSw
            have a0 := box_ hSw y0; have a1 := box_ hSw y1; have a2 := box_ hSw y2; have a3 := box_ hSw y3; have a4 := box_ hSw y4; have a5 := box_ hSw y5; clear hSw
            go_simp
            try with_reducible rfl
          case qzz37 => exact fun _ _ _ h => h
          case szz37 => first | assumption | trivial
          case' rzz37 => simp only [Act.put, List.setIfInBounds_toArray, List.set_cons_zero, List.set_cons_succ]
          refine wpAnyH_take (i := 11) (oi := ?ozz38) (v := ?vzz38) ?hzz38 ?azz38 ?bzz38 ?czz38 ?qzz38 ?yzz38 ?szz38 ?rzz38
          case hzz38 => simp only [List.getElem?_toArray, List.getElem?_cons_zero, List.getElem?_cons_succ]; rfl
          case azz38 => kernel_rfl
          case bzz38 => kernel_rfl
          case czz38 => kernel_rfl
          case yzz38 =>
            refine Or.inl ⟨by rfl, ?_⟩
            intro w hSw
            skip
            go_simp
            try with_reducible rfl
          case qzz38 => exact fun _ _ _ h => h
          case szz38 => first | assumption | trivial
          case' rzz38 => simp only [Act.put, List.setIfInBounds_toArray, List.set_cons_zero, List.set_cons_succ]
          refine wpAnyH_take (i := 12) (oi := ?ozz39) (v := ?vzz39) ?hzz39 ?azz39 ?bzz39 ?czz39 ?qzz39 ?yzz39 ?szz39 ?rzz39
          case hzz39 => simp only [List.getElem?_toArray, List.getElem?_cons_zero, List.getElem?_cons_succ]; rfl
          case azz39 => kernel_rfl
          case bzz39 => kernel_rfl
          case czz39 => kernel_rfl
          case yzz39 =>
            refine Or.inl ⟨by rfl, ?_⟩
            intro w hSw
            have a0 := box_ hSw y0; have a1 := box_ hSw y1; have a2 := box_ hSw y2; have a3 := box_ hSw y3; have a4 := box_ hSw y4; have a5 := box_ hSw y5; clear hSw
            go_simp
            try with_reducible rfl
          case qzz39 => exact fun _ _ _ h => h
          case szz39 => first | assumption | trivial
          case' rzz39 => simp only [Act.put, List.setIfInBounds_toArray, List.set_cons_zero, List.set_cons_succ]
          refine wpAnyH_take (i := 16) (oi := ?ozz40) (v := ?vzz40) ?hzz40 ?azz40 ?bzz40 ?czz40 ?qzz40 ?yzz40 ?szz40 ?rzz40
          case hzz40 => simp only [List.getElem?_toArray, List.getElem?_cons_zero, List.getElem?_cons_succ]; rfl
          case azz40 => kernel_rfl
          case bzz40 => kernel_rfl
          case czz40 => kernel_rfl
          case yzz40 =>
            refine Or.inl ⟨by rfl, ?_⟩
            intro w hSw
            skip
            go_simp
            try with_reducible rfl
          case qzz40 => exact fun _ _ _ h => h
          case szz40 => first | assumption | trivial
          case' rzz40 => simp only [Act.put, List.setIfInBounds_toArray, List.set_cons_zero, List.set_cons_succ]
          refine wpAnyH_take (i := 17) (oi := ?ozz41) (v := ?vzz41) ?hzz41 ?azz41 ?bzz41 ?czz41 ?qzz41 ?yzz41 ?szz41 ?rzz41
          case hzz41 => simp only [List.getElem?_toArray, List.getElem?_cons_zero, List.getElem?_cons_succ]; rfl
          case azz41 => kernel_rfl
          case bzz41 => kernel_rfl
          case czz41 => kernel_rfl
          case yzz41 =>
            refine Or.inl ⟨by rfl, ?_⟩
            intro w hSw
            have a0 := box_ hSw y0; have a1 := box_ hSw y1; have a2 := box_ hSw y2; have a3 := box_ hSw y3; have a4 := box_ hSw y4; have a5 := box_ hSw y5; clear hSw
            go_simp
            try with_reducible rfl
          case qzz41 => exact fun _ _ _ h => h
          case szz41 => first | assumption | trivial
          case' rzz41 => simp only [Act.put, List.setIfInBounds_toArray, List.set_cons_zero, List.set_cons_succ]
          refine wpAnyH_ready (rs := [3, 13, 18]) (by kernel_rfl) (by simp) ?_
          refine AllReadyH.cons (o := ?ozz166) ?hzz166 (fun K hK => ?kzz166) ?mzz166
          case hzz166 => simp only [List.getElem?_toArray, List.getElem?_cons_zero, List.getElem?_cons_succ]; rfl
          case kzz166 =>
            go_simp
            have qa := (Q.refl D0).alloc (.cells #[.int .i64 ok] 3)
            have BN3 : Hid (Lst numK (D0.alloc (.cells #[.int .i64 ok] 3)) (some ⟨D0.heap.size, 0, none⟩) 1 [ok]) := Lib.hid (lst_litn D0 [ok])
            generalize D0.alloc (.cells #[.int .i64 ok] 3) = Y0 at qa BN3 ⊢
            generalize D0.heap.size = nbN3 at BN3 ⊢
            refine hK.out _ _ ?Szz166 (fun hHeld => ?Rzz166)
            case Szz166 =>
              exact hHeld.trans qa
            case Rzz166 =>
              clear hK K
              try simp only [Act.put, List.setIfInBounds_toArray, List.set_cons_zero, List.set_cons_succ]
              refine wpAnyH_ready (rs := [4, 13, 18]) (by kernel_rfl) (by simp) ?_
              refine AllReadyH.cons (o := ?ozz104) ?hzz104 (fun K hK => ?kzz104) ?mzz104
              case hzz104 => simp only [List.getElem?_toArray, List.getElem?_cons_zero, List.getElem?_cons_succ]; rfl
              case kzz104 =>
                go_simp
                refine (K3.out _ nbN3 BN3.out).mono ?_
                rintro e5 v5 ⟨rfl, q5⟩
                replace BN3 := Lib.hid (BN3.out.q q5)
                go_wp2_with fail
                refine hK.out _ _ ?Szz104 (fun hHeld => ?Rzz104)
                case Szz104 =>
                  exact hHeld.trans q5
                case Rzz104 =>
                  clear hK K
                  try simp only [Act.put, List.setIfInBounds_toArray, List.set_cons_zero, List.set_cons_succ]
                  refine wpAnyH_ready (rs := [13, 18]) (by kernel_rfl) (by simp) ?_
                  refine AllReadyH.cons (o := ?ozz63) ?hzz63 (fun K hK => ?kzz63) ?mzz63
                  case hzz63 => simp only [List.getElem?_toArray, List.getElem?_cons_zero, List.getElem?_cons_succ]; rfl
                  case kzz63 =>
                    go_simp
                    have qa := (Q.refl v5).alloc (.cells #[.string ky, .string vl, .string lo, .string hi] 9)
                    have BT4 : Hid (Lst strK (v5.alloc (.cells #[.string ky, .string vl, .string lo, .string hi] 9)) (some ⟨v5.heap.size, 0, none⟩) 4 [ky, vl, lo, hi]) := Lib.hid (lst_lits v5 [ky, vl, lo, hi])
                    replace BN3 := Lib.hid (BN3.out.q qa)
                    generalize v5.alloc (.cells #[.string ky, .string vl, .string lo, .string hi] 9) = Y1 at qa BT4 BN3 ⊢
                    generalize v5.heap.size = nbT4 at BT4 ⊢
                    refine hK.out _ _ ?Szz63 (fun hHeld => ?Rzz63)
                    case Szz63 =>
                      exact hHeld.trans qa
                    case Rzz63 =>
                      clear hK K
                      try simp only [Act.put, List.setIfInBounds_toArray, List.set_cons_zero, List.set_cons_succ]
                      refine wpAnyH_ready (rs := [14, 18]) (by kernel_rfl) (by simp) ?_
                      refine AllReadyH.cons (o := ?ozz54) ?hzz54 (fun K hK => ?kzz54) ?mzz54
                      case hzz54 => simp only [List.getElem?_toArray, List.getElem?_cons_zero, List.getElem?_cons_succ]; rfl
                      case kzz54 =>
                        go_simp
                        refine (K4.out _ nbT4 BT4.out).mono ?_
                        rintro e6 v6 ⟨rfl, q6⟩
                        replace BN3 := Lib.hid (BN3.out.q q6)
                        replace BT4 := Lib.hid (BT4.out.q q6)
                        go_wp2_with fail
                        refine hK.out _ _ ?Szz54 (fun hHeld => ?Rzz54)
                        case Szz54 =>
                          exact hHeld.trans q6
                        case Rzz54 =>
                          clear hK K
                          try simp only [Act.put, List.setIfInBounds_toArray, List.set_cons_zero, List.set_cons_succ]
                          refine wpAnyH_take (i := 15) (oi := ?ozz42) (v := ?vzz42) ?hzz42 ?azz42 ?bzz42 ?czz42 ?qzz42 ?yzz42 ?szz42 ?rzz42
                          case hzz42 => simp only [List.getElem?_toArray, List.getElem?_cons_zero, List.getElem?_cons_succ]; rfl
                          case azz42 => kernel_rfl
                          case bzz42 => kernel_rfl
                          case czz42 => kernel_rfl
                          case yzz42 =>
                            refine Or.inl ⟨by rfl, ?_⟩
                            intro w hSw
                            skip
                            go_simp
                            try with_reducible rfl
                          case qzz42 => exact fun _ _ _ h => h
                          case szz42 => first | assumption | trivial
                          case' rzz42 => simp only [Act.put, List.setIfInBounds_toArray, List.set_cons_zero, List.set_cons_succ]
                          refine wpAnyH_ready (rs := [18]) (by kernel_rfl) (by simp) ?_
                          refine AllReadyH.cons (o := ?ozz47) ?hzz47 (fun K hK => ?kzz47) ?mzz47
                          case hzz47 => simp only [List.getElem?_toArray, List.getElem?_cons_zero, List.getElem?_cons_succ]; rfl
                          case kzz47 =>
                            go_simp
                            have qa := (Q.refl v6).alloc (.cells #[.int .i64 m] 3)
                            have BN5 : Hid (Lst numK (v6.alloc (.cells #[.int .i64 m] 3)) (some ⟨v6.heap.size, 0, none⟩) 1 [m]) := Lib.hid (lst_litn v6 [m])
                            replace BN3 := Lib.hid (BN3.out.q qa)
                            replace BT4 := Lib.hid (BT4.out.q qa)
                            generalize v6.alloc (.cells #[.int .i64 m] 3) = Y2 at qa BN5 BN3 BT4 ⊢
                            generalize v6.heap.size = nbN5 at BN5 ⊢
                            refine hK.out _ _ ?Szz47 (fun hHeld => ?Rzz47)
                            case Szz47 =>
                              exact hHeld.trans qa
                            case Rzz47 =>
                              clear hK K
                              try simp only [Act.put, List.setIfInBounds_toArray, List.set_cons_zero, List.set_cons_succ]
                              refine wpAnyH_ready (rs := [19]) (by kernel_rfl) (by simp) ?_
                              refine AllReadyH.cons (o := ?ozz46) ?hzz46 (fun K hK => ?kzz46) ?mzz46
                              case hzz46 => simp only [List.getElem?_toArray, List.getElem?_cons_zero, List.getElem?_cons_succ]; rfl
                              case kzz46 =>
                                go_simp
                                refine (K5.out _ nbN5 BN5.out).mono ?_
                                rintro e7 v7 ⟨rfl, q7⟩
                                replace BN3 := Lib.hid (BN3.out.q q7)
                                replace BT4 := Lib.hid (BT4.out.q q7)
                                replace BN5 := Lib.hid (BN5.out.q q7)
                                go_wp2_with fail
                                refine hK.out _ _ ?Szz46 (fun hHeld => ?Rzz46)
                                case Szz46 =>
                                  exact hHeld.trans q7
                                case Rzz46 =>
                                  clear hK K
                                  try simp only [Act.put, List.setIfInBounds_toArray, List.set_cons_zero, List.set_cons_succ]
                                  refine wpAnyH_take (i := 20) (oi := ?ozz43) (v := ?vzz43) ?hzz43 ?azz43 ?bzz43 ?czz43 ?qzz43 ?yzz43 ?szz43 ?rzz43
                                  case hzz43 => simp only [List.getElem?_toArray, List.getElem?_cons_zero, List.getElem?_cons_succ]; rfl
                                  case azz43 => kernel_rfl
                                  case bzz43 => kernel_rfl
                                  case czz43 => kernel_rfl
                                  case yzz43 =>
                                    refine Or.inl ⟨by rfl, ?_⟩
                                    intro w hSw
                                    skip
                                    go_simp
                                    try with_reducible rfl
                                  case qzz43 => exact fun _ _ _ h => h
                                  case szz43 => first | assumption | trivial
                                  case' rzz43 => simp only [Act.put, List.setIfInBounds_toArray, List.set_cons_zero, List.set_cons_succ]
                                  refine wpAnyH_take (i := 21) (oi := ?ozz44) (v := ?vzz44) ?hzz44 ?azz44 ?bzz44 ?czz44 ?qzz44 ?yzz44 ?szz44 ?rzz44
                                  case hzz44 => simp only [List.getElem?_toArray, List.getElem?_cons_zero, List.getElem?_cons_succ]; rfl
                                  case azz44 => kernel_rfl
                                  case bzz44 => kernel_rfl
                                  case czz44 => kernel_rfl
                                  case yzz44 =>
                                    refine Or.inl ⟨by rfl, ?_⟩
                                    intro w hSw
                                    skip
                                    go_simp
                                    try with_reducible rfl
                                  case qzz44 => exact fun _ _ _ h => h
                                  case szz44 => first | assumption | trivial
                                  case' rzz44 => simp only [Act.put, List.setIfInBounds_toArray, List.set_cons_zero, List.set_cons_succ]
                                  refine wpAnyH_take (i := 22) (oi := ?ozz45) (v := ?vzz45) ?hzz45 ?azz45 ?bzz45 ?czz45 ?qzz45 ?yzz45 ?szz45 ?rzz45
                                  case hzz45 => simp only [List.getElem?_toArray, List.getElem?_cons_zero, List.getElem?_cons_succ]; rfl
                                  case azz45 => kernel_rfl
                                  case bzz45 => kernel_rfl
                                  case czz45 => kernel_rfl
                                  case yzz45 =>
                                    refine Or.inl ⟨by rfl, ?_⟩
                                    intro w hSw
                                    skip
                                    go_simp
                                    try with_reducible rfl
                                  case qzz45 => exact fun _ _ _ h => h
                                  case szz45 => first | assumption | trivial
                                  case' rzz45 => simp only [Act.put, List.setIfInBounds_toArray, List.set_cons_zero, List.set_cons_succ]
                                  refine wpAnyH_done (by kernel_rfl) ?_ _
                                  go_wp2_with fail
                                  go_meet
                                  exact ⟨rfl, hHeld⟩
                              case' mzz46 => skip
                              exact AllReadyH.nil
                          case' mzz47 => skip
                          exact AllReadyH.nil
                      case' mzz54 => skip
                      refine AllReadyH.cons (o := ?ozz55) ?hzz55 (fun K hK => ?kzz55) ?mzz55
                      case hzz55 => simp only [List.getElem?_toArray, List.getElem?_cons_zero, List.getElem?_cons_succ]; rfl
                      case kzz55 =>
                        go_simp
                        have qa := (Q.refl Y1).alloc (.cells #[.int .i64 m] 3)
                        have BN5 : Hid (Lst numK (Y1.alloc (.cells #[.int .i64 m] 3)) (some ⟨Y1.heap.size, 0, none⟩) 1 [m]) := Lib.hid (lst_litn Y1 [m])
                        replace BN3 := Lib.hid (BN3.out.q qa)
                        replace BT4 := Lib.hid (BT4.out.q qa)
                        generalize Y1.alloc (.cells #[.int .i64 m] 3) = Y3 at qa BN5 BN3 BT4 ⊢
                        generalize Y1.heap.size = nbN5 at BN5 ⊢
                        refine hK.out _ _ ?Szz55 (fun hHeld => ?Rzz55)
                        case Szz55 =>
                          exact hHeld.trans qa
                        case Rzz55 =>
                          clear hK K
                          try simp only [Act.put, List.setIfInBounds_toArray, List.set_cons_zero, List.set_cons_succ]
                          refine wpAnyH_ready (rs := [14]) (by kernel_rfl) (by simp) ?_
                          refine AllReadyH.cons (o := ?ozz53) ?hzz53 (fun K hK => ?kzz53) ?mzz53
                          case hzz53 => simp only [List.getElem?_toArray, List.getElem?_cons_zero, List.getElem?_cons_succ]; rfl
                          case kzz53 =>
                            go_simp
                            refine (K4.out _ nbT4 BT4.out).mono ?_
                            rintro e6 v6 ⟨rfl, q6⟩
                            replace BN3 := Lib.hid (BN3.out.q q6)
                            replace BT4 := Lib.hid (BT4.out.q q6)
                            replace BN5 := Lib.hid (BN5.out.q q6)
                            go_wp2_with fail
                            refine hK.out _ _ ?Szz53 (fun hHeld => ?Rzz53)
                            case Szz53 =>
                              exact hHeld.trans q6
                            case Rzz53 =>
                              clear hK K
                              try simp only [Act.put, List.setIfInBounds_toArray, List.set_cons_zero, List.set_cons_succ]
                              refine wpAnyH_take (i := 15) (oi := ?ozz48) (v := ?vzz48) ?hzz48 ?azz48 ?bzz48 ?czz48 ?qzz48 ?yzz48 ?szz48 ?rzz48
                              case hzz48 => simp only [List.getElem?_toArray, List.getElem?_cons_zero, List.getElem?_cons_succ]; rfl
                              case azz48 => kernel_rfl
                              case bzz48 => kernel_rfl
                              case czz48 => kernel_rfl
                              case yzz48 =>
                                refine Or.inl ⟨by rfl, ?_⟩
                                intro w hSw
                                skip
                                go_simp
                                try with_reducible rfl
                              case qzz48 => exact fun _ _ _ h => h
                              case szz48 => first | assumption | trivial
                              case' rzz48 => simp only [Act.put, List.setIfInBounds_toArray, List.set_cons_zero, List.set_cons_succ]
                              refine wpAnyH_ready (rs := [19]) (by kernel_rfl) (by simp) ?_
                              refine AllReadyH.cons (o := ?ozz52) ?hzz52 (fun K hK => ?kzz52) ?mzz52
                              case hzz52 => simp only [List.getElem?_toArray, List.getElem?_cons_zero, List.getElem?_cons_succ]; rfl
                              case kzz52 =>
                                go_simp
                                refine (K5.out _ nbN5 BN5.out).mono ?_
                                rintro e7 v7 ⟨rfl, q7⟩
                                replace BN3 := Lib.hid (BN3.out.q q7)
                                replace BT4 := Lib.hid (BT4.out.q q7)
                                replace BN5 := Lib.hid (BN5.out.q q7)
                                go_wp2_with fail
                                refine hK.out _ _ ?Szz52 (fun hHeld => ?Rzz52)
                                case Szz52 =>
                                  exact hHeld.trans q7
                                case Rzz52 =>
                                  clear hK K
                                  try simp only [Act.put, List.setIfInBounds_toArray, List.set_cons_zero, List.set_cons_succ]
                                  refine wpAnyH_take (i := 20) (oi := ?ozz49) (v := ?vzz49) ?hzz49 ?azz49 ?bzz49 ?czz49 ?qzz49 ?yzz49 ?szz49 ?rzz49
                                  case hzz49 => simp only [List.getElem?_toArray, List.getElem?_cons_zero, List.getElem?_cons_succ]; rfl
                                  case azz49 => kernel_rfl
                                  case bzz49 => kernel_rfl
                                  case czz49 => kernel_rfl
                                  case yzz49 =>
                                    refine Or.inl ⟨by rfl, ?_⟩
                                    intro w hSw
                                    skip
                                    go_simp
                                    try with_reducible rfl
                                  case qzz49 => exact fun _ _ _ h => h
                                  case szz49 => first | assumption | trivial
                                  case' rzz49 => simp only [Act.put, List.setIfInBounds_toArray, List.set_cons_zero, List.set_cons_succ]
                                  refine wpAnyH_take (i := 21) (oi := ?ozz50) (v := ?vzz50) ?hzz50 ?azz50 ?bzz50 ?czz50 ?qzz50 ?yzz50 ?szz50 ?rzz50
                                  case hzz50 => simp only [List.getElem?_toArray, List.getElem?_cons_zero, List.getElem?_cons_succ]; rfl
                                  case azz50 => kernel_rfl
                                  case bzz50 => kernel_rfl
                                  case czz50 => kernel_rfl
                                  case yzz50 =>
                                    refine Or.inl ⟨by rfl, ?_⟩
                                    intro w hSw
                                    skip
                                    go_simp
                                    try with_reducible rfl
                                  case qzz50 => exact fun _ _ _ h => h
                                  case szz50 => first | assumption | trivial
                                  case' rzz50 => simp only [Act.put, List.setIfInBounds_toArray, List.set_cons_zero, List.set_cons_succ]
                                  refine wpAnyH_take (i := 22) (oi := ?ozz51) (v := ?vzz51) ?hzz51 ?azz51 ?bzz51 ?czz51 ?qzz51 ?yzz51 ?szz51 ?rzz51
                                  case hzz51 => simp only [List.getElem?_toArray, List.getElem?_cons_zero, List.getElem?_cons_succ]; rfl
                                  case azz51 => kernel_rfl
                                  case bzz51 => kernel_rfl
                                  case czz51 => kernel_rfl
                                  case yzz51 =>
                                    refine Or.inl ⟨by rfl, ?_⟩
                                    intro w hSw
                                    skip
                                    go_simp
                                    try with_reducible rfl
                                  case qzz51 => exact fun _ _ _ h => h
                                  case szz51 => first | assumption | trivial
                                  case' rzz51 => simp only [Act.put, List.setIfInBounds_toArray, List.set_cons_zero, List.set_cons_succ]
                                  refine wpAnyH_done (by kernel_rfl) ?_ _
                                  go_wp2_with fail
                                  go_meet
                                  exact ⟨rfl, hHeld⟩
                              case' mzz52 => skip
                              exact AllReadyH.nil
                          case' mzz53 => skip
                          exact AllReadyH.nil
                      case' mzz55 => skip
                      exact AllReadyH.nil
                  case' mzz63 => skip
                  refine AllReadyH.cons (o := ?ozz64) ?hzz64 (fun K hK => ?kzz64) ?mzz64
                  case hzz64 => simp only [List.getElem?_toArray, List.getElem?_cons_zero, List.getElem?_cons_succ]; rfl
                  case kzz64 =>
                    go_simp
                    have qa := (Q.refl v5).alloc (.cells #[.int .i64 m] 3)
                    have BN5 : Hid (Lst numK (v5.alloc (.cells #[.int .i64 m] 3)) (some ⟨v5.heap.size, 0, none⟩) 1 [m]) := Lib.hid (lst_litn v5 [m])
                    replace BN3 := Lib.hid (BN3.out.q qa)
                    generalize v5.alloc (.cells #[.int .i64 m] 3) = Y4 at qa BN5 BN3 ⊢
                    generalize v5.heap.size = nbN5 at BN5 ⊢
                    refine hK.out _ _ ?Szz64 (fun hHeld => ?Rzz64)
                    case Szz64 =>
                      exact hHeld.trans qa
                    case Rzz64 =>
                      clear hK K
                      try simp only [Act.put, List.setIfInBounds_toArray, List.set_cons_zero, List.set_cons_succ]
                      refine wpAnyH_ready (rs := [13]) (by kernel_rfl) (by simp) ?_
                      refine AllReadyH.cons (o := ?ozz62) ?hzz62 (fun K hK => ?kzz62) ?mzz62
                      case hzz62 => simp only [List.getElem?_toArray, List.getElem?_cons_zero, List.getElem?_cons_succ]; rfl
                      case kzz62 =>
                        go_simp
                        have qa := (Q.refl Y4).alloc (.cells #[.string ky, .string vl, .string lo, .string hi] 9)
                        have BT4 : Hid (Lst strK (Y4.alloc (.cells #[.string ky, .string vl, .string lo, .string hi] 9)) (some ⟨Y4.heap.size, 0, none⟩) 4 [ky, vl, lo, hi]) := Lib.hid (lst_lits Y4 [ky, vl, lo, hi])
                        replace BN3 := Lib.hid (BN3.out.q qa)
                        replace BN5 := Lib.hid (BN5.out.q qa)
                        generalize Y4.alloc (.cells #[.string ky, .string vl, .string lo, .string hi] 9) = Y5 at qa BT4 BN3 BN5 ⊢
                        generalize Y4.heap.size = nbT4 at BT4 ⊢
                        refine hK.out _ _ ?Szz62 (fun hHeld => ?Rzz62)
                        case Szz62 =>
                          exact hHeld.trans qa
                        case Rzz62 =>
                          clear hK K
                          try simp only [Act.put, List.setIfInBounds_toArray, List.set_cons_zero, List.set_cons_succ]
                          refine wpAnyH_ready (rs := [14]) (by kernel_rfl) (by simp) ?_
                          refine AllReadyH.cons (o := ?ozz61) ?hzz61 (fun K hK => ?kzz61) ?mzz61
                          case hzz61 => simp only [List.getElem?_toArray, List.getElem?_cons_zero, List.getElem?_cons_succ]; rfl
                          case kzz61 =>
                            go_simp
                            refine (K4.out _ nbT4 BT4.out).mono ?_
                            rintro e6 v6 ⟨rfl, q6⟩
                            replace BN3 := Lib.hid (BN3.out.q q6)
                            replace BN5 := Lib.hid (BN5.out.q q6)
                            replace BT4 := Lib.hid (BT4.out.q q6)
                            go_wp2_with fail
                            refine hK.out _ _ ?Szz61 (fun hHeld => ?Rzz61)
                            case Szz61 =>
                              exact hHeld.trans q6
                            case Rzz61 =>
                              clear hK K
                              try simp only [Act.put, List.setIfInBounds_toArray, List.set_cons_zero, List.set_cons_succ]
                              refine wpAnyH_take (i := 15) (oi := ?ozz56) (v := ?vzz56) ?hzz56 ?azz56 ?bzz56 ?czz56 ?qzz56 ?yzz56 ?szz56 ?rzz56
                              case hzz56 => simp only [List.getElem?_toArray, List.getElem?_cons_zero, List.getElem?_cons_succ]; rfl
                              case azz56 => kernel_rfl
                              case bzz56 => kernel_rfl
                              case czz56 => kernel_rfl
                              case yzz56 =>
                                refine Or.inl ⟨by rfl, ?_⟩
                                intro w hSw
                                skip
                                go_simp
                                try with_reducible rfl
                              case qzz56 => exact fun _ _ _ h => h
                              case szz56 => first | assumption | trivial
                              case' rzz56 => simp only [Act.put, List.setIfInBounds_toArray, List.set_cons_zero, List.set_cons_succ]
                              refine wpAnyH_ready (rs := [19]) (by kernel_rfl) (by simp) ?_
                              refine AllReadyH.cons (o := ?ozz60) ?hzz60 (fun K hK => ?kzz60) ?mzz60
                              case hzz60 => simp only [List.getElem?_toArray, List.getElem?_cons_zero, List.getElem?_cons_succ]; rfl
                              case kzz60 =>
                                go_simp
                                refine (K5.out _ nbN5 BN5.out).mono ?_
                                rintro e7 v7 ⟨rfl, q7⟩
                                replace BN3 := Lib.hid (BN3.out.q q7)
                                replace BN5 := Lib.hid (BN5.out.q q7)
                                replace BT4 := Lib.hid (BT4.out.q q7)
                                go_wp2_with fail
                                refine hK.out _ _ ?Szz60 (fun hHeld => ?Rzz60)
                                case Szz60 =>
                                  exact hHeld.trans q7
                                case Rzz60 =>
                                  clear hK K
                                  try simp only [Act.put, List.setIfInBounds_toArray, List.set_cons_zero, List.set_cons_succ]
                                  refine wpAnyH_take (i := 20) (oi := ?ozz57) (v := ?vzz57) ?hzz57 ?azz57 ?bzz57 ?czz57 ?qzz57 ?yzz57 ?szz57 ?rzz57
                                  case hzz57 => simp only [List.getElem?_toArray, List.getElem?_cons_zero, List.getElem?_cons_succ]; rfl
                                  case azz57 => kernel_rfl
                                  case bzz57 => kernel_rfl
                                  case czz57 => kernel_rfl
                                  case yzz57 =>
                                    refine Or.inl ⟨by rfl, ?_⟩
                                    intro w hSw
                                    skip
                                    go_simp
                                    try with_reducible rfl
                                  case qzz57 => exact fun _ _ _ h => h
                                  case szz57 => first | assumption | trivial
                                  case' rzz57 => simp only [Act.put, List.setIfInBounds_toArray, List.set_cons_zero, List.set_cons_succ]
                                  refine wpAnyH_take (i := 21) (oi := ?ozz58) (v := ?vzz58) ?hzz58 ?azz58 ?bzz58 ?czz58 ?qzz58 ?yzz58 ?szz58 ?rzz58
                                  case hzz58 => simp only [List.getElem?_toArray, List.getElem?_cons_zero, List.getElem?_cons_succ]; rfl
                                  case azz58 => kernel_rfl
                                  case bzz58 => kernel_rfl
                                  case czz58 => kernel_rfl
                                  case yzz58 =>
                                    refine Or.inl ⟨by rfl, ?_⟩
                                    intro w hSw
                                    skip
                                    go_simp
                                    try with_reducible rfl
                                  case qzz58 => exact fun _ _ _ h => h
                                  case szz58 => first | assumption | trivial
                                  case' rzz58 => simp only [Act.put, List.setIfInBounds_toArray, List.set_cons_zero, List.set_cons_succ]
                                  refine wpAnyH_take (i := 22) (oi := ?ozz59) (v := ?vzz59) ?hzz59 ?azz59 ?bzz59 ?czz59 ?qzz59 ?yzz59 ?szz59 ?rzz59
                                  case hzz59 => simp only [List.getElem?_toArray, List.getElem?_cons_zero, List.getElem?_cons_succ]; rfl
                                  case azz59 => kernel_rfl
                                  case bzz59 => kernel_rfl
                                  case czz59 => kernel_rfl
                                  case yzz59 =>
                                    refine Or.inl ⟨by rfl, ?_⟩
                                    intro w hSw
                                    skip
                                    go_simp
                                    try with_reducible rfl
                                  case qzz59 => exact fun _ _ _ h => h
                                  case szz59 => first | assumption | trivial
                                  case' rzz59 => simp only [Act.put, List.setIfInBounds_toArray, List.set_cons_zero, List.set_cons_succ]
                                  refine wpAnyH_done (by kernel_rfl) ?_ _
                                  go_wp2_with fail
                                  go_meet
                                  exact ⟨rfl, hHeld⟩
                              case' mzz60 => skip
                              exact AllReadyH.nil
                          case' mzz61 => skip
                          exact AllReadyH.nil
                      case' mzz62 => skip
                      exact AllReadyH.nil
                  case' mzz64 => skip
                  exact AllReadyH.nil
              case' mzz104 => skip
              refine AllReadyH.cons (o := ?ozz105) ?hzz105 (fun K hK => ?kzz105) ?mzz105
              case hzz105 => simp only [List.getElem?_toArray, List.getElem?_cons_zero, List.getElem?_cons_succ]; rfl
              case kzz105 =>
                go_simp
                have qa := (Q.refl Y0).alloc (.cells #[.string ky, .string vl, .string lo, .string hi] 9)
                have BT4 : Hid (Lst strK (Y0.alloc (.cells #[.string ky, .string vl, .string lo, .string hi] 9)) (some ⟨Y0.heap.size, 0, none⟩) 4 [ky, vl, lo, hi]) := Lib.hid (lst_lits Y0 [ky, vl, lo, hi])
                replace BN3 := Lib.hid (BN3.out.q qa)
                generalize Y0.alloc (.cells #[.string ky, .string vl, .string lo, .string hi] 9) = Y6 at qa BT4 BN3 ⊢
                generalize Y0.heap.size = nbT4 at BT4 ⊢
                refine hK.out _ _ ?Szz105 (fun hHeld => ?Rzz105)
                case Szz105 =>
                  exact hHeld.trans qa
                case Rzz105 =>
                  clear hK K
                  try simp only [Act.put, List.setIfInBounds_toArray, List.set_cons_zero, List.set_cons_succ]
                  refine wpAnyH_ready (rs := [4, 18]) (by kernel_rfl) (by simp) ?_
                  refine AllReadyH.cons (o := ?ozz86) ?hzz86 (fun K hK => ?kzz86) ?mzz86
                  case hzz86 => simp only [List.getElem?_toArray, List.getElem?_cons_zero, List.getElem?_cons_succ]; rfl
                  case kzz86 =>
                    go_simp
                    refine (K3.out _ nbN3 BN3.out).mono ?_
                    rintro e5 v5 ⟨rfl, q5⟩
                    replace BN3 := Lib.hid (BN3.out.q q5)
                    replace BT4 := Lib.hid (BT4.out.q q5)
                    go_wp2_with fail
                    refine hK.out _ _ ?Szz86 (fun hHeld => ?Rzz86)
                    case Szz86 =>
                      exact hHeld.trans q5
                    case Rzz86 =>
                      clear hK K
                      try simp only [Act.put, List.setIfInBounds_toArray, List.set_cons_zero, List.set_cons_succ]
                      refine wpAnyH_ready (rs := [14, 18]) (by kernel_rfl) (by simp) ?_
                      refine AllReadyH.cons (o := ?ozz77) ?hzz77 (fun K hK => ?kzz77) ?mzz77
                      case hzz77 => simp only [List.getElem?_toArray, List.getElem?_cons_zero, List.getElem?_cons_succ]; rfl
                      case kzz77 =>
                        go_simp
                        refine (K4.out _ nbT4 BT4.out).mono ?_
                        rintro e6 v6 ⟨rfl, q6⟩
                        replace BN3 := Lib.hid (BN3.out.q q6)
                        replace BT4 := Lib.hid (BT4.out.q q6)
                        go_wp2_with fail
                        refine hK.out _ _ ?Szz77 (fun hHeld => ?Rzz77)
                        case Szz77 =>
                          exact hHeld.trans q6
                        case Rzz77 =>
                          clear hK K
                          try simp only [Act.put, List.setIfInBounds_toArray, List.set_cons_zero, List.set_cons_succ]
                          refine wpAnyH_take (i := 15) (oi := ?ozz65) (v := ?vzz65) ?hzz65 ?azz65 ?bzz65 ?czz65 ?qzz65 ?yzz65 ?szz65 ?rzz65
                          case hzz65 => simp only [List.getElem?_toArray, List.getElem?_cons_zero, List.getElem?_cons_succ]; rfl
                          case azz65 => kernel_rfl
                          case bzz65 => kernel_rfl
                          case czz65 => kernel_rfl
                          case yzz65 =>
                            refine Or.inl ⟨by rfl, ?_⟩
                            intro w hSw
                            skip
                            go_simp
                            try with_reducible rfl
                          case qzz65 => exact fun _ _ _ h => h
                          case szz65 => first | assumption | trivial
                          case' rzz65 => simp only [Act.put, List.setIfInBounds_toArray, List.set_cons_zero, List.set_cons_succ]
                          refine wpAnyH_ready (rs := [18]) (by kernel_rfl) (by simp) ?_
                          refine AllReadyH.cons (o := ?ozz70) ?hzz70 (fun K hK => ?kzz70) ?mzz70
                          case hzz70 => simp only [List.getElem?_toArray, List.getElem?_cons_zero, List.getElem?_cons_succ]; rfl
                          case kzz70 =>
                            go_simp
                            have qa := (Q.refl v6).alloc (.cells #[.int .i64 m] 3)
                            have BN5 : Hid (Lst numK (v6.alloc (.cells #[.int .i64 m] 3)) (some ⟨v6.heap.size, 0, none⟩) 1 [m]) := Lib.hid (lst_litn v6 [m])
                            replace BN3 := Lib.hid (BN3.out.q qa)
                            replace BT4 := Lib.hid (BT4.out.q qa)
                            generalize v6.alloc (.cells #[.int .i64 m] 3) = Y7 at qa BN5 BN3 BT4 ⊢
                            generalize v6.heap.size = nbN5 at BN5 ⊢
                            refine hK.out _ _ ?Szz70 (fun hHeld => ?Rzz70)
                            case Szz70 =>
                              exact hHeld.trans qa
                            case Rzz70 =>
                              clear hK K
                              try simp only [Act.put, List.setIfInBounds_toArray, List.set_cons_zero, List.set_cons_succ]
                              refine wpAnyH_ready (rs := [19]) (by kernel_rfl) (by simp) ?_
                              refine AllReadyH.cons (o := ?ozz69) ?hzz69 (fun K hK => ?kzz69) ?mzz69
                              case hzz69 => simp only [List.getElem?_toArray, List.getElem?_cons_zero, List.getElem?_cons_succ]; rfl
                              case kzz69 =>
                                go_simp
                                refine (K5.out _ nbN5 BN5.out).mono ?_
                                rintro e7 v7 ⟨rfl, q7⟩
                                replace BN3 := Lib.hid (BN3.out.q q7)
                                replace BT4 := Lib.hid (BT4.out.q q7)
                                replace BN5 := Lib.hid (BN5.out.q q7)
                                go_wp2_with fail
                                refine hK.out _ _ ?Szz69 (fun hHeld => ?Rzz69)
                                case Szz69 =>
                                  exact hHeld.trans q7
                                case Rzz69 =>
                                  clear hK K
                                  try simp only [Act.put, List.setIfInBounds_toArray, List.set_cons_zero, List.set_cons_succ]
                                  refine wpAnyH_take (i := 20) (oi := ?ozz66) (v := ?vzz66) ?hzz66 ?azz66 ?bzz66 ?czz66 ?qzz66 ?yzz66 ?szz66 ?rzz66
                                  case hzz66 => simp only [List.getElem?_toArray, List.getElem?_cons_zero, List.getElem?_cons_succ]; rfl
                                  case azz66 => kernel_rfl
                                  case bzz66 => kernel_rfl
                                  case czz66 => kernel_rfl
                                  case yzz66 =>
                                    refine Or.inl ⟨by rfl, ?_⟩
                                    intro w hSw
                                    skip
                                    go_simp
                                    try with_reducible rfl
                                  case qzz66 => exact fun _ _ _ h => h
                                  case szz66 => first | assumption | trivial
                                  case' rzz66 => simp only [Act.put, List.setIfInBounds_toArray, List.set_cons_zero, List.set_cons_succ]
                                  refine wpAnyH_take (i := 21) (oi := ?ozz67) (v := ?vzz67) ?hzz67 ?azz67 ?bzz67 ?czz67 ?qzz67 ?yzz67 ?szz67 ?rzz67
                                  case hzz67 => simp only [List.getElem?_toArray, List.getElem?_cons_zero, List.getElem?_cons_succ]; rfl
                                  case azz67 => kernel_rfl
                                  case bzz67 => kernel_rfl
                                  case czz67 => kernel_rfl
                                  case yzz67 =>
                                    refine Or.inl ⟨by rfl, ?_⟩
                                    intro w hSw
                                    skip
                                    go_simp
                                    try with_reducible rfl
                                  case qzz67 => exact fun _ _ _ h => h
                                  case szz67 => first | assumption | trivial
                                  case' rzz67 => simp only [Act.put, List.setIfInBounds_toArray, List.set_cons_zero, List.set_cons_succ]
                                  refine wpAnyH_take (i := 22) (oi := ?ozz68) (v := ?vzz68) ?hzz68 ?azz68 ?bzz68 ?czz68 ?qzz68 ?yzz68 ?szz68 ?rzz68
                                  case hzz68 => simp only [List.getElem?_toArray, List.getElem?_cons_zero, List.getElem?_cons_succ]; rfl
                                  case azz68 => kernel_rfl
                                  case bzz68 => kernel_rfl
                                  case czz68 => kernel_rfl
                                  case yzz68 =>
                                    refine Or.inl ⟨by rfl, ?_⟩
                                    intro w hSw
                                    skip
                                    go_simp
                                    try with_reducible rfl
                                  case qzz68 => exact fun _ _ _ h => h
                                  case szz68 => first | assumption | trivial
                                  case' rzz68 => simp only [Act.put, List.setIfInBounds_toArray, List.set_cons_zero, List.set_cons_succ]
                                  refine wpAnyH_done (by kernel_rfl) ?_ _
                                  go_wp2_with fail
                                  go_meet
                                  exact ⟨rfl, hHeld⟩
                              case' mzz69 => skip
                              exact AllReadyH.nil
                          case' mzz70 => skip
                          exact AllReadyH.nil
                      case' mzz77 => skip
                      refine AllReadyH.cons (o := ?ozz78) ?hzz78 (fun K hK => ?kzz78) ?mzz78
                      case hzz78 => simp only [List.getElem?_toArray, List.getElem?_cons_zero, List.getElem?_cons_succ]; rfl
                      case kzz78 =>
                        go_simp
                        have qa := (Q.refl v5).alloc (.cells #[.int .i64 m] 3)
                        have BN5 : Hid (Lst numK (v5.alloc (.cells #[.int .i64 m] 3)) (some ⟨v5.heap.size, 0, none⟩) 1 [m]) := Lib.hid (lst_litn v5 [m])
                        replace BN3 := Lib.hid (BN3.out.q qa)
                        replace BT4 := Lib.hid (BT4.out.q qa)
                        generalize v5.alloc (.cells #[.int .i64 m] 3) = Y8 at qa BN5 BN3 BT4 ⊢
                        generalize v5.heap.size = nbN5 at BN5 ⊢
                        refine hK.out _ _ ?Szz78 (fun hHeld => ?Rzz78)
                        case Szz78 =>
                          exact hHeld.trans qa
                        case Rzz78 =>
                          clear hK K
                          try simp only [Act.put, List.setIfInBounds_toArray, List.set_cons_zero, List.set_cons_succ]
                          refine wpAnyH_ready (rs := [14]) (by kernel_rfl) (by simp) ?_
                          refine AllReadyH.cons (o := ?ozz76) ?hzz76 (fun K hK => ?kzz76) ?mzz76
                          case hzz76 => simp only [List.getElem?_toArray, List.getElem?_cons_zero, List.getElem?_cons_succ]; rfl
                          case kzz76 =>
                            go_simp
                            refine (K4.out _ nbT4 BT4.out).mono ?_
                            rintro e6 v6 ⟨rfl, q6⟩
                            replace BN3 := Lib.hid (BN3.out.q q6)
                            replace BT4 := Lib.hid (BT4.out.q q6)
                            replace BN5 := Lib.hid (BN5.out.q q6)
                            go_wp2_with fail
                            refine hK.out _ _ ?Szz76 (fun hHeld => ?Rzz76)
                            case Szz76 =>
                              exact hHeld.trans q6
                            case Rzz76 =>
                              clear hK K
                              try simp only [Act.put, List.setIfInBounds_toArray, List.set_cons_zero, List.set_cons_succ]
                              refine wpAnyH_take (i := 15) (oi := ?ozz71) (v := ?vzz71) ?hzz71 ?azz71 ?bzz71 ?czz71 ?qzz71 ?yzz71 ?szz71 ?rzz71
                              case hzz71 => simp only [List.getElem?_toArray, List.getElem?_cons_zero, List.getElem?_cons_succ]; rfl
                              case azz71 => kernel_rfl
                              case bzz71 => kernel_rfl
                              case czz71 => kernel_rfl
                              case yzz71 =>
                                refine Or.inl ⟨by rfl, ?_⟩
                                intro w hSw
                                skip
                                go_simp
                                try with_reducible rfl
                              case qzz71 => exact fun _ _ _ h => h
                              case szz71 => first | assumption | trivial
                              case' rzz71 => simp only [Act.put, List.setIfInBounds_toArray, List.set_cons_zero, List.set_cons_succ]
                              refine wpAnyH_ready (rs := [19]) (by kernel_rfl) (by simp) ?_
                              refine AllReadyH.cons (o := ?ozz75) ?hzz75 (fun K hK => ?kzz75) ?mzz75
                              case hzz75 => simp only [List.getElem?_toArray, List.getElem?_cons_zero, List.getElem?_cons_succ]; rfl
                              case kzz75 =>
                                go_simp
                                refine (K5.out _ nbN5 BN5.out).mono ?_
                                rintro e7 v7 ⟨rfl, q7⟩
                                replace BN3 := Lib.hid (BN3.out.q q7)
                                replace BT4 := Lib.hid (BT4.out.q q7)
                                replace BN5 := Lib.hid (BN5.out.q q7)
                                go_wp2_with fail
                                refine hK.out _ _ ?Szz75 (fun hHeld => ?Rzz75)
                                case Szz75 =>
                                  exact hHeld.trans q7
                                case Rzz75 =>
                                  clear hK K
                                  try simp only [Act.put, List.setIfInBounds_toArray, List.set_cons_zero, List.set_cons_succ]
                                  refine wpAnyH_take (i := 20) (oi := ?ozz72) (v := ?vzz72) ?hzz72 ?azz72 ?bzz72 ?czz72 ?qzz72 ?yzz72 ?szz72 ?rzz72
                                  case hzz72 => simp only [List.getElem?_toArray, List.getElem?_cons_zero, List.getElem?_cons_succ]; rfl
                                  case azz72 => kernel_rfl
                                  case bzz72 => kernel_rfl
                                  case czz72 => kernel_rfl
                                  case yzz72 =>
                                    refine Or.inl ⟨by rfl, ?_⟩
                                    intro w hSw
                                    skip
                                    go_simp
                                    try with_reducible rfl
                                  case qzz72 => exact fun _ _ _ h => h
                                  case szz72 => first | assumption | trivial
                                  case' rzz72 => simp only [Act.put, List.setIfInBounds_toArray, List.set_cons_zero, List.set_cons_succ]
                                  refine wpAnyH_take (i := 21) (oi := ?ozz73) (v := ?vzz73) ?hzz73 ?azz73 ?bzz73 ?czz73 ?qzz73 ?yzz73 ?szz73 ?rzz73
                                  case hzz73 => simp only [List.getElem?_toArray, List.getElem?_cons_zero, List.getElem?_cons_succ]; rfl
                                  case azz73 => kernel_rfl
                                  case bzz73 => kernel_rfl
                                  case czz73 => kernel_rfl
                                  case yzz73 =>
                                    refine Or.inl ⟨by rfl, ?_⟩
                                    intro w hSw
                                    skip
                                    go_simp
                                    try with_reducible rfl
                                  case qzz73 => exact fun _ _ _ h => h
                                  case szz73 => first | assumption | trivial
                                  case' rzz73 => simp only [Act.put, List.setIfInBounds_toArray, List.set_cons_zero, List.set_cons_succ]
                                  refine wpAnyH_take (i := 22) (oi := ?ozz74) (v := ?vzz74) ?hzz74 ?azz74 ?bzz74 ?czz74 ?qzz74 ?yzz74 ?szz74 ?rzz74
                                  case hzz74 => simp only [List.getElem?_toArray, List.getElem?_cons_zero, List.getElem?_cons_succ]; rfl
                                  case azz74 => kernel_rfl
                                  case bzz74 => kernel_rfl
                                  case czz74 => kernel_rfl
                                  case yzz74 =>
                                    refine Or.inl ⟨by rfl, ?_⟩
                                    intro w hSw
                                    skip
                                    go_simp
                                    try with_reducible rfl
                                  case qzz74 => exact fun _ _ _ h => h
                                  case szz74 => first | assumption | trivial
                                  case' rzz74 => simp only [Act.put, List.setIfInBounds_toArray, List.set_cons_zero, List.set_cons_succ]
                                  refine wpAnyH_done (by kernel_rfl) ?_ _
                                  go_wp2_with fail
                                  go_meet
                                  exact ⟨rfl, hHeld⟩
                              case' mzz75 => skip
                              exact AllReadyH.nil
                          case' mzz76 => skip
                          exact AllReadyH.nil
                      case' mzz78 => skip
                      exact AllReadyH.nil
                  case' mzz86 => skip
                  refine AllReadyH.cons (o := ?ozz87) ?hzz87 (fun K hK => ?kzz87) ?mzz87
                  case hzz87 => simp only [List.getElem?_toArray, List.getElem?_cons_zero, List.getElem?_cons_succ]; rfl
                  case kzz87 =>
                    go_simp
                    have qa := (Q.refl Y6).alloc (.cells #[.int .i64 m] 3)
                    have BN5 : Hid (Lst numK (Y6.alloc (.cells #[.int .i64 m] 3)) (some ⟨Y6.heap.size, 0, none⟩) 1 [m]) := Lib.hid (lst_litn Y6 [m])
                    replace BN3 := Lib.hid (BN3.out.q qa)
                    replace BT4 := Lib.hid (BT4.out.q qa)
                    generalize Y6.alloc (.cells #[.int .i64 m] 3) = Y9 at qa BN5 BN3 BT4 ⊢
                    generalize Y6.heap.size = nbN5 at BN5 ⊢
                    refine hK.out _ _ ?Szz87 (fun hHeld => ?Rzz87)
                    case Szz87 =>
                      exact hHeld.trans qa
                    case Rzz87 =>
                      clear hK K
                      try simp only [Act.put, List.setIfInBounds_toArray, List.set_cons_zero, List.set_cons_succ]
                      refine wpAnyH_ready (rs := [4]) (by kernel_rfl) (by simp) ?_
                      refine AllReadyH.cons (o := ?ozz85) ?hzz85 (fun K hK => ?kzz85) ?mzz85
                      case hzz85 => simp only [List.getElem?_toArray, List.getElem?_cons_zero, List.getElem?_cons_succ]; rfl
                      case kzz85 =>
                        go_simp
                        refine (K3.out _ nbN3 BN3.out).mono ?_
                        rintro e5 v5 ⟨rfl, q5⟩
                        replace BN3 := Lib.hid (BN3.out.q q5)
                        replace BT4 := Lib.hid (BT4.out.q q5)
                        replace BN5 := Lib.hid (BN5.out.q q5)
                        go_wp2_with fail
                        refine hK.out _ _ ?Szz85 (fun hHeld => ?Rzz85)
                        case Szz85 =>
                          exact hHeld.trans q5
                        case Rzz85 =>
                          clear hK K
                          try simp only [Act.put, List.setIfInBounds_toArray, List.set_cons_zero, List.set_cons_succ]
                          refine wpAnyH_ready (rs := [14]) (by kernel_rfl) (by simp) ?_
                          refine AllReadyH.cons (o := ?ozz84) ?hzz84 (fun K hK => ?kzz84) ?mzz84
                          case hzz84 => simp only [List.getElem?_toArray, List.getElem?_cons_zero, List.getElem?_cons_succ]; rfl
                          case kzz84 =>
                            go_simp
                            refine (K4.out _ nbT4 BT4.out).mono ?_
                            rintro e6 v6 ⟨rfl, q6⟩
                            replace BN3 := Lib.hid (BN3.out.q q6)
                            replace BT4 := Lib.hid (BT4.out.q q6)
                            replace BN5 := Lib.hid (BN5.out.q q6)
                            go_wp2_with fail
                            refine hK.out _ _ ?Szz84 (fun hHeld => ?Rzz84)
                            case Szz84 =>
                              exact hHeld.trans q6
                            case Rzz84 =>
                              clear hK K
                              try simp only [Act.put, List.setIfInBounds_toArray, List.set_cons_zero, List.set_cons_succ]
                              refine wpAnyH_take (i := 15) (oi := ?ozz79) (v := ?vzz79) ?hzz79 ?azz79 ?bzz79 ?czz79 ?qzz79 ?yzz79 ?szz79 ?rzz79
                              case hzz79 => simp only [List.getElem?_toArray, List.getElem?_cons_zero, List.getElem?_cons_succ]; rfl
                              case azz79 => kernel_rfl
                              case bzz79 => kernel_rfl
                              case czz79 => kernel_rfl
                              case yzz79 =>
                                refine Or.inl ⟨by rfl, ?_⟩
                                intro w hSw
                                skip
                                go_simp
                                try with_reducible rfl
                              case qzz79 => exact fun _ _ _ h => h
                              case szz79 => first | assumption | trivial
                              case' rzz79 => simp only [Act.put, List.setIfInBounds_toArray, List.set_cons_zero, List.set_cons_succ]
                              refine wpAnyH_ready (rs := [19]) (by kernel_rfl) (by simp) ?_
                              refine AllReadyH.cons (o := ?ozz83) ?hzz83 (fun K hK => ?kzz83) ?mzz83
                              case hzz83 => simp only [List.getElem?_toArray, List.getElem?_cons_zero, List.getElem?_cons_succ]; rfl
                              case kzz83 =>
                                go_simp
                                refine (K5.out _ nbN5 BN5.out).mono ?_
                                rintro e7 v7 ⟨rfl, q7⟩
                                replace BN3 := Lib.hid (BN3.out.q q7)
                                replace BT4 := Lib.hid (BT4.out.q q7)
                                replace BN5 := Lib.hid (BN5.out.q q7)
                                go_wp2_with fail
                                refine hK.out _ _ ?Szz83 (fun hHeld => ?Rzz83)
                                case Szz83 =>
                                  exact hHeld.trans q7
                                case Rzz83 =>
                                  clear hK K
                                  try simp only [Act.put, List.setIfInBounds_toArray, List.set_cons_zero, List.set_cons_succ]
                                  refine wpAnyH_take (i := 20) (oi := ?ozz80) (v := ?vzz80) ?hzz80 ?azz80 ?bzz80 ?czz80 ?qzz80 ?yzz80 ?szz80 ?rzz80
                                  case hzz80 => simp only [List.getElem?_toArray, List.getElem?_cons_zero, List.getElem?_cons_succ]; rfl
                                  case azz80 => kernel_rfl
                                  case bzz80 => kernel_rfl
                                  case czz80 => kernel_rfl
                                  case yzz80 =>
                                    refine Or.inl ⟨by rfl, ?_⟩
                                    intro w hSw
                                    skip
                                    go_simp
                                    try with_reducible rfl
                                  case qzz80 => exact fun _ _ _ h => h
                                  case szz80 => first | assumption | trivial
                                  case' rzz80 => simp only [Act.put, List.setIfInBounds_toArray, List.set_cons_zero, List.set_cons_succ]
                                  refine wpAnyH_take (i := 21) (oi := ?ozz81) (v := ?vzz81) ?hzz81 ?azz81 ?bzz81 ?czz81 ?qzz81 ?yzz81 ?szz81 ?rzz81
                                  case hzz81 => simp only [List.getElem?_toArray, List.getElem?_cons_zero, List.getElem?_cons_succ]; rfl
                                  case azz81 => kernel_rfl
                                  case bzz81 => kernel_rfl
                                  case czz81 => kernel_rfl
                                  case yzz81 =>
                                    refine Or.inl ⟨by rfl, ?_⟩
                                    intro w hSw
                                    skip
                                    go_simp
                                    try with_reducible rfl
                                  case qzz81 => exact fun _ _ _ h => h
                                  case szz81 => first | assumption | trivial
                                  case' rzz81 => simp only [Act.put, List.setIfInBounds_toArray, List.set_cons_zero, List.set_cons_succ]
                                  refine wpAnyH_take (i := 22) (oi := ?ozz82) (v := ?vzz82) ?hzz82 ?azz82 ?bzz82 ?czz82 ?qzz82 ?yzz82 ?szz82 ?rzz82
                                  case hzz82 => simp only [List.getElem?_toArray, List.getElem?_cons_zero, List.getElem?_cons_succ]; rfl
                                  case azz82 => kernel_rfl
                                  case bzz82 => kernel_rfl
                                  case czz82 => kernel_rfl
                                  case yzz82 =>
                                    refine Or.inl ⟨by rfl, ?_⟩
                                    intro w hSw
                                    skip
                                    go_simp
                                    try with_reducible rfl
                                  case qzz82 => exact fun _ _ _ h => h
                                  case szz82 => first | assumption | trivial
                                  case' rzz82 => simp only [Act.put, List.setIfInBounds_toArray, List.set_cons_zero, List.set_cons_succ]
                                  refine wpAnyH_done (by kernel_rfl) ?_ _
                                  go_wp2_with fail
                                  go_meet
                                  exact ⟨rfl, hHeld⟩
                              case' mzz83 => skip
                              exact AllReadyH.nil
                          case' mzz84 => skip
                          exact AllReadyH.nil
                      case' mzz85 => skip
                      exact AllReadyH.nil
                  case' mzz87 => skip
                  exact AllReadyH.nil
              case' mzz105 => skip
              refine AllReadyH.cons (o := ?ozz106) ?hzz106 (fun K hK => ?kzz106) ?mzz106
              case hzz106 => simp only [List.getElem?_toArray, List.getElem?_cons_zero, List.getElem?_cons_succ]; rfl
              case kzz106 =>
                go_simp
                have qa := (Q.refl Y0).alloc (.cells #[.int .i64 m] 3)
                have BN5 : Hid (Lst numK (Y0.alloc (.cells #[.int .i64 m] 3)) (some ⟨Y0.heap.size, 0, none⟩) 1 [m]) := Lib.hid (lst_litn Y0 [m])
                replace BN3 := Lib.hid (BN3.out.q qa)
                generalize Y0.alloc (.cells #[.int .i64 m] 3) = Y10 at qa BN5 BN3 ⊢
                generalize Y0.heap.size = nbN5 at BN5 ⊢
                refine hK.out _ _ ?Szz106 (fun hHeld => ?Rzz106)
                case Szz106 =>
                  exact hHeld.trans qa
                case Rzz106 =>
                  clear hK K
                  try simp only [Act.put, List.setIfInBounds_toArray, List.set_cons_zero, List.set_cons_succ]
                  refine wpAnyH_ready (rs := [4, 13]) (by kernel_rfl) (by simp) ?_
                  refine AllReadyH.cons (o := ?ozz102) ?hzz102 (fun K hK => ?kzz102) ?mzz102
                  case hzz102 => simp only [List.getElem?_toArray, List.getElem?_cons_zero, List.getElem?_cons_succ]; rfl
                  case kzz102 =>
                    go_simp
                    refine (K3.out _ nbN3 BN3.out).mono ?_
                    rintro e5 v5 ⟨rfl, q5⟩
                    replace BN3 := Lib.hid (BN3.out.q q5)
                    replace BN5 := Lib.hid (BN5.out.q q5)
                    go_wp2_with fail
                    refine hK.out _ _ ?Szz102 (fun hHeld => ?Rzz102)
                    case Szz102 =>
                      exact hHeld.trans q5
                    case Rzz102 =>
                      clear hK K
                      try simp only [Act.put, List.setIfInBounds_toArray, List.set_cons_zero, List.set_cons_succ]
                      refine wpAnyH_ready (rs := [13]) (by kernel_rfl) (by simp) ?_
                      refine AllReadyH.cons (o := ?ozz94) ?hzz94 (fun K hK => ?kzz94) ?mzz94
                      case hzz94 => simp only [List.getElem?_toArray, List.getElem?_cons_zero, List.getElem?_cons_succ]; rfl
                      case kzz94 =>
                        go_simp
                        have qa := (Q.refl v5).alloc (.cells #[.string ky, .string vl, .string lo, .string hi] 9)
                        have BT4 : Hid (Lst strK (v5.alloc (.cells #[.string ky, .string vl, .string lo, .string hi] 9)) (some ⟨v5.heap.size, 0, none⟩) 4 [ky, vl, lo, hi]) := Lib.hid (lst_lits v5 [ky, vl, lo, hi])
                        replace BN3 := Lib.hid (BN3.out.q qa)
                        replace BN5 := Lib.hid (BN5.out.q qa)
                        generalize v5.alloc (.cells #[.string ky, .string vl, .string lo, .string hi] 9) = Y11 at qa BT4 BN3 BN5 ⊢
                        generalize v5.heap.size = nbT4 at BT4 ⊢
                        refine hK.out _ _ ?Szz94 (fun hHeld => ?Rzz94)
                        case Szz94 =>
                          exact hHeld.trans qa
                        case Rzz94 =>
                          clear hK K
                          try simp only [Act.put, List.setIfInBounds_toArray, List.set_cons_zero, List.set_cons_succ]
                          refine wpAnyH_ready (rs := [14]) (by kernel_rfl) (by simp) ?_
                          refine AllReadyH.cons (o := ?ozz93) ?hzz93 (fun K hK => ?kzz93) ?mzz93
                          case hzz93 => simp only [List.getElem?_toArray, List.getElem?_cons_zero, List.getElem?_cons_succ]; rfl
                          case kzz93 =>
                            go_simp
                            refine (K4.out _ nbT4 BT4.out).mono ?_
                            rintro e6 v6 ⟨rfl, q6⟩
                            replace BN3 := Lib.hid (BN3.out.q q6)
                            replace BN5 := Lib.hid (BN5.out.q q6)
                            replace BT4 := Lib.hid (BT4.out.q q6)
                            go_wp2_with fail
                            refine hK.out _ _ ?Szz93 (fun hHeld => ?Rzz93)
                            case Szz93 =>
                              exact hHeld.trans q6
                            case Rzz93 =>
                              clear hK K
                              try simp only [Act.put, List.setIfInBounds_toArray, List.set_cons_zero, List.set_cons_succ]
                              refine wpAnyH_take (i := 15) (oi := ?ozz88) (v := ?vzz88) ?hzz88 ?azz88 ?bzz88 ?czz88 ?qzz88 ?yzz88 ?szz88 ?rzz88
                              case hzz88 => simp only [List.getElem?_toArray, List.getElem?_cons_zero, List.getElem?_cons_succ]; rfl
                              case azz88 => kernel_rfl
                              case bzz88 => kernel_rfl
                              case czz88 => kernel_rfl
                              case yzz88 =>
                                refine Or.inl ⟨by rfl, ?_⟩
                                intro w hSw
                                skip
                                go_simp
                                try with_reducible rfl
                              case qzz88 => exact fun _ _ _ h => h
                              case szz88 => first | assumption | trivial
                              case' rzz88 => simp only [Act.put, List.setIfInBounds_toArray, List.set_cons_zero, List.set_cons_succ]
                              refine wpAnyH_ready (rs := [19]) (by kernel_rfl) (by simp) ?_
                              refine AllReadyH.cons (o := ?ozz92) ?hzz92 (fun K hK => ?kzz92) ?mzz92
                              case hzz92 => simp only [List.getElem?_toArray, List.getElem?_cons_zero, List.getElem?_cons_succ]; rfl
                              case kzz92 =>
                                go_simp
                                refine (K5.out _ nbN5 BN5.out).mono ?_
                                rintro e7 v7 ⟨rfl, q7⟩
                                replace BN3 := Lib.hid (BN3.out.q q7)
                                replace BN5 := Lib.hid (BN5.out.q q7)
                                replace BT4 := Lib.hid (BT4.out.q q7)
                                go_wp2_with fail
                                refine hK.out _ _ ?Szz92 (fun hHeld => ?Rzz92)
                                case Szz92 =>
                                  exact hHeld.trans q7
                                case Rzz92 =>
                                  clear hK K
                                  try simp only [Act.put, List.setIfInBounds_toArray, List.set_cons_zero, List.set_cons_succ]
                                  refine wpAnyH_take (i := 20) (oi := ?ozz89) (v := ?vzz89) ?hzz89 ?azz89 ?bzz89 ?czz89 ?qzz89 ?yzz89 ?szz89 ?rzz89
                                  case hzz89 => simp only [List.getElem?_toArray, List.getElem?_cons_zero, List.getElem?_cons_succ]; rfl
                                  case azz89 => kernel_rfl
                                  case bzz89 => kernel_rfl
                                  case czz89 => kernel_rfl
                                  case yzz89 =>
                                    refine Or.inl ⟨by rfl, ?_⟩
                                    intro w hSw
                                    skip
                                    go_simp
                                    try with_reducible rfl
                                  case qzz89 => exact fun _ _ _ h => h
                                  case szz89 => first | assumption | trivial
                                  case' rzz89 => simp only [Act.put, List.setIfInBounds_toArray, List.set_cons_zero, List.set_cons_succ]
                                  refine wpAnyH_take (i := 21) (oi := ?ozz90) (v := ?vzz90) ?hzz90 ?azz90 ?bzz90 ?czz90 ?qzz90 ?yzz90 ?szz90 ?rzz90
                                  case hzz90 => simp only [List.getElem?_toArray, List.getElem?_cons_zero, List.getElem?_cons_succ]; rfl
                                  case azz90 => kernel_rfl
                                  case bzz90 => kernel_rfl
                                  case czz90 => kernel_rfl
                                  case yzz90 =>
                                    refine Or.inl ⟨by rfl, ?_⟩
                                    intro w hSw
                                    skip
                                    go_simp
                                    try with_reducible rfl
                                  case qzz90 => exact fun _ _ _ h => h
                                  case szz90 => first | assumption | trivial
                                  case' rzz90 => simp only [Act.put, List.setIfInBounds_toArray, List.set_cons_zero, List.set_cons_succ]
                                  refine wpAnyH_take (i := 22) (oi := ?ozz91) (v := ?vzz91) ?hzz91 ?azz91 ?bzz91 ?czz91 ?qzz91 ?yzz91 ?szz91 ?rzz91
                                  case hzz91 => simp only [List.getElem?_toArray, List.getElem?_cons_zero, List.getElem?_cons_succ]; rfl
                                  case azz91 => kernel_rfl
                                  case bzz91 => kernel_rfl
                                  case czz91 => kernel_rfl
                                  case yzz91 =>
                                    refine Or.inl ⟨by rfl, ?_⟩
                                    intro w hSw
                                    skip
                                    go_simp
                                    try with_reducible rfl
                                  case qzz91 => exact fun _ _ _ h => h
                                  case szz91 => first | assumption | trivial
                                  case' rzz91 => simp only [Act.put, List.setIfInBounds_toArray, List.set_cons_zero, List.set_cons_succ]
                                  refine wpAnyH_done (by kernel_rfl) ?_ _
                                  go_wp2_with fail
                                  go_meet
                                  exact ⟨rfl, hHeld⟩
                              case' mzz92 => skip
                              exact AllReadyH.nil
                          case' mzz93 => skip
                          exact AllReadyH.nil
                      case' mzz94 => skip
                      exact AllReadyH.nil
                  case' mzz102 => skip
                  refine AllReadyH.cons (o := ?ozz103) ?hzz103 (fun K hK => ?kzz103) ?mzz103
                  case hzz103 => simp only [List.getElem?_toArray, List.getElem?_cons_zero, List.getElem?_cons_succ]; rfl
                  case kzz103 =>
                    go_simp
                    have qa := (Q.refl Y10).alloc (.cells #[.string ky, .string vl, .string lo, .string hi] 9)
                    have BT4 : Hid (Lst strK (Y10.alloc (.cells #[.string ky, .string vl, .string lo, .string hi] 9)) (some ⟨Y10.heap.size, 0, none⟩) 4 [ky, vl, lo, hi]) := Lib.hid (lst_lits Y10 [ky, vl, lo, hi])
                    replace BN3 := Lib.hid (BN3.out.q qa)
                    replace BN5 := Lib.hid (BN5.out.q qa)
                    generalize Y10.alloc (.cells #[.string ky, .string vl, .string lo, .string hi] 9) = Y12 at qa BT4 BN3 BN5 ⊢
                    generalize Y10.heap.size = nbT4 at BT4 ⊢
                    refine hK.out _ _ ?Szz103 (fun hHeld => ?Rzz103)
                    case Szz103 =>
                      exact hHeld.trans qa
                    case Rzz103 =>
                      clear hK K
                      try simp only [Act.put, List.setIfInBounds_toArray, List.set_cons_zero, List.set_cons_succ]
                      refine wpAnyH_ready (rs := [4]) (by kernel_rfl) (by simp) ?_
                      refine AllReadyH.cons (o := ?ozz101) ?hzz101 (fun K hK => ?kzz101) ?mzz101
                      case hzz101 => simp only [List.getElem?_toArray, List.getElem?_cons_zero, List.getElem?_cons_succ]; rfl
                      case kzz101 =>
                        go_simp
                        refine (K3.out _ nbN3 BN3.out).mono ?_
                        rintro e5 v5 ⟨rfl, q5⟩
                        replace BN3 := Lib.hid (BN3.out.q q5)
                        replace BN5 := Lib.hid (BN5.out.q q5)
                        replace BT4 := Lib.hid (BT4.out.q q5)
                        go_wp2_with fail
                        refine hK.out _ _ ?Szz101 (fun hHeld => ?Rzz101)
                        case Szz101 =>
                          exact hHeld.trans q5
                        case Rzz101 =>
                          clear hK K
                          try simp only [Act.put, List.setIfInBounds_toArray, List.set_cons_zero, List.set_cons_succ]
                          refine wpAnyH_ready (rs := [14]) (by kernel_rfl) (by simp) ?_
                          refine AllReadyH.cons (o := ?ozz100) ?hzz100 (fun K hK => ?kzz100) ?mzz100
                          case hzz100 => simp only [List.getElem?_toArray, List.getElem?_cons_zero, List.getElem?_cons_succ]; rfl
                          case kzz100 =>
                            go_simp
                            refine (K4.out _ nbT4 BT4.out).mono ?_
                            rintro e6 v6 ⟨rfl, q6⟩
                            replace BN3 := Lib.hid (BN3.out.q q6)
                            replace BN5 := Lib.hid (BN5.out.q q6)
                            replace BT4 := Lib.hid (BT4.out.q q6)
                            go_wp2_with fail
                            refine hK.out _ _ ?Szz100 (fun hHeld => ?Rzz100)
                            case Szz100 =>
                              exact hHeld.trans q6
                            case Rzz100 =>
                              clear hK K
                              try simp only [Act.put, List.setIfInBounds_toArray, List.set_cons_zero, List.set_cons_succ]
                              refine wpAnyH_take (i := 15) (oi := ?ozz95) (v := ?vzz95) ?hzz95 ?azz95 ?bzz95 ?czz95 ?qzz95 ?yzz95 ?szz95 ?rzz95
                              case hzz95 => simp only [List.getElem?_toArray, List.getElem?_cons_zero, List.getElem?_cons_succ]; rfl
                              case azz95 => kernel_rfl
                              case bzz95 => kernel_rfl
                              case czz95 => kernel_rfl
                              case yzz95 =>
                                refine Or.inl ⟨by rfl, ?_⟩
                                intro w hSw
                                skip
                                go_simp
                                try with_reducible rfl
                              case qzz95 => exact fun _ _ _ h => h
                              case szz95 => first | assumption | trivial
                              case' rzz95 => simp only [Act.put, List.setIfInBounds_toArray, List.set_cons_zero, List.set_cons_succ]
                              refine wpAnyH_ready (rs := [19]) (by kernel_rfl) (by simp) ?_
                              refine AllReadyH.cons (o := ?ozz99) ?hzz99 (fun K hK => ?kzz99) ?mzz99
                              case hzz99 => simp only [List.getElem?_toArray, List.getElem?_cons_zero, List.getElem?_cons_succ]; rfl
                              case kzz99 =>
                                go_simp
                                refine (K5.out _ nbN5 BN5.out).mono ?_
                                rintro e7 v7 ⟨rfl, q7⟩
                                replace BN3 := Lib.hid (BN3.out.q q7)
                                replace BN5 := Lib.hid (BN5.out.q q7)
                                replace BT4 := Lib.hid (BT4.out.q q7)
                                go_wp2_with fail
                                refine hK.out _ _ ?Szz99 (fun hHeld => ?Rzz99)
                                case Szz99 =>
                                  exact hHeld.trans q7
                                case Rzz99 =>
                                  clear hK K
                                  try simp only [Act.put, List.setIfInBounds_toArray, List.set_cons_zero, List.set_cons_succ]
                                  refine wpAnyH_take (i := 20) (oi := ?ozz96) (v := ?vzz96) ?hzz96 ?azz96 ?bzz96 ?czz96 ?qzz96 ?yzz96 ?szz96 ?rzz96
                                  case hzz96 => simp only [List.getElem?_toArray, List.getElem?_cons_zero, List.getElem?_cons_succ]; rfl
                                  case azz96 => kernel_rfl
                                  case bzz96 => kernel_rfl
                                  case czz96 => kernel_rfl
                                  case yzz96 =>
                                    refine Or.inl ⟨by rfl, ?_⟩
                                    intro w hSw
                                    skip
                                    go_simp
                                    try with_reducible rfl
                                  case qzz96 => exact fun _ _ _ h => h
                                  case szz96 => first | assumption | trivial
                                  case' rzz96 => simp only [Act.put, List.setIfInBounds_toArray, List.set_cons_zero, List.set_cons_succ]
                                  refine wpAnyH_take (i := 21) (oi := ?ozz97) (v := ?vzz97) ?hzz97 ?azz97 ?bzz97 ?czz97 ?qzz97 ?yzz97 ?szz97 ?rzz97
                                  case hzz97 => simp only [List.getElem?_toArray, List.getElem?_cons_zero, List.getElem?_cons_succ]; rfl
                                  case azz97 => kernel_rfl
                                  case bzz97 => kernel_rfl
                                  case czz97 => kernel_rfl
                                  case yzz97 =>
                                    refine Or.inl ⟨by rfl, ?_⟩
                                    intro w hSw
                                    skip
                                    go_simp
                                    try with_reducible rfl
                                  case qzz97 => exact fun _ _ _ h => h
                                  case szz97 => first | assumption | trivial
                                  case' rzz97 => simp only [Act.put, List.setIfInBounds_toArray, List.set_cons_zero, List.set_cons_succ]
                                  refine wpAnyH_take (i := 22) (oi := ?ozz98) (v := ?vzz98) ?hzz98 ?azz98 ?bzz98 ?czz98 ?qzz98 ?yzz98 ?szz98 ?rzz98
                                  case hzz98 => simp only [List.getElem?_toArray, List.getElem?_cons_zero, List.getElem?_cons_succ]; rfl
                                  case azz98 => kernel_rfl
                                  case bzz98 => kernel_rfl
                                  case czz98 => kernel_rfl
                                  case yzz98 =>
                                    refine Or.inl ⟨by rfl, ?_⟩
                                    intro w hSw
                                    skip
                                    go_simp
                                    try with_reducible rfl
                                  case qzz98 => exact fun _ _ _ h => h
                                  case szz98 => first | assumption | trivial
                                  case' rzz98 => simp only [Act.put, List.setIfInBounds_toArray, List.set_cons_zero, List.set_cons_succ]
                                  refine wpAnyH_done (by kernel_rfl) ?_ _
                                  go_wp2_with fail
                                  go_meet
                                  exact ⟨rfl, hHeld⟩
                              case' mzz99 => skip
                              exact AllReadyH.nil
                          case' mzz100 => skip
                          exact AllReadyH.nil
                      case' mzz101 => skip
                      exact AllReadyH.nil
                  case' mzz103 => skip
                  exact AllReadyH.nil
              case' mzz106 => skip
              exact AllReadyH.nil
          case' mzz166 => skip
          refine AllReadyH.cons (o := ?ozz167) ?hzz167 (fun K hK => ?kzz167) ?mzz167
          case hzz167 => simp only [List.getElem?_toArray, List.getElem?_cons_zero, List.getElem?_cons_succ]; rfl
          case kzz167 =>
            go_simp
            have qa := (Q.refl D0).alloc (.cells #[.string ky, .string vl, .string lo, .string hi] 9)
            have BT4 : Hid (Lst strK (D0.alloc (.cells #[.string ky, .string vl, .string lo, .string hi] 9)) (some ⟨D0.heap.size, 0, none⟩) 4 [ky, vl, lo, hi]) := Lib.hid (lst_lits D0 [ky, vl, lo, hi])
            generalize D0.alloc (.cells #[.string ky, .string vl, .string lo, .string hi] 9) = Y13 at qa BT4 ⊢
            generalize D0.heap.size = nbT4 at BT4 ⊢
            refine hK.out _ _ ?Szz167 (fun hHeld => ?Rzz167)
            case Szz167 =>
              exact hHeld.trans qa
            case Rzz167 =>
              clear hK K
              try simp only [Act.put, List.setIfInBounds_toArray, List.set_cons_zero, List.set_cons_succ]
              refine wpAnyH_ready (rs := [3, 18]) (by kernel_rfl) (by simp) ?_
              refine AllReadyH.cons (o := ?ozz138) ?hzz138 (fun K hK => ?kzz138) ?mzz138
              case hzz138 => simp only [List.getElem?_toArray, List.getElem?_cons_zero, List.getElem?_cons_succ]; rfl
              case kzz138 =>
                go_simp
                have qa := (Q.refl Y13).alloc (.cells #[.int .i64 ok] 3)
                have BN3 : Hid (Lst numK (Y13.alloc (.cells #[.int .i64 ok] 3)) (some ⟨Y13.heap.size, 0, none⟩) 1 [ok]) := Lib.hid (lst_litn Y13 [ok])
                replace BT4 := Lib.hid (BT4.out.q qa)
                generalize Y13.alloc (.cells #[.int .i64 ok] 3) = Y14 at qa BN3 BT4 ⊢
                generalize Y13.heap.size = nbN3 at BN3 ⊢
                refine hK.out _ _ ?Szz138 (fun hHeld => ?Rzz138)
                case Szz138 =>
                  exact hHeld.trans qa
                case Rzz138 =>
                  clear hK K
                  try simp only [Act.put, List.setIfInBounds_toArray, List.set_cons_zero, List.set_cons_succ]
                  refine wpAnyH_ready (rs := [4, 18]) (by kernel_rfl) (by simp) ?_
                  refine AllReadyH.cons (o := ?ozz128) ?hzz128 (fun K hK => ?kzz128) ?mzz128
                  case hzz128 => simp only [List.getElem?_toArray, List.getElem?_cons_zero, List.getElem?_cons_succ]; rfl
                  case kzz128 =>
                    go_simp
                    refine (K3.out _ nbN3 BN3.out).mono ?_
                    rintro e5 v5 ⟨rfl, q5⟩
                    replace BT4 := Lib.hid (BT4.out.q q5)
                    replace BN3 := Lib.hid (BN3.out.q q5)
                    go_wp2_with fail
                    refine hK.out _ _ ?Szz128 (fun hHeld => ?Rzz128)
                    case Szz128 =>
                      exact hHeld.trans q5
                    case Rzz128 =>
                      clear hK K
                      try simp only [Act.put, List.setIfInBounds_toArray, List.set_cons_zero, List.set_cons_succ]
                      refine wpAnyH_ready (rs := [14, 18]) (by kernel_rfl) (by simp) ?_
                      refine AllReadyH.cons (o := ?ozz119) ?hzz119 (fun K hK => ?kzz119) ?mzz119
                      case hzz119 => simp only [List.getElem?_toArray, List.getElem?_cons_zero, List.getElem?_cons_succ]; rfl
                      case kzz119 =>
                        go_simp
                        refine (K4.out _ nbT4 BT4.out).mono ?_
                        rintro e6 v6 ⟨rfl, q6⟩
                        replace BT4 := Lib.hid (BT4.out.q q6)
                        replace BN3 := Lib.hid (BN3.out.q q6)
                        go_wp2_with fail
                        refine hK.out _ _ ?Szz119 (fun hHeld => ?Rzz119)
                        case Szz119 =>
                          exact hHeld.trans q6
                        case Rzz119 =>
                          clear hK K
                          try simp only [Act.put, List.setIfInBounds_toArray, List.set_cons_zero, List.set_cons_succ]
                          refine wpAnyH_take (i := 15) (oi := ?ozz107) (v := ?vzz107) ?hzz107 ?azz107 ?bzz107 ?czz107 ?qzz107 ?yzz107 ?szz107 ?rzz107
                          case hzz107 => simp only [List.getElem?_toArray, List.getElem?_cons_zero, List.getElem?_cons_succ]; rfl
                          case azz107 => kernel_rfl
                          case bzz107 => kernel_rfl
                          case czz107 => kernel_rfl
                          case yzz107 =>
                            refine Or.inl ⟨by rfl, ?_⟩
                            intro w hSw
                            skip
                            go_simp
                            try with_reducible rfl
                          case qzz107 => exact fun _ _ _ h => h
                          case szz107 => first | assumption | trivial
                          case' rzz107 => simp only [Act.put, List.setIfInBounds_toArray, List.set_cons_zero, List.set_cons_succ]
                          refine wpAnyH_ready (rs := [18]) (by kernel_rfl) (by simp) ?_
                          refine AllReadyH.cons (o := ?ozz112) ?hzz112 (fun K hK => ?kzz112) ?mzz112
                          case hzz112 => simp only [List.getElem?_toArray, List.getElem?_cons_zero, List.getElem?_cons_succ]; rfl
                          case kzz112 =>
                            go_simp
                            have qa := (Q.refl v6).alloc (.cells #[.int .i64 m] 3)
                            have BN5 : Hid (Lst numK (v6.alloc (.cells #[.int .i64 m] 3)) (some ⟨v6.heap.size, 0, none⟩) 1 [m]) := Lib.hid (lst_litn v6 [m])
                            replace BT4 := Lib.hid (BT4.out.q qa)
                            replace BN3 := Lib.hid (BN3.out.q qa)
                            generalize v6.alloc (.cells #[.int .i64 m] 3) = Y15 at qa BN5 BT4 BN3 ⊢
                            generalize v6.heap.size = nbN5 at BN5 ⊢
                            refine hK.out _ _ ?Szz112 (fun hHeld => ?Rzz112)
                            case Szz112 =>
                              exact hHeld.trans qa
                            case Rzz112 =>
                              clear hK K
                              try simp only [Act.put, List.setIfInBounds_toArray, List.set_cons_zero, List.set_cons_succ]
                              refine wpAnyH_ready (rs := [19]) (by kernel_rfl) (by simp) ?_
                              refine AllReadyH.cons (o := ?ozz111) ?hzz111 (fun K hK => ?kzz111) ?mzz111
                              case hzz111 => simp only [List.getElem?_toArray, List.getElem?_cons_zero, List.getElem?_cons_succ]; rfl
                              case kzz111 =>
                                go_simp
                                refine (K5.out _ nbN5 BN5.out).mono ?_
                                rintro e7 v7 ⟨rfl, q7⟩
                                replace BT4 := Lib.hid (BT4.out.q q7)
                                replace BN3 := Lib.hid (BN3.out.q q7)
                                replace BN5 := Lib.hid (BN5.out.q q7)
                                go_wp2_with fail
                                refine hK.out _ _ ?Szz111 (fun hHeld => ?Rzz111)
                                case Szz111 =>
                                  exact hHeld.trans q7
                                case Rzz111 =>
                                  clear hK K
                                  try simp only [Act.put, List.setIfInBounds_toArray, List.set_cons_zero, List.set_cons_succ]
                                  refine wpAnyH_take (i := 20) (oi := ?ozz108) (v := ?vzz108) ?hzz108 ?azz108 ?bzz108 ?czz108 ?qzz108 ?yzz108 ?szz108 ?rzz108
                                  case hzz108 => simp only [List.getElem?_toArray, List.getElem?_cons_zero, List.getElem?_cons_succ]; rfl
                                  case azz108 => kernel_rfl
                                  case bzz108 => kernel_rfl
                                  case czz108 => kernel_rfl
                                  case yzz108 =>
                                    refine Or.inl ⟨by rfl, ?_⟩
                                    intro w hSw
                                    skip
                                    go_simp
                                    try with_reducible rfl
                                  case qzz108 => exact fun _ _ _ h => h
                                  case szz108 => first | assumption | trivial
                                  case' rzz108 => simp only [Act.put, List.setIfInBounds_toArray, List.set_cons_zero, List.set_cons_succ]
                                  refine wpAnyH_take (i := 21) (oi := ?ozz109) (v := ?vzz109) ?hzz109 ?azz109 ?bzz109 ?czz109 ?qzz109 ?yzz109 ?szz109 ?rzz109
                                  case hzz109 => simp only [List.getElem?_toArray, List.getElem?_cons_zero, List.getElem?_cons_succ]; rfl
                                  case azz109 => kernel_rfl
                                  case bzz109 => kernel_rfl
                                  case czz109 => kernel_rfl
                                  case yzz109 =>
                                    refine Or.inl ⟨by rfl, ?_⟩
                                    intro w hSw
                                    skip
                                    go_simp
                                    try with_reducible rfl
                                  case qzz109 => exact fun _ _ _ h => h
                                  case szz109 => first | assumption | trivial
                                  case' rzz109 => simp only [Act.put, List.setIfInBounds_toArray, List.set_cons_zero, List.set_cons_succ]
                                  refine wpAnyH_take (i := 22) (oi := ?ozz110) (v := ?vzz110) ?hzz110 ?azz110 ?bzz110 ?czz110 ?qzz110 ?yzz110 ?szz110 ?rzz110
                                  case hzz110 => simp only [List.getElem?_toArray, List.getElem?_cons_zero, List.getElem?_cons_succ]; rfl
                                  case azz110 => kernel_rfl
                                  case bzz110 => kernel_rfl
                                  case czz110 => kernel_rfl
                                  case yzz110 =>
                                    refine Or.inl ⟨by rfl, ?_⟩
                                    intro w hSw
                                    skip
                                    go_simp
                                    try with_reducible rfl
                                  case qzz110 => exact fun _ _ _ h => h
                                  case szz110 => first | assumption | trivial
                                  case' rzz110 => simp only [Act.put, List.setIfInBounds_toArray, List.set_cons_zero, List.set_cons_succ]
                                  refine wpAnyH_done (by kernel_rfl) ?_ _
                                  go_wp2_with fail
                                  go_meet
                                  exact ⟨rfl, hHeld⟩
                              case' mzz111 => skip
                              exact AllReadyH.nil
                          case' mzz112 => skip
                          exact AllReadyH.nil
                      case' mzz119 => skip
                      refine AllReadyH.cons (o := ?ozz120) ?hzz120 (fun K hK => ?kzz120) ?mzz120
                      case hzz120 => simp only [List.getElem?_toArray, List.getElem?_cons_zero, List.getElem?_cons_succ]; rfl
                      case kzz120 =>
                        go_simp
                        have qa := (Q.refl v5).alloc (.cells #[.int .i64 m] 3)
                        have BN5 : Hid (Lst numK (v5.alloc (.cells #[.int .i64 m] 3)) (some ⟨v5.heap.size, 0, none⟩) 1 [m]) := Lib.hid (lst_litn v5 [m])
                        replace BT4 := Lib.hid (BT4.out.q qa)
                        replace BN3 := Lib.hid (BN3.out.q qa)
                        generalize v5.alloc (.cells #[.int .i64 m] 3) = Y16 at qa BN5 BT4 BN3 ⊢
                        generalize v5.heap.size = nbN5 at BN5 ⊢
                        refine hK.out _ _ ?Szz120 (fun hHeld => ?Rzz120)
                        case Szz120 =>
                          exact hHeld.trans qa
                        case Rzz120 =>
                          clear hK K
                          try simp only [Act.put, List.setIfInBounds_toArray, List.set_cons_zero, List.set_cons_succ]
                          refine wpAnyH_ready (rs := [14]) (by kernel_rfl) (by simp) ?_
                          refine AllReadyH.cons (o := ?ozz118) ?hzz118 (fun K hK => ?kzz118) ?mzz118
                          case hzz118 => simp only [List.getElem?_toArray, List.getElem?_cons_zero, List.getElem?_cons_succ]; rfl
                          case kzz118 =>
                            go_simp
                            refine (K4.out _ nbT4 BT4.out).mono ?_
                            rintro e6 v6 ⟨rfl, q6⟩
                            replace BT4 := Lib.hid (BT4.out.q q6)
                            replace BN3 := Lib.hid (BN3.out.q q6)
                            replace BN5 := Lib.hid (BN5.out.q q6)
                            go_wp2_with fail
                            refine hK.out _ _ ?Szz118 (fun hHeld => ?Rzz118)
                            case Szz118 =>
                              exact hHeld.trans q6
                            case Rzz118 =>
                              clear hK K
                              try simp only [Act.put, List.setIfInBounds_toArray, List.set_cons_zero, List.set_cons_succ]
                              refine wpAnyH_take (i := 15) (oi := ?ozz113) (v := ?vzz113) ?hzz113 ?azz113 ?bzz113 ?czz113 ?qzz113 ?yzz113 ?szz113 ?rzz113
                              case hzz113 => simp only [List.getElem?_toArray, List.getElem?_cons_zero, List.getElem?_cons_succ]; rfl
                              case azz113 => kernel_rfl
                              case bzz113 => kernel_rfl
                              case czz113 => kernel_rfl
                              case yzz113 =>
                                refine Or.inl ⟨by rfl, ?_⟩
                                intro w hSw
                                skip
                                go_simp
                                try with_reducible rfl
                              case qzz113 => exact fun _ _ _ h => h
                              case szz113 => first | assumption | trivial
                              case' rzz113 => simp only [Act.put, List.setIfInBounds_toArray, List.set_cons_zero, List.set_cons_succ]
                              refine wpAnyH_ready (rs := [19]) (by kernel_rfl) (by simp) ?_
                              refine AllReadyH.cons (o := ?ozz117) ?hzz117 (fun K hK => ?kzz117) ?mzz117
                              case hzz117 => simp only [List.getElem?_toArray, List.getElem?_cons_zero, List.getElem?_cons_succ]; rfl
                              case kzz117 =>
                                go_simp
                                refine (K5.out _ nbN5 BN5.out).mono ?_
                                rintro e7 v7 ⟨rfl, q7⟩
                                replace BT4 := Lib.hid (BT4.out.q q7)
                                replace BN3 := Lib.hid (BN3.out.q q7)
                                replace BN5 := Lib.hid (BN5.out.q q7)
                                go_wp2_with fail
                                refine hK.out _ _ ?Szz117 (fun hHeld => ?Rzz117)
                                case Szz117 =>
                                  exact hHeld.trans q7
                                case Rzz117 =>
                                  clear hK K
                                  try simp only [Act.put, List.setIfInBounds_toArray, List.set_cons_zero, List.set_cons_succ]
                                  refine wpAnyH_take (i := 20) (oi := ?ozz114) (v := ?vzz114) ?hzz114 ?azz114 ?bzz114 ?czz114 ?qzz114 ?yzz114 ?szz114 ?rzz114
                                  case hzz114 => simp only [List.getElem?_toArray, List.getElem?_cons_zero, List.getElem?_cons_succ]; rfl
                                  case azz114 => kernel_rfl
                                  case bzz114 => kernel_rfl
                                  case czz114 => kernel_rfl
                                  case yzz114 =>
                                    refine Or.inl ⟨by rfl, ?_⟩
                                    intro w hSw
                                    skip
                                    go_simp
                                    try with_reducible rfl
                                  case qzz114 => exact fun _ _ _ h => h
                                  case szz114 => first | assumption | trivial
                                  case' rzz114 => simp only [Act.put, List.setIfInBounds_toArray, List.set_cons_zero, List.set_cons_succ]
                                  refine wpAnyH_take (i := 21) (oi := ?ozz115) (v := ?vzz115) ?hzz115 ?azz115 ?bzz115 ?czz115 ?qzz115 ?yzz115 ?szz115 ?rzz115
                                  case hzz115 => simp only [List.getElem?_toArray, List.getElem?_cons_zero, List.getElem?_cons_succ]; rfl
                                  case azz115 => kernel_rfl
                                  case bzz115 => kernel_rfl
                                  case czz115 => kernel_rfl
                                  case yzz115 =>
                                    refine Or.inl ⟨by rfl, ?_⟩
                                    intro w hSw
                                    skip
                                    go_simp
                                    try with_reducible rfl
                                  case qzz115 => exact fun _ _ _ h => h
                                  case szz115 => first | assumption | trivial
                                  case' rzz115 => simp only [Act.put, List.setIfInBounds_toArray, List.set_cons_zero, List.set_cons_succ]
                                  refine wpAnyH_take (i := 22) (oi := ?ozz116) (v := ?vzz116) ?hzz116 ?azz116 ?bzz116 ?czz116 ?qzz116 ?yzz116 ?szz116 ?rzz116
                                  case hzz116 => simp only [List.getElem?_toArray, List.getElem?_cons_zero, List.getElem?_cons_succ]; rfl
                                  case azz116 => kernel_rfl
                                  case bzz116 => kernel_rfl
                                  case czz116 => kernel_rfl
                                  case yzz116 =>
                                    refine Or.inl ⟨by rfl, ?_⟩
                                    intro w hSw
                                    skip
                                    go_simp
                                    try with_reducible rfl
                                  case qzz116 => exact fun _ _ _ h => h
                                  case szz116 => first | assumption | trivial
                                  case' rzz116 => simp only [Act.put, List.setIfInBounds_toArray, List.set_cons_zero, List.set_cons_succ]
                                  refine wpAnyH_done (by kernel_rfl) ?_ _
                                  go_wp2_with fail
                                  go_meet
                                  exact ⟨rfl, hHeld⟩
                              case' mzz117 => skip
                              exact AllReadyH.nil
                          case' mzz118 => skip
                          exact AllReadyH.nil
                      case' mzz120 => skip
                      exact AllReadyH.nil
                  case' mzz128 => skip
                  refine AllReadyH.cons (o := ?ozz129) ?hzz129 (fun K hK => ?kzz129) ?mzz129
                  case hzz129 => simp only [List.getElem?_toArray, List.getElem?_cons_zero, List.getElem?_cons_succ]; rfl
                  case kzz129 =>
                    go_simp
                    have qa := (Q.refl Y14).alloc (.cells #[.int .i64 m] 3)
                    have BN5 : Hid (Lst numK (Y14.alloc (.cells #[.int .i64 m] 3)) (some ⟨Y14.heap.size, 0, none⟩) 1 [m]) := Lib.hid (lst_litn Y14 [m])
                    replace BT4 := Lib.hid (BT4.out.q qa)
                    replace BN3 := Lib.hid (BN3.out.q qa)
                    generalize Y14.alloc (.cells #[.int .i64 m] 3) = Y17 at qa BN5 BT4 BN3 ⊢
                    generalize Y14.heap.size = nbN5 at BN5 ⊢
                    refine hK.out _ _ ?Szz129 (fun hHeld => ?Rzz129)
                    case Szz129 =>
                      exact hHeld.trans qa
                    case Rzz129 =>
                      clear hK K
                      try simp only [Act.put, List.setIfInBounds_toArray, List.set_cons_zero, List.set_cons_succ]
                      refine wpAnyH_ready (rs := [4]) (by kernel_rfl) (by simp) ?_
                      refine AllReadyH.cons (o := ?ozz127) ?hzz127 (fun K hK => ?kzz127) ?mzz127
                      case hzz127 => simp only [List.getElem?_toArray, List.getElem?_cons_zero, List.getElem?_cons_succ]; rfl
                      case kzz127 =>
                        go_simp
                        refine (K3.out _ nbN3 BN3.out).mono ?_
                        rintro e5 v5 ⟨rfl, q5⟩
                        replace BT4 := Lib.hid (BT4.out.q q5)
                        replace BN3 := Lib.hid (BN3.out.q q5)
                        replace BN5 := Lib.hid (BN5.out.q q5)
                        go_wp2_with fail
                        refine hK.out _ _ ?Szz127 (fun hHeld => ?Rzz127)
                        case Szz127 =>
                          exact hHeld.trans q5
                        case Rzz127 =>
                          clear hK K
                          try simp only [Act.put, List.setIfInBounds_toArray, List.set_cons_zero, List.set_cons_succ]
                          refine wpAnyH_ready (rs := [14]) (by kernel_rfl) (by simp) ?_
                          refine AllReadyH.cons (o := ?ozz126) ?hzz126 (fun K hK => ?kzz126) ?mzz126
                          case hzz126 => simp only [List.getElem?_toArray, List.getElem?_cons_zero, List.getElem?_cons_succ]; rfl
                          case kzz126 =>
                            go_simp
                            refine (K4.out _ nbT4 BT4.out).mono ?_
                            rintro e6 v6 ⟨rfl, q6⟩
                            replace BT4 := Lib.hid (BT4.out.q q6)
                            replace BN3 := Lib.hid (BN3.out.q q6)
                            replace BN5 := Lib.hid (BN5.out.q q6)
                            go_wp2_with fail
                            refine hK.out _ _ ?Szz126 (fun hHeld => ?Rzz126)
                            case Szz126 =>
                              exact hHeld.trans q6
                            case Rzz126 =>
                              clear hK K
                              try simp only [Act.put, List.setIfInBounds_toArray, List.set_cons_zero, List.set_cons_succ]
                              refine wpAnyH_take (i := 15) (oi := ?ozz121) (v := ?vzz121) ?hzz121 ?azz121 ?bzz121 ?czz121 ?qzz121 ?yzz121 ?szz121 ?rzz121
                              case hzz121 => simp only [List.getElem?_toArray, List.getElem?_cons_zero, List.getElem?_cons_succ]; rfl
                              case azz121 => kernel_rfl
                              case bzz121 => kernel_rfl
                              case czz121 => kernel_rfl
                              case yzz121 =>
                                refine Or.inl ⟨by rfl, ?_⟩
                                intro w hSw
                                skip
                                go_simp
                                try with_reducible rfl
                              case qzz121 => exact fun _ _ _ h => h
                              case szz121 => first | assumption | trivial
                              case' rzz121 => simp only [Act.put, List.setIfInBounds_toArray, List.set_cons_zero, List.set_cons_succ]
                              refine wpAnyH_ready (rs := [19]) (by kernel_rfl) (by simp) ?_
                              refine AllReadyH.cons (o := ?ozz125) ?hzz125 (fun K hK => ?kzz125) ?mzz125
                              case hzz125 => simp only [List.getElem?_toArray, List.getElem?_cons_zero, List.getElem?_cons_succ]; rfl
                              case kzz125 =>
                                go_simp
                                refine (K5.out _ nbN5 BN5.out).mono ?_
                                rintro e7 v7 ⟨rfl, q7⟩
                                replace BT4 := Lib.hid (BT4.out.q q7)
                                replace BN3 := Lib.hid (BN3.out.q q7)
                                replace BN5 := Lib.hid (BN5.out.q q7)
                                go_wp2_with fail
                                refine hK.out _ _ ?Szz125 (fun hHeld => ?Rzz125)
                                case Szz125 =>
                                  exact hHeld.trans q7
                                case Rzz125 =>
                                  clear hK K
                                  try simp only [Act.put, List.setIfInBounds_toArray, List.set_cons_zero, List.set_cons_succ]
                                  refine wpAnyH_take (i := 20) (oi := ?ozz122) (v := ?vzz122) ?hzz122 ?azz122 ?bzz122 ?czz122 ?qzz122 ?yzz122 ?szz122 ?rzz122
                                  case hzz122 => simp only [List.getElem?_toArray, List.getElem?_cons_zero, List.getElem?_cons_succ]; rfl
                                  case azz122 => kernel_rfl
                                  case bzz122 => kernel_rfl
                                  case czz122 => kernel_rfl
                                  case yzz122 =>
                                    refine Or.inl ⟨by rfl, ?_⟩
                                    intro w hSw
                                    skip
                                    go_simp
                                    try with_reducible rfl
                                  case qzz122 => exact fun _ _ _ h => h
                                  case szz122 => first | assumption | trivial
                                  case' rzz122 => simp only [Act.put, List.setIfInBounds_toArray, List.set_cons_zero, List.set_cons_succ]
                                  refine wpAnyH_take (i := 21) (oi := ?ozz123) (v := ?vzz123) ?hzz123 ?azz123 ?bzz123 ?czz123 ?qzz123 ?yzz123 ?szz123 ?rzz123
                                  case hzz123 => simp only [List.getElem?_toArray, List.getElem?_cons_zero, List.getElem?_cons_succ]; rfl
                                  case azz123 => kernel_rfl
                                  case bzz123 => kernel_rfl
                                  case czz123 => kernel_rfl
                                  case yzz123 =>
                                    refine Or.inl ⟨by rfl, ?_⟩
                                    intro w hSw
                                    skip
                                    go_simp
                                    try with_reducible rfl
                                  case qzz123 => exact fun _ _ _ h => h
                                  case szz123 => first | assumption | trivial
                                  case' rzz123 => simp only [Act.put, List.setIfInBounds_toArray, List.set_cons_zero, List.set_cons_succ]
                                  refine wpAnyH_take (i := 22) (oi := ?ozz124) (v := ?vzz124) ?hzz124 ?azz124 ?bzz124 ?czz124 ?qzz124 ?yzz124 ?szz124 ?rzz124
                                  case hzz124 => simp only [List.getElem?_toArray, List.getElem?_cons_zero, List.getElem?_cons_succ]; rfl
                                  case azz124 => kernel_rfl
                                  case bzz124 => kernel_rfl
                                  case czz124 => kernel_rfl
                                  case yzz124 =>
                                    refine Or.inl ⟨by rfl, ?_⟩
                                    intro w hSw
                                    skip
                                    go_simp
                                    try with_reducible rfl
                                  case qzz124 => exact fun _ _ _ h => h
                                  case szz124 => first | assumption | trivial
                                  case' rzz124 => simp only [Act.put, List.setIfInBounds_toArray, List.set_cons_zero, List.set_cons_succ]
                                  refine wpAnyH_done (by kernel_rfl) ?_ _
                                  go_wp2_with fail
                                  go_meet
                                  exact ⟨rfl, hHeld⟩
                              case' mzz125 => skip
                              exact AllReadyH.nil
                          case' mzz126 => skip
                          exact AllReadyH.nil
                      case' mzz127 => skip
                      exact AllReadyH.nil
                  case' mzz129 => skip
                  exact AllReadyH.nil
              case' mzz138 => skip
              refine AllReadyH.cons (o := ?ozz139) ?hzz139 (fun K hK => ?kzz139) ?mzz139
              case hzz139 => simp only [List.getElem?_toArray, List.getElem?_cons_zero, List.getElem?_cons_succ]; rfl
              case kzz139 =>
                go_simp
                have qa := (Q.refl Y13).alloc (.cells #[.int .i64 m] 3)
                have BN5 : Hid (Lst numK (Y13.alloc (.cells #[.int .i64 m] 3)) (some ⟨Y13.heap.size, 0, none⟩) 1 [m]) := Lib.hid (lst_litn Y13 [m])
                replace BT4 := Lib.hid (BT4.out.q qa)
                generalize Y13.alloc (.cells #[.int .i64 m] 3) = Y18 at qa BN5 BT4 ⊢
                generalize Y13.heap.size = nbN5 at BN5 ⊢
                refine hK.out _ _ ?Szz139 (fun hHeld => ?Rzz139)
                case Szz139 =>
                  exact hHeld.trans qa
                case Rzz139 =>
                  clear hK K
                  try simp only [Act.put, List.setIfInBounds_toArray, List.set_cons_zero, List.set_cons_succ]
                  refine wpAnyH_ready (rs := [3]) (by kernel_rfl) (by simp) ?_
                  refine AllReadyH.cons (o := ?ozz137) ?hzz137 (fun K hK => ?kzz137) ?mzz137
                  case hzz137 => simp only [List.getElem?_toArray, List.getElem?_cons_zero, List.getElem?_cons_succ]; rfl
                  case kzz137 =>
                    go_simp
                    have qa := (Q.refl Y18).alloc (.cells #[.int .i64 ok] 3)
                    have BN3 : Hid (Lst numK (Y18.alloc (.cells #[.int .i64 ok] 3)) (some ⟨Y18.heap.size, 0, none⟩) 1 [ok]) := Lib.hid (lst_litn Y18 [ok])
                    replace BT4 := Lib.hid (BT4.out.q qa)
                    replace BN5 := Lib.hid (BN5.out.q qa)
                    generalize Y18.alloc (.cells #[.int .i64 ok] 3) = Y19 at qa BN3 BT4 BN5 ⊢
                    generalize Y18.heap.size = nbN3 at BN3 ⊢
                    refine hK.out _ _ ?Szz137 (fun hHeld => ?Rzz137)
                    case Szz137 =>
                      exact hHeld.trans qa
                    case Rzz137 =>
                      clear hK K
                      try simp only [Act.put, List.setIfInBounds_toArray, List.set_cons_zero, List.set_cons_succ]
                      refine wpAnyH_ready (rs := [4]) (by kernel_rfl) (by simp) ?_
                      refine AllReadyH.cons (o := ?ozz136) ?hzz136 (fun K hK => ?kzz136) ?mzz136
                      case hzz136 => simp only [List.getElem?_toArray, List.getElem?_cons_zero, List.getElem?_cons_succ]; rfl
                      case kzz136 =>
                        go_simp
                        refine (K3.out _ nbN3 BN3.out).mono ?_
                        rintro e5 v5 ⟨rfl, q5⟩
                        replace BT4 := Lib.hid (BT4.out.q q5)
                        replace BN5 := Lib.hid (BN5.out.q q5)
                        replace BN3 := Lib.hid (BN3.out.q q5)
                        go_wp2_with fail
                        refine hK.out _ _ ?Szz136 (fun hHeld => ?Rzz136)
                        case Szz136 =>
                          exact hHeld.trans q5
                        case Rzz136 =>
                          clear hK K
                          try simp only [Act.put, List.setIfInBounds_toArray, List.set_cons_zero, List.set_cons_succ]
                          refine wpAnyH_ready (rs := [14]) (by kernel_rfl) (by simp) ?_
                          refine AllReadyH.cons (o := ?ozz135) ?hzz135 (fun K hK => ?kzz135) ?mzz135
                          case hzz135 => simp only [List.getElem?_toArray, List.getElem?_cons_zero, List.getElem?_cons_succ]; rfl
                          case kzz135 =>
                            go_simp
                            refine (K4.out _ nbT4 BT4.out).mono ?_
                            rintro e6 v6 ⟨rfl, q6⟩
                            replace BT4 := Lib.hid (BT4.out.q q6)
                            replace BN5 := Lib.hid (BN5.out.q q6)
                            replace BN3 := Lib.hid (BN3.out.q q6)
                            go_wp2_with fail
                            refine hK.out _ _ ?Szz135 (fun hHeld => ?Rzz135)
                            case Szz135 =>
                              exact hHeld.trans q6
                            case Rzz135 =>
                              clear hK K
                              try simp only [Act.put, List.setIfInBounds_toArray, List.set_cons_zero, List.set_cons_succ]
                              refine wpAnyH_take (i := 15) (oi := ?ozz130) (v := ?vzz130) ?hzz130 ?azz130 ?bzz130 ?czz130 ?qzz130 ?yzz130 ?szz130 ?rzz130
                              case hzz130 => simp only [List.getElem?_toArray, List.getElem?_cons_zero, List.getElem?_cons_succ]; rfl
                              case azz130 => kernel_rfl
                              case bzz130 => kernel_rfl
                              case czz130 => kernel_rfl
                              case yzz130 =>
                                refine Or.inl ⟨by rfl, ?_⟩
                                intro w hSw
                                skip
                                go_simp
                                try with_reducible rfl
                              case qzz130 => exact fun _ _ _ h => h
                              case szz130 => first | assumption | trivial
                              case' rzz130 => simp only [Act.put, List.setIfInBounds_toArray, List.set_cons_zero, List.set_cons_succ]
                              refine wpAnyH_ready (rs := [19]) (by kernel_rfl) (by simp) ?_
                              refine AllReadyH.cons (o := ?ozz134) ?hzz134 (fun K hK => ?kzz134) ?mzz134
                              case hzz134 => simp only [List.getElem?_toArray, List.getElem?_cons_zero, List.getElem?_cons_succ]; rfl
                              case kzz134 =>
                                go_simp
                                refine (K5.out _ nbN5 BN5.out).mono ?_
                                rintro e7 v7 ⟨rfl, q7⟩
                                replace BT4 := Lib.hid (BT4.out.q q7)
                                replace BN5 := Lib.hid (BN5.out.q q7)
                                replace BN3 := Lib.hid (BN3.out.q q7)
                                go_wp2_with fail
                                refine hK.out _ _ ?Szz134 (fun hHeld => ?Rzz134)
                                case Szz134 =>
                                  exact hHeld.trans q7
                                case Rzz134 =>
                                  clear hK K
                                  try simp only [Act.put, List.setIfInBounds_toArray, List.set_cons_zero, List.set_cons_succ]
                                  refine wpAnyH_take (i := 20) (oi := ?ozz131) (v := ?vzz131) ?hzz131 ?azz131 ?bzz131 ?czz131 ?qzz131 ?yzz131 ?szz131 ?rzz131
                                  case hzz131 => simp only [List.getElem?_toArray, List.getElem?_cons_zero, List.getElem?_cons_succ]; rfl
                                  case azz131 => kernel_rfl
                                  case bzz131 => kernel_rfl
                                  case czz131 => kernel_rfl
                                  case yzz131 =>
                                    refine Or.inl ⟨by rfl, ?_⟩
                                    intro w hSw
                                    skip
                                    go_simp
                                    try with_reducible rfl
                                  case qzz131 => exact fun _ _ _ h => h
                                  case szz131 => first | assumption | trivial
                                  case' rzz131 => simp only [Act.put, List.setIfInBounds_toArray, List.set_cons_zero, List.set_cons_succ]
                                  refine wpAnyH_take (i := 21) (oi := ?ozz132) (v := ?vzz132) ?hzz132 ?azz132 ?bzz132 ?czz132 ?qzz132 ?yzz132 ?szz132 ?rzz132
                                  case hzz132 => simp only [List.getElem?_toArray, List.getElem?_cons_zero, List.getElem?_cons_succ]; rfl
                                  case azz132 => kernel_rfl
                                  case bzz132 => kernel_rfl
                                  case czz132 => kernel_rfl
                                  case yzz132 =>
                                    refine Or.inl ⟨by rfl, ?_⟩
                                    intro w hSw
                                    skip
                                    go_simp
                                    try with_reducible rfl
                                  case qzz132 => exact fun _ _ _ h => h
                                  case szz132 => first | assumption | trivial
                                  case' rzz132 => simp only [Act.put, List.setIfInBounds_toArray, List.set_cons_zero, List.set_cons_succ]
                                  refine wpAnyH_take (i := 22) (oi := ?ozz133) (v := ?vzz133) ?hzz133 ?azz133 ?bzz133 ?czz133 ?qzz133 ?yzz133 ?szz133 ?rzz133
                                  case hzz133 => simp only [List.getElem?_toArray, List.getElem?_cons_zero, List.getElem?_cons_succ]; rfl
                                  case azz133 => kernel_rfl
                                  case bzz133 => kernel_rfl
                                  case czz133 => kernel_rfl
                                  case yzz133 =>
                                    refine Or.inl ⟨by rfl, ?_⟩
                                    intro w hSw
                                    skip
                                    go_simp
                                    try with_reducible rfl
                                  case qzz133 => exact fun _ _ _ h => h
                                  case szz133 => first | assumption | trivial
                                  case' rzz133 => simp only [Act.put, List.setIfInBounds_toArray, List.set_cons_zero, List.set_cons_succ]
                                  refine wpAnyH_done (by kernel_rfl) ?_ _
                                  go_wp2_with fail
                                  go_meet
                                  exact ⟨rfl, hHeld⟩
                              case' mzz134 => skip
                              exact AllReadyH.nil
                          case' mzz135 => skip
                          exact AllReadyH.nil
                      case' mzz136 => skip
                      exact AllReadyH.nil
                  case' mzz137 => skip
                  exact AllReadyH.nil
              case' mzz139 => skip
              exact AllReadyH.nil
          case' mzz167 => skip
          refine AllReadyH.cons (o := ?ozz168) ?hzz168 (fun K hK => ?kzz168) ?mzz168
          case hzz168 => simp only [List.getElem?_toArray, List.getElem?_cons_zero, List.getElem?_cons_succ]; rfl
          case kzz168 =>
            go_simp
            have qa := (Q.refl D0).alloc (.cells #[.int .i64 m] 3)
            have BN5 : Hid (Lst numK (D0.alloc (.cells #[.int .i64 m] 3)) (some ⟨D0.heap.size, 0, none⟩) 1 [m]) := Lib.hid (lst_litn D0 [m])
            generalize D0.alloc (.cells #[.int .i64 m] 3) = Y20 at qa BN5 ⊢
            generalize D0.heap.size = nbN5 at BN5 ⊢
            refine hK.out _ _ ?Szz168 (fun hHeld => ?Rzz168)
            case Szz168 =>
              exact hHeld.trans qa
            case Rzz168 =>
              clear hK K
              try simp only [Act.put, List.setIfInBounds_toArray, List.set_cons_zero, List.set_cons_succ]
              refine wpAnyH_ready (rs := [3, 13]) (by kernel_rfl) (by simp) ?_
              refine AllReadyH.cons (o := ?ozz164) ?hzz164 (fun K hK => ?kzz164) ?mzz164
              case hzz164 => simp only [List.getElem?_toArray, List.getElem?_cons_zero, List.getElem?_cons_succ]; rfl
              case kzz164 =>
                go_simp
                have qa := (Q.refl Y20).alloc (.cells #[.int .i64 ok] 3)
                have BN3 : Hid (Lst numK (Y20.alloc (.cells #[.int .i64 ok] 3)) (some ⟨Y20.heap.size, 0, none⟩) 1 [ok]) := Lib.hid (lst_litn Y20 [ok])
                replace BN5 := Lib.hid (BN5.out.q qa)
                generalize Y20.alloc (.cells #[.int .i64 ok] 3) = Y21 at qa BN3 BN5 ⊢
                generalize Y20.heap.size = nbN3 at BN3 ⊢
                refine hK.out _ _ ?Szz164 (fun hHeld => ?Rzz164)
                case Szz164 =>
                  exact hHeld.trans qa
                case Rzz164 =>
                  clear hK K
                  try simp only [Act.put, List.setIfInBounds_toArray, List.set_cons_zero, List.set_cons_succ]
                  refine wpAnyH_ready (rs := [4, 13]) (by kernel_rfl) (by simp) ?_
                  refine AllReadyH.cons (o := ?ozz154) ?hzz154 (fun K hK => ?kzz154) ?mzz154
                  case hzz154 => simp only [List.getElem?_toArray, List.getElem?_cons_zero, List.getElem?_cons_succ]; rfl
                  case kzz154 =>
                    go_simp
                    refine (K3.out _ nbN3 BN3.out).mono ?_
                    rintro e5 v5 ⟨rfl, q5⟩
                    replace BN5 := Lib.hid (BN5.out.q q5)
                    replace BN3 := Lib.hid (BN3.out.q q5)
                    go_wp2_with fail
                    refine hK.out _ _ ?Szz154 (fun hHeld => ?Rzz154)
                    case Szz154 =>
                      exact hHeld.trans q5
                    case Rzz154 =>
                      clear hK K
                      try simp only [Act.put, List.setIfInBounds_toArray, List.set_cons_zero, List.set_cons_succ]
                      refine wpAnyH_ready (rs := [13]) (by kernel_rfl) (by simp) ?_
                      refine AllReadyH.cons (o := ?ozz146) ?hzz146 (fun K hK => ?kzz146) ?mzz146
                      case hzz146 => simp only [List.getElem?_toArray, List.getElem?_cons_zero, List.getElem?_cons_succ]; rfl
                      case kzz146 =>
                        go_simp
                        have qa := (Q.refl v5).alloc (.cells #[.string ky, .string vl, .string lo, .string hi] 9)
                        have BT4 : Hid (Lst strK (v5.alloc (.cells #[.string ky, .string vl, .string lo, .string hi] 9)) (some ⟨v5.heap.size, 0, none⟩) 4 [ky, vl, lo, hi]) := Lib.hid (lst_lits v5 [ky, vl, lo, hi])
                        replace BN5 := Lib.hid (BN5.out.q qa)
                        replace BN3 := Lib.hid (BN3.out.q qa)
                        generalize v5.alloc (.cells #[.string ky, .string vl, .string lo, .string hi] 9) = Y22 at qa BT4 BN5 BN3 ⊢
                        generalize v5.heap.size = nbT4 at BT4 ⊢
                        refine hK.out _ _ ?Szz146 (fun hHeld => ?Rzz146)
                        case Szz146 =>
                          exact hHeld.trans qa
                        case Rzz146 =>
                          clear hK K
                          try simp only [Act.put, List.setIfInBounds_toArray, List.set_cons_zero, List.set_cons_succ]
                          refine wpAnyH_ready (rs := [14]) (by kernel_rfl) (by simp) ?_
                          refine AllReadyH.cons (o := ?ozz145) ?hzz145 (fun K hK => ?kzz145) ?mzz145
                          case hzz145 => simp only [List.getElem?_toArray, List.getElem?_cons_zero, List.getElem?_cons_succ]; rfl
                          case kzz145 =>
                            go_simp
                            refine (K4.out _ nbT4 BT4.out).mono ?_
                            rintro e6 v6 ⟨rfl, q6⟩
                            replace BN5 := Lib.hid (BN5.out.q q6)
                            replace BN3 := Lib.hid (BN3.out.q q6)
                            replace BT4 := Lib.hid (BT4.out.q q6)
                            go_wp2_with fail
                            refine hK.out _ _ ?Szz145 (fun hHeld => ?Rzz145)
                            case Szz145 =>
                              exact hHeld.trans q6
                            case Rzz145 =>
                              clear hK K
                              try simp only [Act.put, List.setIfInBounds_toArray, List.set_cons_zero, List.set_cons_succ]
                              refine wpAnyH_take (i := 15) (oi := ?ozz140) (v := ?vzz140) ?hzz140 ?azz140 ?bzz140 ?czz140 ?qzz140 ?yzz140 ?szz140 ?rzz140
                              case hzz140 => simp only [List.getElem?_toArray, List.getElem?_cons_zero, List.getElem?_cons_succ]; rfl
                              case azz140 => kernel_rfl
                              case bzz140 => kernel_rfl
                              case czz140 => kernel_rfl
                              case yzz140 =>
                                refine Or.inl ⟨by rfl, ?_⟩
                                intro w hSw
                                skip
                                go_simp
                                try with_reducible rfl
                              case qzz140 => exact fun _ _ _ h => h
                              case szz140 => first | assumption | trivial
                              case' rzz140 => simp only [Act.put, List.setIfInBounds_toArray, List.set_cons_zero, List.set_cons_succ]
                              refine wpAnyH_ready (rs := [19]) (by kernel_rfl) (by simp) ?_
                              refine AllReadyH.cons (o := ?ozz144) ?hzz144 (fun K hK => ?kzz144) ?mzz144
                              case hzz144 => simp only [List.getElem?_toArray, List.getElem?_cons_zero, List.getElem?_cons_succ]; rfl
                              case kzz144 =>
                                go_simp
                                refine (K5.out _ nbN5 BN5.out).mono ?_
                                rintro e7 v7 ⟨rfl, q7⟩
                                replace BN5 := Lib.hid (BN5.out.q q7)
                                replace BN3 := Lib.hid (BN3.out.q q7)
                                replace BT4 := Lib.hid (BT4.out.q q7)
                                go_wp2_with fail
                                refine hK.out _ _ ?Szz144 (fun hHeld => ?Rzz144)
                                case Szz144 =>
                                  exact hHeld.trans q7
                                case Rzz144 =>
                                  clear hK K
                                  try simp only [Act.put, List.setIfInBounds_toArray, List.set_cons_zero, List.set_cons_succ]
                                  refine wpAnyH_take (i := 20) (oi := ?ozz141) (v := ?vzz141) ?hzz141 ?azz141 ?bzz141 ?czz141 ?qzz141 ?yzz141 ?szz141 ?rzz141
                                  case hzz141 => simp only [List.getElem?_toArray, List.getElem?_cons_zero, List.getElem?_cons_succ]; rfl
                                  case azz141 => kernel_rfl
                                  case bzz141 => kernel_rfl
                                  case czz141 => kernel_rfl
                                  case yzz141 =>
                                    refine Or.inl ⟨by rfl, ?_⟩
                                    intro w hSw
                                    skip
                                    go_simp
                                    try with_reducible rfl
                                  case qzz141 => exact fun _ _ _ h => h
                                  case szz141 => first | assumption | trivial
                                  case' rzz141 => simp only [Act.put, List.setIfInBounds_toArray, List.set_cons_zero, List.set_cons_succ]
                                  refine wpAnyH_take (i := 21) (oi := ?ozz142) (v := ?vzz142) ?hzz142 ?azz142 ?bzz142 ?czz142 ?qzz142 ?yzz142 ?szz142 ?rzz142
                                  case hzz142 => simp only [List.getElem?_toArray, List.getElem?_cons_zero, List.getElem?_cons_succ]; rfl
                                  case azz142 => kernel_rfl
                                  case bzz142 => kernel_rfl
                                  case czz142 => kernel_rfl
                                  case yzz142 =>
                                    refine Or.inl ⟨by rfl, ?_⟩
                                    intro w hSw
                                    skip
                                    go_simp
                                    try with_reducible rfl
                                  case qzz142 => exact fun _ _ _ h => h
                                  case szz142 => first | assumption | trivial
                                  case' rzz142 => simp only [Act.put, List.setIfInBounds_toArray, List.set_cons_zero, List.set_cons_succ]
                                  refine wpAnyH_take (i := 22) (oi := ?ozz143) (v := ?vzz143) ?hzz143 ?azz143 ?bzz143 ?czz143 ?qzz143 ?yzz143 ?szz143 ?rzz143
                                  case hzz143 => simp only [List.getElem?_toArray, List.getElem?_cons_zero, List.getElem?_cons_succ]; rfl
                                  case azz143 => kernel_rfl
                                  case bzz143 => kernel_rfl
                                  case czz143 => kernel_rfl
                                  case yzz143 =>
                                    refine Or.inl ⟨by rfl, ?_⟩
                                    intro w hSw
                                    skip
                                    go_simp
                                    try with_reducible rfl
                                  case qzz143 => exact fun _ _ _ h => h
                                  case szz143 => first | assumption | trivial
                                  case' rzz143 => simp only [Act.put, List.setIfInBounds_toArray, List.set_cons_zero, List.set_cons_succ]
                                  refine wpAnyH_done (by kernel_rfl) ?_ _
                                  go_wp2_with fail
                                  go_meet
                                  exact ⟨rfl, hHeld⟩
                              case' mzz144 => skip
                              exact AllReadyH.nil
                          case' mzz145 => skip
                          exact AllReadyH.nil
                      case' mzz146 => skip
                      exact AllReadyH.nil
                  case' mzz154 => skip
                  refine AllReadyH.cons (o := ?ozz155) ?hzz155 (fun K hK => ?kzz155) ?mzz155
                  case hzz155 => simp only [List.getElem?_toArray, List.getElem?_cons_zero, List.getElem?_cons_succ]; rfl
                  case kzz155 =>
                    go_simp
                    have qa := (Q.refl Y21).alloc (.cells #[.string ky, .string vl, .string lo, .string hi] 9)
                    have BT4 : Hid (Lst strK (Y21.alloc (.cells #[.string ky, .string vl, .string lo, .string hi] 9)) (some ⟨Y21.heap.size, 0, none⟩) 4 [ky, vl, lo, hi]) := Lib.hid (lst_lits Y21 [ky, vl, lo, hi])
                    replace BN5 := Lib.hid (BN5.out.q qa)
                    replace BN3 := Lib.hid (BN3.out.q qa)
                    generalize Y21.alloc (.cells #[.string ky, .string vl, .string lo, .string hi] 9) = Y23 at qa BT4 BN5 BN3 ⊢
                    generalize Y21.heap.size = nbT4 at BT4 ⊢
                    refine hK.out _ _ ?Szz155 (fun hHeld => ?Rzz155)
                    case Szz155 =>
                      exact hHeld.trans qa
                    case Rzz155 =>
                      clear hK K
                      try simp only [Act.put, List.setIfInBounds_toArray, List.set_cons_zero, List.set_cons_succ]
                      refine wpAnyH_ready (rs := [4]) (by kernel_rfl) (by simp) ?_
                      refine AllReadyH.cons (o := ?ozz153) ?hzz153 (fun K hK => ?kzz153) ?mzz153
                      case hzz153 => simp only [List.getElem?_toArray, List.getElem?_cons_zero, List.getElem?_cons_succ]; rfl
                      case kzz153 =>
                        go_simp
                        refine (K3.out _ nbN3 BN3.out).mono ?_
                        rintro e5 v5 ⟨rfl, q5⟩
                        replace BN5 := Lib.hid (BN5.out.q q5)
                        replace BN3 := Lib.hid (BN3.out.q q5)
                        replace BT4 := Lib.hid (BT4.out.q q5)
                        go_wp2_with fail
                        refine hK.out _ _ ?Szz153 (fun hHeld => ?Rzz153)
                        case Szz153 =>
                          exact hHeld.trans q5
                        case Rzz153 =>
                          clear hK K
                          try simp only [Act.put, List.setIfInBounds_toArray, List.set_cons_zero, List.set_cons_succ]
                          refine wpAnyH_ready (rs := [14]) (by kernel_rfl) (by simp) ?_
                          refine AllReadyH.cons (o := ?ozz152) ?hzz152 (fun K hK => ?kzz152) ?mzz152
                          case hzz152 => simp only [List.getElem?_toArray, List.getElem?_cons_zero, List.getElem?_cons_succ]; rfl
                          case kzz152 =>
                            go_simp
                            refine (K4.out _ nbT4 BT4.out).mono ?_
                            rintro e6 v6 ⟨rfl, q6⟩
                            replace BN5 := Lib.hid (BN5.out.q q6)
                            replace BN3 := Lib.hid (BN3.out.q q6)
                            replace BT4 := Lib.hid (BT4.out.q q6)
                            go_wp2_with fail
                            refine hK.out _ _ ?Szz152 (fun hHeld => ?Rzz152)
                            case Szz152 =>
                              exact hHeld.trans q6
                            case Rzz152 =>
                              clear hK K
                              try simp only [Act.put, List.setIfInBounds_toArray, List.set_cons_zero, List.set_cons_succ]
                              refine wpAnyH_take (i := 15) (oi := ?ozz147) (v := ?vzz147) ?hzz147 ?azz147 ?bzz147 ?czz147 ?qzz147 ?yzz147 ?szz147 ?rzz147
                              case hzz147 => simp only [List.getElem?_toArray, List.getElem?_cons_zero, List.getElem?_cons_succ]; rfl
                              case azz147 => kernel_rfl
                              case bzz147 => kernel_rfl
                              case czz147 => kernel_rfl
                              case yzz147 =>
                                refine Or.inl ⟨by rfl, ?_⟩
                                intro w hSw
                                skip
                                go_simp
                                try with_reducible rfl
                              case qzz147 => exact fun _ _ _ h => h
                              case szz147 => first | assumption | trivial
                              case' rzz147 => simp only [Act.put, List.setIfInBounds_toArray, List.set_cons_zero, List.set_cons_succ]
                              refine wpAnyH_ready (rs := [19]) (by kernel_rfl) (by simp) ?_
                              refine AllReadyH.cons (o := ?ozz151) ?hzz151 (fun K hK => ?kzz151) ?mzz151
                              case hzz151 => simp only [List.getElem?_toArray, List.getElem?_cons_zero, List.getElem?_cons_succ]; rfl
                              case kzz151 =>
                                go_simp
                                refine (K5.out _ nbN5 BN5.out).mono ?_
                                rintro e7 v7 ⟨rfl, q7⟩
                                replace BN5 := Lib.hid (BN5.out.q q7)
                                replace BN3 := Lib.hid (BN3.out.q q7)
                                replace BT4 := Lib.hid (BT4.out.q q7)
                                go_wp2_with fail
                                refine hK.out _ _ ?Szz151 (fun hHeld => ?Rzz151)
                                case Szz151 =>
                                  exact hHeld.trans q7
                                case Rzz151 =>
                                  clear hK K
                                  try simp only [Act.put, List.setIfInBounds_toArray, List.set_cons_zero, List.set_cons_succ]
                                  refine wpAnyH_take (i := 20) (oi := ?ozz148) (v := ?vzz148) ?hzz148 ?azz148 ?bzz148 ?czz148 ?qzz148 ?yzz148 ?szz148 ?rzz148
                                  case hzz148 => simp only [List.getElem?_toArray, List.getElem?_cons_zero, List.getElem?_cons_succ]; rfl
                                  case azz148 => kernel_rfl
                                  case bzz148 => kernel_rfl
                                  case czz148 => kernel_rfl
                                  case yzz148 =>
                                    refine Or.inl ⟨by rfl, ?_⟩
                                    intro w hSw
                                    skip
                                    go_simp
                                    try with_reducible rfl
                                  case qzz148 => exact fun _ _ _ h => h
                                  case szz148 => first | assumption | trivial
                                  case' rzz148 => simp only [Act.put, List.setIfInBounds_toArray, List.set_cons_zero, List.set_cons_succ]
                                  refine wpAnyH_take (i := 21) (oi := ?ozz149) (v := ?vzz149) ?hzz149 ?azz149 ?bzz149 ?czz149 ?qzz149 ?yzz149 ?szz149 ?rzz149
                                  case hzz149 => simp only [List.getElem?_toArray, List.getElem?_cons_zero, List.getElem?_cons_succ]; rfl
                                  case azz149 => kernel_rfl
                                  case bzz149 => kernel_rfl
                                  case czz149 => kernel_rfl
                                  case yzz149 =>
                                    refine Or.inl ⟨by rfl, ?_⟩
                                    intro w hSw
                                    skip
                                    go_simp
                                    try with_reducible rfl
                                  case qzz149 => exact fun _ _ _ h => h
                                  case szz149 => first | assumption | trivial
                                  case' rzz149 => simp only [Act.put, List.setIfInBounds_toArray, List.set_cons_zero, List.set_cons_succ]
                                  refine wpAnyH_take (i := 22) (oi := ?ozz150) (v := ?vzz150) ?hzz150 ?azz150 ?bzz150 ?czz150 ?qzz150 ?yzz150 ?szz150 ?rzz150
                                  case hzz150 => simp only [List.getElem?_toArray, List.getElem?_cons_zero, List.getElem?_cons_succ]; rfl
                                  case azz150 => kernel_rfl
                                  case bzz150 => kernel_rfl
                                  case czz150 => kernel_rfl
                                  case yzz150 =>
                                    refine Or.inl ⟨by rfl, ?_⟩
                                    intro w hSw
                                    skip
                                    go_simp
                                    try with_reducible rfl
                                  case qzz150 => exact fun _ _ _ h => h
                                  case szz150 => first | assumption | trivial
                                  case' rzz150 => simp only [Act.put, List.setIfInBounds_toArray, List.set_cons_zero, List.set_cons_succ]
                                  refine wpAnyH_done (by kernel_rfl) ?_ _
                                  go_wp2_with fail
                                  go_meet
                                  exact ⟨rfl, hHeld⟩
                              case' mzz151 => skip
                              exact AllReadyH.nil
                          case' mzz152 => skip
                          exact AllReadyH.nil
                      case' mzz153 => skip
                      exact AllReadyH.nil
                  case' mzz155 => skip
                  exact AllReadyH.nil
              case' mzz164 => skip
              refine AllReadyH.cons (o := ?ozz165) ?hzz165 (fun K hK => ?kzz165) ?mzz165
              case hzz165 => simp only [List.getElem?_toArray, List.getElem?_cons_zero, List.getElem?_cons_succ]; rfl
              case kzz165 =>
                go_simp
                have qa := (Q.refl Y20).alloc (.cells #[.string ky, .string vl, .string lo, .string hi] 9)
                have BT4 : Hid (Lst strK (Y20.alloc (.cells #[.string ky, .string vl, .string lo, .string hi] 9)) (some ⟨Y20.heap.size, 0, none⟩) 4 [ky, vl, lo, hi]) := Lib.hid (lst_lits Y20 [ky, vl, lo, hi])
                replace BN5 := Lib.hid (BN5.out.q qa)
                generalize Y20.alloc (.cells #[.string ky, .string vl, .string lo, .string hi] 9) = Y24 at qa BT4 BN5 ⊢
                generalize Y20.heap.size = nbT4 at BT4 ⊢
                refine hK.out _ _ ?Szz165 (fun hHeld => ?Rzz165)
                case Szz165 =>
                  exact hHeld.trans qa
                case Rzz165 =>
                  clear hK K
                  try simp only [Act.put, List.setIfInBounds_toArray, List.set_cons_zero, List.set_cons_succ]
                  refine wpAnyH_ready (rs := [3]) (by kernel_rfl) (by simp) ?_
                  refine AllReadyH.cons (o := ?ozz163) ?hzz163 (fun K hK => ?kzz163) ?mzz163
                  case hzz163 => simp only [List.getElem?_toArray, List.getElem?_cons_zero, List.getElem?_cons_succ]; rfl
                  case kzz163 =>
                    go_simp
                    have qa := (Q.refl Y24).alloc (.cells #[.int .i64 ok] 3)
                    have BN3 : Hid (Lst numK (Y24.alloc (.cells #[.int .i64 ok] 3)) (some ⟨Y24.heap.size, 0, none⟩) 1 [ok]) := Lib.hid (lst_litn Y24 [ok])
                    replace BN5 := Lib.hid (BN5.out.q qa)
                    replace BT4 := Lib.hid (BT4.out.q qa)
                    generalize Y24.alloc (.cells #[.int .i64 ok] 3) = Y25 at qa BN3 BN5 BT4 ⊢
                    generalize Y24.heap.size = nbN3 at BN3 ⊢
                    refine hK.out _ _ ?Szz163 (fun hHeld => ?Rzz163)
                    case Szz163 =>
                      exact hHeld.trans qa
                    case Rzz163 =>
                      clear hK K
                      try simp only [Act.put, List.setIfInBounds_toArray, List.set_cons_zero, List.set_cons_succ]
                      refine wpAnyH_ready (rs := [4]) (by kernel_rfl) (by simp) ?_
                      refine AllReadyH.cons (o := ?ozz162) ?hzz162 (fun K hK => ?kzz162) ?mzz162
                      case hzz162 => simp only [List.getElem?_toArray, List.getElem?_cons_zero, List.getElem?_cons_succ]; rfl
                      case kzz162 =>
                        go_simp
                        refine (K3.out _ nbN3 BN3.out).mono ?_
                        rintro e5 v5 ⟨rfl, q5⟩
                        replace BN5 := Lib.hid (BN5.out.q q5)
                        replace BT4 := Lib.hid (BT4.out.q q5)
                        replace BN3 := Lib.hid (BN3.out.q q5)
                        go_wp2_with fail
                        refine hK.out _ _ ?Szz162 (fun hHeld => ?Rzz162)
                        case Szz162 =>
                          exact hHeld.trans q5
                        case Rzz162 =>
                          clear hK K
                          try simp only [Act.put, List.setIfInBounds_toArray, List.set_cons_zero, List.set_cons_succ]
                          refine wpAnyH_ready (rs := [14]) (by kernel_rfl) (by simp) ?_
                          refine AllReadyH.cons (o := ?ozz161) ?hzz161 (fun K hK => ?kzz161) ?mzz161
                          case hzz161 => simp only [List.getElem?_toArray, List.getElem?_cons_zero, List.getElem?_cons_succ]; rfl
                          case kzz161 =>
                            go_simp
                            refine (K4.out _ nbT4 BT4.out).mono ?_
                            rintro e6 v6 ⟨rfl, q6⟩
                            replace BN5 := Lib.hid (BN5.out.q q6)
                            replace BT4 := Lib.hid (BT4.out.q q6)
                            replace BN3 := Lib.hid (BN3.out.q q6)
                            go_wp2_with fail
                            refine hK.out _ _ ?Szz161 (fun hHeld => ?Rzz161)
                            case Szz161 =>
                              exact hHeld.trans q6
                            case Rzz161 =>
                              clear hK K
                              try simp only [Act.put, List.setIfInBounds_toArray, List.set_cons_zero, List.set_cons_succ]
                              refine wpAnyH_take (i := 15) (oi := ?ozz156) (v := ?vzz156) ?hzz156 ?azz156 ?bzz156 ?czz156 ?qzz156 ?yzz156 ?szz156 ?rzz156
                              case hzz156 => simp only [List.getElem?_toArray, List.getElem?_cons_zero, List.getElem?_cons_succ]; rfl
                              case azz156 => kernel_rfl
                              case bzz156 => kernel_rfl
                              case czz156 => kernel_rfl
                              case yzz156 =>
                                refine Or.inl ⟨by rfl, ?_⟩
                                intro w hSw
                                skip
                                go_simp
                                try with_reducible rfl
                              case qzz156 => exact fun _ _ _ h => h
                              case szz156 => first | assumption | trivial
                              case' rzz156 => simp only [Act.put, List.setIfInBounds_toArray, List.set_cons_zero, List.set_cons_succ]
                              refine wpAnyH_ready (rs := [19]) (by kernel_rfl) (by simp) ?_
                              refine AllReadyH.cons (o := ?ozz160) ?hzz160 (fun K hK => ?kzz160) ?mzz160
                              case hzz160 => simp only [List.getElem?_toArray, List.getElem?_cons_zero, List.getElem?_cons_succ]; rfl
                              case kzz160 =>
                                go_simp
                                refine (K5.out _ nbN5 BN5.out).mono ?_
                                rintro e7 v7 ⟨rfl, q7⟩
                                replace BN5 := Lib.hid (BN5.out.q q7)
                                replace BT4 := Lib.hid (BT4.out.q q7)
                                replace BN3 := Lib.hid (BN3.out.q q7)
                                go_wp2_with fail
                                refine hK.out _ _ ?Szz160 (fun hHeld => ?Rzz160)
                                case Szz160 =>
                                  exact hHeld.trans q7
                                case Rzz160 =>
                                  clear hK K
                                  try simp only [Act.put, List.setIfInBounds_toArray, List.set_cons_zero, List.set_cons_succ]
                                  refine wpAnyH_take (i := 20) (oi := ?ozz157) (v := ?vzz157) ?hzz157 ?azz157 ?bzz157 ?czz157 ?qzz157 ?yzz157 ?szz157 ?rzz157
                                  case hzz157 => simp only [List.getElem?_toArray, List.getElem?_cons_zero, List.getElem?_cons_succ]; rfl
                                  case azz157 => kernel_rfl
                                  case bzz157 => kernel_rfl
                                  case czz157 => kernel_rfl
                                  case yzz157 =>
                                    refine Or.inl ⟨by rfl, ?_⟩
                                    intro w hSw
                                    skip
                                    go_simp
                                    try with_reducible rfl
                                  case qzz157 => exact fun _ _ _ h => h
                                  case szz157 => first | assumption | trivial
                                  case' rzz157 => simp only [Act.put, List.setIfInBounds_toArray, List.set_cons_zero, List.set_cons_succ]
                                  refine wpAnyH_take (i := 21) (oi := ?ozz158) (v := ?vzz158) ?hzz158 ?azz158 ?bzz158 ?czz158 ?qzz158 ?yzz158 ?szz158 ?rzz158
                                  case hzz158 => simp only [List.getElem?_toArray, List.getElem?_cons_zero, List.getElem?_cons_succ]; rfl
                                  case azz158 => kernel_rfl
                                  case bzz158 => kernel_rfl
                                  case czz158 => kernel_rfl
                                  case yzz158 =>
                                    refine Or.inl ⟨by rfl, ?_⟩
                                    intro w hSw
                                    skip
                                    go_simp
                                    try with_reducible rfl
                                  case qzz158 => exact fun _ _ _ h => h
                                  case szz158 => first | assumption | trivial
                                  case' rzz158 => simp only [Act.put, List.setIfInBounds_toArray, List.set_cons_zero, List.set_cons_succ]
                                  refine wpAnyH_take (i := 22) (oi := ?ozz159) (v := ?vzz159) ?hzz159 ?azz159 ?bzz159 ?czz159 ?qzz159 ?yzz159 ?szz159 ?rzz159
                                  case hzz159 => simp only [List.getElem?_toArray, List.getElem?_cons_zero, List.getElem?_cons_succ]; rfl
                                  case azz159 => kernel_rfl
                                  case bzz159 => kernel_rfl
                                  case czz159 => kernel_rfl
                                  case yzz159 =>
                                    refine Or.inl ⟨by rfl, ?_⟩
                                    intro w hSw
                                    skip
                                    go_simp
                                    try with_reducible rfl
                                  case qzz159 => exact fun _ _ _ h => h
                                  case szz159 => first | assumption | trivial
                                  case' rzz159 => simp only [Act.put, List.setIfInBounds_toArray, List.set_cons_zero, List.set_cons_succ]
                                  refine wpAnyH_done (by kernel_rfl) ?_ _
                                  go_wp2_with fail
                                  go_meet
                                  exact ⟨rfl, hHeld⟩
                              case' mzz160 => skip
                              exact AllReadyH.nil
                          case' mzz161 => skip
                          exact AllReadyH.nil
                      case' mzz162 => skip
                      exact AllReadyH.nil
                  case' mzz163 => skip
                  exact AllReadyH.nil
              case' mzz165 => skip
              exact AllReadyH.nil
          case' mzz168 => skip
          exact AllReadyH.nil
        case rest =>
          obtain ⟨rfl, q3⟩ := hcut
          go_wp2
          go_ret2
          exact ⟨by rw [HR2.out, HE.out]; rfl, QF.out.trans q3⟩
      · have hk5 : (k == 5) = false := by simpa using h5
        have HE : Hid (HD = ba (req ⟨k, e, s, n, t, ⟨ok, ky, vl, lo, hi, m⟩⟩)) := Lib.hid (by
          rw [HH.out]; unfold req reqR
          rw [if_neg h5])
        go_wp2
        go_ret2
        exact ⟨by rw [HR2.out, HE.out]; rfl, QF.out⟩
end Wi
end Go.Proofs.Ytdipikdebapmlaa
