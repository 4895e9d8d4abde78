/- For every locks and ask: who stands in the way, waits, is late, and what an ask makes of them, is as the document says. No condition. -/
import Derived.Test.YtenemdpjhoebpaaLockLaw
namespace Go.Proofs.Ytenemdpjhoebpaa.lockAsks
set_option maxRecDepth 100000
open Go.ChangeShapes Go.WideShapes Go.ChangeAt Go.RowKit Prm Lm Sm
set_option linter.unusedVariables false
set_option linter.unusedSimpArgs false

set_option maxHeartbeats 16000000 in
theorem walk (A B C D : Option Addr) (n c m d p v r s : Nat) (l t : Lo) (txn : Int) (x : Wn) (til : Nat) (N : Int) (w : World) (h : LIn w A n c B m d l) (ht : LIn w C p v D r s t) (hx : WnS x) :
    Calls Try.prog 3 #[.agg #[.slice A n c, .slice B m d, .int .i64 txn, .int .i64 x.mode, .string x.lo, .string x.hi, .int .u64 (til : Int), .int .i64 N, .slice C p v, .slice D r s]] w fun e w' => e = .returned (.bool true) ∧ Q w w' := by
  have KS := Lib.hid (fun W => lsmall_any A B n c m d W)
  by_cases hs : n ≤ 200 ∧ m ≤ 40
  · rw [Go.Proofs.Ytenemdpjhoebpaa.few hs] at KS
    have K1 := Lib.hid (fun W q => lask_any A B n c m d l txn x til W (h.held.q q) (h.queue.q q) (h.few hs.1 hs.2))
    have K2 := Lib.hid (fun W q => rask_any A B n c m d l txn x til W (h.held.q q) (h.queue.q q) hx h.loW.1 h.loW.2 (by omega) (by omega))
    have K3 := Lib.hid (fun W q => blockers_any A B n c m d l txn x N W (h.held.lst.q q) (h.queue.q q) h.loI.1 h.loI.2 (by omega) (by omega))
    have K4 := Lib.hid (fun W q => rblk_any A B n c m d l txn x N W (h.held.lst.q q) (h.queue.lst.q q) hx h.loW.1 h.loW.2 (by omega) (by omega))
    have K5 := Lib.hid (fun W q => llate_any A B n c m d l til W (h.queue.lst.q q) (by omega))
    have K6 := Lib.hid (fun W q => rlate_any A B n c m d l til W (h.queue.lst.q q) (by omega))
    have K7 := Lib.hid (fun W q => lwaits_any A B n c m d l txn W (h.queue.lst.q q) h.queue.max)
    have K8 := Lib.hid (fun W q => rwaits_any A B n c m d l txn W (h.queue.lst.q q) (by omega))
    have K9 := Lib.hid (fun W q => lsame_any A B C D n c m d p v r s l t W (h.held.lst.q q) (h.queue.lst.q q) (ht.held.lst.q q) (ht.queue.lst.q q) h.held.max h.queue.max ht.held.max ht.queue.max)
    have K10 := Lib.hid (fun W q => rsame_any A B C D n c m d p v r s l t W (h.held.lst.q q) (h.queue.lst.q q) (ht.held.lst.q q) (ht.queue.lst.q q) h.held.max h.queue.max ht.held.max ht.queue.max)
    have K11 := Lib.hid (fun W q => lsame_same A B A B n c m d n c m d l W (h.held.lst.q q) (h.queue.lst.q q) (h.held.lst.q q) (h.queue.lst.q q) h.held.max h.queue.max)
    generalize Lm.ask l txn x til = S at K1 K2
    generalize blk l txn x N.toNat = bk at K3 K4
    generalize late l til = lt at K5 K6
    generalize waits l txn = b1 at K7 K8
    generalize decide (l = t) = b2 at K9 K10
    have r1 := beq_b b1
    have r2 := beq_b b2
    unfold wnV at *
    clear h ht hs hx
    have HQ := Lib.hid (Q.refl w)
    go_enter Try.func3, Try.ntmps3
    go_upto_region 1 with (fail)
    have XI : Hid (Bx (w.alloc (.cells #[.slice A n c, .slice B m d, .int .i64 txn, .int .i64 x.mode, .string x.lo, .string x.hi, .int .u64 (til : Int), .int .i64 N, .slice C p v, .slice D r s] 30)) w.heap.size [.slice A n c, .slice B m d, .int .i64 txn, .int .i64 x.mode, .string x.lo, .string x.hi, .int .u64 (til : Int), .int .i64 N, .slice C p v, .slice D r s]) := Lib.hid (Bx.new w [.slice A n c, .slice B m d, .int .i64 txn, .int .i64 x.mode, .string x.lo, .string x.hi, .int .u64 (til : Int), .int .i64 N, .slice C p v, .slice D r s] 30)
    have HQ := Lib.hid (HQ.out.alloc (.cells #[.slice A n c, .slice B m d, .int .i64 txn, .int .i64 x.mode, .string x.lo, .string x.hi, .int .u64 (til : Int), .int .i64 N, .slice C p v, .slice D r s] 30))
    have hg0 : Hid (w.heap.size = w.heap.size) := Lib.hid rfl
    clear hg0
    generalize w.alloc (.cells #[.slice A n c, .slice B m d, .int .i64 txn, .int .i64 x.mode, .string x.lo, .string x.hi, .int .u64 (til : Int), .int .i64 N, .slice C p v, .slice D r s] 30) = W0 at XI HQ ⊢
    generalize w.heap.size = gI at XI ⊢
    have i0 := (XI.out 0 _ rfl).1
    have i1 := (XI.out 1 _ rfl).1
    have i2 := (XI.out 2 _ rfl).1
    have i3 := (XI.out 3 _ rfl).1
    have i4 := (XI.out 4 _ rfl).1
    have i5 := (XI.out 5 _ rfl).1
    have i6 := (XI.out 6 _ rfl).1
    have i7 := (XI.out 7 _ rfl).1
    have i8 := (XI.out 8 _ rfl).1
    have i9 := (XI.out 9 _ rfl).1
    go_upto_region 2 with (fail)
    clear i0 i1 i2 i3 i4 i5 i6 i7 i8 i9
    have qa := (Q.refl W0).alloc (.cells #[.slice A n c, .slice B m d] 25)
    have XI := Lib.hid (XI.out.q qa)
    have XL : Hid (Bx (W0.alloc (.cells #[.slice A n c, .slice B m d] 25)) W0.heap.size [.slice A n c, .slice B m d]) := Lib.hid (Bx.new W0 [.slice A n c, .slice B m d] 25)
    have HQ := Lib.hid (HQ.out.trans qa)
    clear qa
    generalize W0.alloc (.cells #[.slice A n c, .slice B m d] 25) = W1 at *
    generalize W0.heap.size = gXL at *
    have i0 := (XI.out 0 _ rfl).1
    have i1 := (XI.out 1 _ rfl).1
    have i2 := (XI.out 2 _ rfl).1
    have i3 := (XI.out 3 _ rfl).1
    have i4 := (XI.out 4 _ rfl).1
    have i5 := (XI.out 5 _ rfl).1
    have i6 := (XI.out 6 _ rfl).1
    have i7 := (XI.out 7 _ rfl).1
    have i8 := (XI.out 8 _ rfl).1
    have i9 := (XI.out 9 _ rfl).1
    go_upto_region 4 with (fail)
    clear i0 i1 i2 i3 i4 i5 i6 i7 i8 i9
    have qa := (Q.refl W1).alloc (.cells #[.int .i64 x.mode, .string x.lo, .string x.hi] 27)
    have XI := Lib.hid (XI.out.q qa)
    have XL := Lib.hid (XL.out.q qa)
    have XW : Hid (Bx (W1.alloc (.cells #[.int .i64 x.mode, .string x.lo, .string x.hi] 27)) W1.heap.size [.int .i64 x.mode, .string x.lo, .string x.hi]) := Lib.hid (Bx.new W1 [.int .i64 x.mode, .string x.lo, .string x.hi] 27)
    have HQ := Lib.hid (HQ.out.trans qa)
    clear qa
    generalize W1.alloc (.cells #[.int .i64 x.mode, .string x.lo, .string x.hi] 27) = W3 at *
    generalize W1.heap.size = gXW at *
    have i0 := (XI.out 0 _ rfl).1
    have i1 := (XI.out 1 _ rfl).1
    have i2 := (XI.out 2 _ rfl).1
    have i3 := (XI.out 3 _ rfl).1
    have i4 := (XI.out 4 _ rfl).1
    have i5 := (XI.out 5 _ rfl).1
    have i6 := (XI.out 6 _ rfl).1
    have i7 := (XI.out 7 _ rfl).1
    have i8 := (XI.out 8 _ rfl).1
    have i9 := (XI.out 9 _ rfl).1
    go_upto_region 7 with (fail)
    clear i0 i1 i2 i3 i4 i5 i6 i7 i8 i9
    have qa := (Q.refl W3).alloc (.cells #[.slice C p v, .slice D r s] 25)
    have XI := Lib.hid (XI.out.q qa)
    have XL := Lib.hid (XL.out.q qa)
    have XW := Lib.hid (XW.out.q qa)
    have XO : Hid (Bx (W3.alloc (.cells #[.slice C p v, .slice D r s] 25)) W3.heap.size [.slice C p v, .slice D r s]) := Lib.hid (Bx.new W3 [.slice C p v, .slice D r s] 25)
    have HQ := Lib.hid (HQ.out.trans qa)
    clear qa
    generalize W3.alloc (.cells #[.slice C p v, .slice D r s] 25) = W6 at *
    generalize W3.heap.size = gXO at *
    clear XI
    go_wp2_with fail
    refine (lshown_any _).mono ?_
    rintro e w1 ⟨rfl, q1⟩
    have XL := Lib.hid (XL.out.q q1)
    have XW := Lib.hid (XW.out.q q1)
    have XO := Lib.hid (XO.out.q q1)
    have HQ := Lib.hid (HQ.out.trans q1)
    clear q1
    obtain ⟨⟨x0, x1⟩, x2, x3⟩ := XL.out.get2
    go_wp2_with fail
    refine (KS.out _).mono ?_
    rintro e w2 ⟨rfl, q1⟩
    have XL := Lib.hid (XL.out.q q1)
    have XW := Lib.hid (XW.out.q q1)
    have XO := Lib.hid (XO.out.q q1)
    have HQ := Lib.hid (HQ.out.trans q1)
    clear q1 x0 x1 x2 x3
    obtain ⟨⟨x0, x1⟩, x2, x3⟩ := XL.out.get2
    obtain ⟨⟨y0, y1, y2⟩, y3, y4, y5⟩ := XW.out.get3
    go_wp2_with fail
    refine (K1.out _ HQ.out).mono ?_
    rintro e w4 ⟨A4, n4, c4, B4, m4, d4, rfl, o4, u4, z4⟩
    clear x0 x1 x2 x3
    clear y0 y1 y2 y3 y4 y5
    go_upto_region 12 with (fail)
    have za := z4.trans ((Q.refl w4).alloc (.cells #[.slice A4 n4 c4, .slice B4 m4 d4] 25))
    have zb := (Q.refl w4).alloc (.cells #[.slice A4 n4 c4, .slice B4 m4 d4] 25)
    have XL := Lib.hid (XL.out.q za)
    have XW := Lib.hid (XW.out.q za)
    have XO := Lib.hid (XO.out.q za)
    have O4 := Lib.hid (And.intro (o4.q zb) (u4.q zb))
    have X4 : Hid (Bx (w4.alloc (.cells #[.slice A4 n4 c4, .slice B4 m4 d4] 25)) w4.heap.size [.slice A4 n4 c4, .slice B4 m4 d4]) := Lib.hid (Bx.new w4 [.slice A4 n4 c4, .slice B4 m4 d4] 25)
    have HQ := Lib.hid (HQ.out.trans za)
    clear za zb z4 o4 u4
    generalize w4.alloc (.cells #[.slice A4 n4 c4, .slice B4 m4 d4] 25) = W4 at *
    generalize w4.heap.size = g4 at *
    obtain ⟨⟨x0, x1⟩, x2, x3⟩ := XL.out.get2
    obtain ⟨⟨y0, y1, y2⟩, y3, y4, y5⟩ := XW.out.get3
    go_wp2_with fail
    refine (K2.out _ HQ.out).mono ?_
    rintro e w5 ⟨A5, n5, c5, B5, m5, d5, rfl, o5, u5, z5⟩
    clear x0 x1 x2 x3
    clear y0 y1 y2 y3 y4 y5
    go_upto_region 13 with (fail)
    have za := z5.trans ((Q.refl w5).alloc (.cells #[.slice A5 n5 c5, .slice B5 m5 d5] 25))
    have zb := (Q.refl w5).alloc (.cells #[.slice A5 n5 c5, .slice B5 m5 d5] 25)
    have XL := Lib.hid (XL.out.q za)
    have XW := Lib.hid (XW.out.q za)
    have XO := Lib.hid (XO.out.q za)
    have X4 := Lib.hid (X4.out.q za)
    have O4 := Lib.hid (And.intro (O4.out.1.q za) (O4.out.2.q za))
    have O5 := Lib.hid (And.intro (o5.q zb) (u5.q zb))
    have X5 : Hid (Bx (w5.alloc (.cells #[.slice A5 n5 c5, .slice B5 m5 d5] 25)) w5.heap.size [.slice A5 n5 c5, .slice B5 m5 d5]) := Lib.hid (Bx.new w5 [.slice A5 n5 c5, .slice B5 m5 d5] 25)
    have HQ := Lib.hid (HQ.out.trans za)
    clear za zb z5 o5 u5
    generalize w5.alloc (.cells #[.slice A5 n5 c5, .slice B5 m5 d5] 25) = W5 at *
    generalize w5.heap.size = g5 at *
    obtain ⟨⟨a0, a1⟩, a2, a3⟩ := X4.out.get2
    obtain ⟨⟨b0, b1⟩, b2, b3⟩ := X5.out.get2
    go_wp2_with fail
    refine (rsame_same A4 B4 A5 B5 n4 c4 m4 d4 n5 c5 m5 d5 S.1 _ O4.out.1.lst O4.out.2.lst O5.out.1 O5.out.2 (Nat.le_trans O4.out.1.le O4.out.1.cap) (Nat.le_trans O4.out.2.le O4.out.2.cap)).mono ?_
    rintro e w7 ⟨rfl, q1⟩
    have XL := Lib.hid (XL.out.q q1)
    have XW := Lib.hid (XW.out.q q1)
    have XO := Lib.hid (XO.out.q q1)
    have HQ := Lib.hid (HQ.out.trans q1)
    clear q1 a0 a1 a2 a3 b0 b1 b2 b3 X4 X5 O4 O5
    obtain ⟨⟨x0, x1⟩, x2, x3⟩ := XL.out.get2
    obtain ⟨⟨y0, y1, y2⟩, y3, y4, y5⟩ := XW.out.get3
    obtain ⟨⟨t0, t1⟩, t2, t3⟩ := XO.out.get2
    go_wp2
    refine wp_region_held_drew (S := Q w7) (by kernel_rfl) ?szz46 (fun hHeld => ?rzz46)
    case szz46 =>
      exact (Q.refl w7).drew
    case' rzz46 => skip
    refine wpAnyH_take (i := 0) (oi := ?ozz47) (v := ?vzz47) ?hzz47 ?azz47 ?bzz47 ?czz47 ?qzz47 ?yzz47 ?szz47 ?rzz47
    case hzz47 => simp only [List.getElem?_toArray, List.getElem?_cons_zero]; rfl
    case azz47 => kernel_rfl
    case bzz47 => kernel_rfl
    case czz47 => kernel_rfl
    case yzz47 =>
      refine Or.inl ⟨by rfl, ?_⟩
      intro w hSw
      have z0 := box_ hSw x0; have z1 := box_ hSw x1; have z2 := box_ hSw y0; have z3 := box_ hSw y1; have z4 := box_ hSw y2; have z5 := box_ hSw t0; have z6 := box_ hSw t1; clear hSw
      go_simp
      try with_reducible rfl
    case qzz47 => exact fun _ _ _ h => h
    case szz47 => first | assumption | trivial
    case' rzz47 => simp only [Act.put, List.setIfInBounds_toArray, List.set_cons_zero, List.set_cons_succ]
    refine wpAnyH_take (i := 1) (oi := ?ozz48) (v := ?vzz48) ?hzz48 ?azz48 ?bzz48 ?czz48 ?qzz48 ?yzz48 ?szz48 ?rzz48
    case hzz48 => simp only [List.getElem?_toArray, List.getElem?_cons_zero, List.getElem?_cons_succ]; rfl
    case azz48 => kernel_rfl
    case bzz48 => kernel_rfl
    case czz48 => kernel_rfl
    case yzz48 =>
      refine Or.inl ⟨by rfl, ?_⟩
      intro w hSw
      skip
      go_simp
      try with_reducible rfl
    case qzz48 => exact fun _ _ _ h => h
    case szz48 => first | assumption | trivial
    case' rzz48 => simp only [Act.put, List.setIfInBounds_toArray, List.set_cons_zero, List.set_cons_succ]
    refine wpAnyH_take (i := 2) (oi := ?ozz49) (v := ?vzz49) ?hzz49 ?azz49 ?bzz49 ?czz49 ?qzz49 ?yzz49 ?szz49 ?rzz49
    case hzz49 => simp only [List.getElem?_toArray, List.getElem?_cons_zero, List.getElem?_cons_succ]; rfl
    case azz49 => kernel_rfl
    case bzz49 => kernel_rfl
    case czz49 => kernel_rfl
    case yzz49 =>
      refine Or.inl ⟨by rfl, ?_⟩
      intro w hSw
      have z0 := box_ hSw x0; have z1 := box_ hSw x1; have z2 := box_ hSw y0; have z3 := box_ hSw y1; have z4 := box_ hSw y2; have z5 := box_ hSw t0; have z6 := box_ hSw t1; clear hSw
      go_simp
      try with_reducible rfl
    case qzz49 => exact fun _ _ _ h => h
    case szz49 => first | assumption | trivial
    case' rzz49 => simp only [Act.put, List.setIfInBounds_toArray, List.set_cons_zero, List.set_cons_succ]
    refine wpAnyH_take (i := 3) (oi := ?ozz50) (v := ?vzz50) ?hzz50 ?azz50 ?bzz50 ?czz50 ?qzz50 ?yzz50 ?szz50 ?rzz50
    case hzz50 => simp only [List.getElem?_toArray, List.getElem?_cons_zero, List.getElem?_cons_succ]; rfl
    case azz50 => kernel_rfl
    case bzz50 => kernel_rfl
    case czz50 => kernel_rfl
    case yzz50 =>
      refine Or.inl ⟨by rfl, ?_⟩
      intro w hSw
      skip
      go_simp
      try with_reducible rfl
    case qzz50 => exact fun _ _ _ h => h
    case szz50 => first | assumption | trivial
    case' rzz50 => simp only [Act.put, List.setIfInBounds_toArray, List.set_cons_zero, List.set_cons_succ]
    refine wpAnyH_take (i := 5) (oi := ?ozz51) (v := ?vzz51) ?hzz51 ?azz51 ?bzz51 ?czz51 ?qzz51 ?yzz51 ?szz51 ?rzz51
    case hzz51 => simp only [List.getElem?_toArray, List.getElem?_cons_zero, List.getElem?_cons_succ]; rfl
    case azz51 => kernel_rfl
    case bzz51 => kernel_rfl
    case czz51 => kernel_rfl
    case yzz51 =>
      refine Or.inl ⟨by rfl, ?_⟩
      intro w hSw
      have z0 := box_ hSw x0; have z1 := box_ hSw x1; have z2 := box_ hSw y0; have z3 := box_ hSw y1; have z4 := box_ hSw y2; have z5 := box_ hSw t0; have z6 := box_ hSw t1; clear hSw
      go_simp
      try with_reducible rfl
    case qzz51 => exact fun _ _ _ h => h
    case szz51 => first | assumption | trivial
    case' rzz51 => simp only [Act.put, List.setIfInBounds_toArray, List.set_cons_zero, List.set_cons_succ]
    refine wpAnyH_take (i := 6) (oi := ?ozz52) (v := ?vzz52) ?hzz52 ?azz52 ?bzz52 ?czz52 ?qzz52 ?yzz52 ?szz52 ?rzz52
    case hzz52 => simp only [List.getElem?_toArray, List.getElem?_cons_zero, List.getElem?_cons_succ]; rfl
    case azz52 => kernel_rfl
    case bzz52 => kernel_rfl
    case czz52 => kernel_rfl
    case yzz52 =>
      refine Or.inl ⟨by rfl, ?_⟩
      intro w hSw
      skip
      go_simp
      try with_reducible rfl
    case qzz52 => exact fun _ _ _ h => h
    case szz52 => first | assumption | trivial
    case' rzz52 => simp only [Act.put, List.setIfInBounds_toArray, List.set_cons_zero, List.set_cons_succ]
    refine wpAnyH_take (i := 7) (oi := ?ozz53) (v := ?vzz53) ?hzz53 ?azz53 ?bzz53 ?czz53 ?qzz53 ?yzz53 ?szz53 ?rzz53
    case hzz53 => simp only [List.getElem?_toArray, List.getElem?_cons_zero, List.getElem?_cons_succ]; rfl
    case azz53 => kernel_rfl
    case bzz53 => kernel_rfl
    case czz53 => kernel_rfl
    case yzz53 =>
      refine Or.inl ⟨by rfl, ?_⟩
      intro w hSw
      have z0 := box_ hSw x0; have z1 := box_ hSw x1; have z2 := box_ hSw y0; have z3 := box_ hSw y1; have z4 := box_ hSw y2; have z5 := box_ hSw t0; have z6 := box_ hSw t1; clear hSw
      go_simp
      try with_reducible rfl
    case qzz53 => exact fun _ _ _ h => h
    case szz53 => first | assumption | trivial
    case' rzz53 => simp only [Act.put, List.setIfInBounds_toArray, List.set_cons_zero, List.set_cons_succ]
    refine wpAnyH_take (i := 8) (oi := ?ozz54) (v := ?vzz54) ?hzz54 ?azz54 ?bzz54 ?czz54 ?qzz54 ?yzz54 ?szz54 ?rzz54
    case hzz54 => simp only [List.getElem?_toArray, List.getElem?_cons_zero, List.getElem?_cons_succ]; rfl
    case azz54 => kernel_rfl
    case bzz54 => kernel_rfl
    case czz54 => kernel_rfl
    case yzz54 =>
      refine Or.inl ⟨by rfl, ?_⟩
      intro w hSw
      skip
      go_simp
      try with_reducible rfl
    case qzz54 => exact fun _ _ _ h => h
    case szz54 => first | assumption | trivial
    case' rzz54 => simp only [Act.put, List.setIfInBounds_toArray, List.set_cons_zero, List.set_cons_succ]
    refine wpAnyH_ready (rs := [4]) (by kernel_rfl) (by simp) ?_
    refine AllReadyH.cons (o := ?ozz58) ?hzz58 (fun K hK => ?kzz58) ?mzz58
    case hzz58 => simp only [List.getElem?_toArray, List.getElem?_cons_zero, List.getElem?_cons_succ]; rfl
    case kzz58 =>
      go_simp
      refine (K3.out _ (HQ.out.trans hHeld)).mono ?_
      rintro e u1 ⟨A7, c7, rfl, o7, q7⟩
      go_wp2_with fail
      refine hK.out _ _ ?Szz58 (fun hHeld => ?Rzz58)
      case Szz58 =>
        exact hHeld.trans q7
      case Rzz58 =>
        clear hK K
        try simp only [Act.put, List.setIfInBounds_toArray, List.set_cons_zero, List.set_cons_succ]
        refine wpAnyH_ready (rs := [9]) (by kernel_rfl) (by simp) ?_
        refine AllReadyH.cons (o := ?ozz57) ?hzz57 (fun K hK => ?kzz57) ?mzz57
        case hzz57 => simp only [List.getElem?_toArray, List.getElem?_cons_zero, List.getElem?_cons_succ]; rfl
        case kzz57 =>
          go_simp
          refine (K4.out _ (HQ.out.trans hHeld)).mono ?_
          rintro e u2 ⟨A8, c8, rfl, o8, q8⟩
          go_wp2_with fail
          refine hK.out _ _ ?Szz57 (fun hHeld => ?Rzz57)
          case Szz57 =>
            exact hHeld.trans q8
          case Rzz57 =>
            clear hK K
            try simp only [Act.put, List.setIfInBounds_toArray, List.set_cons_zero, List.set_cons_succ]
            refine wpAnyH_ready (rs := [10]) (by kernel_rfl) (by simp) ?_
            refine AllReadyH.cons (o := ?ozz56) ?hzz56 (fun K hK => ?kzz56) ?mzz56
            case hzz56 => simp only [List.getElem?_toArray, List.getElem?_cons_zero, List.getElem?_cons_succ]; rfl
            case kzz56 =>
              go_simp
              refine (rints_same _ _ _ _ _ _ bk _ (o7.lst.q q8) o8.lst (Nat.le_trans o7.le o7.cap)).mono ?_
              rintro e u3 ⟨rfl, qx⟩
              go_wp2_with fail
              refine hK.out _ _ ?Szz56 (fun hHeld => ?Rzz56)
              case Szz56 =>
                exact hHeld.trans qx
              case Rzz56 =>
                clear hK K
                try simp only [Act.put, List.setIfInBounds_toArray, List.set_cons_zero, List.set_cons_succ]
                refine wpAnyH_take (i := 11) (oi := ?ozz55) (v := ?vzz55) ?hzz55 ?azz55 ?bzz55 ?czz55 ?qzz55 ?yzz55 ?szz55 ?rzz55
                case hzz55 => simp only [List.getElem?_toArray, List.getElem?_cons_zero, List.getElem?_cons_succ]; rfl
                case azz55 => kernel_rfl
                case bzz55 => kernel_rfl
                case czz55 => kernel_rfl
                case yzz55 =>
                  refine Or.inl ⟨by rfl, ?_⟩
                  intro w hSw
                  skip
                  go_simp
                  try with_reducible rfl
                case qzz55 => exact fun _ _ _ h => h
                case szz55 => first | assumption | trivial
                case' rzz55 => simp only [Act.put, List.setIfInBounds_toArray, List.set_cons_zero, List.set_cons_succ]
                refine wpAnyH_done (by kernel_rfl) ?_ _
                have hq0 := hHeld
                have XL := Lib.hid (XL.out.q hq0)
                have XW := Lib.hid (XW.out.q hq0)
                have XO := Lib.hid (XO.out.q hq0)
                have HQ := Lib.hid (HQ.out.trans hq0)
                clear hHeld hq0
                clear x0 x1 x2 x3
                clear y0 y1 y2 y3 y4 y5
                clear t0 t1 t2 t3
                obtain ⟨⟨x0, x1⟩, x2, x3⟩ := XL.out.get2
                obtain ⟨⟨y0, y1, y2⟩, y3, y4, y5⟩ := XW.out.get3
                obtain ⟨⟨t0, t1⟩, t2, t3⟩ := XO.out.get2
                go_wp2
                refine wp_region_held_drew (S := Q u3) (by kernel_rfl) ?szz37 (fun hHeld => ?rzz37)
                case szz37 =>
                  exact (Q.refl u3).drew
                case' rzz37 => skip
                refine wpAnyH_take (i := 0) (oi := ?ozz38) (v := ?vzz38) ?hzz38 ?azz38 ?bzz38 ?czz38 ?qzz38 ?yzz38 ?szz38 ?rzz38
                case hzz38 => simp only [List.getElem?_toArray, List.getElem?_cons_zero]; rfl
                case azz38 => kernel_rfl
                case bzz38 => kernel_rfl
                case czz38 => kernel_rfl
                case yzz38 =>
                  refine Or.inl ⟨by rfl, ?_⟩
                  intro w hSw
                  have z0 := box_ hSw x0; have z1 := box_ hSw x1; have z2 := box_ hSw y0; have z3 := box_ hSw y1; have z4 := box_ hSw y2; have z5 := box_ hSw t0; have z6 := box_ hSw t1; clear hSw
                  go_simp
                  try with_reducible rfl
                case qzz38 => exact fun _ _ _ h => h
                case szz38 => first | assumption | trivial
                case' rzz38 => simp only [Act.put, List.setIfInBounds_toArray, List.set_cons_zero, List.set_cons_succ]
                refine wpAnyH_take (i := 1) (oi := ?ozz39) (v := ?vzz39) ?hzz39 ?azz39 ?bzz39 ?czz39 ?qzz39 ?yzz39 ?szz39 ?rzz39
                case hzz39 => simp only [List.getElem?_toArray, List.getElem?_cons_zero, List.getElem?_cons_succ]; rfl
                case azz39 => kernel_rfl
                case bzz39 => kernel_rfl
                case czz39 => kernel_rfl
                case yzz39 =>
                  refine Or.inl ⟨by rfl, ?_⟩
                  intro w hSw
                  skip
                  go_simp
                  try with_reducible rfl
                case qzz39 => exact fun _ _ _ h => h
                case szz39 => first | assumption | trivial
                case' rzz39 => simp only [Act.put, List.setIfInBounds_toArray, List.set_cons_zero, List.set_cons_succ]
                refine wpAnyH_take (i := 3) (oi := ?ozz40) (v := ?vzz40) ?hzz40 ?azz40 ?bzz40 ?czz40 ?qzz40 ?yzz40 ?szz40 ?rzz40
                case hzz40 => simp only [List.getElem?_toArray, List.getElem?_cons_zero, List.getElem?_cons_succ]; rfl
                case azz40 => kernel_rfl
                case bzz40 => kernel_rfl
                case czz40 => kernel_rfl
                case yzz40 =>
                  refine Or.inl ⟨by rfl, ?_⟩
                  intro w hSw
                  have z0 := box_ hSw x0; have z1 := box_ hSw x1; have z2 := box_ hSw y0; have z3 := box_ hSw y1; have z4 := box_ hSw y2; have z5 := box_ hSw t0; have z6 := box_ hSw t1; clear hSw
                  go_simp
                  try with_reducible rfl
                case qzz40 => exact fun _ _ _ h => h
                case szz40 => first | assumption | trivial
                case' rzz40 => simp only [Act.put, List.setIfInBounds_toArray, List.set_cons_zero, List.set_cons_succ]
                refine wpAnyH_take (i := 4) (oi := ?ozz41) (v := ?vzz41) ?hzz41 ?azz41 ?bzz41 ?czz41 ?qzz41 ?yzz41 ?szz41 ?rzz41
                case hzz41 => simp only [List.getElem?_toArray, List.getElem?_cons_zero, List.getElem?_cons_succ]; rfl
                case azz41 => kernel_rfl
                case bzz41 => kernel_rfl
                case czz41 => kernel_rfl
                case yzz41 =>
                  refine Or.inl ⟨by rfl, ?_⟩
                  intro w hSw
                  skip
                  go_simp
                  try with_reducible rfl
                case qzz41 => exact fun _ _ _ h => h
                case szz41 => first | assumption | trivial
                case' rzz41 => simp only [Act.put, List.setIfInBounds_toArray, List.set_cons_zero, List.set_cons_succ]
                refine wpAnyH_ready (rs := [2]) (by kernel_rfl) (by simp) ?_
                refine AllReadyH.cons (o := ?ozz45) ?hzz45 (fun K hK => ?kzz45) ?mzz45
                case hzz45 => simp only [List.getElem?_toArray, List.getElem?_cons_zero, List.getElem?_cons_succ]; rfl
                case kzz45 =>
                  go_simp
                  refine (K5.out _ (HQ.out.trans hHeld)).mono ?_
                  rintro e s1 ⟨A9, c9, rfl, o9, q9⟩
                  go_wp2_with fail
                  refine hK.out _ _ ?Szz45 (fun hHeld => ?Rzz45)
                  case Szz45 =>
                    exact hHeld.trans q9
                  case Rzz45 =>
                    clear hK K
                    try simp only [Act.put, List.setIfInBounds_toArray, List.set_cons_zero, List.set_cons_succ]
                    refine wpAnyH_ready (rs := [5]) (by kernel_rfl) (by simp) ?_
                    refine AllReadyH.cons (o := ?ozz44) ?hzz44 (fun K hK => ?kzz44) ?mzz44
                    case hzz44 => simp only [List.getElem?_toArray, List.getElem?_cons_zero, List.getElem?_cons_succ]; rfl
                    case kzz44 =>
                      go_simp
                      refine (K6.out _ (HQ.out.trans hHeld)).mono ?_
                      rintro e s2 ⟨Aa, ca, rfl, oa, qa⟩
                      go_wp2_with fail
                      refine hK.out _ _ ?Szz44 (fun hHeld => ?Rzz44)
                      case Szz44 =>
                        exact hHeld.trans qa
                      case Rzz44 =>
                        clear hK K
                        try simp only [Act.put, List.setIfInBounds_toArray, List.set_cons_zero, List.set_cons_succ]
                        refine wpAnyH_ready (rs := [6]) (by kernel_rfl) (by simp) ?_
                        refine AllReadyH.cons (o := ?ozz43) ?hzz43 (fun K hK => ?kzz43) ?mzz43
                        case hzz43 => simp only [List.getElem?_toArray, List.getElem?_cons_zero, List.getElem?_cons_succ]; rfl
                        case kzz43 =>
                          go_simp
                          refine (rints_same _ _ _ _ _ _ lt _ (o9.lst.q qa) oa.lst (Nat.le_trans o9.le o9.cap)).mono ?_
                          rintro e s3 ⟨rfl, qb⟩
                          go_wp2_with fail
                          refine hK.out _ _ ?Szz43 (fun hHeld => ?Rzz43)
                          case Szz43 =>
                            exact hHeld.trans qb
                          case Rzz43 =>
                            clear hK K
                            try simp only [Act.put, List.setIfInBounds_toArray, List.set_cons_zero, List.set_cons_succ]
                            refine wpAnyH_take (i := 7) (oi := ?ozz42) (v := ?vzz42) ?hzz42 ?azz42 ?bzz42 ?czz42 ?qzz42 ?yzz42 ?szz42 ?rzz42
                            case hzz42 => simp only [List.getElem?_toArray, List.getElem?_cons_zero, List.getElem?_cons_succ]; rfl
                            case azz42 => kernel_rfl
                            case bzz42 => kernel_rfl
                            case czz42 => kernel_rfl
                            case yzz42 =>
                              refine Or.inl ⟨by rfl, ?_⟩
                              intro w hSw
                              skip
                              go_simp
                              try with_reducible rfl
                            case qzz42 => exact fun _ _ _ h => h
                            case szz42 => first | assumption | trivial
                            case' rzz42 => simp only [Act.put, List.setIfInBounds_toArray, List.set_cons_zero, List.set_cons_succ]
                            refine wpAnyH_done (by kernel_rfl) ?_ _
                            have hq0 := hHeld
                            have XL := Lib.hid (XL.out.q hq0)
                            have XW := Lib.hid (XW.out.q hq0)
                            have XO := Lib.hid (XO.out.q hq0)
                            have HQ := Lib.hid (HQ.out.trans hq0)
                            clear hHeld hq0
                            clear x0 x1 x2 x3
                            clear y0 y1 y2 y3 y4 y5
                            clear t0 t1 t2 t3
                            obtain ⟨⟨x0, x1⟩, x2, x3⟩ := XL.out.get2
                            obtain ⟨⟨y0, y1, y2⟩, y3, y4, y5⟩ := XW.out.get3
                            obtain ⟨⟨t0, t1⟩, t2, t3⟩ := XO.out.get2
                            go_wp2
                            refine wp_region_held_drew (S := Q s3) (by kernel_rfl) ?szz0 (fun hHeld => ?rzz0)
                            case szz0 =>
                              exact (Q.refl s3).drew
                            case' rzz0 => skip
                            refine wpAnyH_take (i := 0) (oi := ?ozz1) (v := ?vzz1) ?hzz1 ?azz1 ?bzz1 ?czz1 ?qzz1 ?yzz1 ?szz1 ?rzz1
                            case hzz1 => simp only [List.getElem?_toArray, List.getElem?_cons_zero]; rfl
                            case azz1 => kernel_rfl
                            case bzz1 => kernel_rfl
                            case czz1 => kernel_rfl
                            case yzz1 =>
                              refine Or.inl ⟨by rfl, ?_⟩
                              intro w hSw
                              skip
                              go_simp
                              try with_reducible rfl
                            case qzz1 => exact fun _ _ _ h => h
                            case szz1 => first | assumption | trivial
                            case' rzz1 => simp only [Act.put, List.setIfInBounds_toArray, List.set_cons_zero, List.set_cons_succ]
                            refine wpAnyH_take (i := 1) (oi := ?ozz2) (v := ?vzz2) ?hzz2 ?azz2 ?bzz2 ?czz2 ?qzz2 ?yzz2 ?szz2 ?rzz2
                            case hzz2 => simp only [List.getElem?_toArray, List.getElem?_cons_zero, List.getElem?_cons_succ]; rfl
                            case azz2 => kernel_rfl
                            case bzz2 => kernel_rfl
                            case czz2 => kernel_rfl
                            case yzz2 =>
                              refine Or.inl ⟨by rfl, ?_⟩
                              intro w hSw
                              skip
                              go_simp
                              try with_reducible rfl
                            case qzz2 => exact fun _ _ _ h => h
                            case szz2 => first | assumption | trivial
                            case' rzz2 => simp only [Act.put, List.setIfInBounds_toArray, List.set_cons_zero, List.set_cons_succ]
                            refine wpAnyH_take (i := 2) (oi := ?ozz3) (v := ?vzz3) ?hzz3 ?azz3 ?bzz3 ?czz3 ?qzz3 ?yzz3 ?szz3 ?rzz3
                            case hzz3 => simp only [List.getElem?_toArray, List.getElem?_cons_zero, List.getElem?_cons_succ]; rfl
                            case azz3 => kernel_rfl
                            case bzz3 => kernel_rfl
                            case czz3 => kernel_rfl
                            case yzz3 =>
                              refine Or.inl ⟨by rfl, ?_⟩
                              intro w hSw
                              skip
                              go_simp
                              try with_reducible rfl
                            case qzz3 => exact fun _ _ _ h => h
                            case szz3 => first | assumption | trivial
                            case' rzz3 => simp only [Act.put, List.setIfInBounds_toArray, List.set_cons_zero, List.set_cons_succ]
                            refine wpAnyH_take (i := 3) (oi := ?ozz4) (v := ?vzz4) ?hzz4 ?azz4 ?bzz4 ?czz4 ?qzz4 ?yzz4 ?szz4 ?rzz4
                            case hzz4 => simp only [List.getElem?_toArray, List.getElem?_cons_zero, List.getElem?_cons_succ]; rfl
                            case azz4 => kernel_rfl
                            case bzz4 => kernel_rfl
                            case czz4 => kernel_rfl
                            case yzz4 =>
                              refine Or.inl ⟨by rfl, ?_⟩
                              intro w hSw
                              skip
                              go_simp
                              try with_reducible rfl
                            case qzz4 => exact fun _ _ _ h => h
                            case szz4 => first | assumption | trivial
                            case' rzz4 => simp only [Act.put, List.setIfInBounds_toArray, List.set_cons_zero, List.set_cons_succ]
                            refine wpAnyH_take (i := 4) (oi := ?ozz5) (v := ?vzz5) ?hzz5 ?azz5 ?bzz5 ?czz5 ?qzz5 ?yzz5 ?szz5 ?rzz5
                            case hzz5 => simp only [List.getElem?_toArray, List.getElem?_cons_zero, List.getElem?_cons_succ]; rfl
                            case azz5 => kernel_rfl
                            case bzz5 => kernel_rfl
                            case czz5 => kernel_rfl
                            case yzz5 =>
                              refine Or.inl ⟨by rfl, ?_⟩
                              intro w hSw
                              skip
                              go_simp
                              try with_reducible rfl
                            case qzz5 => exact fun _ _ _ h => h
                            case szz5 => first | assumption | trivial
                            case' rzz5 => simp only [Act.put, List.setIfInBounds_toArray, List.set_cons_zero, List.set_cons_succ]
                            refine wpAnyH_take (i := 5) (oi := ?ozz6) (v := ?vzz6) ?hzz6 ?azz6 ?bzz6 ?czz6 ?qzz6 ?yzz6 ?szz6 ?rzz6
                            case hzz6 => simp only [List.getElem?_toArray, List.getElem?_cons_zero, List.getElem?_cons_succ]; rfl
                            case azz6 => kernel_rfl
                            case bzz6 => kernel_rfl
                            case czz6 => kernel_rfl
                            case yzz6 =>
                              refine Or.inl ⟨by rfl, ?_⟩
                              intro w hSw
                              skip
                              go_simp
                              try with_reducible rfl
                            case qzz6 => exact fun _ _ _ h => h
                            case szz6 => first | assumption | trivial
                            case' rzz6 => simp only [Act.put, List.setIfInBounds_toArray, List.set_cons_zero, List.set_cons_succ]
                            refine wpAnyH_take (i := 6) (oi := ?ozz7) (v := ?vzz7) ?hzz7 ?azz7 ?bzz7 ?czz7 ?qzz7 ?yzz7 ?szz7 ?rzz7
                            case hzz7 => simp only [List.getElem?_toArray, List.getElem?_cons_zero, List.getElem?_cons_succ]; rfl
                            case azz7 => kernel_rfl
                            case bzz7 => kernel_rfl
                            case czz7 => kernel_rfl
                            case yzz7 =>
                              refine Or.inl ⟨by rfl, ?_⟩
                              intro w hSw
                              skip
                              go_simp
                              try with_reducible rfl
                            case qzz7 => exact fun _ _ _ h => h
                            case szz7 => first | assumption | trivial
                            case' rzz7 => simp only [Act.put, List.setIfInBounds_toArray, List.set_cons_zero, List.set_cons_succ]
                            refine wpAnyH_take (i := 7) (oi := ?ozz8) (v := ?vzz8) ?hzz8 ?azz8 ?bzz8 ?czz8 ?qzz8 ?yzz8 ?szz8 ?rzz8
                            case hzz8 => simp only [List.getElem?_toArray, List.getElem?_cons_zero, List.getElem?_cons_succ]; rfl
                            case azz8 => kernel_rfl
                            case bzz8 => kernel_rfl
                            case czz8 => kernel_rfl
                            case yzz8 =>
                              refine Or.inl ⟨by rfl, ?_⟩
                              intro w hSw
                              skip
                              go_simp
                              try with_reducible rfl
                            case qzz8 => exact fun _ _ _ h => h
                            case szz8 => first | assumption | trivial
                            case' rzz8 => simp only [Act.put, List.setIfInBounds_toArray, List.set_cons_zero, List.set_cons_succ]
                            refine wpAnyH_take (i := 8) (oi := ?ozz9) (v := ?vzz9) ?hzz9 ?azz9 ?bzz9 ?czz9 ?qzz9 ?yzz9 ?szz9 ?rzz9
                            case hzz9 => simp only [List.getElem?_toArray, List.getElem?_cons_zero, List.getElem?_cons_succ]; rfl
                            case azz9 => kernel_rfl
                            case bzz9 => kernel_rfl
                            case czz9 => kernel_rfl
                            case yzz9 =>
                              refine Or.inl ⟨by rfl, ?_⟩
                              intro w hSw
                              skip
                              go_simp
                              try with_reducible rfl
                            case qzz9 => exact fun _ _ _ h => h
                            case szz9 => first | assumption | trivial
                            case' rzz9 => simp only [Act.put, List.setIfInBounds_toArray, List.set_cons_zero, List.set_cons_succ]
                            refine wpAnyH_take (i := 9) (oi := ?ozz10) (v := ?vzz10) ?hzz10 ?azz10 ?bzz10 ?czz10 ?qzz10 ?yzz10 ?szz10 ?rzz10
                            case hzz10 => simp only [List.getElem?_toArray, List.getElem?_cons_zero, List.getElem?_cons_succ]; rfl
                            case azz10 => kernel_rfl
                            case bzz10 => kernel_rfl
                            case czz10 => kernel_rfl
                            case yzz10 =>
                              refine Or.inl ⟨by rfl, ?_⟩
                              intro w hSw
                              skip
                              go_simp
                              try with_reducible rfl
                            case qzz10 => exact fun _ _ _ h => h
                            case szz10 => first | assumption | trivial
                            case' rzz10 => simp only [Act.put, List.setIfInBounds_toArray, List.set_cons_zero, List.set_cons_succ]
                            refine wpAnyH_take (i := 10) (oi := ?ozz11) (v := ?vzz11) ?hzz11 ?azz11 ?bzz11 ?czz11 ?qzz11 ?yzz11 ?szz11 ?rzz11
                            case hzz11 => simp only [List.getElem?_toArray, List.getElem?_cons_zero, List.getElem?_cons_succ]; rfl
                            case azz11 => kernel_rfl
                            case bzz11 => kernel_rfl
                            case czz11 => kernel_rfl
                            case yzz11 =>
                              refine Or.inl ⟨by rfl, ?_⟩
                              intro w hSw
                              skip
                              go_simp
                              try with_reducible rfl
                            case qzz11 => exact fun _ _ _ h => h
                            case szz11 => first | assumption | trivial
                            case' rzz11 => simp only [Act.put, List.setIfInBounds_toArray, List.set_cons_zero, List.set_cons_succ]
                            refine wpAnyH_take (i := 11) (oi := ?ozz12) (v := ?vzz12) ?hzz12 ?azz12 ?bzz12 ?czz12 ?qzz12 ?yzz12 ?szz12 ?rzz12
                            case hzz12 => simp only [List.getElem?_toArray, List.getElem?_cons_zero, List.getElem?_cons_succ]; rfl
                            case azz12 => kernel_rfl
                            case bzz12 => kernel_rfl
                            case czz12 => kernel_rfl
                            case yzz12 =>
                              refine Or.inl ⟨by rfl, ?_⟩
                              intro w hSw
                              skip
                              go_simp
                              try with_reducible rfl
                            case qzz12 => exact fun _ _ _ h => h
                            case szz12 => first | assumption | trivial
                            case' rzz12 => simp only [Act.put, List.setIfInBounds_toArray, List.set_cons_zero, List.set_cons_succ]
                            refine wpAnyH_take (i := 12) (oi := ?ozz13) (v := ?vzz13) ?hzz13 ?azz13 ?bzz13 ?czz13 ?qzz13 ?yzz13 ?szz13 ?rzz13
                            case hzz13 => simp only [List.getElem?_toArray, List.getElem?_cons_zero, List.getElem?_cons_succ]; rfl
                            case azz13 => kernel_rfl
                            case bzz13 => kernel_rfl
                            case czz13 => kernel_rfl
                            case yzz13 =>
                              refine Or.inl ⟨by rfl, ?_⟩
                              intro w hSw
                              skip
                              go_simp
                              try with_reducible rfl
                            case qzz13 => exact fun _ _ _ h => h
                            case szz13 => first | assumption | trivial
                            case' rzz13 => simp only [Act.put, List.setIfInBounds_toArray, List.set_cons_zero, List.set_cons_succ]
                            refine wpAnyH_take (i := 13) (oi := ?ozz14) (v := ?vzz14) ?hzz14 ?azz14 ?bzz14 ?czz14 ?qzz14 ?yzz14 ?szz14 ?rzz14
                            case hzz14 => simp only [List.getElem?_toArray, List.getElem?_cons_zero, List.getElem?_cons_succ]; rfl
                            case azz14 => kernel_rfl
                            case bzz14 => kernel_rfl
                            case czz14 => kernel_rfl
                            case yzz14 =>
                              refine Or.inl ⟨by rfl, ?_⟩
                              intro w hSw
                              have z0 := box_ hSw x0; have z1 := box_ hSw x1; have z2 := box_ hSw y0; have z3 := box_ hSw y1; have z4 := box_ hSw y2; have z5 := box_ hSw t0; have z6 := box_ hSw t1; clear hSw
                              go_simp
                              try with_reducible rfl
                            case qzz14 => exact fun _ _ _ h => h
                            case szz14 => first | assumption | trivial
                            case' rzz14 => simp only [Act.put, List.setIfInBounds_toArray, List.set_cons_zero, List.set_cons_succ]
                            refine wpAnyH_take (i := 14) (oi := ?ozz15) (v := ?vzz15) ?hzz15 ?azz15 ?bzz15 ?czz15 ?qzz15 ?yzz15 ?szz15 ?rzz15
                            case hzz15 => simp only [List.getElem?_toArray, List.getElem?_cons_zero, List.getElem?_cons_succ]; rfl
                            case azz15 => kernel_rfl
                            case bzz15 => kernel_rfl
                            case czz15 => kernel_rfl
                            case yzz15 =>
                              refine Or.inl ⟨by rfl, ?_⟩
                              intro w hSw
                              skip
                              go_simp
                              try with_reducible rfl
                            case qzz15 => exact fun _ _ _ h => h
                            case szz15 => first | assumption | trivial
                            case' rzz15 => simp only [Act.put, List.setIfInBounds_toArray, List.set_cons_zero, List.set_cons_succ]
                            refine wpAnyH_take (i := 16) (oi := ?ozz16) (v := ?vzz16) ?hzz16 ?azz16 ?bzz16 ?czz16 ?qzz16 ?yzz16 ?szz16 ?rzz16
                            case hzz16 => simp only [List.getElem?_toArray, List.getElem?_cons_zero, List.getElem?_cons_succ]; rfl
                            case azz16 => kernel_rfl
                            case bzz16 => kernel_rfl
                            case czz16 => kernel_rfl
                            case yzz16 =>
                              refine Or.inl ⟨by rfl, ?_⟩
                              intro w hSw
                              have z0 := box_ hSw x0; have z1 := box_ hSw x1; have z2 := box_ hSw y0; have z3 := box_ hSw y1; have z4 := box_ hSw y2; have z5 := box_ hSw t0; have z6 := box_ hSw t1; clear hSw
                              go_simp
                              try with_reducible rfl
                            case qzz16 => exact fun _ _ _ h => h
                            case szz16 => first | assumption | trivial
                            case' rzz16 => simp only [Act.put, List.setIfInBounds_toArray, List.set_cons_zero, List.set_cons_succ]
                            refine wpAnyH_take (i := 17) (oi := ?ozz17) (v := ?vzz17) ?hzz17 ?azz17 ?bzz17 ?czz17 ?qzz17 ?yzz17 ?szz17 ?rzz17
                            case hzz17 => simp only [List.getElem?_toArray, List.getElem?_cons_zero, List.getElem?_cons_succ]; rfl
                            case azz17 => kernel_rfl
                            case bzz17 => kernel_rfl
                            case czz17 => kernel_rfl
                            case yzz17 =>
                              refine Or.inl ⟨by rfl, ?_⟩
                              intro w hSw
                              skip
                              go_simp
                              try with_reducible rfl
                            case qzz17 => exact fun _ _ _ h => h
                            case szz17 => first | assumption | trivial
                            case' rzz17 => simp only [Act.put, List.setIfInBounds_toArray, List.set_cons_zero, List.set_cons_succ]
                            refine wpAnyH_ready (rs := [15]) (by kernel_rfl) (by simp) ?_
                            refine AllReadyH.cons (o := ?ozz36) ?hzz36 (fun K hK => ?kzz36) ?mzz36
                            case hzz36 => simp only [List.getElem?_toArray, List.getElem?_cons_zero, List.getElem?_cons_succ]; rfl
                            case kzz36 =>
                              go_simp
                              refine (K7.out _ (HQ.out.trans hHeld)).mono ?_
                              rintro e r1 ⟨rfl, q7⟩
                              go_wp2_with fail
                              refine hK.out _ _ ?Szz36 (fun hHeld => ?Rzz36)
                              case Szz36 =>
                                exact hHeld.trans q7
                              case Rzz36 =>
                                clear hK K
                                try simp only [Act.put, List.setIfInBounds_toArray, List.set_cons_zero, List.set_cons_succ]
                                refine wpAnyH_ready (rs := [18]) (by kernel_rfl) (by simp) ?_
                                refine AllReadyH.cons (o := ?ozz35) ?hzz35 (fun K hK => ?kzz35) ?mzz35
                                case hzz35 => simp only [List.getElem?_toArray, List.getElem?_cons_zero, List.getElem?_cons_succ]; rfl
                                case kzz35 =>
                                  go_simp
                                  refine (K8.out _ (HQ.out.trans hHeld)).mono ?_
                                  rintro e r2 ⟨rfl, q8⟩
                                  go_wp2_with fail
                                  refine hK.out _ _ ?Szz35 (fun hHeld => ?Rzz35)
                                  case Szz35 =>
                                    exact hHeld.trans q8
                                  case Rzz35 =>
                                    clear hK K
                                    try simp only [Act.put, List.setIfInBounds_toArray, List.set_cons_zero, List.set_cons_succ]
                                    refine wpAnyH_take (i := 19) (oi := ?ozz18) (v := ?vzz18) ?hzz18 ?azz18 ?bzz18 ?czz18 ?qzz18 ?yzz18 ?szz18 ?rzz18
                                    case hzz18 => simp only [List.getElem?_toArray, List.getElem?_cons_zero, List.getElem?_cons_succ]; rfl
                                    case azz18 => kernel_rfl
                                    case bzz18 => kernel_rfl
                                    case czz18 => kernel_rfl
                                    case yzz18 =>
                                      refine Or.inl ⟨by rfl, ?_⟩
                                      intro w hSw
                                      skip
                                      go_simp
                                      try with_reducible rfl
                                    case qzz18 => exact fun _ _ _ h => h
                                    case szz18 => first | assumption | trivial
                                    case' rzz18 => simp only [Act.put, List.setIfInBounds_toArray, List.set_cons_zero, List.set_cons_succ]
                                    refine wpAnyH_take (i := 20) (oi := ?ozz19) (v := ?vzz19) ?hzz19 ?azz19 ?bzz19 ?czz19 ?qzz19 ?yzz19 ?szz19 ?rzz19
                                    case hzz19 => simp only [List.getElem?_toArray, List.getElem?_cons_zero, List.getElem?_cons_succ]; rfl
                                    case azz19 => kernel_rfl
                                    case bzz19 => kernel_rfl
                                    case czz19 => kernel_rfl
                                    case yzz19 =>
                                      refine Or.inl ⟨by rfl, ?_⟩
                                      intro w hSw
                                      skip
                                      go_simp
                                      try with_reducible rfl
                                    case qzz19 => exact fun _ _ _ h => h
                                    case szz19 => first | assumption | trivial
                                    case' rzz19 => simp only [Act.put, List.setIfInBounds_toArray, List.set_cons_zero, List.set_cons_succ]
                                    refine wpAnyH_take (i := 21) (oi := ?ozz20) (v := ?vzz20) ?hzz20 ?azz20 ?bzz20 ?czz20 ?qzz20 ?yzz20 ?szz20 ?rzz20
                                    case hzz20 => simp only [List.getElem?_toArray, List.getElem?_cons_zero, List.getElem?_cons_succ]; rfl
                                    case azz20 => kernel_rfl
                                    case bzz20 => kernel_rfl
                                    case czz20 => kernel_rfl
                                    case yzz20 =>
                                      refine Or.inl ⟨by rfl, ?_⟩
                                      intro w hSw
                                      skip
                                      go_simp
                                      try with_reducible rfl
                                    case qzz20 => exact fun _ _ _ h => h
                                    case szz20 => first | assumption | trivial
                                    case' rzz20 => simp only [Act.put, List.setIfInBounds_toArray, List.set_cons_zero, List.set_cons_succ]
                                    refine wpAnyH_take (i := 22) (oi := ?ozz21) (v := ?vzz21) ?hzz21 ?azz21 ?bzz21 ?czz21 ?qzz21 ?yzz21 ?szz21 ?rzz21
                                    case hzz21 => simp only [List.getElem?_toArray, List.getElem?_cons_zero, List.getElem?_cons_succ]; rfl
                                    case azz21 => kernel_rfl
                                    case bzz21 => kernel_rfl
                                    case czz21 => kernel_rfl
                                    case yzz21 =>
                                      refine Or.inl ⟨by rfl, ?_⟩
                                      intro w hSw
                                      have z0 := box_ hSw x0; have z1 := box_ hSw x1; have z2 := box_ hSw y0; have z3 := box_ hSw y1; have z4 := box_ hSw y2; have z5 := box_ hSw t0; have z6 := box_ hSw t1; clear hSw
                                      go_simp
                                      try with_reducible rfl
                                    case qzz21 => exact fun _ _ _ h => h
                                    case szz21 => first | assumption | trivial
                                    case' rzz21 => simp only [Act.put, List.setIfInBounds_toArray, List.set_cons_zero, List.set_cons_succ]
                                    refine wpAnyH_take (i := 23) (oi := ?ozz22) (v := ?vzz22) ?hzz22 ?azz22 ?bzz22 ?czz22 ?qzz22 ?yzz22 ?szz22 ?rzz22
                                    case hzz22 => simp only [List.getElem?_toArray, List.getElem?_cons_zero, List.getElem?_cons_succ]; rfl
                                    case azz22 => kernel_rfl
                                    case bzz22 => kernel_rfl
                                    case czz22 => kernel_rfl
                                    case yzz22 =>
                                      refine Or.inl ⟨by rfl, ?_⟩
                                      intro w hSw
                                      have z0 := box_ hSw x0; have z1 := box_ hSw x1; have z2 := box_ hSw y0; have z3 := box_ hSw y1; have z4 := box_ hSw y2; have z5 := box_ hSw t0; have z6 := box_ hSw t1; clear hSw
                                      go_simp
                                      try with_reducible rfl
                                    case qzz22 => exact fun _ _ _ h => h
                                    case szz22 => first | assumption | trivial
                                    case' rzz22 => simp only [Act.put, List.setIfInBounds_toArray, List.set_cons_zero, List.set_cons_succ]
                                    refine wpAnyH_take (i := 25) (oi := ?ozz23) (v := ?vzz23) ?hzz23 ?azz23 ?bzz23 ?czz23 ?qzz23 ?yzz23 ?szz23 ?rzz23
                                    case hzz23 => simp only [List.getElem?_toArray, List.getElem?_cons_zero, List.getElem?_cons_succ]; rfl
                                    case azz23 => kernel_rfl
                                    case bzz23 => kernel_rfl
                                    case czz23 => kernel_rfl
                                    case yzz23 =>
                                      refine Or.inl ⟨by rfl, ?_⟩
                                      intro w hSw
                                      have z0 := box_ hSw x0; have z1 := box_ hSw x1; have z2 := box_ hSw y0; have z3 := box_ hSw y1; have z4 := box_ hSw y2; have z5 := box_ hSw t0; have z6 := box_ hSw t1; clear hSw
                                      go_simp
                                      try with_reducible rfl
                                    case qzz23 => exact fun _ _ _ h => h
                                    case szz23 => first | assumption | trivial
                                    case' rzz23 => simp only [Act.put, List.setIfInBounds_toArray, List.set_cons_zero, List.set_cons_succ]
                                    refine wpAnyH_take (i := 26) (oi := ?ozz24) (v := ?vzz24) ?hzz24 ?azz24 ?bzz24 ?czz24 ?qzz24 ?yzz24 ?szz24 ?rzz24
                                    case hzz24 => simp only [List.getElem?_toArray, List.getElem?_cons_zero, List.getElem?_cons_succ]; rfl
                                    case azz24 => kernel_rfl
                                    case bzz24 => kernel_rfl
                                    case czz24 => kernel_rfl
                                    case yzz24 =>
                                      refine Or.inl ⟨by rfl, ?_⟩
                                      intro w hSw
                                      have z0 := box_ hSw x0; have z1 := box_ hSw x1; have z2 := box_ hSw y0; have z3 := box_ hSw y1; have z4 := box_ hSw y2; have z5 := box_ hSw t0; have z6 := box_ hSw t1; clear hSw
                                      go_simp
                                      try with_reducible rfl
                                    case qzz24 => exact fun _ _ _ h => h
                                    case szz24 => first | assumption | trivial
                                    case' rzz24 => simp only [Act.put, List.setIfInBounds_toArray, List.set_cons_zero, List.set_cons_succ]
                                    refine wpAnyH_ready (rs := [24]) (by kernel_rfl) (by simp) ?_
                                    refine AllReadyH.cons (o := ?ozz34) ?hzz34 (fun K hK => ?kzz34) ?mzz34
                                    case hzz34 => simp only [List.getElem?_toArray, List.getElem?_cons_zero, List.getElem?_cons_succ]; rfl
                                    case kzz34 =>
                                      go_simp
                                      refine (K9.out _ (HQ.out.trans hHeld)).mono ?_
                                      rintro e r3 ⟨rfl, q9⟩
                                      go_wp2_with fail
                                      refine hK.out _ _ ?Szz34 (fun hHeld => ?Rzz34)
                                      case Szz34 =>
                                        exact hHeld.trans q9
                                      case Rzz34 =>
                                        clear hK K
                                        try simp only [Act.put, List.setIfInBounds_toArray, List.set_cons_zero, List.set_cons_succ]
                                        refine wpAnyH_ready (rs := [27]) (by kernel_rfl) (by simp) ?_
                                        refine AllReadyH.cons (o := ?ozz33) ?hzz33 (fun K hK => ?kzz33) ?mzz33
                                        case hzz33 => simp only [List.getElem?_toArray, List.getElem?_cons_zero, List.getElem?_cons_succ]; rfl
                                        case kzz33 =>
                                          go_simp
                                          refine (K10.out _ (HQ.out.trans hHeld)).mono ?_
                                          rintro e r4 ⟨rfl, qa⟩
                                          go_wp2_with fail
                                          refine hK.out _ _ ?Szz33 (fun hHeld => ?Rzz33)
                                          case Szz33 =>
                                            exact hHeld.trans qa
                                          case Rzz33 =>
                                            clear hK K
                                            try simp only [Act.put, List.setIfInBounds_toArray, List.set_cons_zero, List.set_cons_succ]
                                            refine wpAnyH_take (i := 28) (oi := ?ozz25) (v := ?vzz25) ?hzz25 ?azz25 ?bzz25 ?czz25 ?qzz25 ?yzz25 ?szz25 ?rzz25
                                            case hzz25 => simp only [List.getElem?_toArray, List.getElem?_cons_zero, List.getElem?_cons_succ]; rfl
                                            case azz25 => kernel_rfl
                                            case bzz25 => kernel_rfl
                                            case czz25 => kernel_rfl
                                            case yzz25 =>
                                              refine Or.inl ⟨by rfl, ?_⟩
                                              intro w hSw
                                              skip
                                              go_simp
                                              try with_reducible rfl
                                            case qzz25 => exact fun _ _ _ h => h
                                            case szz25 => first | assumption | trivial
                                            case' rzz25 => simp only [Act.put, List.setIfInBounds_toArray, List.set_cons_zero, List.set_cons_succ]
                                            refine wpAnyH_take (i := 29) (oi := ?ozz26) (v := ?vzz26) ?hzz26 ?azz26 ?bzz26 ?czz26 ?qzz26 ?yzz26 ?szz26 ?rzz26
                                            case hzz26 => simp only [List.getElem?_toArray, List.getElem?_cons_zero, List.getElem?_cons_succ]; rfl
                                            case azz26 => kernel_rfl
                                            case bzz26 => kernel_rfl
                                            case czz26 => kernel_rfl
                                            case yzz26 =>
                                              refine Or.inl ⟨by rfl, ?_⟩
                                              intro w hSw
                                              skip
                                              go_simp
                                              try with_reducible rfl
                                            case qzz26 => exact fun _ _ _ h => h
                                            case szz26 => first | assumption | trivial
                                            case' rzz26 => simp only [Act.put, List.setIfInBounds_toArray, List.set_cons_zero, List.set_cons_succ]
                                            refine wpAnyH_take (i := 30) (oi := ?ozz27) (v := ?vzz27) ?hzz27 ?azz27 ?bzz27 ?czz27 ?qzz27 ?yzz27 ?szz27 ?rzz27
                                            case hzz27 => simp only [List.getElem?_toArray, List.getElem?_cons_zero, List.getElem?_cons_succ]; rfl
                                            case azz27 => kernel_rfl
                                            case bzz27 => kernel_rfl
                                            case czz27 => kernel_rfl
                                            case yzz27 =>
                                              refine Or.inl ⟨by rfl, ?_⟩
                                              intro w hSw
                                              skip
                                              go_simp
                                              try with_reducible rfl
                                            case qzz27 => exact fun _ _ _ h => h
                                            case szz27 => first | assumption | trivial
                                            case' rzz27 => simp only [Act.put, List.setIfInBounds_toArray, List.set_cons_zero, List.set_cons_succ]
                                            refine wpAnyH_take (i := 31) (oi := ?ozz28) (v := ?vzz28) ?hzz28 ?azz28 ?bzz28 ?czz28 ?qzz28 ?yzz28 ?szz28 ?rzz28
                                            case hzz28 => simp only [List.getElem?_toArray, List.getElem?_cons_zero, List.getElem?_cons_succ]; rfl
                                            case azz28 => kernel_rfl
                                            case bzz28 => kernel_rfl
                                            case czz28 => kernel_rfl
                                            case yzz28 =>
                                              refine Or.inl ⟨by rfl, ?_⟩
                                              intro w hSw
                                              have z0 := box_ hSw x0; have z1 := box_ hSw x1; have z2 := box_ hSw y0; have z3 := box_ hSw y1; have z4 := box_ hSw y2; have z5 := box_ hSw t0; have z6 := box_ hSw t1; clear hSw
                                              go_simp
                                              try with_reducible rfl
                                            case qzz28 => exact fun _ _ _ h => h
                                            case szz28 => first | assumption | trivial
                                            case' rzz28 => simp only [Act.put, List.setIfInBounds_toArray, List.set_cons_zero, List.set_cons_succ]
                                            refine wpAnyH_take (i := 32) (oi := ?ozz29) (v := ?vzz29) ?hzz29 ?azz29 ?bzz29 ?czz29 ?qzz29 ?yzz29 ?szz29 ?rzz29
                                            case hzz29 => simp only [List.getElem?_toArray, List.getElem?_cons_zero, List.getElem?_cons_succ]; rfl
                                            case azz29 => kernel_rfl
                                            case bzz29 => kernel_rfl
                                            case czz29 => kernel_rfl
                                            case yzz29 =>
                                              refine Or.inl ⟨by rfl, ?_⟩
                                              intro w hSw
                                              have z0 := box_ hSw x0; have z1 := box_ hSw x1; have z2 := box_ hSw y0; have z3 := box_ hSw y1; have z4 := box_ hSw y2; have z5 := box_ hSw t0; have z6 := box_ hSw t1; clear hSw
                                              go_simp
                                              try with_reducible rfl
                                            case qzz29 => exact fun _ _ _ h => h
                                            case szz29 => first | assumption | trivial
                                            case' rzz29 => simp only [Act.put, List.setIfInBounds_toArray, List.set_cons_zero, List.set_cons_succ]
                                            refine wpAnyH_ready (rs := [33]) (by kernel_rfl) (by simp) ?_
                                            refine AllReadyH.cons (o := ?ozz32) ?hzz32 (fun K hK => ?kzz32) ?mzz32
                                            case hzz32 => simp only [List.getElem?_toArray, List.getElem?_cons_zero, List.getElem?_cons_succ]; rfl
                                            case kzz32 =>
                                              go_simp
                                              refine (K11.out _ (HQ.out.trans hHeld)).mono ?_
                                              rintro e r5 ⟨rfl, qb⟩
                                              go_wp2_with fail
                                              refine hK.out _ _ ?Szz32 (fun hHeld => ?Rzz32)
                                              case Szz32 =>
                                                exact hHeld.trans qb
                                              case Rzz32 =>
                                                clear hK K
                                                try simp only [Act.put, List.setIfInBounds_toArray, List.set_cons_zero, List.set_cons_succ]
                                                refine wpAnyH_take (i := 34) (oi := ?ozz30) (v := ?vzz30) ?hzz30 ?azz30 ?bzz30 ?czz30 ?qzz30 ?yzz30 ?szz30 ?rzz30
                                                case hzz30 => simp only [List.getElem?_toArray, List.getElem?_cons_zero, List.getElem?_cons_succ]; rfl
                                                case azz30 => kernel_rfl
                                                case bzz30 => kernel_rfl
                                                case czz30 => kernel_rfl
                                                case yzz30 =>
                                                  refine Or.inl ⟨by rfl, ?_⟩
                                                  intro w hSw
                                                  skip
                                                  go_simp
                                                  try with_reducible rfl
                                                case qzz30 => exact fun _ _ _ h => h
                                                case szz30 => first | assumption | trivial
                                                case' rzz30 => simp only [Act.put, List.setIfInBounds_toArray, List.set_cons_zero, List.set_cons_succ]
                                                refine wpAnyH_take (i := 35) (oi := ?ozz31) (v := ?vzz31) ?hzz31 ?azz31 ?bzz31 ?czz31 ?qzz31 ?yzz31 ?szz31 ?rzz31
                                                case hzz31 => simp only [List.getElem?_toArray, List.getElem?_cons_zero, List.getElem?_cons_succ]; rfl
                                                case azz31 => kernel_rfl
                                                case bzz31 => kernel_rfl
                                                case czz31 => kernel_rfl
                                                case yzz31 =>
                                                  refine Or.inl ⟨by rfl, ?_⟩
                                                  intro w hSw
                                                  skip
                                                  go_simp
                                                  try with_reducible rfl
                                                case qzz31 => exact fun _ _ _ h => h
                                                case szz31 => first | assumption | trivial
                                                case' rzz31 => simp only [Act.put, List.setIfInBounds_toArray, List.set_cons_zero, List.set_cons_succ]
                                                refine wpAnyH_done (by kernel_rfl) ?_ _
                                                have HQ := Lib.hid (HQ.out.trans hHeld)
                                                go_wp2
                                                go_ret
                                                exact ⟨by first | rfl | (simp; done), HQ.out⟩
                                            case' mzz32 => skip
                                            exact AllReadyH.nil
                                        case' mzz33 => skip
                                        exact AllReadyH.nil
                                    case' mzz34 => skip
                                    exact AllReadyH.nil
                                case' mzz35 => skip
                                exact AllReadyH.nil
                            case' mzz36 => skip
                            exact AllReadyH.nil
                        case' mzz43 => skip
                        exact AllReadyH.nil
                    case' mzz44 => skip
                    exact AllReadyH.nil
                case' mzz45 => skip
                exact AllReadyH.nil
            case' mzz56 => skip
            exact AllReadyH.nil
        case' mzz57 => skip
        exact AllReadyH.nil
    case' mzz58 => skip
    exact AllReadyH.nil
  · rw [many hs] at KS
    clear h ht hs hx
    have HQ := Lib.hid (Q.refl w)
    go_enter Try.func3, Try.ntmps3
    go_upto_region 1 with (fail)
    have XI : Hid (Bx (w.alloc (.cells #[.slice A n c, .slice B m d, .int .i64 txn, .int .i64 x.mode, .string x.lo, .string x.hi, .int .u64 (til : Int), .int .i64 N, .slice C p v, .slice D r s] 30)) w.heap.size [.slice A n c, .slice B m d, .int .i64 txn, .int .i64 x.mode, .string x.lo, .string x.hi, .int .u64 (til : Int), .int .i64 N, .slice C p v, .slice D r s]) := Lib.hid (Bx.new w [.slice A n c, .slice B m d, .int .i64 txn, .int .i64 x.mode, .string x.lo, .string x.hi, .int .u64 (til : Int), .int .i64 N, .slice C p v, .slice D r s] 30)
    have HQ := Lib.hid (HQ.out.alloc (.cells #[.slice A n c, .slice B m d, .int .i64 txn, .int .i64 x.mode, .string x.lo, .string x.hi, .int .u64 (til : Int), .int .i64 N, .slice C p v, .slice D r s] 30))
    have hg0 : Hid (w.heap.size = w.heap.size) := Lib.hid rfl
    clear hg0
    generalize w.alloc (.cells #[.slice A n c, .slice B m d, .int .i64 txn, .int .i64 x.mode, .string x.lo, .string x.hi, .int .u64 (til : Int), .int .i64 N, .slice C p v, .slice D r s] 30) = W0 at XI HQ ⊢
    generalize w.heap.size = gI at XI ⊢
    have i0 := (XI.out 0 _ rfl).1
    have i1 := (XI.out 1 _ rfl).1
    have i2 := (XI.out 2 _ rfl).1
    have i3 := (XI.out 3 _ rfl).1
    have i4 := (XI.out 4 _ rfl).1
    have i5 := (XI.out 5 _ rfl).1
    have i6 := (XI.out 6 _ rfl).1
    have i7 := (XI.out 7 _ rfl).1
    have i8 := (XI.out 8 _ rfl).1
    have i9 := (XI.out 9 _ rfl).1
    go_upto_region 2 with (fail)
    clear i0 i1 i2 i3 i4 i5 i6 i7 i8 i9
    have qa := (Q.refl W0).alloc (.cells #[.slice A n c, .slice B m d] 25)
    have XI := Lib.hid (XI.out.q qa)
    have XL : Hid (Bx (W0.alloc (.cells #[.slice A n c, .slice B m d] 25)) W0.heap.size [.slice A n c, .slice B m d]) := Lib.hid (Bx.new W0 [.slice A n c, .slice B m d] 25)
    have HQ := Lib.hid (HQ.out.trans qa)
    clear qa
    generalize W0.alloc (.cells #[.slice A n c, .slice B m d] 25) = W1 at *
    generalize W0.heap.size = gXL at *
    have i0 := (XI.out 0 _ rfl).1
    have i1 := (XI.out 1 _ rfl).1
    have i2 := (XI.out 2 _ rfl).1
    have i3 := (XI.out 3 _ rfl).1
    have i4 := (XI.out 4 _ rfl).1
    have i5 := (XI.out 5 _ rfl).1
    have i6 := (XI.out 6 _ rfl).1
    have i7 := (XI.out 7 _ rfl).1
    have i8 := (XI.out 8 _ rfl).1
    have i9 := (XI.out 9 _ rfl).1
    go_upto_region 4 with (fail)
    clear i0 i1 i2 i3 i4 i5 i6 i7 i8 i9
    have qa := (Q.refl W1).alloc (.cells #[.int .i64 x.mode, .string x.lo, .string x.hi] 27)
    have XI := Lib.hid (XI.out.q qa)
    have XL := Lib.hid (XL.out.q qa)
    have XW : Hid (Bx (W1.alloc (.cells #[.int .i64 x.mode, .string x.lo, .string x.hi] 27)) W1.heap.size [.int .i64 x.mode, .string x.lo, .string x.hi]) := Lib.hid (Bx.new W1 [.int .i64 x.mode, .string x.lo, .string x.hi] 27)
    have HQ := Lib.hid (HQ.out.trans qa)
    clear qa
    generalize W1.alloc (.cells #[.int .i64 x.mode, .string x.lo, .string x.hi] 27) = W3 at *
    generalize W1.heap.size = gXW at *
    have i0 := (XI.out 0 _ rfl).1
    have i1 := (XI.out 1 _ rfl).1
    have i2 := (XI.out 2 _ rfl).1
    have i3 := (XI.out 3 _ rfl).1
    have i4 := (XI.out 4 _ rfl).1
    have i5 := (XI.out 5 _ rfl).1
    have i6 := (XI.out 6 _ rfl).1
    have i7 := (XI.out 7 _ rfl).1
    have i8 := (XI.out 8 _ rfl).1
    have i9 := (XI.out 9 _ rfl).1
    go_upto_region 7 with (fail)
    clear i0 i1 i2 i3 i4 i5 i6 i7 i8 i9
    have qa := (Q.refl W3).alloc (.cells #[.slice C p v, .slice D r s] 25)
    have XI := Lib.hid (XI.out.q qa)
    have XL := Lib.hid (XL.out.q qa)
    have XW := Lib.hid (XW.out.q qa)
    have XO : Hid (Bx (W3.alloc (.cells #[.slice C p v, .slice D r s] 25)) W3.heap.size [.slice C p v, .slice D r s]) := Lib.hid (Bx.new W3 [.slice C p v, .slice D r s] 25)
    have HQ := Lib.hid (HQ.out.trans qa)
    clear qa
    generalize W3.alloc (.cells #[.slice C p v, .slice D r s] 25) = W6 at *
    generalize W3.heap.size = gXO at *
    clear XI
    go_wp2_with fail
    refine (lshown_any _).mono ?_
    rintro e w1 ⟨rfl, q1⟩
    have XL := Lib.hid (XL.out.q q1)
    have XW := Lib.hid (XW.out.q q1)
    have XO := Lib.hid (XO.out.q q1)
    have HQ := Lib.hid (HQ.out.trans q1)
    clear q1
    obtain ⟨⟨x0, x1⟩, x2, x3⟩ := XL.out.get2
    go_wp2_with fail
    refine (KS.out _).mono ?_
    rintro e w2 ⟨rfl, q1⟩
    have XL := Lib.hid (XL.out.q q1)
    have XW := Lib.hid (XW.out.q q1)
    have XO := Lib.hid (XO.out.q q1)
    have HQ := Lib.hid (HQ.out.trans q1)
    clear q1 x0 x1 x2 x3
    go_wp2
    go_ret
    exact ⟨rfl, HQ.out⟩

theorem opened (W : World) (args : Array Value) (hn : args.size = 1) (h : ∀ (j : Nat) t v, Try.f3.params[j]? = some t → args[j]? = some v → RdV W t v) :
    Calls Try.prog 3 args W fun e W' => e = .returned (.bool true) ∧ Q W W' := by
  obtain ⟨v, rfl⟩ := args1 hn
  rw [Try.params3] at h
  obtain ⟨cs, rfl, hr⟩ := (h 0 30 v rfl rfl).struct Try.underlying30
  obtain ⟨hl, _⟩ := hr.struct Try.underlying30
  rw [show Try.prog.cellsOf 30 = 10 by kernel_rfl] at hl
  match cs, hl with
  | [x0, x1, x2, x3, x4, x5, x6, x7, x8, x9], _ =>
    obtain ⟨A, n, c, B, m, d, l, e0, h0⟩ := open_locks (hr.field Try.underlying30 0 (ty := 25) 0 2 rfl (by kernel_rfl))
    obtain ⟨t, e1, r1⟩ := (hr.field Try.underlying30 1 (ty := 3) 2 1 rfl (by kernel_rfl)).int Try.underlying3
    obtain ⟨x, e2, z0, z1, z2, z3⟩ := open_want (hr.field Try.underlying30 2 (ty := 27) 3 3 rfl (by kernel_rfl))
    obtain ⟨u, e3, r3⟩ := (hr.field Try.underlying30 3 (ty := 28) 6 1 rfl (by kernel_rfl)).int Try.underlying28
    obtain ⟨N, e4, r4⟩ := (hr.field Try.underlying30 4 (ty := 3) 7 1 rfl (by kernel_rfl)).int Try.underlying3
    obtain ⟨C, p, y, D, r, s, o, e5, h5⟩ := open_locks (hr.field Try.underlying30 5 (ty := 25) 8 2 rfl (by kernel_rfl))
    simp at e0 e1 e2 e3 e4 e5
    obtain ⟨rfl, rfl⟩ := e0
    obtain ⟨rfl, rfl, rfl⟩ := e2
    obtain ⟨rfl, rfl⟩ := e5
    subst e1 e3 e4
    obtain ⟨u0, u1⟩ := wf_u64 r3
    have := walk A B C D n c m d p y r s l o t x u.toNat N W h0 h5 (wns z0 z1)
    rwa [Int.toNat_of_nonneg u0] at this

set_option maxRecDepth 100000 in
theorem lifted (os : Os) (started : os.Started) (H : Type) (enc : TypeId × Value → H) :
    ReturnsInHanded {} Try.checked os 3 .any (Rows.lockAsksSpec.pre6 enc Try.prog Try.f3 Rows.lockAsksRow.domain false) (Rows.lockAsksSpec.post enc Try.prog Try.f3 false true false false) :=
  framed 1 Try.func3 (by rw [Try.params3]; rfl) rfl (by kernel_rfl) (by kernel_rfl) (by kernel_rfl)
    (fun H ds h => by match ds, h with | [d0], _ => exact ⟨rfl, rfl, rfl⟩)
    opened os started H enc
    (ChangeSpec.witness6 (enc := enc) (C := Try.checked) false ⟨#[], #[.agg #[.slice none 0 0, .slice none 0 0, .int .i64 0, .int .i64 0, .string ByteArray.empty, .string ByteArray.empty, .int .u64 0, .int .i64 0, .slice none 0 0, .slice none 0 0]], []⟩ 8 (by kernel_rfl) (by kernel_rfl) (by kernel_rfl) (by kernel_rfl))

theorem over : Rows.lockAsksRow.holds Try.pinned (OpenSpec.ofChange Rows.lockAsksSpec) :=
  OpenClaim.holds_of_wide 3 Try.f3 rfl rfl rfl rfl rfl rfl rfl ⟨rfl, rfl, rfl, rfl, rfl⟩ rfl rfl rfl rfl rfl (by kernel_rfl) Try.func3 (by kernel_rfl)
    (of_decide_eq_true (by kernel_rfl)) (by unfold Func.isWrapper; first | (rw [if_pos (by decide +kernel)]; kernel_rfl) | (rw [if_neg (by decide +kernel)]; exact ⟨rfl, rfl⟩))
    (fun os started H enc _ => lifted os started H enc)

theorem proved : Rows.LockAsksSaid := over
end Go.Proofs.Ytenemdpjhoebpaa.lockAsks
