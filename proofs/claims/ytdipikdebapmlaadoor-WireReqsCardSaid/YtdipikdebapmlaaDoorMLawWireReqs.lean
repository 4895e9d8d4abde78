/- For every request, every bytes: which requests may be, their bytes, and the request of bytes are as the document says. No condition. -/
import Derived.Test.YtdipikdebapmlaaDoorW6
import Derived.Test.YtdipikdebapmlaaDoorW3
import Derived.Deep.DeepCutAuto
import Derived.Test.YtdipikdebapmlaaDoorW10
import Derived.Test.YtdipikdebapmlaaDoorW11
import Derived.Test.YtdipikdebapmlaaDoorW9
namespace Go.Proofs.YtdipikdebapmlaaDoor.wireReqs
set_option maxRecDepth 100000
open Go.ChangeShapes Go.WideShapes Go.ChangeAt Go.RowKit Prm Wi
set_option linter.unusedVariables false
set_option linter.unusedSimpArgs false

set_option maxRecDepth 100000 in
set_option maxHeartbeats 8000000 in
theorem walk (q : Rq) (s : ByteArray) (w : World) (sa sc : Addr) (hW : Wk w sa sc) (hne : sc ≠ sa) (hq : RqIn q) (hs : s.size ≤ 140737488351232) :
    Calls Tryd.prog 3 #[.agg #[.int .i64 q.kind, .int .i64 q.epoch, .int .i64 q.sess, .int .i64 q.seq, .string q.tok, .int .i64 q.op.kind, .string q.op.key, .string q.op.val, .string q.op.lo, .string q.op.hi, .int .i64 q.op.most], .string s] w fun e w' => e = .returned (.bool true) ∧ Q w w' := by
  have K0 := Lib.hid (fun W => wishown_any W)
  have K1 : Hid (∀ W, Calls Tryd.prog 9 #[.agg #[.int .i64 q.kind, .int .i64 q.epoch, .int .i64 q.sess, .int .i64 q.seq, .string q.tok, .int .i64 q.op.kind, .string q.op.key, .string q.op.val, .string q.op.lo, .string q.op.hi, .int .i64 q.op.most]] W fun e w' => e = .returned (.tuple #[.string (ba (reqM q).1), .int .i64 (reqM q).2]) ∧ Q W w') := Lib.hid (fun W => preq_any q W)
  have K2 : Hid (∀ W, Calls Tryd.prog 10 #[.agg #[.int .i64 q.kind, .int .i64 q.epoch, .int .i64 q.sess, .int .i64 q.seq, .string q.tok, .int .i64 q.op.kind, .string q.op.key, .string q.op.val, .string q.op.lo, .string q.op.hi, .int .i64 q.op.most]] W fun e w' => e = .returned (.tuple #[.string (ba (reqM q).1), .int .i64 (reqM q).2]) ∧ Q W w') := Lib.hid (fun W => wreq_any q W)
  have K3 : Hid (∀ W, Q w W → Calls Tryd.prog 11 #[.string s] W fun e w' => e = .returned (.tuple #[.agg #[.int .i64 (takeQ s.data.toList).1.kind, .int .i64 (takeQ s.data.toList).1.epoch, .int .i64 (takeQ s.data.toList).1.sess, .int .i64 (takeQ s.data.toList).1.seq, .string (takeQ s.data.toList).1.tok, .int .i64 (takeQ s.data.toList).1.op.kind, .string (takeQ s.data.toList).1.op.key, .string (takeQ s.data.toList).1.op.val, .string (takeQ s.data.toList).1.op.lo, .string (takeQ s.data.toList).1.op.hi, .int .i64 (takeQ s.data.toList).1.op.most], .int .i64 (takeQ s.data.toList).2]) ∧ Q W w') := Lib.hid (fun W qz => ptakeQ_any sa sc s W (hW.q qz) hne (by omega))
  have K4 : Hid (∀ W, Calls Tryd.prog 12 #[.string s] W fun e w' => e = .returned (.tuple #[.agg #[.int .i64 (takeQ s.data.toList).1.kind, .int .i64 (takeQ s.data.toList).1.epoch, .int .i64 (takeQ s.data.toList).1.sess, .int .i64 (takeQ s.data.toList).1.seq, .string (takeQ s.data.toList).1.tok, .int .i64 (takeQ s.data.toList).1.op.kind, .string (takeQ s.data.toList).1.op.key, .string (takeQ s.data.toList).1.op.val, .string (takeQ s.data.toList).1.op.lo, .string (takeQ s.data.toList).1.op.hi, .int .i64 (takeQ s.data.toList).1.op.most], .int .i64 (takeQ s.data.toList).2]) ∧ Q W w') := Lib.hid (fun W => wtakeQ_any s W (by omega))
  have K5 : Hid (∀ W, Calls Tryd.prog 13 #[.agg #[.int .i64 q.kind, .int .i64 q.epoch, .int .i64 q.sess, .int .i64 q.seq, .string q.tok, .int .i64 q.op.kind, .string q.op.key, .string q.op.val, .string q.op.lo, .string q.op.hi, .int .i64 q.op.most]] W fun e w' => e = .returned (.bool (may q)) ∧ Q W w') := Lib.hid (fun W => pmay_any q W)
  have K6 : Hid (∀ W, Calls Tryd.prog 14 #[.agg #[.int .i64 q.kind, .int .i64 q.epoch, .int .i64 q.sess, .int .i64 q.seq, .string q.tok, .int .i64 q.op.kind, .string q.op.key, .string q.op.val, .string q.op.lo, .string q.op.hi, .int .i64 q.op.most]] W fun e w' => e = .returned (.bool (may q)) ∧ Q W w') := Lib.hid (fun W => wmay_any q W)
  generalize (takeQ s.data.toList).1 = Y at K3 K4
  generalize (takeQ s.data.toList).2 = ey at K3 K4
  generalize ba (reqM q).1 = S at K1 K2
  generalize (reqM q).2 = eq at K1 K2
  generalize may q = mb at K5 K6
  have X2 : Hid (Bx (w.alloc (.cells #[.int .i64 q.kind, .int .i64 q.epoch, .int .i64 q.sess, .int .i64 q.seq, .string q.tok, .int .i64 q.op.kind, .string q.op.key, .string q.op.val, .string q.op.lo, .string q.op.hi, .int .i64 q.op.most] 25)) w.heap.size [.int .i64 q.kind, .int .i64 q.epoch, .int .i64 q.sess, .int .i64 q.seq, .string q.tok, .int .i64 q.op.kind, .string q.op.key, .string q.op.val, .string q.op.lo, .string q.op.hi, .int .i64 q.op.most]) := Lib.hid (Bx.new w [.int .i64 q.kind, .int .i64 q.epoch, .int .i64 q.sess, .int .i64 q.seq, .string q.tok, .int .i64 q.op.kind, .string q.op.key, .string q.op.val, .string q.op.lo, .string q.op.hi, .int .i64 q.op.most] 25)
  have QF := Lib.hid ((Q.refl w).alloc (.cells #[.int .i64 q.kind, .int .i64 q.epoch, .int .i64 q.sess, .int .i64 q.seq, .string q.tok, .int .i64 q.op.kind, .string q.op.key, .string q.op.val, .string q.op.lo, .string q.op.hi, .int .i64 q.op.most] 25))
  go_enter Tryd.func3, Tryd.ntmps3
  go_upto_region 1 with (fail)
  generalize (w.alloc (.cells #[.int .i64 q.kind, .int .i64 q.epoch, .int .i64 q.sess, .int .i64 q.seq, .string q.tok, .int .i64 q.op.kind, .string q.op.key, .string q.op.val, .string q.op.lo, .string q.op.hi, .int .i64 q.op.most] 25)) = W0 at X2 QF ⊢
  generalize w.heap.size = b2 at X2 ⊢
  go_wp2_with fail
  refine (K0.out _).mono ?_
  rintro e0 v0 ⟨rfl, q0⟩
  replace X2 := Lib.hid (X2.out.q q0)
  replace QF := Lib.hid (QF.out.trans q0)
  clear q0
  have x2_0 := (X2.out 0 _ rfl).1
  have x2_1 := (X2.out 1 _ rfl).1
  have x2_2 := (X2.out 2 _ rfl).1
  have x2_3 := (X2.out 3 _ rfl).1
  have x2_4 := (X2.out 4 _ rfl).1
  have x2_5 := (X2.out 5 _ rfl).1
  have x2_6 := (X2.out 6 _ rfl).1
  have x2_7 := (X2.out 7 _ rfl).1
  have x2_8 := (X2.out 8 _ rfl).1
  have x2_9 := (X2.out 9 _ rfl).1
  have x2_10 := (X2.out 10 _ rfl).1
  go_wp2_with fail
  refine (K1.out _).mono ?_
  rintro e1 v1 ⟨rfl, q1⟩
  clear x2_0 x2_1 x2_2 x2_3 x2_4 x2_5 x2_6 x2_7 x2_8 x2_9 x2_10
  replace X2 := Lib.hid (X2.out.q q1)
  replace QF := Lib.hid (QF.out.trans q1)
  clear q1
  have x2_0 := (X2.out 0 _ rfl).1
  have x2_1 := (X2.out 1 _ rfl).1
  have x2_2 := (X2.out 2 _ rfl).1
  have x2_3 := (X2.out 3 _ rfl).1
  have x2_4 := (X2.out 4 _ rfl).1
  have x2_5 := (X2.out 5 _ rfl).1
  have x2_6 := (X2.out 6 _ rfl).1
  have x2_7 := (X2.out 7 _ rfl).1
  have x2_8 := (X2.out 8 _ rfl).1
  have x2_9 := (X2.out 9 _ rfl).1
  have x2_10 := (X2.out 10 _ rfl).1
  go_wp2_with fail
  refine (K2.out _).mono ?_
  rintro e3 v3 ⟨rfl, q3⟩
  clear x2_0 x2_1 x2_2 x2_3 x2_4 x2_5 x2_6 x2_7 x2_8 x2_9 x2_10
  replace X2 := Lib.hid (X2.out.q q3)
  replace QF := Lib.hid (QF.out.trans q3)
  clear q3
  go_wp2_with fail
  refine (K3.out _ QF.out).mono ?_
  rintro e4 v4 ⟨rfl, q4⟩
  have qa := (Q.refl v4).alloc (.cells #[.int .i64 Y.kind, .int .i64 Y.epoch, .int .i64 Y.sess, .int .i64 Y.seq, .string Y.tok, .int .i64 Y.op.kind, .string Y.op.key, .string Y.op.val, .string Y.op.lo, .string Y.op.hi, .int .i64 Y.op.most] 25)
  replace X2 := Lib.hid ((X2.out.q q4).q qa)
  replace QF := Lib.hid ((QF.out.trans q4).trans qa)
  have X10 : Hid (Bx (v4.alloc (.cells #[.int .i64 Y.kind, .int .i64 Y.epoch, .int .i64 Y.sess, .int .i64 Y.seq, .string Y.tok, .int .i64 Y.op.kind, .string Y.op.key, .string Y.op.val, .string Y.op.lo, .string Y.op.hi, .int .i64 Y.op.most] 25)) v4.heap.size [.int .i64 Y.kind, .int .i64 Y.epoch, .int .i64 Y.sess, .int .i64 Y.seq, .string Y.tok, .int .i64 Y.op.kind, .string Y.op.key, .string Y.op.val, .string Y.op.lo, .string Y.op.hi, .int .i64 Y.op.most]) := Lib.hid (Bx.new v4 [.int .i64 Y.kind, .int .i64 Y.epoch, .int .i64 Y.sess, .int .i64 Y.seq, .string Y.tok, .int .i64 Y.op.kind, .string Y.op.key, .string Y.op.val, .string Y.op.lo, .string Y.op.hi, .int .i64 Y.op.most] 25)
  clear qa q4
  go_upto_region 5 with (fail)
  generalize v4.alloc (.cells #[.int .i64 Y.kind, .int .i64 Y.epoch, .int .i64 Y.sess, .int .i64 Y.seq, .string Y.tok, .int .i64 Y.op.kind, .string Y.op.key, .string Y.op.val, .string Y.op.lo, .string Y.op.hi, .int .i64 Y.op.most] 25) = W10 at X2 X10 QF ⊢
  generalize v4.heap.size = b10 at X10 ⊢
  go_wp2_with fail
  refine (K4.out _).mono ?_
  rintro e5 v5 ⟨rfl, q5⟩
  have qa := (Q.refl v5).alloc (.cells #[.int .i64 Y.kind, .int .i64 Y.epoch, .int .i64 Y.sess, .int .i64 Y.seq, .string Y.tok, .int .i64 Y.op.kind, .string Y.op.key, .string Y.op.val, .string Y.op.lo, .string Y.op.hi, .int .i64 Y.op.most] 25)
  replace X2 := Lib.hid ((X2.out.q q5).q qa)
  replace X10 := Lib.hid ((X10.out.q q5).q qa)
  replace QF := Lib.hid ((QF.out.trans q5).trans qa)
  have X12 : Hid (Bx (v5.alloc (.cells #[.int .i64 Y.kind, .int .i64 Y.epoch, .int .i64 Y.sess, .int .i64 Y.seq, .string Y.tok, .int .i64 Y.op.kind, .string Y.op.key, .string Y.op.val, .string Y.op.lo, .string Y.op.hi, .int .i64 Y.op.most] 25)) v5.heap.size [.int .i64 Y.kind, .int .i64 Y.epoch, .int .i64 Y.sess, .int .i64 Y.seq, .string Y.tok, .int .i64 Y.op.kind, .string Y.op.key, .string Y.op.val, .string Y.op.lo, .string Y.op.hi, .int .i64 Y.op.most]) := Lib.hid (Bx.new v5 [.int .i64 Y.kind, .int .i64 Y.epoch, .int .i64 Y.sess, .int .i64 Y.seq, .string Y.tok, .int .i64 Y.op.kind, .string Y.op.key, .string Y.op.val, .string Y.op.lo, .string Y.op.hi, .int .i64 Y.op.most] 25)
  clear qa q5
  go_upto_region 6 with (fail)
  generalize v5.alloc (.cells #[.int .i64 Y.kind, .int .i64 Y.epoch, .int .i64 Y.sess, .int .i64 Y.seq, .string Y.tok, .int .i64 Y.op.kind, .string Y.op.key, .string Y.op.val, .string Y.op.lo, .string Y.op.hi, .int .i64 Y.op.most] 25) = W12 at X2 X10 X12 QF ⊢
  generalize v5.heap.size = b12 at X12 ⊢
  have x0 := (X2.out 0 _ rfl).1
  have x1 := (X2.out 1 _ rfl).1
  have x2 := (X2.out 2 _ rfl).1
  have x3 := (X2.out 3 _ rfl).1
  have x4 := (X2.out 4 _ rfl).1
  have x5 := (X2.out 5 _ rfl).1
  have x6 := (X2.out 6 _ rfl).1
  have x7 := (X2.out 7 _ rfl).1
  have x8 := (X2.out 8 _ rfl).1
  have x9 := (X2.out 9 _ rfl).1
  have x10 := (X2.out 10 _ rfl).1
  have y0 := (X10.out 0 _ rfl).1
  have y1 := (X10.out 1 _ rfl).1
  have y2 := (X10.out 2 _ rfl).1
  have y3 := (X10.out 3 _ rfl).1
  have y4 := (X10.out 4 _ rfl).1
  have y5 := (X10.out 5 _ rfl).1
  have y6 := (X10.out 6 _ rfl).1
  have y7 := (X10.out 7 _ rfl).1
  have y8 := (X10.out 8 _ rfl).1
  have y9 := (X10.out 9 _ rfl).1
  have y10 := (X10.out 10 _ rfl).1
  have z0 := (X12.out 0 _ rfl).1
  have z1 := (X12.out 1 _ rfl).1
  have z2 := (X12.out 2 _ rfl).1
  have z3 := (X12.out 3 _ rfl).1
  have z4 := (X12.out 4 _ rfl).1
  have z5 := (X12.out 5 _ rfl).1
  have z6 := (X12.out 6 _ rfl).1
  have z7 := (X12.out 7 _ rfl).1
  have z8 := (X12.out 8 _ rfl).1
  have z9 := (X12.out 9 _ rfl).1
  have z10 := (X12.out 10 _ rfl).1
  refine wp_region_held_drew (S := Q W12) (by kernel_rfl) ?szz0 (fun hHeld => ?rzz0)
  case szz0 =>
    exact (Q.refl W12).drew
  case' rzz0 => skip
  refine wpAnyH_take (i := 0) (oi := ?ozz1) (v := ?vzz1) ?hzz1 ?azz1 ?bzz1 ?czz1 ?qzz1 ?yzz1 ?szz1 ?rzz1
  case hzz1 => simp only [List.getElem?_toArray, List.getElem?_cons_zero]; rfl
  case azz1 => kernel_rfl
  case bzz1 => kernel_rfl
  case czz1 => kernel_rfl
  case yzz1 =>
    refine Or.inl ⟨by rfl, ?_⟩
    intro w hSw
    skip
    go_simp
    try with_reducible rfl
  case qzz1 => exact fun _ _ _ h => h
  case szz1 => first | assumption | trivial
  case' rzz1 => simp only [Act.put, List.setIfInBounds_toArray, List.set_cons_zero, List.set_cons_succ]
  refine wpAnyH_take (i := 1) (oi := ?ozz2) (v := ?vzz2) ?hzz2 ?azz2 ?bzz2 ?czz2 ?qzz2 ?yzz2 ?szz2 ?rzz2
  case hzz2 => simp only [List.getElem?_toArray, List.getElem?_cons_zero, List.getElem?_cons_succ]; rfl
  case azz2 => kernel_rfl
  case bzz2 => kernel_rfl
  case czz2 => kernel_rfl
  case yzz2 =>
    refine Or.inl ⟨by rfl, ?_⟩
    intro w hSw
    skip
    go_simp
    try with_reducible rfl
  case qzz2 => exact fun _ _ _ h => h
  case szz2 => first | assumption | trivial
  case' rzz2 => simp only [Act.put, List.setIfInBounds_toArray, List.set_cons_zero, List.set_cons_succ]
  refine wpAnyH_take (i := 2) (oi := ?ozz3) (v := ?vzz3) ?hzz3 ?azz3 ?bzz3 ?czz3 ?qzz3 ?yzz3 ?szz3 ?rzz3
  case hzz3 => simp only [List.getElem?_toArray, List.getElem?_cons_zero, List.getElem?_cons_succ]; rfl
  case azz3 => kernel_rfl
  case bzz3 => kernel_rfl
  case czz3 => kernel_rfl
  case yzz3 =>
    refine Or.inl ⟨by rfl, ?_⟩
    intro w hSw
    skip
    go_simp
    try with_reducible rfl
  case qzz3 => exact fun _ _ _ h => h
  case szz3 => first | assumption | trivial
  case' rzz3 => simp only [Act.put, List.setIfInBounds_toArray, List.set_cons_zero, List.set_cons_succ]
  refine wpAnyH_take (i := 3) (oi := ?ozz4) (v := ?vzz4) ?hzz4 ?azz4 ?bzz4 ?czz4 ?qzz4 ?yzz4 ?szz4 ?rzz4
  case hzz4 => simp only [List.getElem?_toArray, List.getElem?_cons_zero, List.getElem?_cons_succ]; rfl
  case azz4 => kernel_rfl
  case bzz4 => kernel_rfl
  case czz4 => kernel_rfl
  case yzz4 =>
    refine Or.inl ⟨by rfl, ?_⟩
    intro w hSw
    skip
    go_simp
    try with_reducible rfl
  case qzz4 => exact fun _ _ _ h => h
  case szz4 => first | assumption | trivial
  case' rzz4 => simp only [Act.put, List.setIfInBounds_toArray, List.set_cons_zero, List.set_cons_succ]
  refine wpAnyH_take (i := 4) (oi := ?ozz5) (v := ?vzz5) ?hzz5 ?azz5 ?bzz5 ?czz5 ?qzz5 ?yzz5 ?szz5 ?rzz5
  case hzz5 => simp only [List.getElem?_toArray, List.getElem?_cons_zero, List.getElem?_cons_succ]; rfl
  case azz5 => kernel_rfl
  case bzz5 => kernel_rfl
  case czz5 => kernel_rfl
  case yzz5 =>
    refine Or.inl ⟨by rfl, ?_⟩
    intro w hSw
    skip
    go_simp
    try with_reducible rfl
  case qzz5 => exact fun _ _ _ h => h
  case szz5 => first | assumption | trivial
  case' rzz5 => simp only [Act.put, List.setIfInBounds_toArray, List.set_cons_zero, List.set_cons_succ]
  refine wpAnyH_take (i := 5) (oi := ?ozz6) (v := ?vzz6) ?hzz6 ?azz6 ?bzz6 ?czz6 ?qzz6 ?yzz6 ?szz6 ?rzz6
  case hzz6 => simp only [List.getElem?_toArray, List.getElem?_cons_zero, List.getElem?_cons_succ]; rfl
  case azz6 => kernel_rfl
  case bzz6 => kernel_rfl
  case czz6 => kernel_rfl
  case yzz6 =>
    refine Or.inl ⟨by rfl, ?_⟩
    intro w hSw
    skip
    go_simp
    try with_reducible rfl
  case qzz6 => exact fun _ _ _ h => h
  case szz6 => first | assumption | trivial
  case' rzz6 => simp only [Act.put, List.setIfInBounds_toArray, List.set_cons_zero, List.set_cons_succ]
  refine wpAnyH_take (i := 6) (oi := ?ozz7) (v := ?vzz7) ?hzz7 ?azz7 ?bzz7 ?czz7 ?qzz7 ?yzz7 ?szz7 ?rzz7
  case hzz7 => simp only [List.getElem?_toArray, List.getElem?_cons_zero, List.getElem?_cons_succ]; rfl
  case azz7 => kernel_rfl
  case bzz7 => kernel_rfl
  case czz7 => kernel_rfl
  case yzz7 =>
    refine Or.inl ⟨by rfl, ?_⟩
    intro w hSw
    skip
    go_simp
    try with_reducible rfl
  case qzz7 => exact fun _ _ _ h => h
  case szz7 => first | assumption | trivial
  case' rzz7 => simp only [Act.put, List.setIfInBounds_toArray, List.set_cons_zero, List.set_cons_succ]
  refine wpAnyH_take (i := 7) (oi := ?ozz8) (v := ?vzz8) ?hzz8 ?azz8 ?bzz8 ?czz8 ?qzz8 ?yzz8 ?szz8 ?rzz8
  case hzz8 => simp only [List.getElem?_toArray, List.getElem?_cons_zero, List.getElem?_cons_succ]; rfl
  case azz8 => kernel_rfl
  case bzz8 => kernel_rfl
  case czz8 => kernel_rfl
  case yzz8 =>
    refine Or.inl ⟨by rfl, ?_⟩
    intro w hSw
    skip
    go_simp
    try with_reducible rfl
  case qzz8 => exact fun _ _ _ h => h
  case szz8 => first | assumption | trivial
  case' rzz8 => simp only [Act.put, List.setIfInBounds_toArray, List.set_cons_zero, List.set_cons_succ]
  refine wpAnyH_take (i := 8) (oi := ?ozz9) (v := ?vzz9) ?hzz9 ?azz9 ?bzz9 ?czz9 ?qzz9 ?yzz9 ?szz9 ?rzz9
  case hzz9 => simp only [List.getElem?_toArray, List.getElem?_cons_zero, List.getElem?_cons_succ]; rfl
  case azz9 => kernel_rfl
  case bzz9 => kernel_rfl
  case czz9 => kernel_rfl
  case yzz9 =>
    refine Or.inl ⟨by rfl, ?_⟩
    intro w hSw
    skip
    go_simp
    try with_reducible rfl
  case qzz9 => exact fun _ _ _ h => h
  case szz9 => first | assumption | trivial
  case' rzz9 => simp only [Act.put, List.setIfInBounds_toArray, List.set_cons_zero, List.set_cons_succ]
  refine wpAnyH_take (i := 9) (oi := ?ozz10) (v := ?vzz10) ?hzz10 ?azz10 ?bzz10 ?czz10 ?qzz10 ?yzz10 ?szz10 ?rzz10
  case hzz10 => simp only [List.getElem?_toArray, List.getElem?_cons_zero, List.getElem?_cons_succ]; rfl
  case azz10 => kernel_rfl
  case bzz10 => kernel_rfl
  case czz10 => kernel_rfl
  case yzz10 =>
    refine Or.inl ⟨by rfl, ?_⟩
    intro w hSw
    skip
    go_simp
    try with_reducible rfl
  case qzz10 => exact fun _ _ _ h => h
  case szz10 => first | assumption | trivial
  case' rzz10 => simp only [Act.put, List.setIfInBounds_toArray, List.set_cons_zero, List.set_cons_succ]
  refine wpAnyH_take (i := 10) (oi := ?ozz11) (v := ?vzz11) ?hzz11 ?azz11 ?bzz11 ?czz11 ?qzz11 ?yzz11 ?szz11 ?rzz11
  case hzz11 => simp only [List.getElem?_toArray, List.getElem?_cons_zero, List.getElem?_cons_succ]; rfl
  case azz11 => kernel_rfl
  case bzz11 => kernel_rfl
  case czz11 => kernel_rfl
  case yzz11 =>
    refine Or.inl ⟨by rfl, ?_⟩
    intro w hSw
    skip
    go_simp
    try with_reducible rfl
  case qzz11 => exact fun _ _ _ h => h
  case szz11 => first | assumption | trivial
  case' rzz11 => simp only [Act.put, List.setIfInBounds_toArray, List.set_cons_zero, List.set_cons_succ]
  refine wpAnyH_take (i := 11) (oi := ?ozz12) (v := ?vzz12) ?hzz12 ?azz12 ?bzz12 ?czz12 ?qzz12 ?yzz12 ?szz12 ?rzz12
  case hzz12 => simp only [List.getElem?_toArray, List.getElem?_cons_zero, List.getElem?_cons_succ]; rfl
  case azz12 => kernel_rfl
  case bzz12 => kernel_rfl
  case czz12 => kernel_rfl
  case yzz12 =>
    refine Or.inl ⟨by rfl, ?_⟩
    intro w hSw
    skip
    go_simp
    try with_reducible rfl
  case qzz12 => exact fun _ _ _ h => h
  case szz12 => first | assumption | trivial
  case' rzz12 => simp only [Act.put, List.setIfInBounds_toArray, List.set_cons_zero, List.set_cons_succ]
  refine wpAnyH_take (i := 12) (oi := ?ozz13) (v := ?vzz13) ?hzz13 ?azz13 ?bzz13 ?czz13 ?qzz13 ?yzz13 ?szz13 ?rzz13
  case hzz13 => simp only [List.getElem?_toArray, List.getElem?_cons_zero, List.getElem?_cons_succ]; rfl
  case azz13 => kernel_rfl
  case bzz13 => kernel_rfl
  case czz13 => kernel_rfl
  case yzz13 =>
    refine Or.inl ⟨by rfl, ?_⟩
    intro w hSw
    have a0 := box_ hSw y0; have a1 := box_ hSw y1; have a2 := box_ hSw y2; have a3 := box_ hSw y3; have a4 := box_ hSw y4; have a5 := box_ hSw y5; have a6 := box_ hSw y6; have a7 := box_ hSw y7; have a8 := box_ hSw y8; have a9 := box_ hSw y9; have a10 := box_ hSw y10; clear hSw
    go_simp
    try with_reducible rfl
  case qzz13 => exact fun _ _ _ h => h
  case szz13 => first | assumption | trivial
  case' rzz13 => simp only [Act.put, List.setIfInBounds_toArray, List.set_cons_zero, List.set_cons_succ]
  refine wpAnyH_take (i := 13) (oi := ?ozz14) (v := ?vzz14) ?hzz14 ?azz14 ?bzz14 ?czz14 ?qzz14 ?yzz14 ?szz14 ?rzz14
  case hzz14 => simp only [List.getElem?_toArray, List.getElem?_cons_zero, List.getElem?_cons_succ]; rfl
  case azz14 => kernel_rfl
  case bzz14 => kernel_rfl
  case czz14 => kernel_rfl
  case yzz14 =>
    refine Or.inl ⟨by rfl, ?_⟩
    intro w hSw
    have a0 := box_ hSw z0; have a1 := box_ hSw z1; have a2 := box_ hSw z2; have a3 := box_ hSw z3; have a4 := box_ hSw z4; have a5 := box_ hSw z5; have a6 := box_ hSw z6; have a7 := box_ hSw z7; have a8 := box_ hSw z8; have a9 := box_ hSw z9; have a10 := box_ hSw z10; clear hSw
    go_simp
    try with_reducible rfl
  case qzz14 => exact fun _ _ _ h => h
  case szz14 => first | assumption | trivial
  case' rzz14 => simp only [Act.put, List.setIfInBounds_toArray, List.set_cons_zero, List.set_cons_succ]
  refine wpAnyH_take (i := 14) (oi := ?ozz15) (v := ?vzz15) ?hzz15 ?azz15 ?bzz15 ?czz15 ?qzz15 ?yzz15 ?szz15 ?rzz15
  case hzz15 => simp only [List.getElem?_toArray, List.getElem?_cons_zero, List.getElem?_cons_succ]; rfl
  case azz15 => kernel_rfl
  case bzz15 => kernel_rfl
  case czz15 => kernel_rfl
  case yzz15 =>
    refine Or.inl ⟨by rfl, ?_⟩
    intro w hSw
    skip
    go_simp
    try with_reducible rfl
  case qzz15 => exact fun _ _ _ h => h
  case szz15 => first | assumption | trivial
  case' rzz15 => simp only [Act.put, List.setIfInBounds_toArray, List.set_cons_zero, List.set_cons_succ]
  refine wpAnyH_take (i := 15) (oi := ?ozz16) (v := ?vzz16) ?hzz16 ?azz16 ?bzz16 ?czz16 ?qzz16 ?yzz16 ?szz16 ?rzz16
  case hzz16 => simp only [List.getElem?_toArray, List.getElem?_cons_zero, List.getElem?_cons_succ]; rfl
  case azz16 => kernel_rfl
  case bzz16 => kernel_rfl
  case czz16 => kernel_rfl
  case yzz16 =>
    refine Or.inl ⟨by rfl, ?_⟩
    intro w hSw
    skip
    go_simp
    try with_reducible rfl
  case qzz16 => exact fun _ _ _ h => h
  case szz16 => first | assumption | trivial
  case' rzz16 => simp only [Act.put, List.setIfInBounds_toArray, List.set_cons_zero, List.set_cons_succ]
  refine wpAnyH_take (i := 16) (oi := ?ozz17) (v := ?vzz17) ?hzz17 ?azz17 ?bzz17 ?czz17 ?qzz17 ?yzz17 ?szz17 ?rzz17
  case hzz17 => simp only [List.getElem?_toArray, List.getElem?_cons_zero, List.getElem?_cons_succ]; rfl
  case azz17 => kernel_rfl
  case bzz17 => kernel_rfl
  case czz17 => kernel_rfl
  case yzz17 =>
    refine Or.inl ⟨by rfl, ?_⟩
    intro w hSw
    skip
    go_simp
    try with_reducible rfl
  case qzz17 => exact fun _ _ _ h => h
  case szz17 => first | assumption | trivial
  case' rzz17 => simp only [Act.put, List.setIfInBounds_toArray, List.set_cons_zero, List.set_cons_succ]
  refine wpAnyH_take (i := 17) (oi := ?ozz18) (v := ?vzz18) ?hzz18 ?azz18 ?bzz18 ?czz18 ?qzz18 ?yzz18 ?szz18 ?rzz18
  case hzz18 => simp only [List.getElem?_toArray, List.getElem?_cons_zero, List.getElem?_cons_succ]; rfl
  case azz18 => kernel_rfl
  case bzz18 => kernel_rfl
  case czz18 => kernel_rfl
  case yzz18 =>
    refine Or.inl ⟨by rfl, ?_⟩
    intro w hSw
    skip
    go_simp
    try with_reducible rfl
  case qzz18 => exact fun _ _ _ h => h
  case szz18 => first | assumption | trivial
  case' rzz18 => simp only [Act.put, List.setIfInBounds_toArray, List.set_cons_zero, List.set_cons_succ]
  refine wpAnyH_take (i := 18) (oi := ?ozz19) (v := ?vzz19) ?hzz19 ?azz19 ?bzz19 ?czz19 ?qzz19 ?yzz19 ?szz19 ?rzz19
  case hzz19 => simp only [List.getElem?_toArray, List.getElem?_cons_zero, List.getElem?_cons_succ]; rfl
  case azz19 => kernel_rfl
  case bzz19 => kernel_rfl
  case czz19 => kernel_rfl
  case yzz19 =>
    refine Or.inl ⟨by rfl, ?_⟩
    intro w hSw
    skip
    go_simp
    try with_reducible rfl
  case qzz19 => exact fun _ _ _ h => h
  case szz19 => first | assumption | trivial
  case' rzz19 => simp only [Act.put, List.setIfInBounds_toArray, List.set_cons_zero, List.set_cons_succ]
  refine wpAnyH_take (i := 19) (oi := ?ozz20) (v := ?vzz20) ?hzz20 ?azz20 ?bzz20 ?czz20 ?qzz20 ?yzz20 ?szz20 ?rzz20
  case hzz20 => simp only [List.getElem?_toArray, List.getElem?_cons_zero, List.getElem?_cons_succ]; rfl
  case azz20 => kernel_rfl
  case bzz20 => kernel_rfl
  case czz20 => kernel_rfl
  case yzz20 =>
    refine Or.inl ⟨by rfl, ?_⟩
    intro w hSw
    skip
    go_simp
    try with_reducible rfl
  case qzz20 => exact fun _ _ _ h => h
  case szz20 => first | assumption | trivial
  case' rzz20 => simp only [Act.put, List.setIfInBounds_toArray, List.set_cons_zero, List.set_cons_succ]
  refine wpAnyH_take (i := 20) (oi := ?ozz21) (v := ?vzz21) ?hzz21 ?azz21 ?bzz21 ?czz21 ?qzz21 ?yzz21 ?szz21 ?rzz21
  case hzz21 => simp only [List.getElem?_toArray, List.getElem?_cons_zero, List.getElem?_cons_succ]; rfl
  case azz21 => kernel_rfl
  case bzz21 => kernel_rfl
  case czz21 => kernel_rfl
  case yzz21 =>
    refine Or.inl ⟨by rfl, ?_⟩
    intro w hSw
    skip
    go_simp
    try with_reducible rfl
  case qzz21 => exact fun _ _ _ h => h
  case szz21 => first | assumption | trivial
  case' rzz21 => simp only [Act.put, List.setIfInBounds_toArray, List.set_cons_zero, List.set_cons_succ]
  refine wpAnyH_take (i := 21) (oi := ?ozz22) (v := ?vzz22) ?hzz22 ?azz22 ?bzz22 ?czz22 ?qzz22 ?yzz22 ?szz22 ?rzz22
  case hzz22 => simp only [List.getElem?_toArray, List.getElem?_cons_zero, List.getElem?_cons_succ]; rfl
  case azz22 => kernel_rfl
  case bzz22 => kernel_rfl
  case czz22 => kernel_rfl
  case yzz22 =>
    refine Or.inl ⟨by rfl, ?_⟩
    intro w hSw
    skip
    go_simp
    try with_reducible rfl
  case qzz22 => exact fun _ _ _ h => h
  case szz22 => first | assumption | trivial
  case' rzz22 => simp only [Act.put, List.setIfInBounds_toArray, List.set_cons_zero, List.set_cons_succ]
  refine wpAnyH_take (i := 22) (oi := ?ozz23) (v := ?vzz23) ?hzz23 ?azz23 ?bzz23 ?czz23 ?qzz23 ?yzz23 ?szz23 ?rzz23
  case hzz23 => simp only [List.getElem?_toArray, List.getElem?_cons_zero, List.getElem?_cons_succ]; rfl
  case azz23 => kernel_rfl
  case bzz23 => kernel_rfl
  case czz23 => kernel_rfl
  case yzz23 =>
    refine Or.inl ⟨by rfl, ?_⟩
    intro w hSw
    have a0 := box_ hSw x0; have a1 := box_ hSw x1; have a2 := box_ hSw x2; have a3 := box_ hSw x3; have a4 := box_ hSw x4; have a5 := box_ hSw x5; have a6 := box_ hSw x6; have a7 := box_ hSw x7; have a8 := box_ hSw x8; have a9 := box_ hSw x9; have a10 := box_ hSw x10; clear hSw
    go_simp
    try with_reducible rfl
  case qzz23 => exact fun _ _ _ h => h
  case szz23 => first | assumption | trivial
  case' rzz23 => simp only [Act.put, List.setIfInBounds_toArray, List.set_cons_zero, List.set_cons_succ]
  refine wpAnyH_take (i := 24) (oi := ?ozz24) (v := ?vzz24) ?hzz24 ?azz24 ?bzz24 ?czz24 ?qzz24 ?yzz24 ?szz24 ?rzz24
  case hzz24 => simp only [List.getElem?_toArray, List.getElem?_cons_zero, List.getElem?_cons_succ]; rfl
  case azz24 => kernel_rfl
  case bzz24 => kernel_rfl
  case czz24 => kernel_rfl
  case yzz24 =>
    refine Or.inl ⟨by rfl, ?_⟩
    intro w hSw
    have a0 := box_ hSw x0; have a1 := box_ hSw x1; have a2 := box_ hSw x2; have a3 := box_ hSw x3; have a4 := box_ hSw x4; have a5 := box_ hSw x5; have a6 := box_ hSw x6; have a7 := box_ hSw x7; have a8 := box_ hSw x8; have a9 := box_ hSw x9; have a10 := box_ hSw x10; clear hSw
    go_simp
    try with_reducible rfl
  case qzz24 => exact fun _ _ _ h => h
  case szz24 => first | assumption | trivial
  case' rzz24 => simp only [Act.put, List.setIfInBounds_toArray, List.set_cons_zero, List.set_cons_succ]
  refine wpAnyH_ready (rs := [23]) (by kernel_rfl) (by simp) ?_
  refine AllReadyH.cons (o := ?ozz29) ?hzz29 (fun K hK => ?kzz29) ?mzz29
  case hzz29 => simp only [List.getElem?_toArray, List.getElem?_cons_zero, List.getElem?_cons_succ]; rfl
  case kzz29 =>
    go_simp
    refine (K5.out _).mono ?_
    rintro e7 v7 ⟨rfl, q7⟩
    go_wp2_with fail
    refine hK.out _ _ ?Szz29 (fun hHeld => ?Rzz29)
    case Szz29 =>
      exact hHeld.trans q7
    case Rzz29 =>
      clear hK K
      try simp only [Act.put, List.setIfInBounds_toArray, List.set_cons_zero, List.set_cons_succ]
      refine wpAnyH_ready (rs := [25]) (by kernel_rfl) (by simp) ?_
      refine AllReadyH.cons (o := ?ozz28) ?hzz28 (fun K hK => ?kzz28) ?mzz28
      case hzz28 => simp only [List.getElem?_toArray, List.getElem?_cons_zero, List.getElem?_cons_succ]; rfl
      case kzz28 =>
        go_simp
        refine (K6.out _).mono ?_
        rintro e8 v8 ⟨rfl, q8⟩
        go_wp2_with fail
        refine hK.out _ _ ?Szz28 (fun hHeld => ?Rzz28)
        case Szz28 =>
          exact hHeld.trans q8
        case Rzz28 =>
          clear hK K
          try simp only [Act.put, List.setIfInBounds_toArray, List.set_cons_zero, List.set_cons_succ]
          refine wpAnyH_take (i := 26) (oi := ?ozz25) (v := ?vzz25) ?hzz25 ?azz25 ?bzz25 ?czz25 ?qzz25 ?yzz25 ?szz25 ?rzz25
          case hzz25 => simp only [List.getElem?_toArray, List.getElem?_cons_zero, List.getElem?_cons_succ]; rfl
          case azz25 => kernel_rfl
          case bzz25 => kernel_rfl
          case czz25 => kernel_rfl
          case yzz25 =>
            refine Or.inl ⟨by rfl, ?_⟩
            intro w hSw
            skip
            go_simp
            try with_reducible rfl
          case qzz25 => exact fun _ _ _ h => h
          case szz25 => first | assumption | trivial
          case' rzz25 => simp only [Act.put, List.setIfInBounds_toArray, List.set_cons_zero, List.set_cons_succ]
          refine wpAnyH_take (i := 27) (oi := ?ozz26) (v := ?vzz26) ?hzz26 ?azz26 ?bzz26 ?czz26 ?qzz26 ?yzz26 ?szz26 ?rzz26
          case hzz26 => simp only [List.getElem?_toArray, List.getElem?_cons_zero, List.getElem?_cons_succ]; rfl
          case azz26 => kernel_rfl
          case bzz26 => kernel_rfl
          case czz26 => kernel_rfl
          case yzz26 =>
            refine Or.inl ⟨by rfl, ?_⟩
            intro w hSw
            skip
            go_simp
            try with_reducible rfl
          case qzz26 => exact fun _ _ _ h => h
          case szz26 => first | assumption | trivial
          case' rzz26 => simp only [Act.put, List.setIfInBounds_toArray, List.set_cons_zero, List.set_cons_succ]
          refine wpAnyH_take (i := 28) (oi := ?ozz27) (v := ?vzz27) ?hzz27 ?azz27 ?bzz27 ?czz27 ?qzz27 ?yzz27 ?szz27 ?rzz27
          case hzz27 => simp only [List.getElem?_toArray, List.getElem?_cons_zero, List.getElem?_cons_succ]; rfl
          case azz27 => kernel_rfl
          case bzz27 => kernel_rfl
          case czz27 => kernel_rfl
          case yzz27 =>
            refine Or.inl ⟨by rfl, ?_⟩
            intro w hSw
            skip
            go_simp
            try with_reducible rfl
          case qzz27 => exact fun _ _ _ h => h
          case szz27 => first | assumption | trivial
          case' rzz27 => simp only [Act.put, List.setIfInBounds_toArray, List.set_cons_zero, List.set_cons_succ]
          refine wpAnyH_done (by kernel_rfl) ?_ _
          go_wp2
          go_ret
          exact ⟨by first | rfl | simp, QF.out.trans hHeld⟩
      case' mzz28 => skip
      exact AllReadyH.nil
  case' mzz29 => skip
  exact AllReadyH.nil

theorem opened (W : World) (args : Array Value) (hn : args.size = 2) (h : ∀ (j : Nat) t v, Tryd.f3.params[j]? = some t → args[j]? = some v → RdV W t v ∧ (false = true → RdU W t v.cells.toList)) (hL : laidMetH Tryd.prog Rows.wireReqsRow.laid W) :
    Calls Tryd.prog 3 args W fun e W' => e = .returned (.bool true) ∧ Q W W' := by
  obtain ⟨v0, v1, rfl⟩ := args2 hn
  rw [Tryd.params3] at h
  obtain ⟨cs0, e0, r0⟩ := (h 0 25 v0 rfl rfl).1.struct Tryd.underlying25
  obtain ⟨q, f0, p0⟩ := Wi.open_req r0
  subst f0
  obtain ⟨s, e1, s1⟩ := (h 1 9 v1 rfl rfl).1.string Tryd.underlying9
  subst e0 e1
  obtain ⟨sa, sc, hW, hne⟩ := wk_laid hL
  exact walk q s W sa sc hW hne p0 s1

theorem start_met (os : Os) : laidMetH Tryd.prog Rows.wireReqsRow.laid ((World.doorLaid Tryd.prog 600 os).forCall (fun _ _ => 0) ⟨#[], #[.agg #[.int .i64 0, .int .i64 0, .int .i64 0, .int .i64 0, .string ⟨#[]⟩, .int .i64 0, .string ⟨#[]⟩, .string ⟨#[]⟩, .string ⟨#[]⟩, .string ⟨#[]⟩, .int .i64 0], .string ⟨#[]⟩], []⟩).memory :=
  laidMetH_of_parts3 (fuel := 8) (laidMet_of_run' 8 (by kernel_rfl) (by kernel_rfl)) (by kernel_rfl) (by kernel_rfl)
theorem reads (os : Os) {H : Type} (enc : TypeId × Value → H) : ∃ places, DataW.whole enc Tryd.prog ((World.doorLaid Tryd.prog 600 os).forCall (fun _ _ => 0) ⟨#[], #[.agg #[.int .i64 0, .int .i64 0, .int .i64 0, .int .i64 0, .string ⟨#[]⟩, .int .i64 0, .string ⟨#[]⟩, .string ⟨#[]⟩, .string ⟨#[]⟩, .string ⟨#[]⟩, .int .i64 0], .string ⟨#[]⟩], []⟩).memory Tryd.f3.params.toList Rows.wireReqsSpec.vars false (#[.agg #[.int .i64 0, .int .i64 0, .int .i64 0, .int .i64 0, .string ⟨#[]⟩, .int .i64 0, .string ⟨#[]⟩, .string ⟨#[]⟩, .string ⟨#[]⟩, .string ⟨#[]⟩, .int .i64 0], .string ⟨#[]⟩] : Array Value).toList 8 = some ([.agg [.lit (.int .i64 0), .lit (.int .i64 0), .lit (.int .i64 0), .lit (.int .i64 0), .lit (.string []), .agg [.lit (.int .i64 0), .lit (.string []), .lit (.string []), .lit (.string []), .lit (.string []), .lit (.int .i64 0)]], .lit (.string [])], [], places) :=
  ⟨[], by kernel_rfl⟩

set_option maxRecDepth 100000 in
theorem lifted (os : Os) (started : os.Started) (H : Type) (enc : TypeId × Value → H) (F : Stop.Interp) :
    ReturnsInHanded {} Tryd.checked os 3 .any ((OpenSpec.ofChange Rows.wireReqsSpec).preRow enc Tryd.prog Tryd.f3 Rows.wireReqsRow.domain false Rows.wireReqsRow.laid) (((OpenSpec.ofChange Rows.wireReqsSpec).at F).post enc Tryd.prog Tryd.f3 false true false false) := by
  obtain ⟨places, hx⟩ := reads os enc
  refine returnsInHanded_of_row (C := Tryd.checked) (s := OpenSpec.ofChange Rows.wireReqsSpec) ownKnob_ started (by kernel_rfl) Tryd.func3
    (witness_row_atRef (enc := enc) (C := Tryd.checked) false (World.doorLaid Tryd.prog 600 os) #[.agg #[.int .i64 0, .int .i64 0, .int .i64 0, .int .i64 0, .string ⟨#[]⟩, .int .i64 0, .string ⟨#[]⟩, .string ⟨#[]⟩, .string ⟨#[]⟩, .string ⟨#[]⟩, .int .i64 0], .string ⟨#[]⟩] rfl (by kernel_rfl) (by kernel_rfl) (by kernel_rfl)
      (OpenSpec.preRow_of_cond 8 hx (by kernel_rfl) (fun k hk => by cases hk) (by kernel_rfl) (start_met os))) ?_
  intro W base args ds gs before hval hW _ hcond hsz hL _ _
  exact framedC (s := Rows.wireReqsSpec) false Rows.wireReqsRow.laid 2 (by rw [Tryd.params3]; rfl) rfl (by kernel_rfl) (by kernel_rfl)
    (fun H ds h => by match ds, h with | [d0, d1], _ => exact ⟨rfl, rfl, rfl⟩)
    opened H enc W base args ds gs before hval hW (fun h => by cases h) hsz hL

theorem over : Rows.WireReqsSaid :=
  OpenClaim.holds_of_cond 3 Tryd.f3 rfl rfl rfl rfl rfl rfl rfl ⟨rfl, rfl, rfl, rfl, rfl⟩ rfl rfl rfl rfl rfl (by kernel_rfl) Tryd.func3 (by kernel_rfl)
    (of_decide_eq_true (by kernel_rfl)) (by unfold Func.isWrapper; first | (rw [if_pos (by decide +kernel)]; kernel_rfl) | (rw [if_neg (by decide +kernel)]; exact ⟨rfl, rfl⟩))
    (fun os started H enc _ F => by rw [OpenClaim.pre_eq_preRow]; exact lifted os started H enc F)

/-- No parameter wants a stand-in; the program's own looks are as the card says. -/
theorem plain (f : FuncId) (fn : Func) (hf : Tryd.pinned.checked.prog.funcNamed "stanchion/stanchionlaw16.WireReqs" = some f) (hfn : Tryd.pinned.checked.prog.funcs[f]? = some fn) :
    true = Tryd.pinned.checked.prog.looks [] ∧ ∀ (j : Nat) t, fn.params[j]? = some t → Tryd.pinned.checked.prog.wantsStandIn t = false := by
  obtain rfl : f = 3 := Option.some.inj ((show Tryd.prog.funcNamed "stanchion/stanchionlaw16.WireReqs" = some 3 by kernel_rfl).symm.trans hf) |>.symm
  obtain rfl : fn = Tryd.f3 := (Option.some.inj (Tryd.func3.symm.trans hfn)).symm
  refine ⟨by kernel_rfl, fun j t ht => ?_⟩
  have h0 : (Tryd.f3.params.toList.all fun t => !(Tryd.prog.wantsStandIn t)) = true := by kernel_rfl
  have h1 := List.all_eq_true.1 h0 t (by rw [← Array.getElem?_toList] at ht; exact List.mem_of_getElem? ht)
  exact (by simpa using h1 : Tryd.prog.wantsStandIn t = false)

theorem proved : Rows.WireReqsCardSaid :=
  Claim7.holds_tied_plain_at .later [] _ _ _ _ over (fun _ h => by cases h) (by kernel_rfl) (fun _ h => by cases h) wireReqs_row_tie rfl ⟨rfl, rfl⟩ (by kernel_rfl) rfl plain (by kernel_rfl)
end Go.Proofs.YtdipikdebapmlaaDoor.wireReqs
