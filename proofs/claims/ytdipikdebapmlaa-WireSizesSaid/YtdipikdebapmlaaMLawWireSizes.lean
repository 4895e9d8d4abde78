/- For every request and reply: what may be fits into a frame. No condition. -/
import Derived.Test.YtdipikdebapmlaaP4
import Derived.Test.YtdipikdebapmlaaP2
import Derived.Deep.DeepCutAuto
namespace Go.Proofs.Ytdipikdebapmlaa.wireSizes
set_option maxRecDepth 100000
open Go.ChangeShapes Go.WideShapes Go.ChangeAt Go.RowKit Prm Wi
set_option linter.unusedVariables false
set_option linter.unusedSimpArgs false

set_option maxRecDepth 100000 in
set_option maxHeartbeats 8000000 in
theorem walk00 (q : Rq) (p : Rp) (A : Option Addr) (N c : Nat) (w : World) (S S2 : ByteArray) (k1 : ∀ W, Calls Try.prog 5 #[.agg #[.int .i64 q.kind, .int .i64 q.epoch, .int .i64 q.sess, .int .i64 q.seq, .string q.tok, .int .i64 q.op.kind, .string q.op.key, .string q.op.val, .string q.op.lo, .string q.op.hi, .int .i64 q.op.most]] W fun e w' => e = .returned (.tuple #[.string S, .int .i64 0]) ∧ Q W w') (h0 : 0 < S.size) (h1 : S.size ≤ 2048) (k2 : ∀ W, Q w W → Calls Try.prog 6 #[.agg #[.int .i64 p.epoch, .int .i64 p.sess, .int .i64 p.seq, .int .i64 p.err, .string p.val, .bool p.found, .slice A N c, .bool p.over]] W fun e w' => e = .returned (.tuple #[.string S2, .int .i64 0]) ∧ Q W w') (h2 : 0 < S2.size) (h3 : S2.size ≤ 2048) :
    Calls Try.prog 3 #[.agg #[.int .i64 q.kind, .int .i64 q.epoch, .int .i64 q.sess, .int .i64 q.seq, .string q.tok, .int .i64 q.op.kind, .string q.op.key, .string q.op.val, .string q.op.lo, .string q.op.hi, .int .i64 q.op.most], .agg #[.int .i64 p.epoch, .int .i64 p.sess, .int .i64 p.seq, .int .i64 p.err, .string p.val, .bool p.found, .slice A N c, .bool p.over]] w fun e w' => e = .returned (.bool true) ∧ Q w w' := by
  have K0 := Lib.hid (fun W => wishown_any W)
  have X2 : Hid (Bx (w.alloc (.cells #[.int .i64 q.kind, .int .i64 q.epoch, .int .i64 q.sess, .int .i64 q.seq, .string q.tok, .int .i64 q.op.kind, .string q.op.key, .string q.op.val, .string q.op.lo, .string q.op.hi, .int .i64 q.op.most] 25)) w.heap.size [.int .i64 q.kind, .int .i64 q.epoch, .int .i64 q.sess, .int .i64 q.seq, .string q.tok, .int .i64 q.op.kind, .string q.op.key, .string q.op.val, .string q.op.lo, .string q.op.hi, .int .i64 q.op.most]) := Lib.hid (Bx.new w [.int .i64 q.kind, .int .i64 q.epoch, .int .i64 q.sess, .int .i64 q.seq, .string q.tok, .int .i64 q.op.kind, .string q.op.key, .string q.op.val, .string q.op.lo, .string q.op.hi, .int .i64 q.op.most] 25)
  have QF := Lib.hid ((Q.refl w).alloc (.cells #[.int .i64 q.kind, .int .i64 q.epoch, .int .i64 q.sess, .int .i64 q.seq, .string q.tok, .int .i64 q.op.kind, .string q.op.key, .string q.op.val, .string q.op.lo, .string q.op.hi, .int .i64 q.op.most] 25))
  have X2 := Lib.hid (X2.out.alloc (.cells #[.int .i64 p.epoch, .int .i64 p.sess, .int .i64 p.seq, .int .i64 p.err, .string p.val, .bool p.found, .slice A N c, .bool p.over] 29))
  have X3 : Hid (Bx ((w.alloc (.cells #[.int .i64 q.kind, .int .i64 q.epoch, .int .i64 q.sess, .int .i64 q.seq, .string q.tok, .int .i64 q.op.kind, .string q.op.key, .string q.op.val, .string q.op.lo, .string q.op.hi, .int .i64 q.op.most] 25)).alloc (.cells #[.int .i64 p.epoch, .int .i64 p.sess, .int .i64 p.seq, .int .i64 p.err, .string p.val, .bool p.found, .slice A N c, .bool p.over] 29)) (w.alloc (.cells #[.int .i64 q.kind, .int .i64 q.epoch, .int .i64 q.sess, .int .i64 q.seq, .string q.tok, .int .i64 q.op.kind, .string q.op.key, .string q.op.val, .string q.op.lo, .string q.op.hi, .int .i64 q.op.most] 25)).heap.size [.int .i64 p.epoch, .int .i64 p.sess, .int .i64 p.seq, .int .i64 p.err, .string p.val, .bool p.found, .slice A N c, .bool p.over]) := Lib.hid (Bx.new (w.alloc (.cells #[.int .i64 q.kind, .int .i64 q.epoch, .int .i64 q.sess, .int .i64 q.seq, .string q.tok, .int .i64 q.op.kind, .string q.op.key, .string q.op.val, .string q.op.lo, .string q.op.hi, .int .i64 q.op.most] 25)) [.int .i64 p.epoch, .int .i64 p.sess, .int .i64 p.seq, .int .i64 p.err, .string p.val, .bool p.found, .slice A N c, .bool p.over] 29)
  have QF := Lib.hid (QF.out.alloc (.cells #[.int .i64 p.epoch, .int .i64 p.sess, .int .i64 p.seq, .int .i64 p.err, .string p.val, .bool p.found, .slice A N c, .bool p.over] 29))
  rw [show (w.alloc (.cells #[.int .i64 q.kind, .int .i64 q.epoch, .int .i64 q.sess, .int .i64 q.seq, .string q.tok, .int .i64 q.op.kind, .string q.op.key, .string q.op.val, .string q.op.lo, .string q.op.hi, .int .i64 q.op.most] 25)).heap.size = w.heap.size + 1 by simp] at X3
  have K1 := Lib.hid k1
  have K2 := Lib.hid k2
  clear k1 k2
  have i0 : (0 : Int) < (S.size : Int) := by omega
  have i1 : (S.size : Int) ≤ 2048 := by omega
  have i2 : (0 : Int) < (S2.size : Int) := by omega
  have i3 : (S2.size : Int) ≤ 2048 := by omega
  go_enter Try.func3, Try.ntmps3
  go_upto_region 1 with (fail)
  generalize ((w.alloc (.cells #[.int .i64 q.kind, .int .i64 q.epoch, .int .i64 q.sess, .int .i64 q.seq, .string q.tok, .int .i64 q.op.kind, .string q.op.key, .string q.op.val, .string q.op.lo, .string q.op.hi, .int .i64 q.op.most] 25)).alloc (.cells #[.int .i64 p.epoch, .int .i64 p.sess, .int .i64 p.seq, .int .i64 p.err, .string p.val, .bool p.found, .slice A N c, .bool p.over] 29)) = W0 at X2 X3 QF ⊢
  generalize hb2 : w.heap.size = b2 at X2 X3 ⊢
  generalize hb3 : b2 + 1 = b3 at X3 ⊢
  clear hb2 hb3
  go_wp2_with fail
  refine (K0.out _).mono ?_
  rintro e0 v0 ⟨rfl, q0⟩
  replace X2 := Lib.hid (X2.out.q q0)
  replace X3 := Lib.hid (X3.out.q q0)
  replace QF := Lib.hid (QF.out.trans q0)
  clear q0
  have x2_0 := (X2.out 0 _ rfl).1
  have x2_1 := (X2.out 1 _ rfl).1
  have x2_2 := (X2.out 2 _ rfl).1
  have x2_3 := (X2.out 3 _ rfl).1
  have x2_4 := (X2.out 4 _ rfl).1
  have x2_5 := (X2.out 5 _ rfl).1
  have x2_6 := (X2.out 6 _ rfl).1
  have x2_7 := (X2.out 7 _ rfl).1
  have x2_8 := (X2.out 8 _ rfl).1
  have x2_9 := (X2.out 9 _ rfl).1
  have x2_10 := (X2.out 10 _ rfl).1
  go_wp2_with fail
  refine (K1.out _).mono ?_
  rintro e1 v1 ⟨rfl, q1⟩
  clear x2_0 x2_1 x2_2 x2_3 x2_4 x2_5 x2_6 x2_7 x2_8 x2_9 x2_10
  replace X2 := Lib.hid (X2.out.q q1)
  replace X3 := Lib.hid (X3.out.q q1)
  replace QF := Lib.hid (QF.out.trans q1)
  clear q1
  have x3_0 := (X3.out 0 _ rfl).1
  have x3_1 := (X3.out 1 _ rfl).1
  have x3_2 := (X3.out 2 _ rfl).1
  have x3_3 := (X3.out 3 _ rfl).1
  have x3_4 := (X3.out 4 _ rfl).1
  have x3_5 := (X3.out 5 _ rfl).1
  have x3_6 := (X3.out 6 _ rfl).1
  have x3_7 := (X3.out 7 _ rfl).1
  go_wp2_with fail
  refine (K2.out _ QF.out).mono ?_
  rintro e2 v2 ⟨rfl, q2⟩
  clear x3_0 x3_1 x3_2 x3_3 x3_4 x3_5 x3_6 x3_7
  replace X2 := Lib.hid (X2.out.q q2)
  replace X3 := Lib.hid (X3.out.q q2)
  replace QF := Lib.hid (QF.out.trans q2)
  clear q2
  go_wp2
  go_ret
  exact ⟨by first | rfl | simp, QF.out⟩
set_option maxRecDepth 100000 in
set_option maxHeartbeats 8000000 in
theorem walk01 (q : Rq) (p : Rp) (A : Option Addr) (N c : Nat) (w : World) (S S2 : ByteArray) (k1 : ∀ W, Calls Try.prog 5 #[.agg #[.int .i64 q.kind, .int .i64 q.epoch, .int .i64 q.sess, .int .i64 q.seq, .string q.tok, .int .i64 q.op.kind, .string q.op.key, .string q.op.val, .string q.op.lo, .string q.op.hi, .int .i64 q.op.most]] W fun e w' => e = .returned (.tuple #[.string S, .int .i64 0]) ∧ Q W w') (h0 : 0 < S.size) (h1 : S.size ≤ 2048) (k2 : ∀ W, Q w W → Calls Try.prog 6 #[.agg #[.int .i64 p.epoch, .int .i64 p.sess, .int .i64 p.seq, .int .i64 p.err, .string p.val, .bool p.found, .slice A N c, .bool p.over]] W fun e w' => e = .returned (.tuple #[.string S2, .int .i64 1]) ∧ Q W w') :
    Calls Try.prog 3 #[.agg #[.int .i64 q.kind, .int .i64 q.epoch, .int .i64 q.sess, .int .i64 q.seq, .string q.tok, .int .i64 q.op.kind, .string q.op.key, .string q.op.val, .string q.op.lo, .string q.op.hi, .int .i64 q.op.most], .agg #[.int .i64 p.epoch, .int .i64 p.sess, .int .i64 p.seq, .int .i64 p.err, .string p.val, .bool p.found, .slice A N c, .bool p.over]] w fun e w' => e = .returned (.bool true) ∧ Q w w' := by
  have K0 := Lib.hid (fun W => wishown_any W)
  have X2 : Hid (Bx (w.alloc (.cells #[.int .i64 q.kind, .int .i64 q.epoch, .int .i64 q.sess, .int .i64 q.seq, .string q.tok, .int .i64 q.op.kind, .string q.op.key, .string q.op.val, .string q.op.lo, .string q.op.hi, .int .i64 q.op.most] 25)) w.heap.size [.int .i64 q.kind, .int .i64 q.epoch, .int .i64 q.sess, .int .i64 q.seq, .string q.tok, .int .i64 q.op.kind, .string q.op.key, .string q.op.val, .string q.op.lo, .string q.op.hi, .int .i64 q.op.most]) := Lib.hid (Bx.new w [.int .i64 q.kind, .int .i64 q.epoch, .int .i64 q.sess, .int .i64 q.seq, .string q.tok, .int .i64 q.op.kind, .string q.op.key, .string q.op.val, .string q.op.lo, .string q.op.hi, .int .i64 q.op.most] 25)
  have QF := Lib.hid ((Q.refl w).alloc (.cells #[.int .i64 q.kind, .int .i64 q.epoch, .int .i64 q.sess, .int .i64 q.seq, .string q.tok, .int .i64 q.op.kind, .string q.op.key, .string q.op.val, .string q.op.lo, .string q.op.hi, .int .i64 q.op.most] 25))
  have X2 := Lib.hid (X2.out.alloc (.cells #[.int .i64 p.epoch, .int .i64 p.sess, .int .i64 p.seq, .int .i64 p.err, .string p.val, .bool p.found, .slice A N c, .bool p.over] 29))
  have X3 : Hid (Bx ((w.alloc (.cells #[.int .i64 q.kind, .int .i64 q.epoch, .int .i64 q.sess, .int .i64 q.seq, .string q.tok, .int .i64 q.op.kind, .string q.op.key, .string q.op.val, .string q.op.lo, .string q.op.hi, .int .i64 q.op.most] 25)).alloc (.cells #[.int .i64 p.epoch, .int .i64 p.sess, .int .i64 p.seq, .int .i64 p.err, .string p.val, .bool p.found, .slice A N c, .bool p.over] 29)) (w.alloc (.cells #[.int .i64 q.kind, .int .i64 q.epoch, .int .i64 q.sess, .int .i64 q.seq, .string q.tok, .int .i64 q.op.kind, .string q.op.key, .string q.op.val, .string q.op.lo, .string q.op.hi, .int .i64 q.op.most] 25)).heap.size [.int .i64 p.epoch, .int .i64 p.sess, .int .i64 p.seq, .int .i64 p.err, .string p.val, .bool p.found, .slice A N c, .bool p.over]) := Lib.hid (Bx.new (w.alloc (.cells #[.int .i64 q.kind, .int .i64 q.epoch, .int .i64 q.sess, .int .i64 q.seq, .string q.tok, .int .i64 q.op.kind, .string q.op.key, .string q.op.val, .string q.op.lo, .string q.op.hi, .int .i64 q.op.most] 25)) [.int .i64 p.epoch, .int .i64 p.sess, .int .i64 p.seq, .int .i64 p.err, .string p.val, .bool p.found, .slice A N c, .bool p.over] 29)
  have QF := Lib.hid (QF.out.alloc (.cells #[.int .i64 p.epoch, .int .i64 p.sess, .int .i64 p.seq, .int .i64 p.err, .string p.val, .bool p.found, .slice A N c, .bool p.over] 29))
  rw [show (w.alloc (.cells #[.int .i64 q.kind, .int .i64 q.epoch, .int .i64 q.sess, .int .i64 q.seq, .string q.tok, .int .i64 q.op.kind, .string q.op.key, .string q.op.val, .string q.op.lo, .string q.op.hi, .int .i64 q.op.most] 25)).heap.size = w.heap.size + 1 by simp] at X3
  have K1 := Lib.hid k1
  have K2 := Lib.hid k2
  clear k1 k2
  have i0 : (0 : Int) < (S.size : Int) := by omega
  have i1 : (S.size : Int) ≤ 2048 := by omega
  go_enter Try.func3, Try.ntmps3
  go_upto_region 1 with (fail)
  generalize ((w.alloc (.cells #[.int .i64 q.kind, .int .i64 q.epoch, .int .i64 q.sess, .int .i64 q.seq, .string q.tok, .int .i64 q.op.kind, .string q.op.key, .string q.op.val, .string q.op.lo, .string q.op.hi, .int .i64 q.op.most] 25)).alloc (.cells #[.int .i64 p.epoch, .int .i64 p.sess, .int .i64 p.seq, .int .i64 p.err, .string p.val, .bool p.found, .slice A N c, .bool p.over] 29)) = W0 at X2 X3 QF ⊢
  generalize hb2 : w.heap.size = b2 at X2 X3 ⊢
  generalize hb3 : b2 + 1 = b3 at X3 ⊢
  clear hb2 hb3
  go_wp2_with fail
  refine (K0.out _).mono ?_
  rintro e0 v0 ⟨rfl, q0⟩
  replace X2 := Lib.hid (X2.out.q q0)
  replace X3 := Lib.hid (X3.out.q q0)
  replace QF := Lib.hid (QF.out.trans q0)
  clear q0
  have x2_0 := (X2.out 0 _ rfl).1
  have x2_1 := (X2.out 1 _ rfl).1
  have x2_2 := (X2.out 2 _ rfl).1
  have x2_3 := (X2.out 3 _ rfl).1
  have x2_4 := (X2.out 4 _ rfl).1
  have x2_5 := (X2.out 5 _ rfl).1
  have x2_6 := (X2.out 6 _ rfl).1
  have x2_7 := (X2.out 7 _ rfl).1
  have x2_8 := (X2.out 8 _ rfl).1
  have x2_9 := (X2.out 9 _ rfl).1
  have x2_10 := (X2.out 10 _ rfl).1
  go_wp2_with fail
  refine (K1.out _).mono ?_
  rintro e1 v1 ⟨rfl, q1⟩
  clear x2_0 x2_1 x2_2 x2_3 x2_4 x2_5 x2_6 x2_7 x2_8 x2_9 x2_10
  replace X2 := Lib.hid (X2.out.q q1)
  replace X3 := Lib.hid (X3.out.q q1)
  replace QF := Lib.hid (QF.out.trans q1)
  clear q1
  have x3_0 := (X3.out 0 _ rfl).1
  have x3_1 := (X3.out 1 _ rfl).1
  have x3_2 := (X3.out 2 _ rfl).1
  have x3_3 := (X3.out 3 _ rfl).1
  have x3_4 := (X3.out 4 _ rfl).1
  have x3_5 := (X3.out 5 _ rfl).1
  have x3_6 := (X3.out 6 _ rfl).1
  have x3_7 := (X3.out 7 _ rfl).1
  go_wp2_with fail
  refine (K2.out _ QF.out).mono ?_
  rintro e2 v2 ⟨rfl, q2⟩
  clear x3_0 x3_1 x3_2 x3_3 x3_4 x3_5 x3_6 x3_7
  replace X2 := Lib.hid (X2.out.q q2)
  replace X3 := Lib.hid (X3.out.q q2)
  replace QF := Lib.hid (QF.out.trans q2)
  clear q2
  go_wp2
  go_ret
  exact ⟨by first | rfl | simp, QF.out⟩
set_option maxRecDepth 100000 in
set_option maxHeartbeats 8000000 in
theorem walk10 (q : Rq) (p : Rp) (A : Option Addr) (N c : Nat) (w : World) (S S2 : ByteArray) (k1 : ∀ W, Calls Try.prog 5 #[.agg #[.int .i64 q.kind, .int .i64 q.epoch, .int .i64 q.sess, .int .i64 q.seq, .string q.tok, .int .i64 q.op.kind, .string q.op.key, .string q.op.val, .string q.op.lo, .string q.op.hi, .int .i64 q.op.most]] W fun e w' => e = .returned (.tuple #[.string S, .int .i64 1]) ∧ Q W w') (k2 : ∀ W, Q w W → Calls Try.prog 6 #[.agg #[.int .i64 p.epoch, .int .i64 p.sess, .int .i64 p.seq, .int .i64 p.err, .string p.val, .bool p.found, .slice A N c, .bool p.over]] W fun e w' => e = .returned (.tuple #[.string S2, .int .i64 0]) ∧ Q W w') (h2 : 0 < S2.size) (h3 : S2.size ≤ 2048) :
    Calls Try.prog 3 #[.agg #[.int .i64 q.kind, .int .i64 q.epoch, .int .i64 q.sess, .int .i64 q.seq, .string q.tok, .int .i64 q.op.kind, .string q.op.key, .string q.op.val, .string q.op.lo, .string q.op.hi, .int .i64 q.op.most], .agg #[.int .i64 p.epoch, .int .i64 p.sess, .int .i64 p.seq, .int .i64 p.err, .string p.val, .bool p.found, .slice A N c, .bool p.over]] w fun e w' => e = .returned (.bool true) ∧ Q w w' := by
  have K0 := Lib.hid (fun W => wishown_any W)
  have X2 : Hid (Bx (w.alloc (.cells #[.int .i64 q.kind, .int .i64 q.epoch, .int .i64 q.sess, .int .i64 q.seq, .string q.tok, .int .i64 q.op.kind, .string q.op.key, .string q.op.val, .string q.op.lo, .string q.op.hi, .int .i64 q.op.most] 25)) w.heap.size [.int .i64 q.kind, .int .i64 q.epoch, .int .i64 q.sess, .int .i64 q.seq, .string q.tok, .int .i64 q.op.kind, .string q.op.key, .string q.op.val, .string q.op.lo, .string q.op.hi, .int .i64 q.op.most]) := Lib.hid (Bx.new w [.int .i64 q.kind, .int .i64 q.epoch, .int .i64 q.sess, .int .i64 q.seq, .string q.tok, .int .i64 q.op.kind, .string q.op.key, .string q.op.val, .string q.op.lo, .string q.op.hi, .int .i64 q.op.most] 25)
  have QF := Lib.hid ((Q.refl w).alloc (.cells #[.int .i64 q.kind, .int .i64 q.epoch, .int .i64 q.sess, .int .i64 q.seq, .string q.tok, .int .i64 q.op.kind, .string q.op.key, .string q.op.val, .string q.op.lo, .string q.op.hi, .int .i64 q.op.most] 25))
  have X2 := Lib.hid (X2.out.alloc (.cells #[.int .i64 p.epoch, .int .i64 p.sess, .int .i64 p.seq, .int .i64 p.err, .string p.val, .bool p.found, .slice A N c, .bool p.over] 29))
  have X3 : Hid (Bx ((w.alloc (.cells #[.int .i64 q.kind, .int .i64 q.epoch, .int .i64 q.sess, .int .i64 q.seq, .string q.tok, .int .i64 q.op.kind, .string q.op.key, .string q.op.val, .string q.op.lo, .string q.op.hi, .int .i64 q.op.most] 25)).alloc (.cells #[.int .i64 p.epoch, .int .i64 p.sess, .int .i64 p.seq, .int .i64 p.err, .string p.val, .bool p.found, .slice A N c, .bool p.over] 29)) (w.alloc (.cells #[.int .i64 q.kind, .int .i64 q.epoch, .int .i64 q.sess, .int .i64 q.seq, .string q.tok, .int .i64 q.op.kind, .string q.op.key, .string q.op.val, .string q.op.lo, .string q.op.hi, .int .i64 q.op.most] 25)).heap.size [.int .i64 p.epoch, .int .i64 p.sess, .int .i64 p.seq, .int .i64 p.err, .string p.val, .bool p.found, .slice A N c, .bool p.over]) := Lib.hid (Bx.new (w.alloc (.cells #[.int .i64 q.kind, .int .i64 q.epoch, .int .i64 q.sess, .int .i64 q.seq, .string q.tok, .int .i64 q.op.kind, .string q.op.key, .string q.op.val, .string q.op.lo, .string q.op.hi, .int .i64 q.op.most] 25)) [.int .i64 p.epoch, .int .i64 p.sess, .int .i64 p.seq, .int .i64 p.err, .string p.val, .bool p.found, .slice A N c, .bool p.over] 29)
  have QF := Lib.hid (QF.out.alloc (.cells #[.int .i64 p.epoch, .int .i64 p.sess, .int .i64 p.seq, .int .i64 p.err, .string p.val, .bool p.found, .slice A N c, .bool p.over] 29))
  rw [show (w.alloc (.cells #[.int .i64 q.kind, .int .i64 q.epoch, .int .i64 q.sess, .int .i64 q.seq, .string q.tok, .int .i64 q.op.kind, .string q.op.key, .string q.op.val, .string q.op.lo, .string q.op.hi, .int .i64 q.op.most] 25)).heap.size = w.heap.size + 1 by simp] at X3
  have K1 := Lib.hid k1
  have K2 := Lib.hid k2
  clear k1 k2
  have i2 : (0 : Int) < (S2.size : Int) := by omega
  have i3 : (S2.size : Int) ≤ 2048 := by omega
  go_enter Try.func3, Try.ntmps3
  go_upto_region 1 with (fail)
  generalize ((w.alloc (.cells #[.int .i64 q.kind, .int .i64 q.epoch, .int .i64 q.sess, .int .i64 q.seq, .string q.tok, .int .i64 q.op.kind, .string q.op.key, .string q.op.val, .string q.op.lo, .string q.op.hi, .int .i64 q.op.most] 25)).alloc (.cells #[.int .i64 p.epoch, .int .i64 p.sess, .int .i64 p.seq, .int .i64 p.err, .string p.val, .bool p.found, .slice A N c, .bool p.over] 29)) = W0 at X2 X3 QF ⊢
  generalize hb2 : w.heap.size = b2 at X2 X3 ⊢
  generalize hb3 : b2 + 1 = b3 at X3 ⊢
  clear hb2 hb3
  go_wp2_with fail
  refine (K0.out _).mono ?_
  rintro e0 v0 ⟨rfl, q0⟩
  replace X2 := Lib.hid (X2.out.q q0)
  replace X3 := Lib.hid (X3.out.q q0)
  replace QF := Lib.hid (QF.out.trans q0)
  clear q0
  have x2_0 := (X2.out 0 _ rfl).1
  have x2_1 := (X2.out 1 _ rfl).1
  have x2_2 := (X2.out 2 _ rfl).1
  have x2_3 := (X2.out 3 _ rfl).1
  have x2_4 := (X2.out 4 _ rfl).1
  have x2_5 := (X2.out 5 _ rfl).1
  have x2_6 := (X2.out 6 _ rfl).1
  have x2_7 := (X2.out 7 _ rfl).1
  have x2_8 := (X2.out 8 _ rfl).1
  have x2_9 := (X2.out 9 _ rfl).1
  have x2_10 := (X2.out 10 _ rfl).1
  go_wp2_with fail
  refine (K1.out _).mono ?_
  rintro e1 v1 ⟨rfl, q1⟩
  clear x2_0 x2_1 x2_2 x2_3 x2_4 x2_5 x2_6 x2_7 x2_8 x2_9 x2_10
  replace X2 := Lib.hid (X2.out.q q1)
  replace X3 := Lib.hid (X3.out.q q1)
  replace QF := Lib.hid (QF.out.trans q1)
  clear q1
  have x3_0 := (X3.out 0 _ rfl).1
  have x3_1 := (X3.out 1 _ rfl).1
  have x3_2 := (X3.out 2 _ rfl).1
  have x3_3 := (X3.out 3 _ rfl).1
  have x3_4 := (X3.out 4 _ rfl).1
  have x3_5 := (X3.out 5 _ rfl).1
  have x3_6 := (X3.out 6 _ rfl).1
  have x3_7 := (X3.out 7 _ rfl).1
  go_wp2_with fail
  refine (K2.out _ QF.out).mono ?_
  rintro e2 v2 ⟨rfl, q2⟩
  clear x3_0 x3_1 x3_2 x3_3 x3_4 x3_5 x3_6 x3_7
  replace X2 := Lib.hid (X2.out.q q2)
  replace X3 := Lib.hid (X3.out.q q2)
  replace QF := Lib.hid (QF.out.trans q2)
  clear q2
  go_wp2
  go_ret
  exact ⟨by first | rfl | simp, QF.out⟩
set_option maxRecDepth 100000 in
set_option maxHeartbeats 8000000 in
theorem walk11 (q : Rq) (p : Rp) (A : Option Addr) (N c : Nat) (w : World) (S S2 : ByteArray) (k1 : ∀ W, Calls Try.prog 5 #[.agg #[.int .i64 q.kind, .int .i64 q.epoch, .int .i64 q.sess, .int .i64 q.seq, .string q.tok, .int .i64 q.op.kind, .string q.op.key, .string q.op.val, .string q.op.lo, .string q.op.hi, .int .i64 q.op.most]] W fun e w' => e = .returned (.tuple #[.string S, .int .i64 1]) ∧ Q W w') (k2 : ∀ W, Q w W → Calls Try.prog 6 #[.agg #[.int .i64 p.epoch, .int .i64 p.sess, .int .i64 p.seq, .int .i64 p.err, .string p.val, .bool p.found, .slice A N c, .bool p.over]] W fun e w' => e = .returned (.tuple #[.string S2, .int .i64 1]) ∧ Q W w') :
    Calls Try.prog 3 #[.agg #[.int .i64 q.kind, .int .i64 q.epoch, .int .i64 q.sess, .int .i64 q.seq, .string q.tok, .int .i64 q.op.kind, .string q.op.key, .string q.op.val, .string q.op.lo, .string q.op.hi, .int .i64 q.op.most], .agg #[.int .i64 p.epoch, .int .i64 p.sess, .int .i64 p.seq, .int .i64 p.err, .string p.val, .bool p.found, .slice A N c, .bool p.over]] w fun e w' => e = .returned (.bool true) ∧ Q w w' := by
  have K0 := Lib.hid (fun W => wishown_any W)
  have X2 : Hid (Bx (w.alloc (.cells #[.int .i64 q.kind, .int .i64 q.epoch, .int .i64 q.sess, .int .i64 q.seq, .string q.tok, .int .i64 q.op.kind, .string q.op.key, .string q.op.val, .string q.op.lo, .string q.op.hi, .int .i64 q.op.most] 25)) w.heap.size [.int .i64 q.kind, .int .i64 q.epoch, .int .i64 q.sess, .int .i64 q.seq, .string q.tok, .int .i64 q.op.kind, .string q.op.key, .string q.op.val, .string q.op.lo, .string q.op.hi, .int .i64 q.op.most]) := Lib.hid (Bx.new w [.int .i64 q.kind, .int .i64 q.epoch, .int .i64 q.sess, .int .i64 q.seq, .string q.tok, .int .i64 q.op.kind, .string q.op.key, .string q.op.val, .string q.op.lo, .string q.op.hi, .int .i64 q.op.most] 25)
  have QF := Lib.hid ((Q.refl w).alloc (.cells #[.int .i64 q.kind, .int .i64 q.epoch, .int .i64 q.sess, .int .i64 q.seq, .string q.tok, .int .i64 q.op.kind, .string q.op.key, .string q.op.val, .string q.op.lo, .string q.op.hi, .int .i64 q.op.most] 25))
  have X2 := Lib.hid (X2.out.alloc (.cells #[.int .i64 p.epoch, .int .i64 p.sess, .int .i64 p.seq, .int .i64 p.err, .string p.val, .bool p.found, .slice A N c, .bool p.over] 29))
  have X3 : Hid (Bx ((w.alloc (.cells #[.int .i64 q.kind, .int .i64 q.epoch, .int .i64 q.sess, .int .i64 q.seq, .string q.tok, .int .i64 q.op.kind, .string q.op.key, .string q.op.val, .string q.op.lo, .string q.op.hi, .int .i64 q.op.most] 25)).alloc (.cells #[.int .i64 p.epoch, .int .i64 p.sess, .int .i64 p.seq, .int .i64 p.err, .string p.val, .bool p.found, .slice A N c, .bool p.over] 29)) (w.alloc (.cells #[.int .i64 q.kind, .int .i64 q.epoch, .int .i64 q.sess, .int .i64 q.seq, .string q.tok, .int .i64 q.op.kind, .string q.op.key, .string q.op.val, .string q.op.lo, .string q.op.hi, .int .i64 q.op.most] 25)).heap.size [.int .i64 p.epoch, .int .i64 p.sess, .int .i64 p.seq, .int .i64 p.err, .string p.val, .bool p.found, .slice A N c, .bool p.over]) := Lib.hid (Bx.new (w.alloc (.cells #[.int .i64 q.kind, .int .i64 q.epoch, .int .i64 q.sess, .int .i64 q.seq, .string q.tok, .int .i64 q.op.kind, .string q.op.key, .string q.op.val, .string q.op.lo, .string q.op.hi, .int .i64 q.op.most] 25)) [.int .i64 p.epoch, .int .i64 p.sess, .int .i64 p.seq, .int .i64 p.err, .string p.val, .bool p.found, .slice A N c, .bool p.over] 29)
  have QF := Lib.hid (QF.out.alloc (.cells #[.int .i64 p.epoch, .int .i64 p.sess, .int .i64 p.seq, .int .i64 p.err, .string p.val, .bool p.found, .slice A N c, .bool p.over] 29))
  rw [show (w.alloc (.cells #[.int .i64 q.kind, .int .i64 q.epoch, .int .i64 q.sess, .int .i64 q.seq, .string q.tok, .int .i64 q.op.kind, .string q.op.key, .string q.op.val, .string q.op.lo, .string q.op.hi, .int .i64 q.op.most] 25)).heap.size = w.heap.size + 1 by simp] at X3
  have K1 := Lib.hid k1
  have K2 := Lib.hid k2
  clear k1 k2
  go_enter Try.func3, Try.ntmps3
  go_upto_region 1 with (fail)
  generalize ((w.alloc (.cells #[.int .i64 q.kind, .int .i64 q.epoch, .int .i64 q.sess, .int .i64 q.seq, .string q.tok, .int .i64 q.op.kind, .string q.op.key, .string q.op.val, .string q.op.lo, .string q.op.hi, .int .i64 q.op.most] 25)).alloc (.cells #[.int .i64 p.epoch, .int .i64 p.sess, .int .i64 p.seq, .int .i64 p.err, .string p.val, .bool p.found, .slice A N c, .bool p.over] 29)) = W0 at X2 X3 QF ⊢
  generalize hb2 : w.heap.size = b2 at X2 X3 ⊢
  generalize hb3 : b2 + 1 = b3 at X3 ⊢
  clear hb2 hb3
  go_wp2_with fail
  refine (K0.out _).mono ?_
  rintro e0 v0 ⟨rfl, q0⟩
  replace X2 := Lib.hid (X2.out.q q0)
  replace X3 := Lib.hid (X3.out.q q0)
  replace QF := Lib.hid (QF.out.trans q0)
  clear q0
  have x2_0 := (X2.out 0 _ rfl).1
  have x2_1 := (X2.out 1 _ rfl).1
  have x2_2 := (X2.out 2 _ rfl).1
  have x2_3 := (X2.out 3 _ rfl).1
  have x2_4 := (X2.out 4 _ rfl).1
  have x2_5 := (X2.out 5 _ rfl).1
  have x2_6 := (X2.out 6 _ rfl).1
  have x2_7 := (X2.out 7 _ rfl).1
  have x2_8 := (X2.out 8 _ rfl).1
  have x2_9 := (X2.out 9 _ rfl).1
  have x2_10 := (X2.out 10 _ rfl).1
  go_wp2_with fail
  refine (K1.out _).mono ?_
  rintro e1 v1 ⟨rfl, q1⟩
  clear x2_0 x2_1 x2_2 x2_3 x2_4 x2_5 x2_6 x2_7 x2_8 x2_9 x2_10
  replace X2 := Lib.hid (X2.out.q q1)
  replace X3 := Lib.hid (X3.out.q q1)
  replace QF := Lib.hid (QF.out.trans q1)
  clear q1
  have x3_0 := (X3.out 0 _ rfl).1
  have x3_1 := (X3.out 1 _ rfl).1
  have x3_2 := (X3.out 2 _ rfl).1
  have x3_3 := (X3.out 3 _ rfl).1
  have x3_4 := (X3.out 4 _ rfl).1
  have x3_5 := (X3.out 5 _ rfl).1
  have x3_6 := (X3.out 6 _ rfl).1
  have x3_7 := (X3.out 7 _ rfl).1
  go_wp2_with fail
  refine (K2.out _ QF.out).mono ?_
  rintro e2 v2 ⟨rfl, q2⟩
  clear x3_0 x3_1 x3_2 x3_3 x3_4 x3_5 x3_6 x3_7
  replace X2 := Lib.hid (X2.out.q q2)
  replace X3 := Lib.hid (X3.out.q q2)
  replace QF := Lib.hid (QF.out.trans q2)
  clear q2
  go_wp2
  go_ret
  exact ⟨by first | rfl | simp, QF.out⟩
theorem walk (q : Rq) (p : Rp) (A : Option Addr) (N c : Nat) (w : World) (hq : RqIn q) (hA : In_ pairK w A N c p.rows) (hb : N * 32 ≤ 140737488351232) (hp : RpIn p) :
    Calls Try.prog 3 #[.agg #[.int .i64 q.kind, .int .i64 q.epoch, .int .i64 q.sess, .int .i64 q.seq, .string q.tok, .int .i64 q.op.kind, .string q.op.key, .string q.op.val, .string q.op.lo, .string q.op.hi, .int .i64 q.op.most], .agg #[.int .i64 p.epoch, .int .i64 p.sess, .int .i64 p.seq, .int .i64 p.err, .string p.val, .bool p.found, .slice A N c, .bool p.over]] w fun e w' => e = .returned (.bool true) ∧ Q w w' := by
  have hkA := keys_in hp.r
  have k1 := fun W => preq_any q W
  have k2 := fun W (r : Q w W) => prep_any p A N c W (hA.lst.q r) hA.max hkA
  cases hm : may q with
  | true =>
    have hl := req_len hm
    rw [show reqM q = (req q, 0) by unfold reqM; rw [hm]; rfl] at k1
    cases hm2 : mayP p with
    | true =>
      have hl2 := rep_len hm2
      rw [show repM p = (rep p, 0) by unfold repM; rw [hm2]; rfl] at k2
      exact walk00 q p A N c w (ba (req q)) (ba (rep p)) k1 (by rw [ba_size]; omega) (by rw [ba_size]; omega) k2 (by rw [ba_size]; omega) (by rw [ba_size]; omega)
    | false =>
      rw [show repM p = ([], 1) by unfold repM; rw [hm2]; rfl] at k2
      exact walk01 q p A N c w (ba (req q)) (ba []) k1 (by rw [ba_size]; omega) (by rw [ba_size]; omega) k2
  | false =>
    rw [show reqM q = ([], 1) by unfold reqM; rw [hm]; rfl] at k1
    cases hm2 : mayP p with
    | true =>
      have hl2 := rep_len hm2
      rw [show repM p = (rep p, 0) by unfold repM; rw [hm2]; rfl] at k2
      exact walk10 q p A N c w (ba []) (ba (rep p)) k1 k2 (by rw [ba_size]; omega) (by rw [ba_size]; omega)
    | false =>
      rw [show repM p = ([], 1) by unfold repM; rw [hm2]; rfl] at k2
      exact walk11 q p A N c w (ba []) (ba []) k1 k2

theorem opened (W : World) (args : Array Value) (hn : args.size = 2) (h : ∀ (j : Nat) t v, Try.f3.params[j]? = some t → args[j]? = some v → RdV W t v) :
    Calls Try.prog 3 args W fun e W' => e = .returned (.bool true) ∧ Q W W' := by
  obtain ⟨v0, v1, rfl⟩ := args2 hn
  rw [Try.params3] at h
  obtain ⟨cs0, e0, r0⟩ := (h 0 25 v0 rfl rfl).struct Try.underlying25
  obtain ⟨q, f0, p0⟩ := Wi.open_req r0
  subst f0
  obtain ⟨cs1, e1, r1⟩ := (h 1 29 v1 rfl rfl).struct Try.underlying29
  obtain ⟨p, A1, n1, c1, f1, hd1, hb1, hp1⟩ := open_reply r1
  subst f1
  subst e0 e1
  exact walk q p A1 n1 c1 W p0 hd1 hb1 hp1

set_option maxRecDepth 100000 in
theorem lifted (os : Os) (started : os.Started) (H : Type) (enc : TypeId × Value → H) :
    ReturnsInHanded {} Try.checked os 3 .any (Rows.wireSizesSpec.pre6 enc Try.prog Try.f3 Rows.wireSizesRow.domain false) (Rows.wireSizesSpec.post enc Try.prog Try.f3 false true false false) :=
  framed 2 Try.func3 (by rw [Try.params3]; rfl) rfl (by kernel_rfl) (by kernel_rfl) (by kernel_rfl)
    (fun H ds h => by match ds, h with | [d0, d1], _ => exact ⟨rfl, rfl, rfl⟩)
    opened os started H enc
    (ChangeSpec.witness6 (enc := enc) (C := Try.checked) false ⟨#[], #[.agg #[.int .i64 0, .int .i64 0, .int .i64 0, .int .i64 0, .string ⟨#[]⟩, .int .i64 0, .string ⟨#[]⟩, .string ⟨#[]⟩, .string ⟨#[]⟩, .string ⟨#[]⟩, .int .i64 0], .agg #[.int .i64 0, .int .i64 0, .int .i64 0, .int .i64 0, .string ⟨#[]⟩, .bool false, .slice none 0 0, .bool false]], []⟩ 8 (by kernel_rfl) (by kernel_rfl) (by kernel_rfl) (by kernel_rfl))

theorem over : Rows.wireSizesRow.holds Try.pinned (OpenSpec.ofChange Rows.wireSizesSpec) :=
  OpenClaim.holds_of_wide 3 Try.f3 rfl rfl rfl rfl rfl rfl rfl ⟨rfl, rfl, rfl, rfl, rfl⟩ rfl rfl rfl rfl rfl (by kernel_rfl) Try.func3 (by kernel_rfl)
    (of_decide_eq_true (by kernel_rfl)) (by unfold Func.isWrapper; first | (rw [if_pos (by decide +kernel)]; kernel_rfl) | (rw [if_neg (by decide +kernel)]; exact ⟨rfl, rfl⟩))
    (fun os started H enc _ => lifted os started H enc)

theorem proved : Rows.WireSizesSaid := over
end Go.Proofs.Ytdipikdebapmlaa.wireSizes
