/- For every request and reply: what may be is taken from its bytes as it was. No condition. -/
import Derived.Test.YtdipikdebapmlaaDoorW6
import Derived.Test.YtdipikdebapmlaaDoorW3
import Derived.Deep.DeepCutAuto
import Derived.Test.YtdipikdebapmlaaDoorW10
import Derived.Test.YtdipikdebapmlaaDoorW11
import Derived.Test.YtdipikdebapmlaaDoorW9
namespace Go.Proofs.YtdipikdebapmlaaDoor.wireBack
set_option maxRecDepth 100000
open Go.ChangeShapes Go.WideShapes Go.ChangeAt Go.RowKit Prm Wi
set_option linter.unusedVariables false
set_option linter.unusedSimpArgs false

set_option maxRecDepth 100000 in
set_option maxHeartbeats 8000000 in
theorem walk (q : Rq) (p : Rp) (A : Option Addr) (N c : Nat) (w : World) (sa sc : Addr) (hW : Wk w sa sc) (hne : sc ≠ sa) (hq : RqIn q) (hA : In_ pairK w A N c p.rows) (hb : N * 32 ≤ 140737488351232) (hp : RpIn p) :
    Calls Tryd.prog 5 #[.agg #[.int .i64 q.kind, .int .i64 q.epoch, .int .i64 q.sess, .int .i64 q.seq, .string q.tok, .int .i64 q.op.kind, .string q.op.key, .string q.op.val, .string q.op.lo, .string q.op.hi, .int .i64 q.op.most], .agg #[.int .i64 p.epoch, .int .i64 p.sess, .int .i64 p.seq, .int .i64 p.err, .string p.val, .bool p.found, .slice A N c, .bool p.over]] w fun e w' => e = .returned (.bool true) ∧ Q w w' := by
  have K0 := Lib.hid (fun W => wishown_any W)
  have hkA := keys_in hp.r
  have HA := Lib.hid hA
  have X2 : Hid (Bx (w.alloc (.cells #[.int .i64 q.kind, .int .i64 q.epoch, .int .i64 q.sess, .int .i64 q.seq, .string q.tok, .int .i64 q.op.kind, .string q.op.key, .string q.op.val, .string q.op.lo, .string q.op.hi, .int .i64 q.op.most] 25)) w.heap.size [.int .i64 q.kind, .int .i64 q.epoch, .int .i64 q.sess, .int .i64 q.seq, .string q.tok, .int .i64 q.op.kind, .string q.op.key, .string q.op.val, .string q.op.lo, .string q.op.hi, .int .i64 q.op.most]) := Lib.hid (Bx.new w [.int .i64 q.kind, .int .i64 q.epoch, .int .i64 q.sess, .int .i64 q.seq, .string q.tok, .int .i64 q.op.kind, .string q.op.key, .string q.op.val, .string q.op.lo, .string q.op.hi, .int .i64 q.op.most] 25)
  have QF := Lib.hid ((Q.refl w).alloc (.cells #[.int .i64 q.kind, .int .i64 q.epoch, .int .i64 q.sess, .int .i64 q.seq, .string q.tok, .int .i64 q.op.kind, .string q.op.key, .string q.op.val, .string q.op.lo, .string q.op.hi, .int .i64 q.op.most] 25))
  have X2 := Lib.hid (X2.out.alloc (.cells #[.int .i64 p.epoch, .int .i64 p.sess, .int .i64 p.seq, .int .i64 p.err, .string p.val, .bool p.found, .slice A N c, .bool p.over] 40))
  have X3 : Hid (Bx ((w.alloc (.cells #[.int .i64 q.kind, .int .i64 q.epoch, .int .i64 q.sess, .int .i64 q.seq, .string q.tok, .int .i64 q.op.kind, .string q.op.key, .string q.op.val, .string q.op.lo, .string q.op.hi, .int .i64 q.op.most] 25)).alloc (.cells #[.int .i64 p.epoch, .int .i64 p.sess, .int .i64 p.seq, .int .i64 p.err, .string p.val, .bool p.found, .slice A N c, .bool p.over] 40)) (w.alloc (.cells #[.int .i64 q.kind, .int .i64 q.epoch, .int .i64 q.sess, .int .i64 q.seq, .string q.tok, .int .i64 q.op.kind, .string q.op.key, .string q.op.val, .string q.op.lo, .string q.op.hi, .int .i64 q.op.most] 25)).heap.size [.int .i64 p.epoch, .int .i64 p.sess, .int .i64 p.seq, .int .i64 p.err, .string p.val, .bool p.found, .slice A N c, .bool p.over]) := Lib.hid (Bx.new (w.alloc (.cells #[.int .i64 q.kind, .int .i64 q.epoch, .int .i64 q.sess, .int .i64 q.seq, .string q.tok, .int .i64 q.op.kind, .string q.op.key, .string q.op.val, .string q.op.lo, .string q.op.hi, .int .i64 q.op.most] 25)) [.int .i64 p.epoch, .int .i64 p.sess, .int .i64 p.seq, .int .i64 p.err, .string p.val, .bool p.found, .slice A N c, .bool p.over] 40)
  have QF := Lib.hid (QF.out.alloc (.cells #[.int .i64 p.epoch, .int .i64 p.sess, .int .i64 p.seq, .int .i64 p.err, .string p.val, .bool p.found, .slice A N c, .bool p.over] 40))
  rw [show (w.alloc (.cells #[.int .i64 q.kind, .int .i64 q.epoch, .int .i64 q.sess, .int .i64 q.seq, .string q.tok, .int .i64 q.op.kind, .string q.op.key, .string q.op.val, .string q.op.lo, .string q.op.hi, .int .i64 q.op.most] 25)).heap.size = w.heap.size + 1 by simp] at X3
  have HX : ∃ S : ByteArray, S = ba (reqM q).1 := ⟨_, rfl⟩
  clear hA
  cases hm : may q with
  | true =>
    obtain ⟨S, hS⟩ : ∃ S : ByteArray, S = ba (req q) := ⟨_, rfl⟩
    have K1 : Hid (∀ W, Calls Tryd.prog 9 #[.agg #[.int .i64 q.kind, .int .i64 q.epoch, .int .i64 q.sess, .int .i64 q.seq, .string q.tok, .int .i64 q.op.kind, .string q.op.key, .string q.op.val, .string q.op.lo, .string q.op.hi, .int .i64 q.op.most]] W fun e w' => e = .returned (.tuple #[.string S, .int .i64 0]) ∧ Q W w') := Lib.hid (fun W => by have h := preq_any q W; rw [show reqM q = (req q, 0) by unfold reqM; rw [hm]; rfl] at h; rw [hS]; exact h)
    have K2 : Hid (∀ W, Q w W → Calls Tryd.prog 11 #[.string S] W fun e w' => e = .returned (.tuple #[.agg #[.int .i64 q.kind, .int .i64 q.epoch, .int .i64 q.sess, .int .i64 q.seq, .string q.tok, .int .i64 q.op.kind, .string q.op.key, .string q.op.val, .string q.op.lo, .string q.op.hi, .int .i64 q.op.most], .int .i64 0]) ∧ Q W w') := Lib.hid (fun W qz => by
      have hl := req_len hm
      have h := ptakeQ_any sa sc (ba (req q)) W (hW.q qz) hne (by rw [ba_size]; omega)
      rw [ba_data, takeQ_req hm (by omega)] at h
      rw [hS]
      exact h)
    clear hS
    go_enter Tryd.func5, Tryd.ntmps5
    go_upto_region 1 with (fail)
    generalize ((w.alloc (.cells #[.int .i64 q.kind, .int .i64 q.epoch, .int .i64 q.sess, .int .i64 q.seq, .string q.tok, .int .i64 q.op.kind, .string q.op.key, .string q.op.val, .string q.op.lo, .string q.op.hi, .int .i64 q.op.most] 25)).alloc (.cells #[.int .i64 p.epoch, .int .i64 p.sess, .int .i64 p.seq, .int .i64 p.err, .string p.val, .bool p.found, .slice A N c, .bool p.over] 40)) = W0 at X2 X3 QF ⊢
    generalize hb2 : w.heap.size = b2 at X2 X3 ⊢
    generalize hb3 : b2 + 1 = b3 at X3 ⊢
    clear hb2 hb3
    go_wp2_with fail
    refine (K0.out _).mono ?_
    rintro e0 v0 ⟨rfl, q0⟩
    replace X2 := Lib.hid (X2.out.q q0)
    replace X3 := Lib.hid (X3.out.q q0)
    replace QF := Lib.hid (QF.out.trans q0)
    clear q0
    have x2_0 := (X2.out 0 _ rfl).1
    have x2_1 := (X2.out 1 _ rfl).1
    have x2_2 := (X2.out 2 _ rfl).1
    have x2_3 := (X2.out 3 _ rfl).1
    have x2_4 := (X2.out 4 _ rfl).1
    have x2_5 := (X2.out 5 _ rfl).1
    have x2_6 := (X2.out 6 _ rfl).1
    have x2_7 := (X2.out 7 _ rfl).1
    have x2_8 := (X2.out 8 _ rfl).1
    have x2_9 := (X2.out 9 _ rfl).1
    have x2_10 := (X2.out 10 _ rfl).1
    go_wp2_with fail
    refine (K1.out _).mono ?_
    rintro e1 v1 ⟨rfl, q1⟩
    clear x2_0 x2_1 x2_2 x2_3 x2_4 x2_5 x2_6 x2_7 x2_8 x2_9 x2_10
    replace X2 := Lib.hid (X2.out.q q1)
    replace X3 := Lib.hid (X3.out.q q1)
    replace QF := Lib.hid (QF.out.trans q1)
    clear q1
    go_wp2_with fail
    refine (K2.out _ QF.out).mono ?_
    rintro e4 v4 ⟨rfl, q4⟩
    have qa := (Q.refl v4).alloc (.cells #[.int .i64 q.kind, .int .i64 q.epoch, .int .i64 q.sess, .int .i64 q.seq, .string q.tok, .int .i64 q.op.kind, .string q.op.key, .string q.op.val, .string q.op.lo, .string q.op.hi, .int .i64 q.op.most] 25)
    replace X2 := Lib.hid ((X2.out.q q4).q qa)
    replace X3 := Lib.hid ((X3.out.q q4).q qa)
    replace QF := Lib.hid ((QF.out.trans q4).trans qa)
    have X8 : Hid (Bx (v4.alloc (.cells #[.int .i64 q.kind, .int .i64 q.epoch, .int .i64 q.sess, .int .i64 q.seq, .string q.tok, .int .i64 q.op.kind, .string q.op.key, .string q.op.val, .string q.op.lo, .string q.op.hi, .int .i64 q.op.most] 25)) v4.heap.size [.int .i64 q.kind, .int .i64 q.epoch, .int .i64 q.sess, .int .i64 q.seq, .string q.tok, .int .i64 q.op.kind, .string q.op.key, .string q.op.val, .string q.op.lo, .string q.op.hi, .int .i64 q.op.most]) := Lib.hid (Bx.new v4 [.int .i64 q.kind, .int .i64 q.epoch, .int .i64 q.sess, .int .i64 q.seq, .string q.tok, .int .i64 q.op.kind, .string q.op.key, .string q.op.val, .string q.op.lo, .string q.op.hi, .int .i64 q.op.most] 25)
    clear qa q4
    go_upto_region 5 with (fail)
    generalize v4.alloc (.cells #[.int .i64 q.kind, .int .i64 q.epoch, .int .i64 q.sess, .int .i64 q.seq, .string q.tok, .int .i64 q.op.kind, .string q.op.key, .string q.op.val, .string q.op.lo, .string q.op.hi, .int .i64 q.op.most] 25) = W8 at X2 X3 X8 QF ⊢
    generalize v4.heap.size = b8 at X8 ⊢
    have x0 := (X2.out 0 _ rfl).1
    have x1 := (X2.out 1 _ rfl).1
    have x2 := (X2.out 2 _ rfl).1
    have x3 := (X2.out 3 _ rfl).1
    have x4 := (X2.out 4 _ rfl).1
    have x5 := (X2.out 5 _ rfl).1
    have x6 := (X2.out 6 _ rfl).1
    have x7 := (X2.out 7 _ rfl).1
    have x8 := (X2.out 8 _ rfl).1
    have x9 := (X2.out 9 _ rfl).1
    have x10 := (X2.out 10 _ rfl).1
    have y0 := (X8.out 0 _ rfl).1
    have y1 := (X8.out 1 _ rfl).1
    have y2 := (X8.out 2 _ rfl).1
    have y3 := (X8.out 3 _ rfl).1
    have y4 := (X8.out 4 _ rfl).1
    have y5 := (X8.out 5 _ rfl).1
    have y6 := (X8.out 6 _ rfl).1
    have y7 := (X8.out 7 _ rfl).1
    have y8 := (X8.out 8 _ rfl).1
    have y9 := (X8.out 9 _ rfl).1
    have y10 := (X8.out 10 _ rfl).1
    go_upto_region 7 with (fail)
    clear x0 x1 x2 x3 x4 x5 x6 x7 x8 x9 x10
    clear y0 y1 y2 y3 y4 y5 y6 y7 y8 y9 y10
    cases hmp : mayP p with
    | false =>
      have K3 : Hid (∀ W, Q w W → Calls Tryd.prog 15 #[.agg #[.int .i64 p.epoch, .int .i64 p.sess, .int .i64 p.seq, .int .i64 p.err, .string p.val, .bool p.found, .slice A N c, .bool p.over]] W fun e w' => e = .returned (.tuple #[.string (ba []), .int .i64 1]) ∧ Q W w') := Lib.hid (fun W q => by have h := prep_any p A N c W (HA.out.lst.q q) HA.out.max hkA; rw [show repM p = ([], 1) by unfold repM; rw [hmp]; rfl] at h; exact h)
      have x3_0 := (X3.out 0 _ rfl).1
      have x3_1 := (X3.out 1 _ rfl).1
      have x3_2 := (X3.out 2 _ rfl).1
      have x3_3 := (X3.out 3 _ rfl).1
      have x3_4 := (X3.out 4 _ rfl).1
      have x3_5 := (X3.out 5 _ rfl).1
      have x3_6 := (X3.out 6 _ rfl).1
      have x3_7 := (X3.out 7 _ rfl).1
      go_wp2_with fail
      refine (K3.out _ QF.out).mono ?_
      rintro e7 v7 ⟨rfl, q7⟩
      clear x3_0 x3_1 x3_2 x3_3 x3_4 x3_5 x3_6 x3_7
      replace X2 := Lib.hid (X2.out.q q7)
      replace X3 := Lib.hid (X3.out.q q7)
      replace X8 := Lib.hid (X8.out.q q7)
      replace QF := Lib.hid (QF.out.trans q7)
      clear q7
      go_wp2
      go_ret
      exact ⟨by first | rfl | simp, QF.out⟩
    | true =>
      have hl := rep_len hmp
      have K3 : Hid (∀ W, Q w W → Calls Tryd.prog 15 #[.agg #[.int .i64 p.epoch, .int .i64 p.sess, .int .i64 p.seq, .int .i64 p.err, .string p.val, .bool p.found, .slice A N c, .bool p.over]] W fun e w' => e = .returned (.tuple #[.string (ba (rep p)), .int .i64 0]) ∧ Q W w') := Lib.hid (fun W q => by have h := prep_any p A N c W (HA.out.lst.q q) HA.out.max hkA; rw [show repM p = (rep p, 0) by unfold repM; rw [hmp]; rfl] at h; exact h)
      have K4 : Hid (∀ W, Q w W → Calls Tryd.prog 17 #[.string (ba (rep p))] W fun e w' => ∃ A c, e = .returned (.tuple #[.agg #[.int .i64 p.epoch, .int .i64 p.sess, .int .i64 p.seq, .int .i64 p.err, .string p.val, .bool p.found, .slice A p.rows.length c, .bool p.over], .int .i64 0]) ∧ In_ pairK w' A p.rows.length c p.rows ∧ Q W w') := Lib.hid (fun W qz => by
        have h := ptakeP_any sa sc (ba (rep p)) W (hW.q qz) (by rw [ba_size]; omega)
        rw [ba_data, takeP_rep hmp] at h
        unfold RetRp at h
        exact h)
      have K5 : Hid (∀ (B : Option Addr) (d : Nat) W, Q w W → In_ pairK W B p.rows.length d p.rows → Calls Tryd.prog 20 #[.agg #[.int .i64 p.epoch, .int .i64 p.sess, .int .i64 p.seq, .int .i64 p.err, .string p.val, .bool p.found, .slice A N c, .bool p.over], .agg #[.int .i64 p.epoch, .int .i64 p.sess, .int .i64 p.seq, .int .i64 p.err, .string p.val, .bool p.found, .slice B p.rows.length d, .bool p.over]] W fun e w' => e = .returned (.bool true) ∧ Q W w') := Lib.hid (fun B d W q h2 => by have h := psame_any p p A B N c p.rows.length d W (HA.out.lst.q q) h2.lst HA.out.max h2.max; rw [decide_eq_true rfl] at h; exact h)
      generalize ba (rep p) = S2 at K3 K4
      have x3_0 := (X3.out 0 _ rfl).1
      have x3_1 := (X3.out 1 _ rfl).1
      have x3_2 := (X3.out 2 _ rfl).1
      have x3_3 := (X3.out 3 _ rfl).1
      have x3_4 := (X3.out 4 _ rfl).1
      have x3_5 := (X3.out 5 _ rfl).1
      have x3_6 := (X3.out 6 _ rfl).1
      have x3_7 := (X3.out 7 _ rfl).1
      go_wp2_with fail
      refine (K3.out _ QF.out).mono ?_
      rintro e7 v7 ⟨rfl, q7⟩
      clear x3_0 x3_1 x3_2 x3_3 x3_4 x3_5 x3_6 x3_7
      replace X2 := Lib.hid (X2.out.q q7)
      replace X3 := Lib.hid (X3.out.q q7)
      replace X8 := Lib.hid (X8.out.q q7)
      replace QF := Lib.hid (QF.out.trans q7)
      clear q7
      go_wp2_with fail
      refine (K4.out _ QF.out).mono ?_
      rintro e12 v12 ⟨A12, c12, rfl, i12, q12⟩
      have qb := (Q.refl v12).alloc (.cells #[.int .i64 p.epoch, .int .i64 p.sess, .int .i64 p.seq, .int .i64 p.err, .string p.val, .bool p.found, .slice A12 p.rows.length c12, .bool p.over] 40)
      have I12 := Lib.hid (i12.q qb)
      clear i12
      have qa := (Q.refl v12).alloc (.cells #[.int .i64 p.epoch, .int .i64 p.sess, .int .i64 p.seq, .int .i64 p.err, .string p.val, .bool p.found, .slice A12 p.rows.length c12, .bool p.over] 40)
      replace X2 := Lib.hid ((X2.out.q q12).q qa)
      replace X3 := Lib.hid ((X3.out.q q12).q qa)
      replace X8 := Lib.hid ((X8.out.q q12).q qa)
      replace QF := Lib.hid ((QF.out.trans q12).trans qa)
      have X12 : Hid (Bx (v12.alloc (.cells #[.int .i64 p.epoch, .int .i64 p.sess, .int .i64 p.seq, .int .i64 p.err, .string p.val, .bool p.found, .slice A12 p.rows.length c12, .bool p.over] 40)) v12.heap.size [.int .i64 p.epoch, .int .i64 p.sess, .int .i64 p.seq, .int .i64 p.err, .string p.val, .bool p.found, .slice A12 p.rows.length c12, .bool p.over]) := Lib.hid (Bx.new v12 [.int .i64 p.epoch, .int .i64 p.sess, .int .i64 p.seq, .int .i64 p.err, .string p.val, .bool p.found, .slice A12 p.rows.length c12, .bool p.over] 40)
      clear qa q12
      go_upto_region 10 with (fail)
      clear qb
      generalize v12.alloc (.cells #[.int .i64 p.epoch, .int .i64 p.sess, .int .i64 p.seq, .int .i64 p.err, .string p.val, .bool p.found, .slice A12 p.rows.length c12, .bool p.over] 40) = W12 at X2 X3 X8 X12 I12 QF ⊢
      generalize v12.heap.size = b12 at X12 ⊢
      have x3_0 := (X3.out 0 _ rfl).1
      have x3_1 := (X3.out 1 _ rfl).1
      have x3_2 := (X3.out 2 _ rfl).1
      have x3_3 := (X3.out 3 _ rfl).1
      have x3_4 := (X3.out 4 _ rfl).1
      have x3_5 := (X3.out 5 _ rfl).1
      have x3_6 := (X3.out 6 _ rfl).1
      have x3_7 := (X3.out 7 _ rfl).1
      have x12_0 := (X12.out 0 _ rfl).1
      have x12_1 := (X12.out 1 _ rfl).1
      have x12_2 := (X12.out 2 _ rfl).1
      have x12_3 := (X12.out 3 _ rfl).1
      have x12_4 := (X12.out 4 _ rfl).1
      have x12_5 := (X12.out 5 _ rfl).1
      have x12_6 := (X12.out 6 _ rfl).1
      have x12_7 := (X12.out 7 _ rfl).1
      go_wp2_with fail
      refine (K5.out _ _ _ QF.out I12.out).mono ?_
      rintro e10 v10 ⟨rfl, q10⟩
      clear x3_0 x3_1 x3_2 x3_3 x3_4 x3_5 x3_6 x3_7
      clear x12_0 x12_1 x12_2 x12_3 x12_4 x12_5 x12_6 x12_7
      replace X2 := Lib.hid (X2.out.q q10)
      replace X3 := Lib.hid (X3.out.q q10)
      replace X8 := Lib.hid (X8.out.q q10)
      replace X12 := Lib.hid (X12.out.q q10)
      replace QF := Lib.hid (QF.out.trans q10)
      clear q10
      go_wp2
      go_ret
      exact ⟨by first | rfl | simp, QF.out⟩
  | false =>
    obtain ⟨S, hS⟩ : ∃ S : ByteArray, S = ba [] := ⟨_, rfl⟩
    have K1 : Hid (∀ W, Calls Tryd.prog 9 #[.agg #[.int .i64 q.kind, .int .i64 q.epoch, .int .i64 q.sess, .int .i64 q.seq, .string q.tok, .int .i64 q.op.kind, .string q.op.key, .string q.op.val, .string q.op.lo, .string q.op.hi, .int .i64 q.op.most]] W fun e w' => e = .returned (.tuple #[.string S, .int .i64 1]) ∧ Q W w') := Lib.hid (fun W => by have h := preq_any q W; rw [show reqM q = ([], 1) by unfold reqM; rw [hm]; rfl] at h; rw [hS]; exact h)
    clear hS
    go_enter Tryd.func5, Tryd.ntmps5
    go_upto_region 1 with (fail)
    generalize ((w.alloc (.cells #[.int .i64 q.kind, .int .i64 q.epoch, .int .i64 q.sess, .int .i64 q.seq, .string q.tok, .int .i64 q.op.kind, .string q.op.key, .string q.op.val, .string q.op.lo, .string q.op.hi, .int .i64 q.op.most] 25)).alloc (.cells #[.int .i64 p.epoch, .int .i64 p.sess, .int .i64 p.seq, .int .i64 p.err, .string p.val, .bool p.found, .slice A N c, .bool p.over] 40)) = W0 at X2 X3 QF ⊢
    generalize hb2 : w.heap.size = b2 at X2 X3 ⊢
    generalize hb3 : b2 + 1 = b3 at X3 ⊢
    clear hb2 hb3
    go_wp2_with fail
    refine (K0.out _).mono ?_
    rintro e0 v0 ⟨rfl, q0⟩
    replace X2 := Lib.hid (X2.out.q q0)
    replace X3 := Lib.hid (X3.out.q q0)
    replace QF := Lib.hid (QF.out.trans q0)
    clear q0
    have x2_0 := (X2.out 0 _ rfl).1
    have x2_1 := (X2.out 1 _ rfl).1
    have x2_2 := (X2.out 2 _ rfl).1
    have x2_3 := (X2.out 3 _ rfl).1
    have x2_4 := (X2.out 4 _ rfl).1
    have x2_5 := (X2.out 5 _ rfl).1
    have x2_6 := (X2.out 6 _ rfl).1
    have x2_7 := (X2.out 7 _ rfl).1
    have x2_8 := (X2.out 8 _ rfl).1
    have x2_9 := (X2.out 9 _ rfl).1
    have x2_10 := (X2.out 10 _ rfl).1
    go_wp2_with fail
    refine (K1.out _).mono ?_
    rintro e1 v1 ⟨rfl, q1⟩
    clear x2_0 x2_1 x2_2 x2_3 x2_4 x2_5 x2_6 x2_7 x2_8 x2_9 x2_10
    replace X2 := Lib.hid (X2.out.q q1)
    replace X3 := Lib.hid (X3.out.q q1)
    replace QF := Lib.hid (QF.out.trans q1)
    clear q1
    go_upto_region 7 with (fail)
    cases hmp : mayP p with
    | false =>
      have K3 : Hid (∀ W, Q w W → Calls Tryd.prog 15 #[.agg #[.int .i64 p.epoch, .int .i64 p.sess, .int .i64 p.seq, .int .i64 p.err, .string p.val, .bool p.found, .slice A N c, .bool p.over]] W fun e w' => e = .returned (.tuple #[.string (ba []), .int .i64 1]) ∧ Q W w') := Lib.hid (fun W q => by have h := prep_any p A N c W (HA.out.lst.q q) HA.out.max hkA; rw [show repM p = ([], 1) by unfold repM; rw [hmp]; rfl] at h; exact h)
      have x3_0 := (X3.out 0 _ rfl).1
      have x3_1 := (X3.out 1 _ rfl).1
      have x3_2 := (X3.out 2 _ rfl).1
      have x3_3 := (X3.out 3 _ rfl).1
      have x3_4 := (X3.out 4 _ rfl).1
      have x3_5 := (X3.out 5 _ rfl).1
      have x3_6 := (X3.out 6 _ rfl).1
      have x3_7 := (X3.out 7 _ rfl).1
      go_wp2_with fail
      refine (K3.out _ QF.out).mono ?_
      rintro e7 v7 ⟨rfl, q7⟩
      clear x3_0 x3_1 x3_2 x3_3 x3_4 x3_5 x3_6 x3_7
      replace X2 := Lib.hid (X2.out.q q7)
      replace X3 := Lib.hid (X3.out.q q7)
      replace QF := Lib.hid (QF.out.trans q7)
      clear q7
      go_wp2
      go_ret
      exact ⟨by first | rfl | simp, QF.out⟩
    | true =>
      have hl := rep_len hmp
      have K3 : Hid (∀ W, Q w W → Calls Tryd.prog 15 #[.agg #[.int .i64 p.epoch, .int .i64 p.sess, .int .i64 p.seq, .int .i64 p.err, .string p.val, .bool p.found, .slice A N c, .bool p.over]] W fun e w' => e = .returned (.tuple #[.string (ba (rep p)), .int .i64 0]) ∧ Q W w') := Lib.hid (fun W q => by have h := prep_any p A N c W (HA.out.lst.q q) HA.out.max hkA; rw [show repM p = (rep p, 0) by unfold repM; rw [hmp]; rfl] at h; exact h)
      have K4 : Hid (∀ W, Q w W → Calls Tryd.prog 17 #[.string (ba (rep p))] W fun e w' => ∃ A c, e = .returned (.tuple #[.agg #[.int .i64 p.epoch, .int .i64 p.sess, .int .i64 p.seq, .int .i64 p.err, .string p.val, .bool p.found, .slice A p.rows.length c, .bool p.over], .int .i64 0]) ∧ In_ pairK w' A p.rows.length c p.rows ∧ Q W w') := Lib.hid (fun W qz => by
        have h := ptakeP_any sa sc (ba (rep p)) W (hW.q qz) (by rw [ba_size]; omega)
        rw [ba_data, takeP_rep hmp] at h
        unfold RetRp at h
        exact h)
      have K5 : Hid (∀ (B : Option Addr) (d : Nat) W, Q w W → In_ pairK W B p.rows.length d p.rows → Calls Tryd.prog 20 #[.agg #[.int .i64 p.epoch, .int .i64 p.sess, .int .i64 p.seq, .int .i64 p.err, .string p.val, .bool p.found, .slice A N c, .bool p.over], .agg #[.int .i64 p.epoch, .int .i64 p.sess, .int .i64 p.seq, .int .i64 p.err, .string p.val, .bool p.found, .slice B p.rows.length d, .bool p.over]] W fun e w' => e = .returned (.bool true) ∧ Q W w') := Lib.hid (fun B d W q h2 => by have h := psame_any p p A B N c p.rows.length d W (HA.out.lst.q q) h2.lst HA.out.max h2.max; rw [decide_eq_true rfl] at h; exact h)
      generalize ba (rep p) = S2 at K3 K4
      have x3_0 := (X3.out 0 _ rfl).1
      have x3_1 := (X3.out 1 _ rfl).1
      have x3_2 := (X3.out 2 _ rfl).1
      have x3_3 := (X3.out 3 _ rfl).1
      have x3_4 := (X3.out 4 _ rfl).1
      have x3_5 := (X3.out 5 _ rfl).1
      have x3_6 := (X3.out 6 _ rfl).1
      have x3_7 := (X3.out 7 _ rfl).1
      go_wp2_with fail
      refine (K3.out _ QF.out).mono ?_
      rintro e7 v7 ⟨rfl, q7⟩
      clear x3_0 x3_1 x3_2 x3_3 x3_4 x3_5 x3_6 x3_7
      replace X2 := Lib.hid (X2.out.q q7)
      replace X3 := Lib.hid (X3.out.q q7)
      replace QF := Lib.hid (QF.out.trans q7)
      clear q7
      go_wp2_with fail
      refine (K4.out _ QF.out).mono ?_
      rintro e12 v12 ⟨A12, c12, rfl, i12, q12⟩
      have qb := (Q.refl v12).alloc (.cells #[.int .i64 p.epoch, .int .i64 p.sess, .int .i64 p.seq, .int .i64 p.err, .string p.val, .bool p.found, .slice A12 p.rows.length c12, .bool p.over] 40)
      have I12 := Lib.hid (i12.q qb)
      clear i12
      have qa := (Q.refl v12).alloc (.cells #[.int .i64 p.epoch, .int .i64 p.sess, .int .i64 p.seq, .int .i64 p.err, .string p.val, .bool p.found, .slice A12 p.rows.length c12, .bool p.over] 40)
      replace X2 := Lib.hid ((X2.out.q q12).q qa)
      replace X3 := Lib.hid ((X3.out.q q12).q qa)
      replace QF := Lib.hid ((QF.out.trans q12).trans qa)
      have X12 : Hid (Bx (v12.alloc (.cells #[.int .i64 p.epoch, .int .i64 p.sess, .int .i64 p.seq, .int .i64 p.err, .string p.val, .bool p.found, .slice A12 p.rows.length c12, .bool p.over] 40)) v12.heap.size [.int .i64 p.epoch, .int .i64 p.sess, .int .i64 p.seq, .int .i64 p.err, .string p.val, .bool p.found, .slice A12 p.rows.length c12, .bool p.over]) := Lib.hid (Bx.new v12 [.int .i64 p.epoch, .int .i64 p.sess, .int .i64 p.seq, .int .i64 p.err, .string p.val, .bool p.found, .slice A12 p.rows.length c12, .bool p.over] 40)
      clear qa q12
      go_upto_region 10 with (fail)
      clear qb
      generalize v12.alloc (.cells #[.int .i64 p.epoch, .int .i64 p.sess, .int .i64 p.seq, .int .i64 p.err, .string p.val, .bool p.found, .slice A12 p.rows.length c12, .bool p.over] 40) = W12 at X2 X3 X12 I12 QF ⊢
      generalize v12.heap.size = b12 at X12 ⊢
      have x3_0 := (X3.out 0 _ rfl).1
      have x3_1 := (X3.out 1 _ rfl).1
      have x3_2 := (X3.out 2 _ rfl).1
      have x3_3 := (X3.out 3 _ rfl).1
      have x3_4 := (X3.out 4 _ rfl).1
      have x3_5 := (X3.out 5 _ rfl).1
      have x3_6 := (X3.out 6 _ rfl).1
      have x3_7 := (X3.out 7 _ rfl).1
      have x12_0 := (X12.out 0 _ rfl).1
      have x12_1 := (X12.out 1 _ rfl).1
      have x12_2 := (X12.out 2 _ rfl).1
      have x12_3 := (X12.out 3 _ rfl).1
      have x12_4 := (X12.out 4 _ rfl).1
      have x12_5 := (X12.out 5 _ rfl).1
      have x12_6 := (X12.out 6 _ rfl).1
      have x12_7 := (X12.out 7 _ rfl).1
      go_wp2_with fail
      refine (K5.out _ _ _ QF.out I12.out).mono ?_
      rintro e10 v10 ⟨rfl, q10⟩
      clear x3_0 x3_1 x3_2 x3_3 x3_4 x3_5 x3_6 x3_7
      clear x12_0 x12_1 x12_2 x12_3 x12_4 x12_5 x12_6 x12_7
      replace X2 := Lib.hid (X2.out.q q10)
      replace X3 := Lib.hid (X3.out.q q10)
      replace X12 := Lib.hid (X12.out.q q10)
      replace QF := Lib.hid (QF.out.trans q10)
      clear q10
      go_wp2
      go_ret
      exact ⟨by first | rfl | simp, QF.out⟩

theorem opened (W : World) (args : Array Value) (hn : args.size = 2) (h : ∀ (j : Nat) t v, Tryd.f5.params[j]? = some t → args[j]? = some v → RdV W t v ∧ (false = true → RdU W t v.cells.toList)) (hL : laidMetH Tryd.prog Rows.wireBackRow.laid W) :
    Calls Tryd.prog 5 args W fun e W' => e = .returned (.bool true) ∧ Q W W' := by
  obtain ⟨v0, v1, rfl⟩ := args2 hn
  rw [Tryd.params5] at h
  obtain ⟨cs0, e0, r0⟩ := (h 0 25 v0 rfl rfl).1.struct Tryd.underlying25
  obtain ⟨q, f0, p0⟩ := Wi.open_req r0
  subst f0
  obtain ⟨cs1, e1, r1⟩ := (h 1 40 v1 rfl rfl).1.struct Tryd.underlying40
  obtain ⟨p, A1, n1, c1, f1, hd1, hb1, hp1⟩ := open_reply r1
  subst f1
  subst e0 e1
  obtain ⟨sa, sc, hW, hne⟩ := wk_laid hL
  exact walk q p A1 n1 c1 W sa sc hW hne p0 hd1 hb1 hp1

theorem start_met (os : Os) : laidMetH Tryd.prog Rows.wireBackRow.laid ((World.doorLaid Tryd.prog 600 os).forCall (fun _ _ => 0) ⟨#[], #[.agg #[.int .i64 0, .int .i64 0, .int .i64 0, .int .i64 0, .string ⟨#[]⟩, .int .i64 0, .string ⟨#[]⟩, .string ⟨#[]⟩, .string ⟨#[]⟩, .string ⟨#[]⟩, .int .i64 0], .agg #[.int .i64 0, .int .i64 0, .int .i64 0, .int .i64 0, .string ⟨#[]⟩, .bool false, .slice none 0 0, .bool false]], []⟩).memory :=
  laidMetH_of_parts3 (fuel := 8) (laidMet_of_run' 8 (by kernel_rfl) (by kernel_rfl)) (by kernel_rfl) (by kernel_rfl)
theorem reads (os : Os) {H : Type} (enc : TypeId × Value → H) : ∃ places, DataW.whole enc Tryd.prog ((World.doorLaid Tryd.prog 600 os).forCall (fun _ _ => 0) ⟨#[], #[.agg #[.int .i64 0, .int .i64 0, .int .i64 0, .int .i64 0, .string ⟨#[]⟩, .int .i64 0, .string ⟨#[]⟩, .string ⟨#[]⟩, .string ⟨#[]⟩, .string ⟨#[]⟩, .int .i64 0], .agg #[.int .i64 0, .int .i64 0, .int .i64 0, .int .i64 0, .string ⟨#[]⟩, .bool false, .slice none 0 0, .bool false]], []⟩).memory Tryd.f5.params.toList Rows.wireBackSpec.vars false (#[.agg #[.int .i64 0, .int .i64 0, .int .i64 0, .int .i64 0, .string ⟨#[]⟩, .int .i64 0, .string ⟨#[]⟩, .string ⟨#[]⟩, .string ⟨#[]⟩, .string ⟨#[]⟩, .int .i64 0], .agg #[.int .i64 0, .int .i64 0, .int .i64 0, .int .i64 0, .string ⟨#[]⟩, .bool false, .slice none 0 0, .bool false]] : Array Value).toList 8 = some ([.agg [.lit (.int .i64 0), .lit (.int .i64 0), .lit (.int .i64 0), .lit (.int .i64 0), .lit (.string []), .agg [.lit (.int .i64 0), .lit (.string []), .lit (.string []), .lit (.string []), .lit (.string []), .lit (.int .i64 0)]], .agg [.lit (.int .i64 0), .lit (.int .i64 0), .lit (.int .i64 0), .lit (.int .i64 0), .lit (.string []), .lit (.bool false), .nil, .lit (.bool false)]], [], places) :=
  ⟨[], by kernel_rfl⟩

set_option maxRecDepth 100000 in
theorem lifted (os : Os) (started : os.Started) (H : Type) (enc : TypeId × Value → H) (F : Stop.Interp) :
    ReturnsInHanded {} Tryd.checked os 5 .any ((OpenSpec.ofChange Rows.wireBackSpec).preRow enc Tryd.prog Tryd.f5 Rows.wireBackRow.domain false Rows.wireBackRow.laid) (((OpenSpec.ofChange Rows.wireBackSpec).at F).post enc Tryd.prog Tryd.f5 false true false false) := by
  obtain ⟨places, hx⟩ := reads os enc
  refine returnsInHanded_of_row (C := Tryd.checked) (s := OpenSpec.ofChange Rows.wireBackSpec) ownKnob_ started (by kernel_rfl) Tryd.func5
    (witness_row_atRef (enc := enc) (C := Tryd.checked) false (World.doorLaid Tryd.prog 600 os) #[.agg #[.int .i64 0, .int .i64 0, .int .i64 0, .int .i64 0, .string ⟨#[]⟩, .int .i64 0, .string ⟨#[]⟩, .string ⟨#[]⟩, .string ⟨#[]⟩, .string ⟨#[]⟩, .int .i64 0], .agg #[.int .i64 0, .int .i64 0, .int .i64 0, .int .i64 0, .string ⟨#[]⟩, .bool false, .slice none 0 0, .bool false]] rfl (by kernel_rfl) (by kernel_rfl) (by kernel_rfl)
      (OpenSpec.preRow_of_cond 8 hx (by kernel_rfl) (fun k hk => by cases hk) (by kernel_rfl) (start_met os))) ?_
  intro W base args ds gs before hval hW _ hcond hsz hL _ _
  exact framedC (s := Rows.wireBackSpec) false Rows.wireBackRow.laid 2 (by rw [Tryd.params5]; rfl) rfl (by kernel_rfl) (by kernel_rfl)
    (fun H ds h => by match ds, h with | [d0, d1], _ => exact ⟨rfl, rfl, rfl⟩)
    opened H enc W base args ds gs before hval hW (fun h => by cases h) hsz hL

theorem over : Rows.WireBackSaid :=
  OpenClaim.holds_of_cond 5 Tryd.f5 rfl rfl rfl rfl rfl rfl rfl ⟨rfl, rfl, rfl, rfl, rfl⟩ rfl rfl rfl rfl rfl (by kernel_rfl) Tryd.func5 (by kernel_rfl)
    (of_decide_eq_true (by kernel_rfl)) (by unfold Func.isWrapper; first | (rw [if_pos (by decide +kernel)]; kernel_rfl) | (rw [if_neg (by decide +kernel)]; exact ⟨rfl, rfl⟩))
    (fun os started H enc _ F => by rw [OpenClaim.pre_eq_preRow]; exact lifted os started H enc F)

/-- No parameter wants a stand-in; the program's own looks are as the card says. -/
theorem plain (f : FuncId) (fn : Func) (hf : Tryd.pinned.checked.prog.funcNamed "stanchion/stanchionlaw16.WireBack" = some f) (hfn : Tryd.pinned.checked.prog.funcs[f]? = some fn) :
    true = Tryd.pinned.checked.prog.looks [] ∧ ∀ (j : Nat) t, fn.params[j]? = some t → Tryd.pinned.checked.prog.wantsStandIn t = false := by
  obtain rfl : f = 5 := Option.some.inj ((show Tryd.prog.funcNamed "stanchion/stanchionlaw16.WireBack" = some 5 by kernel_rfl).symm.trans hf) |>.symm
  obtain rfl : fn = Tryd.f5 := (Option.some.inj (Tryd.func5.symm.trans hfn)).symm
  refine ⟨by kernel_rfl, fun j t ht => ?_⟩
  have h0 : (Tryd.f5.params.toList.all fun t => !(Tryd.prog.wantsStandIn t)) = true := by kernel_rfl
  have h1 := List.all_eq_true.1 h0 t (by rw [← Array.getElem?_toList] at ht; exact List.mem_of_getElem? ht)
  exact (by simpa using h1 : Tryd.prog.wantsStandIn t = false)

theorem proved : Rows.WireBackCardSaid :=
  Claim7.holds_tied_plain_at .later [] _ _ _ _ over (fun _ h => by cases h) (by kernel_rfl) (fun _ h => by cases h) wireBack_row_tie rfl ⟨rfl, rfl⟩ (by kernel_rfl) rfl plain (by kernel_rfl)
end Go.Proofs.YtdipikdebapmlaaDoor.wireBack
