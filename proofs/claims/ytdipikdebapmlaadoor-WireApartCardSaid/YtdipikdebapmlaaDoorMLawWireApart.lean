/- For every two requests, every bytes: of requests that are not the same the bytes are not; of what is taken the bytes are those that were there. No condition. -/
import Derived.Test.YtdipikdebapmlaaDoorW6
import Derived.Test.YtdipikdebapmlaaDoorW3
import Derived.Deep.DeepCutAuto
import Derived.Test.YtdipikdebapmlaaDoorW10
import Derived.Test.YtdipikdebapmlaaDoorW11
import Derived.Test.YtdipikdebapmlaaDoorW9
namespace Go.Proofs.YtdipikdebapmlaaDoor.wireApart
set_option maxRecDepth 100000
open Go.ChangeShapes Go.WideShapes Go.ChangeAt Go.RowKit Prm Wi
set_option linter.unusedVariables false
set_option linter.unusedSimpArgs false

set_option maxRecDepth 100000 in
set_option maxHeartbeats 8000000 in
theorem walk_no1 (a b : Rq) (s : ByteArray) (w : World) (sa sc : Addr) (hW : Wk w sa sc) (hne : sc ≠ sa) (hs : s.size ≤ 140737488351232) (S1 S2 : ByteArray) (er2 : Int) (k1 : ∀ W, Calls Tryd.prog 9 #[.agg #[.int .i64 a.kind, .int .i64 a.epoch, .int .i64 a.sess, .int .i64 a.seq, .string a.tok, .int .i64 a.op.kind, .string a.op.key, .string a.op.val, .string a.op.lo, .string a.op.hi, .int .i64 a.op.most]] W fun e w' => e = .returned (.tuple #[.string S1, .int .i64 1]) ∧ Q W w') (k2 : ∀ W, Calls Tryd.prog 9 #[.agg #[.int .i64 b.kind, .int .i64 b.epoch, .int .i64 b.sess, .int .i64 b.seq, .string b.tok, .int .i64 b.op.kind, .string b.op.key, .string b.op.val, .string b.op.lo, .string b.op.hi, .int .i64 b.op.most]] W fun e w' => e = .returned (.tuple #[.string S2, .int .i64 er2]) ∧ Q W w') :
    Calls Tryd.prog 7 #[.agg #[.int .i64 a.kind, .int .i64 a.epoch, .int .i64 a.sess, .int .i64 a.seq, .string a.tok, .int .i64 a.op.kind, .string a.op.key, .string a.op.val, .string a.op.lo, .string a.op.hi, .int .i64 a.op.most], .agg #[.int .i64 b.kind, .int .i64 b.epoch, .int .i64 b.sess, .int .i64 b.seq, .string b.tok, .int .i64 b.op.kind, .string b.op.key, .string b.op.val, .string b.op.lo, .string b.op.hi, .int .i64 b.op.most], .string s] w fun e w' => e = .returned (.bool true) ∧ Q w w' := by
  have K0 := Lib.hid (fun W => wishown_any W)
  have X3 : Hid (Bx (w.alloc (.cells #[.int .i64 a.kind, .int .i64 a.epoch, .int .i64 a.sess, .int .i64 a.seq, .string a.tok, .int .i64 a.op.kind, .string a.op.key, .string a.op.val, .string a.op.lo, .string a.op.hi, .int .i64 a.op.most] 25)) w.heap.size [.int .i64 a.kind, .int .i64 a.epoch, .int .i64 a.sess, .int .i64 a.seq, .string a.tok, .int .i64 a.op.kind, .string a.op.key, .string a.op.val, .string a.op.lo, .string a.op.hi, .int .i64 a.op.most]) := Lib.hid (Bx.new w [.int .i64 a.kind, .int .i64 a.epoch, .int .i64 a.sess, .int .i64 a.seq, .string a.tok, .int .i64 a.op.kind, .string a.op.key, .string a.op.val, .string a.op.lo, .string a.op.hi, .int .i64 a.op.most] 25)
  have QF := Lib.hid ((Q.refl w).alloc (.cells #[.int .i64 a.kind, .int .i64 a.epoch, .int .i64 a.sess, .int .i64 a.seq, .string a.tok, .int .i64 a.op.kind, .string a.op.key, .string a.op.val, .string a.op.lo, .string a.op.hi, .int .i64 a.op.most] 25))
  have X3 := Lib.hid (X3.out.alloc (.cells #[.int .i64 b.kind, .int .i64 b.epoch, .int .i64 b.sess, .int .i64 b.seq, .string b.tok, .int .i64 b.op.kind, .string b.op.key, .string b.op.val, .string b.op.lo, .string b.op.hi, .int .i64 b.op.most] 25))
  have X4 : Hid (Bx ((w.alloc (.cells #[.int .i64 a.kind, .int .i64 a.epoch, .int .i64 a.sess, .int .i64 a.seq, .string a.tok, .int .i64 a.op.kind, .string a.op.key, .string a.op.val, .string a.op.lo, .string a.op.hi, .int .i64 a.op.most] 25)).alloc (.cells #[.int .i64 b.kind, .int .i64 b.epoch, .int .i64 b.sess, .int .i64 b.seq, .string b.tok, .int .i64 b.op.kind, .string b.op.key, .string b.op.val, .string b.op.lo, .string b.op.hi, .int .i64 b.op.most] 25)) (w.alloc (.cells #[.int .i64 a.kind, .int .i64 a.epoch, .int .i64 a.sess, .int .i64 a.seq, .string a.tok, .int .i64 a.op.kind, .string a.op.key, .string a.op.val, .string a.op.lo, .string a.op.hi, .int .i64 a.op.most] 25)).heap.size [.int .i64 b.kind, .int .i64 b.epoch, .int .i64 b.sess, .int .i64 b.seq, .string b.tok, .int .i64 b.op.kind, .string b.op.key, .string b.op.val, .string b.op.lo, .string b.op.hi, .int .i64 b.op.most]) := Lib.hid (Bx.new (w.alloc (.cells #[.int .i64 a.kind, .int .i64 a.epoch, .int .i64 a.sess, .int .i64 a.seq, .string a.tok, .int .i64 a.op.kind, .string a.op.key, .string a.op.val, .string a.op.lo, .string a.op.hi, .int .i64 a.op.most] 25)) [.int .i64 b.kind, .int .i64 b.epoch, .int .i64 b.sess, .int .i64 b.seq, .string b.tok, .int .i64 b.op.kind, .string b.op.key, .string b.op.val, .string b.op.lo, .string b.op.hi, .int .i64 b.op.most] 25)
  have QF := Lib.hid (QF.out.alloc (.cells #[.int .i64 b.kind, .int .i64 b.epoch, .int .i64 b.sess, .int .i64 b.seq, .string b.tok, .int .i64 b.op.kind, .string b.op.key, .string b.op.val, .string b.op.lo, .string b.op.hi, .int .i64 b.op.most] 25))
  rw [show (w.alloc (.cells #[.int .i64 a.kind, .int .i64 a.epoch, .int .i64 a.sess, .int .i64 a.seq, .string a.tok, .int .i64 a.op.kind, .string a.op.key, .string a.op.val, .string a.op.lo, .string a.op.hi, .int .i64 a.op.most] 25)).heap.size = w.heap.size + 1 by simp] at X4
  have K1 := Lib.hid k1
  have K2 := Lib.hid k2
  have K3 : Hid (∀ W, Q w W → Calls Tryd.prog 11 #[.string s] W fun e w' => e = .returned (.tuple #[.agg #[.int .i64 (takeQ s.data.toList).1.kind, .int .i64 (takeQ s.data.toList).1.epoch, .int .i64 (takeQ s.data.toList).1.sess, .int .i64 (takeQ s.data.toList).1.seq, .string (takeQ s.data.toList).1.tok, .int .i64 (takeQ s.data.toList).1.op.kind, .string (takeQ s.data.toList).1.op.key, .string (takeQ s.data.toList).1.op.val, .string (takeQ s.data.toList).1.op.lo, .string (takeQ s.data.toList).1.op.hi, .int .i64 (takeQ s.data.toList).1.op.most], .int .i64 (takeQ s.data.toList).2]) ∧ Q W w') := Lib.hid (fun W qz => ptakeQ_any sa sc s W (hW.q qz) hne (by omega))
  have HK : Hid ((takeQ s.data.toList).2 = 0 → ∀ W, Calls Tryd.prog 9 #[.agg #[.int .i64 (takeQ s.data.toList).1.kind, .int .i64 (takeQ s.data.toList).1.epoch, .int .i64 (takeQ s.data.toList).1.sess, .int .i64 (takeQ s.data.toList).1.seq, .string (takeQ s.data.toList).1.tok, .int .i64 (takeQ s.data.toList).1.op.kind, .string (takeQ s.data.toList).1.op.key, .string (takeQ s.data.toList).1.op.val, .string (takeQ s.data.toList).1.op.lo, .string (takeQ s.data.toList).1.op.hi, .int .i64 (takeQ s.data.toList).1.op.most]] W fun e w' => e = .returned (.tuple #[.string s, .int .i64 0]) ∧ Q W w') := Lib.hid (fun h0 W => by
    obtain ⟨h1, h2⟩ := takeQ_ok h0
    have h := preq_any (takeQ s.data.toList).1 W
    rw [show reqM (takeQ s.data.toList).1 = (req (takeQ s.data.toList).1, 0) by unfold reqM; rw [if_pos h1], h2] at h
    simp only [ba_of] at h
    exact h)
  have HE : Hid ((takeQ s.data.toList).2 = 0 ∨ (takeQ s.data.toList).2 = 3 ∨ (takeQ s.data.toList).2 = 4) := Lib.hid (by
    rcases takeQ_err s.data.toList with h | h | h
    · exact .inl h
    · right; left; rw [h]
    · right; right; rw [h])
  generalize (takeQ s.data.toList).1 = Y at K3 HK
  generalize (takeQ s.data.toList).2 = ey at K3 HK HE
  clear k1 k2
  go_enter Tryd.func7, Tryd.ntmps7
  go_upto_region 1 with (fail)
  generalize ((w.alloc (.cells #[.int .i64 a.kind, .int .i64 a.epoch, .int .i64 a.sess, .int .i64 a.seq, .string a.tok, .int .i64 a.op.kind, .string a.op.key, .string a.op.val, .string a.op.lo, .string a.op.hi, .int .i64 a.op.most] 25)).alloc (.cells #[.int .i64 b.kind, .int .i64 b.epoch, .int .i64 b.sess, .int .i64 b.seq, .string b.tok, .int .i64 b.op.kind, .string b.op.key, .string b.op.val, .string b.op.lo, .string b.op.hi, .int .i64 b.op.most] 25)) = W0 at X3 X4 QF ⊢
  generalize hb2 : w.heap.size = b3 at X3 X4 ⊢
  generalize hb3 : b3 + 1 = b4 at X4 ⊢
  clear hb2 hb3
  go_wp2_with fail
  refine (K0.out _).mono ?_
  rintro e0 v0 ⟨rfl, q0⟩
  replace X3 := Lib.hid (X3.out.q q0)
  replace X4 := Lib.hid (X4.out.q q0)
  replace QF := Lib.hid (QF.out.trans q0)
  clear q0
  have x3_0 := (X3.out 0 _ rfl).1
  have x3_1 := (X3.out 1 _ rfl).1
  have x3_2 := (X3.out 2 _ rfl).1
  have x3_3 := (X3.out 3 _ rfl).1
  have x3_4 := (X3.out 4 _ rfl).1
  have x3_5 := (X3.out 5 _ rfl).1
  have x3_6 := (X3.out 6 _ rfl).1
  have x3_7 := (X3.out 7 _ rfl).1
  have x3_8 := (X3.out 8 _ rfl).1
  have x3_9 := (X3.out 9 _ rfl).1
  have x3_10 := (X3.out 10 _ rfl).1
  go_wp2_with fail
  refine (K1.out _).mono ?_
  rintro e1 v1 ⟨rfl, q1⟩
  clear x3_0 x3_1 x3_2 x3_3 x3_4 x3_5 x3_6 x3_7 x3_8 x3_9 x3_10
  replace X3 := Lib.hid (X3.out.q q1)
  replace X4 := Lib.hid (X4.out.q q1)
  replace QF := Lib.hid (QF.out.trans q1)
  clear q1
  have x4_0 := (X4.out 0 _ rfl).1
  have x4_1 := (X4.out 1 _ rfl).1
  have x4_2 := (X4.out 2 _ rfl).1
  have x4_3 := (X4.out 3 _ rfl).1
  have x4_4 := (X4.out 4 _ rfl).1
  have x4_5 := (X4.out 5 _ rfl).1
  have x4_6 := (X4.out 6 _ rfl).1
  have x4_7 := (X4.out 7 _ rfl).1
  have x4_8 := (X4.out 8 _ rfl).1
  have x4_9 := (X4.out 9 _ rfl).1
  have x4_10 := (X4.out 10 _ rfl).1
  go_wp2_with fail
  refine (K2.out _).mono ?_
  rintro e2 v2 ⟨rfl, q2⟩
  clear x4_0 x4_1 x4_2 x4_3 x4_4 x4_5 x4_6 x4_7 x4_8 x4_9 x4_10
  replace X3 := Lib.hid (X3.out.q q2)
  replace X4 := Lib.hid (X4.out.q q2)
  replace QF := Lib.hid (QF.out.trans q2)
  clear q2
  go_upto_region 6 with (fail)
  go_wp2_with fail
  refine (K3.out _ QF.out).mono ?_
  rintro e12 v12 ⟨rfl, q12⟩
  have qa := (Q.refl v12).alloc (.cells #[.int .i64 Y.kind, .int .i64 Y.epoch, .int .i64 Y.sess, .int .i64 Y.seq, .string Y.tok, .int .i64 Y.op.kind, .string Y.op.key, .string Y.op.val, .string Y.op.lo, .string Y.op.hi, .int .i64 Y.op.most] 25)
  replace X3 := Lib.hid ((X3.out.q q12).q qa)
  replace X4 := Lib.hid ((X4.out.q q12).q qa)
  replace QF := Lib.hid ((QF.out.trans q12).trans qa)
  have X12 : Hid (Bx (v12.alloc (.cells #[.int .i64 Y.kind, .int .i64 Y.epoch, .int .i64 Y.sess, .int .i64 Y.seq, .string Y.tok, .int .i64 Y.op.kind, .string Y.op.key, .string Y.op.val, .string Y.op.lo, .string Y.op.hi, .int .i64 Y.op.most] 25)) v12.heap.size [.int .i64 Y.kind, .int .i64 Y.epoch, .int .i64 Y.sess, .int .i64 Y.seq, .string Y.tok, .int .i64 Y.op.kind, .string Y.op.key, .string Y.op.val, .string Y.op.lo, .string Y.op.hi, .int .i64 Y.op.most]) := Lib.hid (Bx.new v12 [.int .i64 Y.kind, .int .i64 Y.epoch, .int .i64 Y.sess, .int .i64 Y.seq, .string Y.tok, .int .i64 Y.op.kind, .string Y.op.key, .string Y.op.val, .string Y.op.lo, .string Y.op.hi, .int .i64 Y.op.most] 25)
  clear qa q12
  go_upto_region 7 with (fail)
  generalize v12.alloc (.cells #[.int .i64 Y.kind, .int .i64 Y.epoch, .int .i64 Y.sess, .int .i64 Y.seq, .string Y.tok, .int .i64 Y.op.kind, .string Y.op.key, .string Y.op.val, .string Y.op.lo, .string Y.op.hi, .int .i64 Y.op.most] 25) = W12 at X3 X4 X12 QF ⊢
  generalize v12.heap.size = b12 at X12 ⊢
  rcases HE.out with h0 | h0 | h0
  · have K4 := Lib.hid (HK.out h0)
    subst h0
    go_upto_region 8 with (fail)
    have x12_0 := (X12.out 0 _ rfl).1
    have x12_1 := (X12.out 1 _ rfl).1
    have x12_2 := (X12.out 2 _ rfl).1
    have x12_3 := (X12.out 3 _ rfl).1
    have x12_4 := (X12.out 4 _ rfl).1
    have x12_5 := (X12.out 5 _ rfl).1
    have x12_6 := (X12.out 6 _ rfl).1
    have x12_7 := (X12.out 7 _ rfl).1
    have x12_8 := (X12.out 8 _ rfl).1
    have x12_9 := (X12.out 9 _ rfl).1
    have x12_10 := (X12.out 10 _ rfl).1
    go_wp2_with fail
    refine (K4.out _).mono ?_
    rintro e8 v8 ⟨rfl, q8⟩
    clear x12_0 x12_1 x12_2 x12_3 x12_4 x12_5 x12_6 x12_7 x12_8 x12_9 x12_10
    replace X3 := Lib.hid (X3.out.q q8)
    replace X4 := Lib.hid (X4.out.q q8)
    replace X12 := Lib.hid (X12.out.q q8)
    replace QF := Lib.hid (QF.out.trans q8)
    clear q8
    go_wp2
    go_ret
    exact ⟨by first | rfl | simp, QF.out⟩
  · subst h0
    go_wp2
    go_ret
    exact ⟨by first | rfl | simp, QF.out⟩
  · subst h0
    go_wp2
    go_ret
    exact ⟨by first | rfl | simp, QF.out⟩
set_option maxRecDepth 100000 in
set_option maxHeartbeats 8000000 in
theorem walk_no2 (a b : Rq) (s : ByteArray) (w : World) (sa sc : Addr) (hW : Wk w sa sc) (hne : sc ≠ sa) (hs : s.size ≤ 140737488351232) (S1 S2 : ByteArray) (k1 : ∀ W, Calls Tryd.prog 9 #[.agg #[.int .i64 a.kind, .int .i64 a.epoch, .int .i64 a.sess, .int .i64 a.seq, .string a.tok, .int .i64 a.op.kind, .string a.op.key, .string a.op.val, .string a.op.lo, .string a.op.hi, .int .i64 a.op.most]] W fun e w' => e = .returned (.tuple #[.string S1, .int .i64 0]) ∧ Q W w') (k2 : ∀ W, Calls Tryd.prog 9 #[.agg #[.int .i64 b.kind, .int .i64 b.epoch, .int .i64 b.sess, .int .i64 b.seq, .string b.tok, .int .i64 b.op.kind, .string b.op.key, .string b.op.val, .string b.op.lo, .string b.op.hi, .int .i64 b.op.most]] W fun e w' => e = .returned (.tuple #[.string S2, .int .i64 1]) ∧ Q W w') :
    Calls Tryd.prog 7 #[.agg #[.int .i64 a.kind, .int .i64 a.epoch, .int .i64 a.sess, .int .i64 a.seq, .string a.tok, .int .i64 a.op.kind, .string a.op.key, .string a.op.val, .string a.op.lo, .string a.op.hi, .int .i64 a.op.most], .agg #[.int .i64 b.kind, .int .i64 b.epoch, .int .i64 b.sess, .int .i64 b.seq, .string b.tok, .int .i64 b.op.kind, .string b.op.key, .string b.op.val, .string b.op.lo, .string b.op.hi, .int .i64 b.op.most], .string s] w fun e w' => e = .returned (.bool true) ∧ Q w w' := by
  have K0 := Lib.hid (fun W => wishown_any W)
  have X3 : Hid (Bx (w.alloc (.cells #[.int .i64 a.kind, .int .i64 a.epoch, .int .i64 a.sess, .int .i64 a.seq, .string a.tok, .int .i64 a.op.kind, .string a.op.key, .string a.op.val, .string a.op.lo, .string a.op.hi, .int .i64 a.op.most] 25)) w.heap.size [.int .i64 a.kind, .int .i64 a.epoch, .int .i64 a.sess, .int .i64 a.seq, .string a.tok, .int .i64 a.op.kind, .string a.op.key, .string a.op.val, .string a.op.lo, .string a.op.hi, .int .i64 a.op.most]) := Lib.hid (Bx.new w [.int .i64 a.kind, .int .i64 a.epoch, .int .i64 a.sess, .int .i64 a.seq, .string a.tok, .int .i64 a.op.kind, .string a.op.key, .string a.op.val, .string a.op.lo, .string a.op.hi, .int .i64 a.op.most] 25)
  have QF := Lib.hid ((Q.refl w).alloc (.cells #[.int .i64 a.kind, .int .i64 a.epoch, .int .i64 a.sess, .int .i64 a.seq, .string a.tok, .int .i64 a.op.kind, .string a.op.key, .string a.op.val, .string a.op.lo, .string a.op.hi, .int .i64 a.op.most] 25))
  have X3 := Lib.hid (X3.out.alloc (.cells #[.int .i64 b.kind, .int .i64 b.epoch, .int .i64 b.sess, .int .i64 b.seq, .string b.tok, .int .i64 b.op.kind, .string b.op.key, .string b.op.val, .string b.op.lo, .string b.op.hi, .int .i64 b.op.most] 25))
  have X4 : Hid (Bx ((w.alloc (.cells #[.int .i64 a.kind, .int .i64 a.epoch, .int .i64 a.sess, .int .i64 a.seq, .string a.tok, .int .i64 a.op.kind, .string a.op.key, .string a.op.val, .string a.op.lo, .string a.op.hi, .int .i64 a.op.most] 25)).alloc (.cells #[.int .i64 b.kind, .int .i64 b.epoch, .int .i64 b.sess, .int .i64 b.seq, .string b.tok, .int .i64 b.op.kind, .string b.op.key, .string b.op.val, .string b.op.lo, .string b.op.hi, .int .i64 b.op.most] 25)) (w.alloc (.cells #[.int .i64 a.kind, .int .i64 a.epoch, .int .i64 a.sess, .int .i64 a.seq, .string a.tok, .int .i64 a.op.kind, .string a.op.key, .string a.op.val, .string a.op.lo, .string a.op.hi, .int .i64 a.op.most] 25)).heap.size [.int .i64 b.kind, .int .i64 b.epoch, .int .i64 b.sess, .int .i64 b.seq, .string b.tok, .int .i64 b.op.kind, .string b.op.key, .string b.op.val, .string b.op.lo, .string b.op.hi, .int .i64 b.op.most]) := Lib.hid (Bx.new (w.alloc (.cells #[.int .i64 a.kind, .int .i64 a.epoch, .int .i64 a.sess, .int .i64 a.seq, .string a.tok, .int .i64 a.op.kind, .string a.op.key, .string a.op.val, .string a.op.lo, .string a.op.hi, .int .i64 a.op.most] 25)) [.int .i64 b.kind, .int .i64 b.epoch, .int .i64 b.sess, .int .i64 b.seq, .string b.tok, .int .i64 b.op.kind, .string b.op.key, .string b.op.val, .string b.op.lo, .string b.op.hi, .int .i64 b.op.most] 25)
  have QF := Lib.hid (QF.out.alloc (.cells #[.int .i64 b.kind, .int .i64 b.epoch, .int .i64 b.sess, .int .i64 b.seq, .string b.tok, .int .i64 b.op.kind, .string b.op.key, .string b.op.val, .string b.op.lo, .string b.op.hi, .int .i64 b.op.most] 25))
  rw [show (w.alloc (.cells #[.int .i64 a.kind, .int .i64 a.epoch, .int .i64 a.sess, .int .i64 a.seq, .string a.tok, .int .i64 a.op.kind, .string a.op.key, .string a.op.val, .string a.op.lo, .string a.op.hi, .int .i64 a.op.most] 25)).heap.size = w.heap.size + 1 by simp] at X4
  have K1 := Lib.hid k1
  have K2 := Lib.hid k2
  have K3 : Hid (∀ W, Q w W → Calls Tryd.prog 11 #[.string s] W fun e w' => e = .returned (.tuple #[.agg #[.int .i64 (takeQ s.data.toList).1.kind, .int .i64 (takeQ s.data.toList).1.epoch, .int .i64 (takeQ s.data.toList).1.sess, .int .i64 (takeQ s.data.toList).1.seq, .string (takeQ s.data.toList).1.tok, .int .i64 (takeQ s.data.toList).1.op.kind, .string (takeQ s.data.toList).1.op.key, .string (takeQ s.data.toList).1.op.val, .string (takeQ s.data.toList).1.op.lo, .string (takeQ s.data.toList).1.op.hi, .int .i64 (takeQ s.data.toList).1.op.most], .int .i64 (takeQ s.data.toList).2]) ∧ Q W w') := Lib.hid (fun W qz => ptakeQ_any sa sc s W (hW.q qz) hne (by omega))
  have HK : Hid ((takeQ s.data.toList).2 = 0 → ∀ W, Calls Tryd.prog 9 #[.agg #[.int .i64 (takeQ s.data.toList).1.kind, .int .i64 (takeQ s.data.toList).1.epoch, .int .i64 (takeQ s.data.toList).1.sess, .int .i64 (takeQ s.data.toList).1.seq, .string (takeQ s.data.toList).1.tok, .int .i64 (takeQ s.data.toList).1.op.kind, .string (takeQ s.data.toList).1.op.key, .string (takeQ s.data.toList).1.op.val, .string (takeQ s.data.toList).1.op.lo, .string (takeQ s.data.toList).1.op.hi, .int .i64 (takeQ s.data.toList).1.op.most]] W fun e w' => e = .returned (.tuple #[.string s, .int .i64 0]) ∧ Q W w') := Lib.hid (fun h0 W => by
    obtain ⟨h1, h2⟩ := takeQ_ok h0
    have h := preq_any (takeQ s.data.toList).1 W
    rw [show reqM (takeQ s.data.toList).1 = (req (takeQ s.data.toList).1, 0) by unfold reqM; rw [if_pos h1], h2] at h
    simp only [ba_of] at h
    exact h)
  have HE : Hid ((takeQ s.data.toList).2 = 0 ∨ (takeQ s.data.toList).2 = 3 ∨ (takeQ s.data.toList).2 = 4) := Lib.hid (by
    rcases takeQ_err s.data.toList with h | h | h
    · exact .inl h
    · right; left; rw [h]
    · right; right; rw [h])
  generalize (takeQ s.data.toList).1 = Y at K3 HK
  generalize (takeQ s.data.toList).2 = ey at K3 HK HE
  clear k1 k2
  go_enter Tryd.func7, Tryd.ntmps7
  go_upto_region 1 with (fail)
  generalize ((w.alloc (.cells #[.int .i64 a.kind, .int .i64 a.epoch, .int .i64 a.sess, .int .i64 a.seq, .string a.tok, .int .i64 a.op.kind, .string a.op.key, .string a.op.val, .string a.op.lo, .string a.op.hi, .int .i64 a.op.most] 25)).alloc (.cells #[.int .i64 b.kind, .int .i64 b.epoch, .int .i64 b.sess, .int .i64 b.seq, .string b.tok, .int .i64 b.op.kind, .string b.op.key, .string b.op.val, .string b.op.lo, .string b.op.hi, .int .i64 b.op.most] 25)) = W0 at X3 X4 QF ⊢
  generalize hb2 : w.heap.size = b3 at X3 X4 ⊢
  generalize hb3 : b3 + 1 = b4 at X4 ⊢
  clear hb2 hb3
  go_wp2_with fail
  refine (K0.out _).mono ?_
  rintro e0 v0 ⟨rfl, q0⟩
  replace X3 := Lib.hid (X3.out.q q0)
  replace X4 := Lib.hid (X4.out.q q0)
  replace QF := Lib.hid (QF.out.trans q0)
  clear q0
  have x3_0 := (X3.out 0 _ rfl).1
  have x3_1 := (X3.out 1 _ rfl).1
  have x3_2 := (X3.out 2 _ rfl).1
  have x3_3 := (X3.out 3 _ rfl).1
  have x3_4 := (X3.out 4 _ rfl).1
  have x3_5 := (X3.out 5 _ rfl).1
  have x3_6 := (X3.out 6 _ rfl).1
  have x3_7 := (X3.out 7 _ rfl).1
  have x3_8 := (X3.out 8 _ rfl).1
  have x3_9 := (X3.out 9 _ rfl).1
  have x3_10 := (X3.out 10 _ rfl).1
  go_wp2_with fail
  refine (K1.out _).mono ?_
  rintro e1 v1 ⟨rfl, q1⟩
  clear x3_0 x3_1 x3_2 x3_3 x3_4 x3_5 x3_6 x3_7 x3_8 x3_9 x3_10
  replace X3 := Lib.hid (X3.out.q q1)
  replace X4 := Lib.hid (X4.out.q q1)
  replace QF := Lib.hid (QF.out.trans q1)
  clear q1
  have x4_0 := (X4.out 0 _ rfl).1
  have x4_1 := (X4.out 1 _ rfl).1
  have x4_2 := (X4.out 2 _ rfl).1
  have x4_3 := (X4.out 3 _ rfl).1
  have x4_4 := (X4.out 4 _ rfl).1
  have x4_5 := (X4.out 5 _ rfl).1
  have x4_6 := (X4.out 6 _ rfl).1
  have x4_7 := (X4.out 7 _ rfl).1
  have x4_8 := (X4.out 8 _ rfl).1
  have x4_9 := (X4.out 9 _ rfl).1
  have x4_10 := (X4.out 10 _ rfl).1
  go_wp2_with fail
  refine (K2.out _).mono ?_
  rintro e2 v2 ⟨rfl, q2⟩
  clear x4_0 x4_1 x4_2 x4_3 x4_4 x4_5 x4_6 x4_7 x4_8 x4_9 x4_10
  replace X3 := Lib.hid (X3.out.q q2)
  replace X4 := Lib.hid (X4.out.q q2)
  replace QF := Lib.hid (QF.out.trans q2)
  clear q2
  go_upto_region 6 with (fail)
  go_wp2_with fail
  refine (K3.out _ QF.out).mono ?_
  rintro e12 v12 ⟨rfl, q12⟩
  have qa := (Q.refl v12).alloc (.cells #[.int .i64 Y.kind, .int .i64 Y.epoch, .int .i64 Y.sess, .int .i64 Y.seq, .string Y.tok, .int .i64 Y.op.kind, .string Y.op.key, .string Y.op.val, .string Y.op.lo, .string Y.op.hi, .int .i64 Y.op.most] 25)
  replace X3 := Lib.hid ((X3.out.q q12).q qa)
  replace X4 := Lib.hid ((X4.out.q q12).q qa)
  replace QF := Lib.hid ((QF.out.trans q12).trans qa)
  have X12 : Hid (Bx (v12.alloc (.cells #[.int .i64 Y.kind, .int .i64 Y.epoch, .int .i64 Y.sess, .int .i64 Y.seq, .string Y.tok, .int .i64 Y.op.kind, .string Y.op.key, .string Y.op.val, .string Y.op.lo, .string Y.op.hi, .int .i64 Y.op.most] 25)) v12.heap.size [.int .i64 Y.kind, .int .i64 Y.epoch, .int .i64 Y.sess, .int .i64 Y.seq, .string Y.tok, .int .i64 Y.op.kind, .string Y.op.key, .string Y.op.val, .string Y.op.lo, .string Y.op.hi, .int .i64 Y.op.most]) := Lib.hid (Bx.new v12 [.int .i64 Y.kind, .int .i64 Y.epoch, .int .i64 Y.sess, .int .i64 Y.seq, .string Y.tok, .int .i64 Y.op.kind, .string Y.op.key, .string Y.op.val, .string Y.op.lo, .string Y.op.hi, .int .i64 Y.op.most] 25)
  clear qa q12
  go_upto_region 7 with (fail)
  generalize v12.alloc (.cells #[.int .i64 Y.kind, .int .i64 Y.epoch, .int .i64 Y.sess, .int .i64 Y.seq, .string Y.tok, .int .i64 Y.op.kind, .string Y.op.key, .string Y.op.val, .string Y.op.lo, .string Y.op.hi, .int .i64 Y.op.most] 25) = W12 at X3 X4 X12 QF ⊢
  generalize v12.heap.size = b12 at X12 ⊢
  rcases HE.out with h0 | h0 | h0
  · have K4 := Lib.hid (HK.out h0)
    subst h0
    go_upto_region 8 with (fail)
    have x12_0 := (X12.out 0 _ rfl).1
    have x12_1 := (X12.out 1 _ rfl).1
    have x12_2 := (X12.out 2 _ rfl).1
    have x12_3 := (X12.out 3 _ rfl).1
    have x12_4 := (X12.out 4 _ rfl).1
    have x12_5 := (X12.out 5 _ rfl).1
    have x12_6 := (X12.out 6 _ rfl).1
    have x12_7 := (X12.out 7 _ rfl).1
    have x12_8 := (X12.out 8 _ rfl).1
    have x12_9 := (X12.out 9 _ rfl).1
    have x12_10 := (X12.out 10 _ rfl).1
    go_wp2_with fail
    refine (K4.out _).mono ?_
    rintro e8 v8 ⟨rfl, q8⟩
    clear x12_0 x12_1 x12_2 x12_3 x12_4 x12_5 x12_6 x12_7 x12_8 x12_9 x12_10
    replace X3 := Lib.hid (X3.out.q q8)
    replace X4 := Lib.hid (X4.out.q q8)
    replace X12 := Lib.hid (X12.out.q q8)
    replace QF := Lib.hid (QF.out.trans q8)
    clear q8
    go_wp2
    go_ret
    exact ⟨by first | rfl | simp, QF.out⟩
  · subst h0
    go_wp2
    go_ret
    exact ⟨by first | rfl | simp, QF.out⟩
  · subst h0
    go_wp2
    go_ret
    exact ⟨by first | rfl | simp, QF.out⟩
set_option maxRecDepth 100000 in
set_option maxHeartbeats 8000000 in
theorem walk_eq (a b : Rq) (s : ByteArray) (w : World) (sa sc : Addr) (hW : Wk w sa sc) (hne : sc ≠ sa) (hs : s.size ≤ 140737488351232) (S1 : ByteArray) (k1 : ∀ W, Calls Tryd.prog 9 #[.agg #[.int .i64 a.kind, .int .i64 a.epoch, .int .i64 a.sess, .int .i64 a.seq, .string a.tok, .int .i64 a.op.kind, .string a.op.key, .string a.op.val, .string a.op.lo, .string a.op.hi, .int .i64 a.op.most]] W fun e w' => e = .returned (.tuple #[.string S1, .int .i64 0]) ∧ Q W w') (k2 : ∀ W, Calls Tryd.prog 9 #[.agg #[.int .i64 b.kind, .int .i64 b.epoch, .int .i64 b.sess, .int .i64 b.seq, .string b.tok, .int .i64 b.op.kind, .string b.op.key, .string b.op.val, .string b.op.lo, .string b.op.hi, .int .i64 b.op.most]] W fun e w' => e = .returned (.tuple #[.string S1, .int .i64 0]) ∧ Q W w') (hab : a = b) :
    Calls Tryd.prog 7 #[.agg #[.int .i64 a.kind, .int .i64 a.epoch, .int .i64 a.sess, .int .i64 a.seq, .string a.tok, .int .i64 a.op.kind, .string a.op.key, .string a.op.val, .string a.op.lo, .string a.op.hi, .int .i64 a.op.most], .agg #[.int .i64 b.kind, .int .i64 b.epoch, .int .i64 b.sess, .int .i64 b.seq, .string b.tok, .int .i64 b.op.kind, .string b.op.key, .string b.op.val, .string b.op.lo, .string b.op.hi, .int .i64 b.op.most], .string s] w fun e w' => e = .returned (.bool true) ∧ Q w w' := by
  subst hab
  have K0 := Lib.hid (fun W => wishown_any W)
  have X3 : Hid (Bx (w.alloc (.cells #[.int .i64 a.kind, .int .i64 a.epoch, .int .i64 a.sess, .int .i64 a.seq, .string a.tok, .int .i64 a.op.kind, .string a.op.key, .string a.op.val, .string a.op.lo, .string a.op.hi, .int .i64 a.op.most] 25)) w.heap.size [.int .i64 a.kind, .int .i64 a.epoch, .int .i64 a.sess, .int .i64 a.seq, .string a.tok, .int .i64 a.op.kind, .string a.op.key, .string a.op.val, .string a.op.lo, .string a.op.hi, .int .i64 a.op.most]) := Lib.hid (Bx.new w [.int .i64 a.kind, .int .i64 a.epoch, .int .i64 a.sess, .int .i64 a.seq, .string a.tok, .int .i64 a.op.kind, .string a.op.key, .string a.op.val, .string a.op.lo, .string a.op.hi, .int .i64 a.op.most] 25)
  have QF := Lib.hid ((Q.refl w).alloc (.cells #[.int .i64 a.kind, .int .i64 a.epoch, .int .i64 a.sess, .int .i64 a.seq, .string a.tok, .int .i64 a.op.kind, .string a.op.key, .string a.op.val, .string a.op.lo, .string a.op.hi, .int .i64 a.op.most] 25))
  have X3 := Lib.hid (X3.out.alloc (.cells #[.int .i64 a.kind, .int .i64 a.epoch, .int .i64 a.sess, .int .i64 a.seq, .string a.tok, .int .i64 a.op.kind, .string a.op.key, .string a.op.val, .string a.op.lo, .string a.op.hi, .int .i64 a.op.most] 25))
  have X4 : Hid (Bx ((w.alloc (.cells #[.int .i64 a.kind, .int .i64 a.epoch, .int .i64 a.sess, .int .i64 a.seq, .string a.tok, .int .i64 a.op.kind, .string a.op.key, .string a.op.val, .string a.op.lo, .string a.op.hi, .int .i64 a.op.most] 25)).alloc (.cells #[.int .i64 a.kind, .int .i64 a.epoch, .int .i64 a.sess, .int .i64 a.seq, .string a.tok, .int .i64 a.op.kind, .string a.op.key, .string a.op.val, .string a.op.lo, .string a.op.hi, .int .i64 a.op.most] 25)) (w.alloc (.cells #[.int .i64 a.kind, .int .i64 a.epoch, .int .i64 a.sess, .int .i64 a.seq, .string a.tok, .int .i64 a.op.kind, .string a.op.key, .string a.op.val, .string a.op.lo, .string a.op.hi, .int .i64 a.op.most] 25)).heap.size [.int .i64 a.kind, .int .i64 a.epoch, .int .i64 a.sess, .int .i64 a.seq, .string a.tok, .int .i64 a.op.kind, .string a.op.key, .string a.op.val, .string a.op.lo, .string a.op.hi, .int .i64 a.op.most]) := Lib.hid (Bx.new (w.alloc (.cells #[.int .i64 a.kind, .int .i64 a.epoch, .int .i64 a.sess, .int .i64 a.seq, .string a.tok, .int .i64 a.op.kind, .string a.op.key, .string a.op.val, .string a.op.lo, .string a.op.hi, .int .i64 a.op.most] 25)) [.int .i64 a.kind, .int .i64 a.epoch, .int .i64 a.sess, .int .i64 a.seq, .string a.tok, .int .i64 a.op.kind, .string a.op.key, .string a.op.val, .string a.op.lo, .string a.op.hi, .int .i64 a.op.most] 25)
  have QF := Lib.hid (QF.out.alloc (.cells #[.int .i64 a.kind, .int .i64 a.epoch, .int .i64 a.sess, .int .i64 a.seq, .string a.tok, .int .i64 a.op.kind, .string a.op.key, .string a.op.val, .string a.op.lo, .string a.op.hi, .int .i64 a.op.most] 25))
  rw [show (w.alloc (.cells #[.int .i64 a.kind, .int .i64 a.epoch, .int .i64 a.sess, .int .i64 a.seq, .string a.tok, .int .i64 a.op.kind, .string a.op.key, .string a.op.val, .string a.op.lo, .string a.op.hi, .int .i64 a.op.most] 25)).heap.size = w.heap.size + 1 by simp] at X4
  have K1 := Lib.hid k1
  have K2 := Lib.hid k2
  have K3 : Hid (∀ W, Q w W → Calls Tryd.prog 11 #[.string s] W fun e w' => e = .returned (.tuple #[.agg #[.int .i64 (takeQ s.data.toList).1.kind, .int .i64 (takeQ s.data.toList).1.epoch, .int .i64 (takeQ s.data.toList).1.sess, .int .i64 (takeQ s.data.toList).1.seq, .string (takeQ s.data.toList).1.tok, .int .i64 (takeQ s.data.toList).1.op.kind, .string (takeQ s.data.toList).1.op.key, .string (takeQ s.data.toList).1.op.val, .string (takeQ s.data.toList).1.op.lo, .string (takeQ s.data.toList).1.op.hi, .int .i64 (takeQ s.data.toList).1.op.most], .int .i64 (takeQ s.data.toList).2]) ∧ Q W w') := Lib.hid (fun W qz => ptakeQ_any sa sc s W (hW.q qz) hne (by omega))
  have HK : Hid ((takeQ s.data.toList).2 = 0 → ∀ W, Calls Tryd.prog 9 #[.agg #[.int .i64 (takeQ s.data.toList).1.kind, .int .i64 (takeQ s.data.toList).1.epoch, .int .i64 (takeQ s.data.toList).1.sess, .int .i64 (takeQ s.data.toList).1.seq, .string (takeQ s.data.toList).1.tok, .int .i64 (takeQ s.data.toList).1.op.kind, .string (takeQ s.data.toList).1.op.key, .string (takeQ s.data.toList).1.op.val, .string (takeQ s.data.toList).1.op.lo, .string (takeQ s.data.toList).1.op.hi, .int .i64 (takeQ s.data.toList).1.op.most]] W fun e w' => e = .returned (.tuple #[.string s, .int .i64 0]) ∧ Q W w') := Lib.hid (fun h0 W => by
    obtain ⟨h1, h2⟩ := takeQ_ok h0
    have h := preq_any (takeQ s.data.toList).1 W
    rw [show reqM (takeQ s.data.toList).1 = (req (takeQ s.data.toList).1, 0) by unfold reqM; rw [if_pos h1], h2] at h
    simp only [ba_of] at h
    exact h)
  have HE : Hid ((takeQ s.data.toList).2 = 0 ∨ (takeQ s.data.toList).2 = 3 ∨ (takeQ s.data.toList).2 = 4) := Lib.hid (by
    rcases takeQ_err s.data.toList with h | h | h
    · exact .inl h
    · right; left; rw [h]
    · right; right; rw [h])
  generalize (takeQ s.data.toList).1 = Y at K3 HK
  generalize (takeQ s.data.toList).2 = ey at K3 HK HE
  clear k1 k2
  go_enter Tryd.func7, Tryd.ntmps7
  go_upto_region 1 with (fail)
  generalize ((w.alloc (.cells #[.int .i64 a.kind, .int .i64 a.epoch, .int .i64 a.sess, .int .i64 a.seq, .string a.tok, .int .i64 a.op.kind, .string a.op.key, .string a.op.val, .string a.op.lo, .string a.op.hi, .int .i64 a.op.most] 25)).alloc (.cells #[.int .i64 a.kind, .int .i64 a.epoch, .int .i64 a.sess, .int .i64 a.seq, .string a.tok, .int .i64 a.op.kind, .string a.op.key, .string a.op.val, .string a.op.lo, .string a.op.hi, .int .i64 a.op.most] 25)) = W0 at X3 X4 QF ⊢
  generalize hb2 : w.heap.size = b3 at X3 X4 ⊢
  generalize hb3 : b3 + 1 = b4 at X4 ⊢
  clear hb2 hb3
  go_wp2_with fail
  refine (K0.out _).mono ?_
  rintro e0 v0 ⟨rfl, q0⟩
  replace X3 := Lib.hid (X3.out.q q0)
  replace X4 := Lib.hid (X4.out.q q0)
  replace QF := Lib.hid (QF.out.trans q0)
  clear q0
  have x3_0 := (X3.out 0 _ rfl).1
  have x3_1 := (X3.out 1 _ rfl).1
  have x3_2 := (X3.out 2 _ rfl).1
  have x3_3 := (X3.out 3 _ rfl).1
  have x3_4 := (X3.out 4 _ rfl).1
  have x3_5 := (X3.out 5 _ rfl).1
  have x3_6 := (X3.out 6 _ rfl).1
  have x3_7 := (X3.out 7 _ rfl).1
  have x3_8 := (X3.out 8 _ rfl).1
  have x3_9 := (X3.out 9 _ rfl).1
  have x3_10 := (X3.out 10 _ rfl).1
  go_wp2_with fail
  refine (K1.out _).mono ?_
  rintro e1 v1 ⟨rfl, q1⟩
  clear x3_0 x3_1 x3_2 x3_3 x3_4 x3_5 x3_6 x3_7 x3_8 x3_9 x3_10
  replace X3 := Lib.hid (X3.out.q q1)
  replace X4 := Lib.hid (X4.out.q q1)
  replace QF := Lib.hid (QF.out.trans q1)
  clear q1
  have x4_0 := (X4.out 0 _ rfl).1
  have x4_1 := (X4.out 1 _ rfl).1
  have x4_2 := (X4.out 2 _ rfl).1
  have x4_3 := (X4.out 3 _ rfl).1
  have x4_4 := (X4.out 4 _ rfl).1
  have x4_5 := (X4.out 5 _ rfl).1
  have x4_6 := (X4.out 6 _ rfl).1
  have x4_7 := (X4.out 7 _ rfl).1
  have x4_8 := (X4.out 8 _ rfl).1
  have x4_9 := (X4.out 9 _ rfl).1
  have x4_10 := (X4.out 10 _ rfl).1
  go_wp2_with fail
  refine (K2.out _).mono ?_
  rintro e2 v2 ⟨rfl, q2⟩
  clear x4_0 x4_1 x4_2 x4_3 x4_4 x4_5 x4_6 x4_7 x4_8 x4_9 x4_10
  replace X3 := Lib.hid (X3.out.q q2)
  replace X4 := Lib.hid (X4.out.q q2)
  replace QF := Lib.hid (QF.out.trans q2)
  clear q2
  have x0 := (X3.out 0 _ rfl).1
  have x1 := (X3.out 1 _ rfl).1
  have x2 := (X3.out 2 _ rfl).1
  have x3 := (X3.out 3 _ rfl).1
  have x4 := (X3.out 4 _ rfl).1
  have x5 := (X3.out 5 _ rfl).1
  have x6 := (X3.out 6 _ rfl).1
  have x7 := (X3.out 7 _ rfl).1
  have x8 := (X3.out 8 _ rfl).1
  have x9 := (X3.out 9 _ rfl).1
  have x10 := (X3.out 10 _ rfl).1
  have y0 := (X4.out 0 _ rfl).1
  have y1 := (X4.out 1 _ rfl).1
  have y2 := (X4.out 2 _ rfl).1
  have y3 := (X4.out 3 _ rfl).1
  have y4 := (X4.out 4 _ rfl).1
  have y5 := (X4.out 5 _ rfl).1
  have y6 := (X4.out 6 _ rfl).1
  have y7 := (X4.out 7 _ rfl).1
  have y8 := (X4.out 8 _ rfl).1
  have y9 := (X4.out 9 _ rfl).1
  have y10 := (X4.out 10 _ rfl).1
  go_upto_region 6 with (fail)
  clear x0 x1 x2 x3 x4 x5 x6 x7 x8 x9 x10
  clear y0 y1 y2 y3 y4 y5 y6 y7 y8 y9 y10
  go_wp2_with fail
  refine (K3.out _ QF.out).mono ?_
  rintro e12 v12 ⟨rfl, q12⟩
  have qa := (Q.refl v12).alloc (.cells #[.int .i64 Y.kind, .int .i64 Y.epoch, .int .i64 Y.sess, .int .i64 Y.seq, .string Y.tok, .int .i64 Y.op.kind, .string Y.op.key, .string Y.op.val, .string Y.op.lo, .string Y.op.hi, .int .i64 Y.op.most] 25)
  replace X3 := Lib.hid ((X3.out.q q12).q qa)
  replace X4 := Lib.hid ((X4.out.q q12).q qa)
  replace QF := Lib.hid ((QF.out.trans q12).trans qa)
  have X12 : Hid (Bx (v12.alloc (.cells #[.int .i64 Y.kind, .int .i64 Y.epoch, .int .i64 Y.sess, .int .i64 Y.seq, .string Y.tok, .int .i64 Y.op.kind, .string Y.op.key, .string Y.op.val, .string Y.op.lo, .string Y.op.hi, .int .i64 Y.op.most] 25)) v12.heap.size [.int .i64 Y.kind, .int .i64 Y.epoch, .int .i64 Y.sess, .int .i64 Y.seq, .string Y.tok, .int .i64 Y.op.kind, .string Y.op.key, .string Y.op.val, .string Y.op.lo, .string Y.op.hi, .int .i64 Y.op.most]) := Lib.hid (Bx.new v12 [.int .i64 Y.kind, .int .i64 Y.epoch, .int .i64 Y.sess, .int .i64 Y.seq, .string Y.tok, .int .i64 Y.op.kind, .string Y.op.key, .string Y.op.val, .string Y.op.lo, .string Y.op.hi, .int .i64 Y.op.most] 25)
  clear qa q12
  go_upto_region 7 with (fail)
  generalize v12.alloc (.cells #[.int .i64 Y.kind, .int .i64 Y.epoch, .int .i64 Y.sess, .int .i64 Y.seq, .string Y.tok, .int .i64 Y.op.kind, .string Y.op.key, .string Y.op.val, .string Y.op.lo, .string Y.op.hi, .int .i64 Y.op.most] 25) = W12 at X3 X4 X12 QF ⊢
  generalize v12.heap.size = b12 at X12 ⊢
  rcases HE.out with h0 | h0 | h0
  · have K4 := Lib.hid (HK.out h0)
    subst h0
    go_upto_region 8 with (fail)
    have x12_0 := (X12.out 0 _ rfl).1
    have x12_1 := (X12.out 1 _ rfl).1
    have x12_2 := (X12.out 2 _ rfl).1
    have x12_3 := (X12.out 3 _ rfl).1
    have x12_4 := (X12.out 4 _ rfl).1
    have x12_5 := (X12.out 5 _ rfl).1
    have x12_6 := (X12.out 6 _ rfl).1
    have x12_7 := (X12.out 7 _ rfl).1
    have x12_8 := (X12.out 8 _ rfl).1
    have x12_9 := (X12.out 9 _ rfl).1
    have x12_10 := (X12.out 10 _ rfl).1
    go_wp2_with fail
    refine (K4.out _).mono ?_
    rintro e8 v8 ⟨rfl, q8⟩
    clear x12_0 x12_1 x12_2 x12_3 x12_4 x12_5 x12_6 x12_7 x12_8 x12_9 x12_10
    replace X3 := Lib.hid (X3.out.q q8)
    replace X4 := Lib.hid (X4.out.q q8)
    replace X12 := Lib.hid (X12.out.q q8)
    replace QF := Lib.hid (QF.out.trans q8)
    clear q8
    go_wp2
    go_ret
    exact ⟨by first | rfl | simp, QF.out⟩
  · subst h0
    go_wp2
    go_ret
    exact ⟨by first | rfl | simp, QF.out⟩
  · subst h0
    go_wp2
    go_ret
    exact ⟨by first | rfl | simp, QF.out⟩
set_option maxRecDepth 100000 in
set_option maxHeartbeats 8000000 in
theorem walk_ne (a b : Rq) (s : ByteArray) (w : World) (sa sc : Addr) (hW : Wk w sa sc) (hne : sc ≠ sa) (hs : s.size ≤ 140737488351232) (S1 S2 : ByteArray) (k1 : ∀ W, Calls Tryd.prog 9 #[.agg #[.int .i64 a.kind, .int .i64 a.epoch, .int .i64 a.sess, .int .i64 a.seq, .string a.tok, .int .i64 a.op.kind, .string a.op.key, .string a.op.val, .string a.op.lo, .string a.op.hi, .int .i64 a.op.most]] W fun e w' => e = .returned (.tuple #[.string S1, .int .i64 0]) ∧ Q W w') (k2 : ∀ W, Calls Tryd.prog 9 #[.agg #[.int .i64 b.kind, .int .i64 b.epoch, .int .i64 b.sess, .int .i64 b.seq, .string b.tok, .int .i64 b.op.kind, .string b.op.key, .string b.op.val, .string b.op.lo, .string b.op.hi, .int .i64 b.op.most]] W fun e w' => e = .returned (.tuple #[.string S2, .int .i64 0]) ∧ Q W w') (hab : ¬ a = b) (hns : (S1.toList == S2.toList) = false) :
    Calls Tryd.prog 7 #[.agg #[.int .i64 a.kind, .int .i64 a.epoch, .int .i64 a.sess, .int .i64 a.seq, .string a.tok, .int .i64 a.op.kind, .string a.op.key, .string a.op.val, .string a.op.lo, .string a.op.hi, .int .i64 a.op.most], .agg #[.int .i64 b.kind, .int .i64 b.epoch, .int .i64 b.sess, .int .i64 b.seq, .string b.tok, .int .i64 b.op.kind, .string b.op.key, .string b.op.val, .string b.op.lo, .string b.op.hi, .int .i64 b.op.most], .string s] w fun e w' => e = .returned (.bool true) ∧ Q w w' := by
  have hd : decide (a = b) = false := decide_eq_false hab
  have hn2 : ¬ S1.toList = S2.toList := by intro h; rw [h] at hns; simp at hns
  have K0 := Lib.hid (fun W => wishown_any W)
  have X3 : Hid (Bx (w.alloc (.cells #[.int .i64 a.kind, .int .i64 a.epoch, .int .i64 a.sess, .int .i64 a.seq, .string a.tok, .int .i64 a.op.kind, .string a.op.key, .string a.op.val, .string a.op.lo, .string a.op.hi, .int .i64 a.op.most] 25)) w.heap.size [.int .i64 a.kind, .int .i64 a.epoch, .int .i64 a.sess, .int .i64 a.seq, .string a.tok, .int .i64 a.op.kind, .string a.op.key, .string a.op.val, .string a.op.lo, .string a.op.hi, .int .i64 a.op.most]) := Lib.hid (Bx.new w [.int .i64 a.kind, .int .i64 a.epoch, .int .i64 a.sess, .int .i64 a.seq, .string a.tok, .int .i64 a.op.kind, .string a.op.key, .string a.op.val, .string a.op.lo, .string a.op.hi, .int .i64 a.op.most] 25)
  have QF := Lib.hid ((Q.refl w).alloc (.cells #[.int .i64 a.kind, .int .i64 a.epoch, .int .i64 a.sess, .int .i64 a.seq, .string a.tok, .int .i64 a.op.kind, .string a.op.key, .string a.op.val, .string a.op.lo, .string a.op.hi, .int .i64 a.op.most] 25))
  have X3 := Lib.hid (X3.out.alloc (.cells #[.int .i64 b.kind, .int .i64 b.epoch, .int .i64 b.sess, .int .i64 b.seq, .string b.tok, .int .i64 b.op.kind, .string b.op.key, .string b.op.val, .string b.op.lo, .string b.op.hi, .int .i64 b.op.most] 25))
  have X4 : Hid (Bx ((w.alloc (.cells #[.int .i64 a.kind, .int .i64 a.epoch, .int .i64 a.sess, .int .i64 a.seq, .string a.tok, .int .i64 a.op.kind, .string a.op.key, .string a.op.val, .string a.op.lo, .string a.op.hi, .int .i64 a.op.most] 25)).alloc (.cells #[.int .i64 b.kind, .int .i64 b.epoch, .int .i64 b.sess, .int .i64 b.seq, .string b.tok, .int .i64 b.op.kind, .string b.op.key, .string b.op.val, .string b.op.lo, .string b.op.hi, .int .i64 b.op.most] 25)) (w.alloc (.cells #[.int .i64 a.kind, .int .i64 a.epoch, .int .i64 a.sess, .int .i64 a.seq, .string a.tok, .int .i64 a.op.kind, .string a.op.key, .string a.op.val, .string a.op.lo, .string a.op.hi, .int .i64 a.op.most] 25)).heap.size [.int .i64 b.kind, .int .i64 b.epoch, .int .i64 b.sess, .int .i64 b.seq, .string b.tok, .int .i64 b.op.kind, .string b.op.key, .string b.op.val, .string b.op.lo, .string b.op.hi, .int .i64 b.op.most]) := Lib.hid (Bx.new (w.alloc (.cells #[.int .i64 a.kind, .int .i64 a.epoch, .int .i64 a.sess, .int .i64 a.seq, .string a.tok, .int .i64 a.op.kind, .string a.op.key, .string a.op.val, .string a.op.lo, .string a.op.hi, .int .i64 a.op.most] 25)) [.int .i64 b.kind, .int .i64 b.epoch, .int .i64 b.sess, .int .i64 b.seq, .string b.tok, .int .i64 b.op.kind, .string b.op.key, .string b.op.val, .string b.op.lo, .string b.op.hi, .int .i64 b.op.most] 25)
  have QF := Lib.hid (QF.out.alloc (.cells #[.int .i64 b.kind, .int .i64 b.epoch, .int .i64 b.sess, .int .i64 b.seq, .string b.tok, .int .i64 b.op.kind, .string b.op.key, .string b.op.val, .string b.op.lo, .string b.op.hi, .int .i64 b.op.most] 25))
  rw [show (w.alloc (.cells #[.int .i64 a.kind, .int .i64 a.epoch, .int .i64 a.sess, .int .i64 a.seq, .string a.tok, .int .i64 a.op.kind, .string a.op.key, .string a.op.val, .string a.op.lo, .string a.op.hi, .int .i64 a.op.most] 25)).heap.size = w.heap.size + 1 by simp] at X4
  have K1 := Lib.hid k1
  have K2 := Lib.hid k2
  have K3 : Hid (∀ W, Q w W → Calls Tryd.prog 11 #[.string s] W fun e w' => e = .returned (.tuple #[.agg #[.int .i64 (takeQ s.data.toList).1.kind, .int .i64 (takeQ s.data.toList).1.epoch, .int .i64 (takeQ s.data.toList).1.sess, .int .i64 (takeQ s.data.toList).1.seq, .string (takeQ s.data.toList).1.tok, .int .i64 (takeQ s.data.toList).1.op.kind, .string (takeQ s.data.toList).1.op.key, .string (takeQ s.data.toList).1.op.val, .string (takeQ s.data.toList).1.op.lo, .string (takeQ s.data.toList).1.op.hi, .int .i64 (takeQ s.data.toList).1.op.most], .int .i64 (takeQ s.data.toList).2]) ∧ Q W w') := Lib.hid (fun W qz => ptakeQ_any sa sc s W (hW.q qz) hne (by omega))
  have HK : Hid ((takeQ s.data.toList).2 = 0 → ∀ W, Calls Tryd.prog 9 #[.agg #[.int .i64 (takeQ s.data.toList).1.kind, .int .i64 (takeQ s.data.toList).1.epoch, .int .i64 (takeQ s.data.toList).1.sess, .int .i64 (takeQ s.data.toList).1.seq, .string (takeQ s.data.toList).1.tok, .int .i64 (takeQ s.data.toList).1.op.kind, .string (takeQ s.data.toList).1.op.key, .string (takeQ s.data.toList).1.op.val, .string (takeQ s.data.toList).1.op.lo, .string (takeQ s.data.toList).1.op.hi, .int .i64 (takeQ s.data.toList).1.op.most]] W fun e w' => e = .returned (.tuple #[.string s, .int .i64 0]) ∧ Q W w') := Lib.hid (fun h0 W => by
    obtain ⟨h1, h2⟩ := takeQ_ok h0
    have h := preq_any (takeQ s.data.toList).1 W
    rw [show reqM (takeQ s.data.toList).1 = (req (takeQ s.data.toList).1, 0) by unfold reqM; rw [if_pos h1], h2] at h
    simp only [ba_of] at h
    exact h)
  have HE : Hid ((takeQ s.data.toList).2 = 0 ∨ (takeQ s.data.toList).2 = 3 ∨ (takeQ s.data.toList).2 = 4) := Lib.hid (by
    rcases takeQ_err s.data.toList with h | h | h
    · exact .inl h
    · right; left; rw [h]
    · right; right; rw [h])
  generalize (takeQ s.data.toList).1 = Y at K3 HK
  generalize (takeQ s.data.toList).2 = ey at K3 HK HE
  clear k1 k2
  go_enter Tryd.func7, Tryd.ntmps7
  go_upto_region 1 with (fail)
  generalize ((w.alloc (.cells #[.int .i64 a.kind, .int .i64 a.epoch, .int .i64 a.sess, .int .i64 a.seq, .string a.tok, .int .i64 a.op.kind, .string a.op.key, .string a.op.val, .string a.op.lo, .string a.op.hi, .int .i64 a.op.most] 25)).alloc (.cells #[.int .i64 b.kind, .int .i64 b.epoch, .int .i64 b.sess, .int .i64 b.seq, .string b.tok, .int .i64 b.op.kind, .string b.op.key, .string b.op.val, .string b.op.lo, .string b.op.hi, .int .i64 b.op.most] 25)) = W0 at X3 X4 QF ⊢
  generalize hb2 : w.heap.size = b3 at X3 X4 ⊢
  generalize hb3 : b3 + 1 = b4 at X4 ⊢
  clear hb2 hb3
  go_wp2_with fail
  refine (K0.out _).mono ?_
  rintro e0 v0 ⟨rfl, q0⟩
  replace X3 := Lib.hid (X3.out.q q0)
  replace X4 := Lib.hid (X4.out.q q0)
  replace QF := Lib.hid (QF.out.trans q0)
  clear q0
  have x3_0 := (X3.out 0 _ rfl).1
  have x3_1 := (X3.out 1 _ rfl).1
  have x3_2 := (X3.out 2 _ rfl).1
  have x3_3 := (X3.out 3 _ rfl).1
  have x3_4 := (X3.out 4 _ rfl).1
  have x3_5 := (X3.out 5 _ rfl).1
  have x3_6 := (X3.out 6 _ rfl).1
  have x3_7 := (X3.out 7 _ rfl).1
  have x3_8 := (X3.out 8 _ rfl).1
  have x3_9 := (X3.out 9 _ rfl).1
  have x3_10 := (X3.out 10 _ rfl).1
  go_wp2_with fail
  refine (K1.out _).mono ?_
  rintro e1 v1 ⟨rfl, q1⟩
  clear x3_0 x3_1 x3_2 x3_3 x3_4 x3_5 x3_6 x3_7 x3_8 x3_9 x3_10
  replace X3 := Lib.hid (X3.out.q q1)
  replace X4 := Lib.hid (X4.out.q q1)
  replace QF := Lib.hid (QF.out.trans q1)
  clear q1
  have x4_0 := (X4.out 0 _ rfl).1
  have x4_1 := (X4.out 1 _ rfl).1
  have x4_2 := (X4.out 2 _ rfl).1
  have x4_3 := (X4.out 3 _ rfl).1
  have x4_4 := (X4.out 4 _ rfl).1
  have x4_5 := (X4.out 5 _ rfl).1
  have x4_6 := (X4.out 6 _ rfl).1
  have x4_7 := (X4.out 7 _ rfl).1
  have x4_8 := (X4.out 8 _ rfl).1
  have x4_9 := (X4.out 9 _ rfl).1
  have x4_10 := (X4.out 10 _ rfl).1
  go_wp2_with fail
  refine (K2.out _).mono ?_
  rintro e2 v2 ⟨rfl, q2⟩
  clear x4_0 x4_1 x4_2 x4_3 x4_4 x4_5 x4_6 x4_7 x4_8 x4_9 x4_10
  replace X3 := Lib.hid (X3.out.q q2)
  replace X4 := Lib.hid (X4.out.q q2)
  replace QF := Lib.hid (QF.out.trans q2)
  clear q2
  have x0 := (X3.out 0 _ rfl).1
  have x1 := (X3.out 1 _ rfl).1
  have x2 := (X3.out 2 _ rfl).1
  have x3 := (X3.out 3 _ rfl).1
  have x4 := (X3.out 4 _ rfl).1
  have x5 := (X3.out 5 _ rfl).1
  have x6 := (X3.out 6 _ rfl).1
  have x7 := (X3.out 7 _ rfl).1
  have x8 := (X3.out 8 _ rfl).1
  have x9 := (X3.out 9 _ rfl).1
  have x10 := (X3.out 10 _ rfl).1
  have y0 := (X4.out 0 _ rfl).1
  have y1 := (X4.out 1 _ rfl).1
  have y2 := (X4.out 2 _ rfl).1
  have y3 := (X4.out 3 _ rfl).1
  have y4 := (X4.out 4 _ rfl).1
  have y5 := (X4.out 5 _ rfl).1
  have y6 := (X4.out 6 _ rfl).1
  have y7 := (X4.out 7 _ rfl).1
  have y8 := (X4.out 8 _ rfl).1
  have y9 := (X4.out 9 _ rfl).1
  have y10 := (X4.out 10 _ rfl).1
  go_upto_region 6 with (fail)
  clear x0 x1 x2 x3 x4 x5 x6 x7 x8 x9 x10
  clear y0 y1 y2 y3 y4 y5 y6 y7 y8 y9 y10
  go_wp2_with fail
  refine (K3.out _ QF.out).mono ?_
  rintro e12 v12 ⟨rfl, q12⟩
  have qa := (Q.refl v12).alloc (.cells #[.int .i64 Y.kind, .int .i64 Y.epoch, .int .i64 Y.sess, .int .i64 Y.seq, .string Y.tok, .int .i64 Y.op.kind, .string Y.op.key, .string Y.op.val, .string Y.op.lo, .string Y.op.hi, .int .i64 Y.op.most] 25)
  replace X3 := Lib.hid ((X3.out.q q12).q qa)
  replace X4 := Lib.hid ((X4.out.q q12).q qa)
  replace QF := Lib.hid ((QF.out.trans q12).trans qa)
  have X12 : Hid (Bx (v12.alloc (.cells #[.int .i64 Y.kind, .int .i64 Y.epoch, .int .i64 Y.sess, .int .i64 Y.seq, .string Y.tok, .int .i64 Y.op.kind, .string Y.op.key, .string Y.op.val, .string Y.op.lo, .string Y.op.hi, .int .i64 Y.op.most] 25)) v12.heap.size [.int .i64 Y.kind, .int .i64 Y.epoch, .int .i64 Y.sess, .int .i64 Y.seq, .string Y.tok, .int .i64 Y.op.kind, .string Y.op.key, .string Y.op.val, .string Y.op.lo, .string Y.op.hi, .int .i64 Y.op.most]) := Lib.hid (Bx.new v12 [.int .i64 Y.kind, .int .i64 Y.epoch, .int .i64 Y.sess, .int .i64 Y.seq, .string Y.tok, .int .i64 Y.op.kind, .string Y.op.key, .string Y.op.val, .string Y.op.lo, .string Y.op.hi, .int .i64 Y.op.most] 25)
  clear qa q12
  go_upto_region 7 with (fail)
  generalize v12.alloc (.cells #[.int .i64 Y.kind, .int .i64 Y.epoch, .int .i64 Y.sess, .int .i64 Y.seq, .string Y.tok, .int .i64 Y.op.kind, .string Y.op.key, .string Y.op.val, .string Y.op.lo, .string Y.op.hi, .int .i64 Y.op.most] 25) = W12 at X3 X4 X12 QF ⊢
  generalize v12.heap.size = b12 at X12 ⊢
  rcases HE.out with h0 | h0 | h0
  · have K4 := Lib.hid (HK.out h0)
    subst h0
    go_upto_region 8 with (fail)
    have x12_0 := (X12.out 0 _ rfl).1
    have x12_1 := (X12.out 1 _ rfl).1
    have x12_2 := (X12.out 2 _ rfl).1
    have x12_3 := (X12.out 3 _ rfl).1
    have x12_4 := (X12.out 4 _ rfl).1
    have x12_5 := (X12.out 5 _ rfl).1
    have x12_6 := (X12.out 6 _ rfl).1
    have x12_7 := (X12.out 7 _ rfl).1
    have x12_8 := (X12.out 8 _ rfl).1
    have x12_9 := (X12.out 9 _ rfl).1
    have x12_10 := (X12.out 10 _ rfl).1
    go_wp2_with fail
    refine (K4.out _).mono ?_
    rintro e8 v8 ⟨rfl, q8⟩
    clear x12_0 x12_1 x12_2 x12_3 x12_4 x12_5 x12_6 x12_7 x12_8 x12_9 x12_10
    replace X3 := Lib.hid (X3.out.q q8)
    replace X4 := Lib.hid (X4.out.q q8)
    replace X12 := Lib.hid (X12.out.q q8)
    replace QF := Lib.hid (QF.out.trans q8)
    clear q8
    go_wp2
    go_ret
    exact ⟨by first | rfl | simp, QF.out⟩
  · subst h0
    go_wp2
    go_ret
    exact ⟨by first | rfl | simp, QF.out⟩
  · subst h0
    go_wp2
    go_ret
    exact ⟨by first | rfl | simp, QF.out⟩
theorem walk (a b : Rq) (s : ByteArray) (w : World) (sa sc : Addr) (hW : Wk w sa sc) (hne : sc ≠ sa) (ha : RqIn a) (hb : RqIn b) (hs : s.size ≤ 140737488351232) :
    Calls Tryd.prog 7 #[.agg #[.int .i64 a.kind, .int .i64 a.epoch, .int .i64 a.sess, .int .i64 a.seq, .string a.tok, .int .i64 a.op.kind, .string a.op.key, .string a.op.val, .string a.op.lo, .string a.op.hi, .int .i64 a.op.most], .agg #[.int .i64 b.kind, .int .i64 b.epoch, .int .i64 b.sess, .int .i64 b.seq, .string b.tok, .int .i64 b.op.kind, .string b.op.key, .string b.op.val, .string b.op.lo, .string b.op.hi, .int .i64 b.op.most], .string s] w fun e w' => e = .returned (.bool true) ∧ Q w w' := by
  have kt : ∀ x, may x = true → ∀ W, Calls Tryd.prog 9 #[.agg #[.int .i64 x.kind, .int .i64 x.epoch, .int .i64 x.sess, .int .i64 x.seq, .string x.tok, .int .i64 x.op.kind, .string x.op.key, .string x.op.val, .string x.op.lo, .string x.op.hi, .int .i64 x.op.most]] W fun e w' => e = .returned (.tuple #[.string (ba (req x)), .int .i64 0]) ∧ Q W w' := fun x h W => by
    have k := preq_any x W
    rw [show reqM x = (req x, 0) by unfold reqM; rw [if_pos h]] at k
    exact k
  have kf : ∀ x, may x = false → ∀ W, Calls Tryd.prog 9 #[.agg #[.int .i64 x.kind, .int .i64 x.epoch, .int .i64 x.sess, .int .i64 x.seq, .string x.tok, .int .i64 x.op.kind, .string x.op.key, .string x.op.val, .string x.op.lo, .string x.op.hi, .int .i64 x.op.most]] W fun e w' => e = .returned (.tuple #[.string (ba []), .int .i64 1]) ∧ Q W w' := fun x h W => by
    have k := preq_any x W
    rw [show reqM x = ([], 1) by unfold reqM; rw [if_neg (by rw [h]; simp)]] at k
    exact k
  cases ha2 : may a with
  | false => exact walk_no1 a b s w sa sc hW hne hs (ba []) (ba (reqM b).1) (reqM b).2 (kf a ha2) (fun W => preq_any b W)
  | true =>
    cases hb2 : may b with
    | false => exact walk_no2 a b s w sa sc hW hne hs (ba (req a)) (ba []) (kt a ha2) (kf b hb2)
    | true =>
      by_cases hab : a = b
      · exact walk_eq a b s w sa sc hW hne hs (ba (req a)) (kt a ha2) (by rw [hab]; exact kt b hb2) hab
      · refine walk_ne a b s w sa sc hW hne hs (ba (req a)) (ba (req b)) (kt a ha2) (kt b hb2) hab ?_
        rw [same_str]
        refine decide_eq_false fun h => hab ((req_inj ha2 hb2).1 ?_)
        have h2 := congrArg (fun z : ByteArray => z.data.toList) h
        simp only [ba_data] at h2
        exact h2

theorem opened (W : World) (args : Array Value) (hn : args.size = 3) (h : ∀ (j : Nat) t v, Tryd.f7.params[j]? = some t → args[j]? = some v → RdV W t v ∧ (false = true → RdU W t v.cells.toList)) (hL : laidMetH Tryd.prog Rows.wireApartRow.laid W) :
    Calls Tryd.prog 7 args W fun e W' => e = .returned (.bool true) ∧ Q W W' := by
  obtain ⟨v0, v1, v2, rfl⟩ := args3 hn
  rw [Tryd.params7] at h
  obtain ⟨cs0, e0, r0⟩ := (h 0 25 v0 rfl rfl).1.struct Tryd.underlying25
  obtain ⟨a, f0, p0⟩ := Wi.open_req r0
  subst f0
  obtain ⟨cs1, e1, r1⟩ := (h 1 25 v1 rfl rfl).1.struct Tryd.underlying25
  obtain ⟨b, f1, p1⟩ := Wi.open_req r1
  subst f1
  obtain ⟨s, e2, s2⟩ := (h 2 9 v2 rfl rfl).1.string Tryd.underlying9
  subst e0 e1 e2
  obtain ⟨sa, sc, hW, hne⟩ := wk_laid hL
  exact walk a b s W sa sc hW hne p0 p1 s2

theorem start_met (os : Os) : laidMetH Tryd.prog Rows.wireApartRow.laid ((World.doorLaid Tryd.prog 600 os).forCall (fun _ _ => 0) ⟨#[], #[.agg #[.int .i64 0, .int .i64 0, .int .i64 0, .int .i64 0, .string ⟨#[]⟩, .int .i64 0, .string ⟨#[]⟩, .string ⟨#[]⟩, .string ⟨#[]⟩, .string ⟨#[]⟩, .int .i64 0], .agg #[.int .i64 0, .int .i64 0, .int .i64 0, .int .i64 0, .string ⟨#[]⟩, .int .i64 0, .string ⟨#[]⟩, .string ⟨#[]⟩, .string ⟨#[]⟩, .string ⟨#[]⟩, .int .i64 0], .string ⟨#[]⟩], []⟩).memory :=
  laidMetH_of_parts3 (fuel := 8) (laidMet_of_run' 8 (by kernel_rfl) (by kernel_rfl)) (by kernel_rfl) (by kernel_rfl)
theorem reads (os : Os) {H : Type} (enc : TypeId × Value → H) : ∃ places, DataW.whole enc Tryd.prog ((World.doorLaid Tryd.prog 600 os).forCall (fun _ _ => 0) ⟨#[], #[.agg #[.int .i64 0, .int .i64 0, .int .i64 0, .int .i64 0, .string ⟨#[]⟩, .int .i64 0, .string ⟨#[]⟩, .string ⟨#[]⟩, .string ⟨#[]⟩, .string ⟨#[]⟩, .int .i64 0], .agg #[.int .i64 0, .int .i64 0, .int .i64 0, .int .i64 0, .string ⟨#[]⟩, .int .i64 0, .string ⟨#[]⟩, .string ⟨#[]⟩, .string ⟨#[]⟩, .string ⟨#[]⟩, .int .i64 0], .string ⟨#[]⟩], []⟩).memory Tryd.f7.params.toList Rows.wireApartSpec.vars false (#[.agg #[.int .i64 0, .int .i64 0, .int .i64 0, .int .i64 0, .string ⟨#[]⟩, .int .i64 0, .string ⟨#[]⟩, .string ⟨#[]⟩, .string ⟨#[]⟩, .string ⟨#[]⟩, .int .i64 0], .agg #[.int .i64 0, .int .i64 0, .int .i64 0, .int .i64 0, .string ⟨#[]⟩, .int .i64 0, .string ⟨#[]⟩, .string ⟨#[]⟩, .string ⟨#[]⟩, .string ⟨#[]⟩, .int .i64 0], .string ⟨#[]⟩] : Array Value).toList 8 = some ([.agg [.lit (.int .i64 0), .lit (.int .i64 0), .lit (.int .i64 0), .lit (.int .i64 0), .lit (.string []), .agg [.lit (.int .i64 0), .lit (.string []), .lit (.string []), .lit (.string []), .lit (.string []), .lit (.int .i64 0)]], .agg [.lit (.int .i64 0), .lit (.int .i64 0), .lit (.int .i64 0), .lit (.int .i64 0), .lit (.string []), .agg [.lit (.int .i64 0), .lit (.string []), .lit (.string []), .lit (.string []), .lit (.string []), .lit (.int .i64 0)]], .lit (.string [])], [], places) :=
  ⟨[], by kernel_rfl⟩

set_option maxRecDepth 100000 in
theorem lifted (os : Os) (started : os.Started) (H : Type) (enc : TypeId × Value → H) (F : Stop.Interp) :
    ReturnsInHanded {} Tryd.checked os 7 .any ((OpenSpec.ofChange Rows.wireApartSpec).preRow enc Tryd.prog Tryd.f7 Rows.wireApartRow.domain false Rows.wireApartRow.laid) (((OpenSpec.ofChange Rows.wireApartSpec).at F).post enc Tryd.prog Tryd.f7 false true false false) := by
  obtain ⟨places, hx⟩ := reads os enc
  refine returnsInHanded_of_row (C := Tryd.checked) (s := OpenSpec.ofChange Rows.wireApartSpec) ownKnob_ started (by kernel_rfl) Tryd.func7
    (witness_row_atRef (enc := enc) (C := Tryd.checked) false (World.doorLaid Tryd.prog 600 os) #[.agg #[.int .i64 0, .int .i64 0, .int .i64 0, .int .i64 0, .string ⟨#[]⟩, .int .i64 0, .string ⟨#[]⟩, .string ⟨#[]⟩, .string ⟨#[]⟩, .string ⟨#[]⟩, .int .i64 0], .agg #[.int .i64 0, .int .i64 0, .int .i64 0, .int .i64 0, .string ⟨#[]⟩, .int .i64 0, .string ⟨#[]⟩, .string ⟨#[]⟩, .string ⟨#[]⟩, .string ⟨#[]⟩, .int .i64 0], .string ⟨#[]⟩] rfl (by kernel_rfl) (by kernel_rfl) (by kernel_rfl)
      (OpenSpec.preRow_of_cond 8 hx (by kernel_rfl) (fun k hk => by cases hk) (by kernel_rfl) (start_met os))) ?_
  intro W base args ds gs before hval hW _ hcond hsz hL _ _
  exact framedC (s := Rows.wireApartSpec) false Rows.wireApartRow.laid 3 (by rw [Tryd.params7]; rfl) rfl (by kernel_rfl) (by kernel_rfl)
    (fun H ds h => by match ds, h with | [d0, d1, d2], _ => exact ⟨rfl, rfl, rfl⟩)
    opened H enc W base args ds gs before hval hW (fun h => by cases h) hsz hL

theorem over : Rows.WireApartSaid :=
  OpenClaim.holds_of_cond 7 Tryd.f7 rfl rfl rfl rfl rfl rfl rfl ⟨rfl, rfl, rfl, rfl, rfl⟩ rfl rfl rfl rfl rfl (by kernel_rfl) Tryd.func7 (by kernel_rfl)
    (of_decide_eq_true (by kernel_rfl)) (by unfold Func.isWrapper; first | (rw [if_pos (by decide +kernel)]; kernel_rfl) | (rw [if_neg (by decide +kernel)]; exact ⟨rfl, rfl⟩))
    (fun os started H enc _ F => by rw [OpenClaim.pre_eq_preRow]; exact lifted os started H enc F)

/-- No parameter wants a stand-in; the program's own looks are as the card says. -/
theorem plain (f : FuncId) (fn : Func) (hf : Tryd.pinned.checked.prog.funcNamed "stanchion/stanchionlaw16.WireApart" = some f) (hfn : Tryd.pinned.checked.prog.funcs[f]? = some fn) :
    true = Tryd.pinned.checked.prog.looks [] ∧ ∀ (j : Nat) t, fn.params[j]? = some t → Tryd.pinned.checked.prog.wantsStandIn t = false := by
  obtain rfl : f = 7 := Option.some.inj ((show Tryd.prog.funcNamed "stanchion/stanchionlaw16.WireApart" = some 7 by kernel_rfl).symm.trans hf) |>.symm
  obtain rfl : fn = Tryd.f7 := (Option.some.inj (Tryd.func7.symm.trans hfn)).symm
  refine ⟨by kernel_rfl, fun j t ht => ?_⟩
  have h0 : (Tryd.f7.params.toList.all fun t => !(Tryd.prog.wantsStandIn t)) = true := by kernel_rfl
  have h1 := List.all_eq_true.1 h0 t (by rw [← Array.getElem?_toList] at ht; exact List.mem_of_getElem? ht)
  exact (by simpa using h1 : Tryd.prog.wantsStandIn t = false)

theorem proved : Rows.WireApartCardSaid :=
  Claim7.holds_tied_plain_at .later [] _ _ _ _ over (fun _ h => by cases h) (by kernel_rfl) (fun _ h => by cases h) wireApart_row_tie rfl ⟨rfl, rfl⟩ (by kernel_rfl) rfl plain (by kernel_rfl)
end Go.Proofs.YtdipikdebapmlaaDoor.wireApart
