/- For every reply, every bytes, every other reply: a reply's bytes, and the reply of bytes, are as the document says; which replies are the same, too. No condition. -/
import Derived.Test.YtdipikdebapmlaaDoorW6
import Derived.Test.YtdipikdebapmlaaDoorW3
import Derived.Deep.DeepCutAuto
import Derived.Test.YtdipikdebapmlaaDoorW10
import Derived.Test.YtdipikdebapmlaaDoorW11
import Derived.Test.YtdipikdebapmlaaDoorW9
namespace Go.Proofs.YtdipikdebapmlaaDoor.wireReplies
set_option maxRecDepth 100000
open Go.ChangeShapes Go.WideShapes Go.ChangeAt Go.RowKit Prm Wi
set_option linter.unusedVariables false
set_option linter.unusedSimpArgs false

set_option maxRecDepth 100000 in
set_option maxHeartbeats 8000000 in
theorem walk (p : Rp) (A : Option Addr) (N c : Nat) (s : ByteArray) (o : Rp) (B : Option Addr) (M d : Nat) (w : World) (sa sc : Addr) (hW : Wk w sa sc) (hA : In_ pairK w A N c p.rows) (hb : N * 32 ≤ 140737488351232) (hp : RpIn p) (hs : s.size ≤ 140737488351232) (hB : In_ pairK w B M d o.rows) (hb2 : M * 32 ≤ 140737488351232) (hp2 : RpIn o) :
    Calls Tryd.prog 4 #[.agg #[.int .i64 p.epoch, .int .i64 p.sess, .int .i64 p.seq, .int .i64 p.err, .string p.val, .bool p.found, .slice A N c, .bool p.over], .string s, .agg #[.int .i64 o.epoch, .int .i64 o.sess, .int .i64 o.seq, .int .i64 o.err, .string o.val, .bool o.found, .slice B M d, .bool o.over]] w fun e w' => e = .returned (.bool true) ∧ Q w w' := by
  have K0 := Lib.hid (fun W => wishown_any W)
  have HA := Lib.hid hA
  have HB := Lib.hid hB
  have hkA := keys_in hp.r
  have K1 : Hid (∀ W, Q w W → Calls Tryd.prog 15 #[.agg #[.int .i64 p.epoch, .int .i64 p.sess, .int .i64 p.seq, .int .i64 p.err, .string p.val, .bool p.found, .slice A N c, .bool p.over]] W fun e w' => e = .returned (.tuple #[.string (ba (repM p).1), .int .i64 (repM p).2]) ∧ Q W w') := Lib.hid (fun W q => prep_any p A N c W (hA.lst.q q) hA.max hkA)
  have K2 : Hid (∀ W, Q w W → Calls Tryd.prog 16 #[.agg #[.int .i64 p.epoch, .int .i64 p.sess, .int .i64 p.seq, .int .i64 p.err, .string p.val, .bool p.found, .slice A N c, .bool p.over]] W fun e w' => e = .returned (.tuple #[.string (ba (repM p).1), .int .i64 (repM p).2]) ∧ Q W w') := Lib.hid (fun W q => wrep_any p A N c W (hA.lst.q q) hA.max hkA)
  have K3 := fun W (qz : Q w W) => ptakeP_any sa sc s W (hW.q qz) (by omega)
  have K4 := fun W => (wtakeP_any s W (by omega)).mono fun e w' => retRpF_w
  unfold RetRp at K3 K4
  generalize takeP s.data.toList = y0 at K3 K4
  obtain ⟨Y, ey⟩ := y0
  have L3 : Hid (∀ W, Q w W → Calls Tryd.prog 17 #[.string s] W fun e w' => ∃ A c, e = .returned (.tuple #[.agg #[.int .i64 Y.epoch, .int .i64 Y.sess, .int .i64 Y.seq, .int .i64 Y.err, .string Y.val, .bool Y.found, .slice A Y.rows.length c, .bool Y.over], .int .i64 ey]) ∧ In_ pairK w' A Y.rows.length c Y.rows ∧ Q W w') := Lib.hid (fun W qz => K3 W qz)
  have L4 : Hid (∀ W, Calls Tryd.prog 18 #[.string s] W fun e w' => ∃ A c, e = .returned (.tuple #[.agg #[.int .i64 Y.epoch, .int .i64 Y.sess, .int .i64 Y.seq, .int .i64 Y.err, .string Y.val, .bool Y.found, .slice A Y.rows.length c, .bool Y.over], .int .i64 ey]) ∧ In_ pairK w' A Y.rows.length c Y.rows ∧ Q W w') := Lib.hid (fun W => K4 W)
  have K5 : Hid (∀ (A1 B1 : Option Addr) (c1 d1 : Nat) W, In_ pairK W A1 Y.rows.length c1 Y.rows → In_ pairK W B1 Y.rows.length d1 Y.rows → Calls Tryd.prog 19 #[.agg #[.int .i64 Y.epoch, .int .i64 Y.sess, .int .i64 Y.seq, .int .i64 Y.err, .string Y.val, .bool Y.found, .slice A1 Y.rows.length c1, .bool Y.over], .agg #[.int .i64 Y.epoch, .int .i64 Y.sess, .int .i64 Y.seq, .int .i64 Y.err, .string Y.val, .bool Y.found, .slice B1 Y.rows.length d1, .bool Y.over]] W fun e w' => e = .returned (.bool true) ∧ Q W w') := Lib.hid (fun A1 B1 c1 d1 W h1 h2 => by have h := wsame_any Y Y A1 B1 Y.rows.length c1 Y.rows.length d1 W h1.lst h2.lst h1.max h2.max; rw [decide_eq_true rfl] at h; exact h)
  have K6 : Hid (∀ W, Q w W → Calls Tryd.prog 20 #[.agg #[.int .i64 p.epoch, .int .i64 p.sess, .int .i64 p.seq, .int .i64 p.err, .string p.val, .bool p.found, .slice A N c, .bool p.over], .agg #[.int .i64 o.epoch, .int .i64 o.sess, .int .i64 o.seq, .int .i64 o.err, .string o.val, .bool o.found, .slice B M d, .bool o.over]] W fun e w' => e = .returned (.bool (decide (p = o))) ∧ Q W w') := Lib.hid (fun W q => psame_any p o A B N c M d W (hA.lst.q q) (hB.lst.q q) hA.max hB.max)
  have K7 : Hid (∀ W, Q w W → Calls Tryd.prog 19 #[.agg #[.int .i64 p.epoch, .int .i64 p.sess, .int .i64 p.seq, .int .i64 p.err, .string p.val, .bool p.found, .slice A N c, .bool p.over], .agg #[.int .i64 o.epoch, .int .i64 o.sess, .int .i64 o.seq, .int .i64 o.err, .string o.val, .bool o.found, .slice B M d, .bool o.over]] W fun e w' => e = .returned (.bool (decide (p = o))) ∧ Q W w') := Lib.hid (fun W q => wsame_any p o A B N c M d W (hA.lst.q q) (hB.lst.q q) hA.max hB.max)
  have K8 : Hid (∀ W, Q w W → Calls Tryd.prog 20 #[.agg #[.int .i64 p.epoch, .int .i64 p.sess, .int .i64 p.seq, .int .i64 p.err, .string p.val, .bool p.found, .slice A N c, .bool p.over], .agg #[.int .i64 p.epoch, .int .i64 p.sess, .int .i64 p.seq, .int .i64 p.err, .string p.val, .bool p.found, .slice A N c, .bool p.over]] W fun e w' => e = .returned (.bool true) ∧ Q W w') := Lib.hid (fun W q => by have h := psame_any p p A A N c N c W (hA.lst.q q) (hA.lst.q q) hA.max hA.max; rw [decide_eq_true rfl] at h; exact h)
  generalize ba (repM p).1 = S at K1 K2
  generalize (repM p).2 = eq at K1 K2
  generalize decide (p = o) = mb at K6 K7
  clear K3 K4 hkA
  have X3 : Hid (Bx (w.alloc (.cells #[.int .i64 p.epoch, .int .i64 p.sess, .int .i64 p.seq, .int .i64 p.err, .string p.val, .bool p.found, .slice A N c, .bool p.over] 40)) w.heap.size [.int .i64 p.epoch, .int .i64 p.sess, .int .i64 p.seq, .int .i64 p.err, .string p.val, .bool p.found, .slice A N c, .bool p.over]) := Lib.hid (Bx.new w [.int .i64 p.epoch, .int .i64 p.sess, .int .i64 p.seq, .int .i64 p.err, .string p.val, .bool p.found, .slice A N c, .bool p.over] 40)
  have QF := Lib.hid ((Q.refl w).alloc (.cells #[.int .i64 p.epoch, .int .i64 p.sess, .int .i64 p.seq, .int .i64 p.err, .string p.val, .bool p.found, .slice A N c, .bool p.over] 40))
  have X3 := Lib.hid (X3.out.alloc (.cells #[.int .i64 o.epoch, .int .i64 o.sess, .int .i64 o.seq, .int .i64 o.err, .string o.val, .bool o.found, .slice B M d, .bool o.over] 40))
  have X5 : Hid (Bx ((w.alloc (.cells #[.int .i64 p.epoch, .int .i64 p.sess, .int .i64 p.seq, .int .i64 p.err, .string p.val, .bool p.found, .slice A N c, .bool p.over] 40)).alloc (.cells #[.int .i64 o.epoch, .int .i64 o.sess, .int .i64 o.seq, .int .i64 o.err, .string o.val, .bool o.found, .slice B M d, .bool o.over] 40)) (w.alloc (.cells #[.int .i64 p.epoch, .int .i64 p.sess, .int .i64 p.seq, .int .i64 p.err, .string p.val, .bool p.found, .slice A N c, .bool p.over] 40)).heap.size [.int .i64 o.epoch, .int .i64 o.sess, .int .i64 o.seq, .int .i64 o.err, .string o.val, .bool o.found, .slice B M d, .bool o.over]) := Lib.hid (Bx.new (w.alloc (.cells #[.int .i64 p.epoch, .int .i64 p.sess, .int .i64 p.seq, .int .i64 p.err, .string p.val, .bool p.found, .slice A N c, .bool p.over] 40)) [.int .i64 o.epoch, .int .i64 o.sess, .int .i64 o.seq, .int .i64 o.err, .string o.val, .bool o.found, .slice B M d, .bool o.over] 40)
  have QF := Lib.hid (QF.out.alloc (.cells #[.int .i64 o.epoch, .int .i64 o.sess, .int .i64 o.seq, .int .i64 o.err, .string o.val, .bool o.found, .slice B M d, .bool o.over] 40))
  rw [show (w.alloc (.cells #[.int .i64 p.epoch, .int .i64 p.sess, .int .i64 p.seq, .int .i64 p.err, .string p.val, .bool p.found, .slice A N c, .bool p.over] 40)).heap.size = w.heap.size + 1 by simp] at X5
  go_enter Tryd.func4, Tryd.ntmps4
  go_upto_region 1 with (fail)
  generalize ((w.alloc (.cells #[.int .i64 p.epoch, .int .i64 p.sess, .int .i64 p.seq, .int .i64 p.err, .string p.val, .bool p.found, .slice A N c, .bool p.over] 40)).alloc (.cells #[.int .i64 o.epoch, .int .i64 o.sess, .int .i64 o.seq, .int .i64 o.err, .string o.val, .bool o.found, .slice B M d, .bool o.over] 40)) = W0 at X3 X5 QF ⊢
  clear hA hB
  generalize hb3 : w.heap.size = b3 at X3 X5 ⊢
  generalize hb5 : b3 + 1 = b5 at X5 ⊢
  clear hb3 hb5
  go_wp2_with fail
  refine (K0.out _).mono ?_
  rintro e0 v0 ⟨rfl, q0⟩
  replace X3 := Lib.hid (X3.out.q q0)
  replace X5 := Lib.hid (X5.out.q q0)
  replace QF := Lib.hid (QF.out.trans q0)
  clear q0
  have x3_0 := (X3.out 0 _ rfl).1
  have x3_1 := (X3.out 1 _ rfl).1
  have x3_2 := (X3.out 2 _ rfl).1
  have x3_3 := (X3.out 3 _ rfl).1
  have x3_4 := (X3.out 4 _ rfl).1
  have x3_5 := (X3.out 5 _ rfl).1
  have x3_6 := (X3.out 6 _ rfl).1
  have x3_7 := (X3.out 7 _ rfl).1
  go_wp2_with fail
  refine (K1.out _ QF.out).mono ?_
  rintro e1 v1 ⟨rfl, q1⟩
  clear x3_0 x3_1 x3_2 x3_3 x3_4 x3_5 x3_6 x3_7
  replace X3 := Lib.hid (X3.out.q q1)
  replace X5 := Lib.hid (X5.out.q q1)
  replace QF := Lib.hid (QF.out.trans q1)
  clear q1
  have x3_0 := (X3.out 0 _ rfl).1
  have x3_1 := (X3.out 1 _ rfl).1
  have x3_2 := (X3.out 2 _ rfl).1
  have x3_3 := (X3.out 3 _ rfl).1
  have x3_4 := (X3.out 4 _ rfl).1
  have x3_5 := (X3.out 5 _ rfl).1
  have x3_6 := (X3.out 6 _ rfl).1
  have x3_7 := (X3.out 7 _ rfl).1
  go_wp2_with fail
  refine (K2.out _ QF.out).mono ?_
  rintro e2 v2 ⟨rfl, q2⟩
  clear x3_0 x3_1 x3_2 x3_3 x3_4 x3_5 x3_6 x3_7
  replace X3 := Lib.hid (X3.out.q q2)
  replace X5 := Lib.hid (X5.out.q q2)
  replace QF := Lib.hid (QF.out.trans q2)
  clear q2
  go_wp2_with fail
  refine (L3.out _ QF.out).mono ?_
  rintro e12 v12 ⟨A12, c12, rfl, i12, q12⟩
  have qb := (Q.refl v12).alloc (.cells #[.int .i64 Y.epoch, .int .i64 Y.sess, .int .i64 Y.seq, .int .i64 Y.err, .string Y.val, .bool Y.found, .slice A12 Y.rows.length c12, .bool Y.over] 40)
  have I12 := Lib.hid (i12.q qb)
  clear i12
  have qa := (Q.refl v12).alloc (.cells #[.int .i64 Y.epoch, .int .i64 Y.sess, .int .i64 Y.seq, .int .i64 Y.err, .string Y.val, .bool Y.found, .slice A12 Y.rows.length c12, .bool Y.over] 40)
  replace X3 := Lib.hid ((X3.out.q q12).q qa)
  replace X5 := Lib.hid ((X5.out.q q12).q qa)
  replace QF := Lib.hid ((QF.out.trans q12).trans qa)
  have X12 : Hid (Bx (v12.alloc (.cells #[.int .i64 Y.epoch, .int .i64 Y.sess, .int .i64 Y.seq, .int .i64 Y.err, .string Y.val, .bool Y.found, .slice A12 Y.rows.length c12, .bool Y.over] 40)) v12.heap.size [.int .i64 Y.epoch, .int .i64 Y.sess, .int .i64 Y.seq, .int .i64 Y.err, .string Y.val, .bool Y.found, .slice A12 Y.rows.length c12, .bool Y.over]) := Lib.hid (Bx.new v12 [.int .i64 Y.epoch, .int .i64 Y.sess, .int .i64 Y.seq, .int .i64 Y.err, .string Y.val, .bool Y.found, .slice A12 Y.rows.length c12, .bool Y.over] 40)
  clear qa q12
  go_upto_region 5 with (fail)
  clear qb
  generalize v12.alloc (.cells #[.int .i64 Y.epoch, .int .i64 Y.sess, .int .i64 Y.seq, .int .i64 Y.err, .string Y.val, .bool Y.found, .slice A12 Y.rows.length c12, .bool Y.over] 40) = W12 at X3 X5 X12 I12 QF ⊢
  generalize v12.heap.size = b12 at X12 ⊢
  go_wp2_with fail
  refine (L4.out _).mono ?_
  rintro e14 v14 ⟨A14, c14, rfl, i14, q14⟩
  have qb := (Q.refl v14).alloc (.cells #[.int .i64 Y.epoch, .int .i64 Y.sess, .int .i64 Y.seq, .int .i64 Y.err, .string Y.val, .bool Y.found, .slice A14 Y.rows.length c14, .bool Y.over] 40)
  have I14 := Lib.hid (i14.q qb)
  clear i14
  have qa := (Q.refl v14).alloc (.cells #[.int .i64 Y.epoch, .int .i64 Y.sess, .int .i64 Y.seq, .int .i64 Y.err, .string Y.val, .bool Y.found, .slice A14 Y.rows.length c14, .bool Y.over] 40)
  replace X3 := Lib.hid ((X3.out.q q14).q qa)
  replace X5 := Lib.hid ((X5.out.q q14).q qa)
  replace X12 := Lib.hid ((X12.out.q q14).q qa)
  replace I12 := Lib.hid ((I12.out.q q14).q qa)
  replace QF := Lib.hid ((QF.out.trans q14).trans qa)
  have X14 : Hid (Bx (v14.alloc (.cells #[.int .i64 Y.epoch, .int .i64 Y.sess, .int .i64 Y.seq, .int .i64 Y.err, .string Y.val, .bool Y.found, .slice A14 Y.rows.length c14, .bool Y.over] 40)) v14.heap.size [.int .i64 Y.epoch, .int .i64 Y.sess, .int .i64 Y.seq, .int .i64 Y.err, .string Y.val, .bool Y.found, .slice A14 Y.rows.length c14, .bool Y.over]) := Lib.hid (Bx.new v14 [.int .i64 Y.epoch, .int .i64 Y.sess, .int .i64 Y.seq, .int .i64 Y.err, .string Y.val, .bool Y.found, .slice A14 Y.rows.length c14, .bool Y.over] 40)
  clear qa q14
  go_upto_region 6 with (fail)
  clear qb
  generalize v14.alloc (.cells #[.int .i64 Y.epoch, .int .i64 Y.sess, .int .i64 Y.seq, .int .i64 Y.err, .string Y.val, .bool Y.found, .slice A14 Y.rows.length c14, .bool Y.over] 40) = W14 at X3 X5 X12 X14 I12 I14 QF ⊢
  generalize v14.heap.size = b14 at X14 ⊢
  have x12_0 := (X12.out 0 _ rfl).1
  have x12_1 := (X12.out 1 _ rfl).1
  have x12_2 := (X12.out 2 _ rfl).1
  have x12_3 := (X12.out 3 _ rfl).1
  have x12_4 := (X12.out 4 _ rfl).1
  have x12_5 := (X12.out 5 _ rfl).1
  have x12_6 := (X12.out 6 _ rfl).1
  have x12_7 := (X12.out 7 _ rfl).1
  have x14_0 := (X14.out 0 _ rfl).1
  have x14_1 := (X14.out 1 _ rfl).1
  have x14_2 := (X14.out 2 _ rfl).1
  have x14_3 := (X14.out 3 _ rfl).1
  have x14_4 := (X14.out 4 _ rfl).1
  have x14_5 := (X14.out 5 _ rfl).1
  have x14_6 := (X14.out 6 _ rfl).1
  have x14_7 := (X14.out 7 _ rfl).1
  go_wp2_with fail
  refine (K5.out _ _ _ _ _ I12.out I14.out).mono ?_
  rintro e6 v6 ⟨rfl, q6⟩
  clear x12_0 x12_1 x12_2 x12_3 x12_4 x12_5 x12_6 x12_7
  clear x14_0 x14_1 x14_2 x14_3 x14_4 x14_5 x14_6 x14_7
  replace X3 := Lib.hid (X3.out.q q6)
  replace X5 := Lib.hid (X5.out.q q6)
  replace X12 := Lib.hid (X12.out.q q6)
  replace X14 := Lib.hid (X14.out.q q6)
  replace I12 := Lib.hid (I12.out.q q6)
  replace I14 := Lib.hid (I14.out.q q6)
  replace QF := Lib.hid (QF.out.trans q6)
  clear q6
  go_upto_region 7 with (fail)
  have x0 := (X3.out 0 _ rfl).1
  have x1 := (X3.out 1 _ rfl).1
  have x2 := (X3.out 2 _ rfl).1
  have x3 := (X3.out 3 _ rfl).1
  have x4 := (X3.out 4 _ rfl).1
  have x5 := (X3.out 5 _ rfl).1
  have x6 := (X3.out 6 _ rfl).1
  have x7 := (X3.out 7 _ rfl).1
  have y0 := (X5.out 0 _ rfl).1
  have y1 := (X5.out 1 _ rfl).1
  have y2 := (X5.out 2 _ rfl).1
  have y3 := (X5.out 3 _ rfl).1
  have y4 := (X5.out 4 _ rfl).1
  have y5 := (X5.out 5 _ rfl).1
  have y6 := (X5.out 6 _ rfl).1
  have y7 := (X5.out 7 _ rfl).1
  refine wp_region_held_drew (S := Q v6) (by kernel_rfl) ?szz30 (fun hHeld => ?rzz30)
  case szz30 =>
    exact (Q.refl v6).drew
  case' rzz30 => skip
  refine wpAnyH_take (i := 0) (oi := ?ozz31) (v := ?vzz31) ?hzz31 ?azz31 ?bzz31 ?czz31 ?qzz31 ?yzz31 ?szz31 ?rzz31
  case hzz31 => simp only [List.getElem?_toArray, List.getElem?_cons_zero]; rfl
  case azz31 => kernel_rfl
  case bzz31 => kernel_rfl
  case czz31 => kernel_rfl
  case yzz31 =>
    refine Or.inl ⟨by rfl, ?_⟩
    intro w hSw
    skip
    go_simp
    try with_reducible rfl
  case qzz31 => exact fun _ _ _ h => h
  case szz31 => first | assumption | trivial
  case' rzz31 => simp only [Act.put, List.setIfInBounds_toArray, List.set_cons_zero, List.set_cons_succ]
  refine wpAnyH_take (i := 1) (oi := ?ozz32) (v := ?vzz32) ?hzz32 ?azz32 ?bzz32 ?czz32 ?qzz32 ?yzz32 ?szz32 ?rzz32
  case hzz32 => simp only [List.getElem?_toArray, List.getElem?_cons_zero, List.getElem?_cons_succ]; rfl
  case azz32 => kernel_rfl
  case bzz32 => kernel_rfl
  case czz32 => kernel_rfl
  case yzz32 =>
    refine Or.inl ⟨by rfl, ?_⟩
    intro w hSw
    skip
    go_simp
    try with_reducible rfl
  case qzz32 => exact fun _ _ _ h => h
  case szz32 => first | assumption | trivial
  case' rzz32 => simp only [Act.put, List.setIfInBounds_toArray, List.set_cons_zero, List.set_cons_succ]
  refine wpAnyH_take (i := 2) (oi := ?ozz33) (v := ?vzz33) ?hzz33 ?azz33 ?bzz33 ?czz33 ?qzz33 ?yzz33 ?szz33 ?rzz33
  case hzz33 => simp only [List.getElem?_toArray, List.getElem?_cons_zero, List.getElem?_cons_succ]; rfl
  case azz33 => kernel_rfl
  case bzz33 => kernel_rfl
  case czz33 => kernel_rfl
  case yzz33 =>
    refine Or.inl ⟨by rfl, ?_⟩
    intro w hSw
    skip
    go_simp
    try with_reducible rfl
  case qzz33 => exact fun _ _ _ h => h
  case szz33 => first | assumption | trivial
  case' rzz33 => simp only [Act.put, List.setIfInBounds_toArray, List.set_cons_zero, List.set_cons_succ]
  refine wpAnyH_take (i := 3) (oi := ?ozz34) (v := ?vzz34) ?hzz34 ?azz34 ?bzz34 ?czz34 ?qzz34 ?yzz34 ?szz34 ?rzz34
  case hzz34 => simp only [List.getElem?_toArray, List.getElem?_cons_zero, List.getElem?_cons_succ]; rfl
  case azz34 => kernel_rfl
  case bzz34 => kernel_rfl
  case czz34 => kernel_rfl
  case yzz34 =>
    refine Or.inl ⟨by rfl, ?_⟩
    intro w hSw
    skip
    go_simp
    try with_reducible rfl
  case qzz34 => exact fun _ _ _ h => h
  case szz34 => first | assumption | trivial
  case' rzz34 => simp only [Act.put, List.setIfInBounds_toArray, List.set_cons_zero, List.set_cons_succ]
  refine wpAnyH_take (i := 4) (oi := ?ozz35) (v := ?vzz35) ?hzz35 ?azz35 ?bzz35 ?czz35 ?qzz35 ?yzz35 ?szz35 ?rzz35
  case hzz35 => simp only [List.getElem?_toArray, List.getElem?_cons_zero, List.getElem?_cons_succ]; rfl
  case azz35 => kernel_rfl
  case bzz35 => kernel_rfl
  case czz35 => kernel_rfl
  case yzz35 =>
    refine Or.inl ⟨by rfl, ?_⟩
    intro w hSw
    skip
    go_simp
    try with_reducible rfl
  case qzz35 => exact fun _ _ _ h => h
  case szz35 => first | assumption | trivial
  case' rzz35 => simp only [Act.put, List.setIfInBounds_toArray, List.set_cons_zero, List.set_cons_succ]
  refine wpAnyH_take (i := 5) (oi := ?ozz36) (v := ?vzz36) ?hzz36 ?azz36 ?bzz36 ?czz36 ?qzz36 ?yzz36 ?szz36 ?rzz36
  case hzz36 => simp only [List.getElem?_toArray, List.getElem?_cons_zero, List.getElem?_cons_succ]; rfl
  case azz36 => kernel_rfl
  case bzz36 => kernel_rfl
  case czz36 => kernel_rfl
  case yzz36 =>
    refine Or.inl ⟨by rfl, ?_⟩
    intro w hSw
    skip
    go_simp
    try with_reducible rfl
  case qzz36 => exact fun _ _ _ h => h
  case szz36 => first | assumption | trivial
  case' rzz36 => simp only [Act.put, List.setIfInBounds_toArray, List.set_cons_zero, List.set_cons_succ]
  refine wpAnyH_take (i := 6) (oi := ?ozz37) (v := ?vzz37) ?hzz37 ?azz37 ?bzz37 ?czz37 ?qzz37 ?yzz37 ?szz37 ?rzz37
  case hzz37 => simp only [List.getElem?_toArray, List.getElem?_cons_zero, List.getElem?_cons_succ]; rfl
  case azz37 => kernel_rfl
  case bzz37 => kernel_rfl
  case czz37 => kernel_rfl
  case yzz37 =>
    refine Or.inl ⟨by rfl, ?_⟩
    intro w hSw
    skip
    go_simp
    try with_reducible rfl
  case qzz37 => exact fun _ _ _ h => h
  case szz37 => first | assumption | trivial
  case' rzz37 => simp only [Act.put, List.setIfInBounds_toArray, List.set_cons_zero, List.set_cons_succ]
  refine wpAnyH_take (i := 7) (oi := ?ozz38) (v := ?vzz38) ?hzz38 ?azz38 ?bzz38 ?czz38 ?qzz38 ?yzz38 ?szz38 ?rzz38
  case hzz38 => simp only [List.getElem?_toArray, List.getElem?_cons_zero, List.getElem?_cons_succ]; rfl
  case azz38 => kernel_rfl
  case bzz38 => kernel_rfl
  case czz38 => kernel_rfl
  case yzz38 =>
    refine Or.inl ⟨by rfl, ?_⟩
    intro w hSw
    skip
    go_simp
    try with_reducible rfl
  case qzz38 => exact fun _ _ _ h => h
  case szz38 => first | assumption | trivial
  case' rzz38 => simp only [Act.put, List.setIfInBounds_toArray, List.set_cons_zero, List.set_cons_succ]
  refine wpAnyH_take (i := 8) (oi := ?ozz39) (v := ?vzz39) ?hzz39 ?azz39 ?bzz39 ?czz39 ?qzz39 ?yzz39 ?szz39 ?rzz39
  case hzz39 => simp only [List.getElem?_toArray, List.getElem?_cons_zero, List.getElem?_cons_succ]; rfl
  case azz39 => kernel_rfl
  case bzz39 => kernel_rfl
  case czz39 => kernel_rfl
  case yzz39 =>
    refine Or.inl ⟨by rfl, ?_⟩
    intro w hSw
    skip
    go_simp
    try with_reducible rfl
  case qzz39 => exact fun _ _ _ h => h
  case szz39 => first | assumption | trivial
  case' rzz39 => simp only [Act.put, List.setIfInBounds_toArray, List.set_cons_zero, List.set_cons_succ]
  refine wpAnyH_take (i := 9) (oi := ?ozz40) (v := ?vzz40) ?hzz40 ?azz40 ?bzz40 ?czz40 ?qzz40 ?yzz40 ?szz40 ?rzz40
  case hzz40 => simp only [List.getElem?_toArray, List.getElem?_cons_zero, List.getElem?_cons_succ]; rfl
  case azz40 => kernel_rfl
  case bzz40 => kernel_rfl
  case czz40 => kernel_rfl
  case yzz40 =>
    refine Or.inl ⟨by rfl, ?_⟩
    intro w hSw
    skip
    go_simp
    try with_reducible rfl
  case qzz40 => exact fun _ _ _ h => h
  case szz40 => first | assumption | trivial
  case' rzz40 => simp only [Act.put, List.setIfInBounds_toArray, List.set_cons_zero, List.set_cons_succ]
  refine wpAnyH_take (i := 10) (oi := ?ozz41) (v := ?vzz41) ?hzz41 ?azz41 ?bzz41 ?czz41 ?qzz41 ?yzz41 ?szz41 ?rzz41
  case hzz41 => simp only [List.getElem?_toArray, List.getElem?_cons_zero, List.getElem?_cons_succ]; rfl
  case azz41 => kernel_rfl
  case bzz41 => kernel_rfl
  case czz41 => kernel_rfl
  case yzz41 =>
    refine Or.inl ⟨by rfl, ?_⟩
    intro w hSw
    skip
    go_simp
    try with_reducible rfl
  case qzz41 => exact fun _ _ _ h => h
  case szz41 => first | assumption | trivial
  case' rzz41 => simp only [Act.put, List.setIfInBounds_toArray, List.set_cons_zero, List.set_cons_succ]
  refine wpAnyH_take (i := 11) (oi := ?ozz42) (v := ?vzz42) ?hzz42 ?azz42 ?bzz42 ?czz42 ?qzz42 ?yzz42 ?szz42 ?rzz42
  case hzz42 => simp only [List.getElem?_toArray, List.getElem?_cons_zero, List.getElem?_cons_succ]; rfl
  case azz42 => kernel_rfl
  case bzz42 => kernel_rfl
  case czz42 => kernel_rfl
  case yzz42 =>
    refine Or.inl ⟨by rfl, ?_⟩
    intro w hSw
    skip
    go_simp
    try with_reducible rfl
  case qzz42 => exact fun _ _ _ h => h
  case szz42 => first | assumption | trivial
  case' rzz42 => simp only [Act.put, List.setIfInBounds_toArray, List.set_cons_zero, List.set_cons_succ]
  refine wpAnyH_take (i := 12) (oi := ?ozz43) (v := ?vzz43) ?hzz43 ?azz43 ?bzz43 ?czz43 ?qzz43 ?yzz43 ?szz43 ?rzz43
  case hzz43 => simp only [List.getElem?_toArray, List.getElem?_cons_zero, List.getElem?_cons_succ]; rfl
  case azz43 => kernel_rfl
  case bzz43 => kernel_rfl
  case czz43 => kernel_rfl
  case yzz43 =>
    refine Or.inl ⟨by rfl, ?_⟩
    intro w hSw
    skip
    go_simp
    try with_reducible rfl
  case qzz43 => exact fun _ _ _ h => h
  case szz43 => first | assumption | trivial
  case' rzz43 => simp only [Act.put, List.setIfInBounds_toArray, List.set_cons_zero, List.set_cons_succ]
  refine wpAnyH_take (i := 13) (oi := ?ozz44) (v := ?vzz44) ?hzz44 ?azz44 ?bzz44 ?czz44 ?qzz44 ?yzz44 ?szz44 ?rzz44
  case hzz44 => simp only [List.getElem?_toArray, List.getElem?_cons_zero, List.getElem?_cons_succ]; rfl
  case azz44 => kernel_rfl
  case bzz44 => kernel_rfl
  case czz44 => kernel_rfl
  case yzz44 =>
    refine Or.inl ⟨by rfl, ?_⟩
    intro w hSw
    skip
    go_simp
    try with_reducible rfl
  case qzz44 => exact fun _ _ _ h => h
  case szz44 => first | assumption | trivial
  case' rzz44 => simp only [Act.put, List.setIfInBounds_toArray, List.set_cons_zero, List.set_cons_succ]
  refine wpAnyH_take (i := 14) (oi := ?ozz45) (v := ?vzz45) ?hzz45 ?azz45 ?bzz45 ?czz45 ?qzz45 ?yzz45 ?szz45 ?rzz45
  case hzz45 => simp only [List.getElem?_toArray, List.getElem?_cons_zero, List.getElem?_cons_succ]; rfl
  case azz45 => kernel_rfl
  case bzz45 => kernel_rfl
  case czz45 => kernel_rfl
  case yzz45 =>
    refine Or.inl ⟨by rfl, ?_⟩
    intro w hSw
    skip
    go_simp
    try with_reducible rfl
  case qzz45 => exact fun _ _ _ h => h
  case szz45 => first | assumption | trivial
  case' rzz45 => simp only [Act.put, List.setIfInBounds_toArray, List.set_cons_zero, List.set_cons_succ]
  refine wpAnyH_take (i := 15) (oi := ?ozz46) (v := ?vzz46) ?hzz46 ?azz46 ?bzz46 ?czz46 ?qzz46 ?yzz46 ?szz46 ?rzz46
  case hzz46 => simp only [List.getElem?_toArray, List.getElem?_cons_zero, List.getElem?_cons_succ]; rfl
  case azz46 => kernel_rfl
  case bzz46 => kernel_rfl
  case czz46 => kernel_rfl
  case yzz46 =>
    refine Or.inl ⟨by rfl, ?_⟩
    intro w hSw
    skip
    go_simp
    try with_reducible rfl
  case qzz46 => exact fun _ _ _ h => h
  case szz46 => first | assumption | trivial
  case' rzz46 => simp only [Act.put, List.setIfInBounds_toArray, List.set_cons_zero, List.set_cons_succ]
  refine wpAnyH_take (i := 16) (oi := ?ozz47) (v := ?vzz47) ?hzz47 ?azz47 ?bzz47 ?czz47 ?qzz47 ?yzz47 ?szz47 ?rzz47
  case hzz47 => simp only [List.getElem?_toArray, List.getElem?_cons_zero, List.getElem?_cons_succ]; rfl
  case azz47 => kernel_rfl
  case bzz47 => kernel_rfl
  case czz47 => kernel_rfl
  case yzz47 =>
    refine Or.inl ⟨by rfl, ?_⟩
    intro w hSw
    skip
    go_simp
    try with_reducible rfl
  case qzz47 => exact fun _ _ _ h => h
  case szz47 => first | assumption | trivial
  case' rzz47 => simp only [Act.put, List.setIfInBounds_toArray, List.set_cons_zero, List.set_cons_succ]
  refine wpAnyH_take (i := 17) (oi := ?ozz48) (v := ?vzz48) ?hzz48 ?azz48 ?bzz48 ?czz48 ?qzz48 ?yzz48 ?szz48 ?rzz48
  case hzz48 => simp only [List.getElem?_toArray, List.getElem?_cons_zero, List.getElem?_cons_succ]; rfl
  case azz48 => kernel_rfl
  case bzz48 => kernel_rfl
  case czz48 => kernel_rfl
  case yzz48 =>
    refine Or.inl ⟨by rfl, ?_⟩
    intro w hSw
    skip
    go_simp
    try with_reducible rfl
  case qzz48 => exact fun _ _ _ h => h
  case szz48 => first | assumption | trivial
  case' rzz48 => simp only [Act.put, List.setIfInBounds_toArray, List.set_cons_zero, List.set_cons_succ]
  refine wpAnyH_take (i := 18) (oi := ?ozz49) (v := ?vzz49) ?hzz49 ?azz49 ?bzz49 ?czz49 ?qzz49 ?yzz49 ?szz49 ?rzz49
  case hzz49 => simp only [List.getElem?_toArray, List.getElem?_cons_zero, List.getElem?_cons_succ]; rfl
  case azz49 => kernel_rfl
  case bzz49 => kernel_rfl
  case czz49 => kernel_rfl
  case yzz49 =>
    refine Or.inl ⟨by rfl, ?_⟩
    intro w hSw
    skip
    go_simp
    try with_reducible rfl
  case qzz49 => exact fun _ _ _ h => h
  case szz49 => first | assumption | trivial
  case' rzz49 => simp only [Act.put, List.setIfInBounds_toArray, List.set_cons_zero, List.set_cons_succ]
  refine wpAnyH_take (i := 19) (oi := ?ozz50) (v := ?vzz50) ?hzz50 ?azz50 ?bzz50 ?czz50 ?qzz50 ?yzz50 ?szz50 ?rzz50
  case hzz50 => simp only [List.getElem?_toArray, List.getElem?_cons_zero, List.getElem?_cons_succ]; rfl
  case azz50 => kernel_rfl
  case bzz50 => kernel_rfl
  case czz50 => kernel_rfl
  case yzz50 =>
    refine Or.inl ⟨by rfl, ?_⟩
    intro w hSw
    skip
    go_simp
    try with_reducible rfl
  case qzz50 => exact fun _ _ _ h => h
  case szz50 => first | assumption | trivial
  case' rzz50 => simp only [Act.put, List.setIfInBounds_toArray, List.set_cons_zero, List.set_cons_succ]
  refine wpAnyH_take (i := 20) (oi := ?ozz51) (v := ?vzz51) ?hzz51 ?azz51 ?bzz51 ?czz51 ?qzz51 ?yzz51 ?szz51 ?rzz51
  case hzz51 => simp only [List.getElem?_toArray, List.getElem?_cons_zero, List.getElem?_cons_succ]; rfl
  case azz51 => kernel_rfl
  case bzz51 => kernel_rfl
  case czz51 => kernel_rfl
  case yzz51 =>
    refine Or.inl ⟨by rfl, ?_⟩
    intro w hSw
    have a0 := box_ hSw x0; have a1 := box_ hSw x1; have a2 := box_ hSw x2; have a3 := box_ hSw x3; have a4 := box_ hSw x4; have a5 := box_ hSw x5; have a6 := box_ hSw x6; have a7 := box_ hSw x7; clear hSw
    go_simp
    try with_reducible rfl
  case qzz51 => exact fun _ _ _ h => h
  case szz51 => first | assumption | trivial
  case' rzz51 => simp only [Act.put, List.setIfInBounds_toArray, List.set_cons_zero, List.set_cons_succ]
  refine wpAnyH_take (i := 21) (oi := ?ozz52) (v := ?vzz52) ?hzz52 ?azz52 ?bzz52 ?czz52 ?qzz52 ?yzz52 ?szz52 ?rzz52
  case hzz52 => simp only [List.getElem?_toArray, List.getElem?_cons_zero, List.getElem?_cons_succ]; rfl
  case azz52 => kernel_rfl
  case bzz52 => kernel_rfl
  case czz52 => kernel_rfl
  case yzz52 =>
    refine Or.inl ⟨by rfl, ?_⟩
    intro w hSw
    have a0 := box_ hSw y0; have a1 := box_ hSw y1; have a2 := box_ hSw y2; have a3 := box_ hSw y3; have a4 := box_ hSw y4; have a5 := box_ hSw y5; have a6 := box_ hSw y6; have a7 := box_ hSw y7; clear hSw
    go_simp
    try with_reducible rfl
  case qzz52 => exact fun _ _ _ h => h
  case szz52 => first | assumption | trivial
  case' rzz52 => simp only [Act.put, List.setIfInBounds_toArray, List.set_cons_zero, List.set_cons_succ]
  refine wpAnyH_take (i := 23) (oi := ?ozz53) (v := ?vzz53) ?hzz53 ?azz53 ?bzz53 ?czz53 ?qzz53 ?yzz53 ?szz53 ?rzz53
  case hzz53 => simp only [List.getElem?_toArray, List.getElem?_cons_zero, List.getElem?_cons_succ]; rfl
  case azz53 => kernel_rfl
  case bzz53 => kernel_rfl
  case czz53 => kernel_rfl
  case yzz53 =>
    refine Or.inl ⟨by rfl, ?_⟩
    intro w hSw
    have a0 := box_ hSw x0; have a1 := box_ hSw x1; have a2 := box_ hSw x2; have a3 := box_ hSw x3; have a4 := box_ hSw x4; have a5 := box_ hSw x5; have a6 := box_ hSw x6; have a7 := box_ hSw x7; clear hSw
    go_simp
    try with_reducible rfl
  case qzz53 => exact fun _ _ _ h => h
  case szz53 => first | assumption | trivial
  case' rzz53 => simp only [Act.put, List.setIfInBounds_toArray, List.set_cons_zero, List.set_cons_succ]
  refine wpAnyH_take (i := 24) (oi := ?ozz54) (v := ?vzz54) ?hzz54 ?azz54 ?bzz54 ?czz54 ?qzz54 ?yzz54 ?szz54 ?rzz54
  case hzz54 => simp only [List.getElem?_toArray, List.getElem?_cons_zero, List.getElem?_cons_succ]; rfl
  case azz54 => kernel_rfl
  case bzz54 => kernel_rfl
  case czz54 => kernel_rfl
  case yzz54 =>
    refine Or.inl ⟨by rfl, ?_⟩
    intro w hSw
    have a0 := box_ hSw y0; have a1 := box_ hSw y1; have a2 := box_ hSw y2; have a3 := box_ hSw y3; have a4 := box_ hSw y4; have a5 := box_ hSw y5; have a6 := box_ hSw y6; have a7 := box_ hSw y7; clear hSw
    go_simp
    try with_reducible rfl
  case qzz54 => exact fun _ _ _ h => h
  case szz54 => first | assumption | trivial
  case' rzz54 => simp only [Act.put, List.setIfInBounds_toArray, List.set_cons_zero, List.set_cons_succ]
  refine wpAnyH_ready (rs := [22]) (by kernel_rfl) (by simp) ?_
  refine AllReadyH.cons (o := ?ozz64) ?hzz64 (fun K hK => ?kzz64) ?mzz64
  case hzz64 => simp only [List.getElem?_toArray, List.getElem?_cons_zero, List.getElem?_cons_succ]; rfl
  case kzz64 =>
    go_simp
    refine (K6.out _ (QF.out.trans hHeld)).mono ?_
    rintro e7 v7 ⟨rfl, q7⟩
    go_wp2_with fail
    refine hK.out _ _ ?Szz64 (fun hHeld => ?Rzz64)
    case Szz64 =>
      exact hHeld.trans q7
    case Rzz64 =>
      clear hK K
      try simp only [Act.put, List.setIfInBounds_toArray, List.set_cons_zero, List.set_cons_succ]
      refine wpAnyH_ready (rs := [25]) (by kernel_rfl) (by simp) ?_
      refine AllReadyH.cons (o := ?ozz63) ?hzz63 (fun K hK => ?kzz63) ?mzz63
      case hzz63 => simp only [List.getElem?_toArray, List.getElem?_cons_zero, List.getElem?_cons_succ]; rfl
      case kzz63 =>
        go_simp
        refine (K7.out _ (QF.out.trans hHeld)).mono ?_
        rintro e8 v8 ⟨rfl, q8⟩
        go_wp2_with fail
        refine hK.out _ _ ?Szz63 (fun hHeld => ?Rzz63)
        case Szz63 =>
          exact hHeld.trans q8
        case Rzz63 =>
          clear hK K
          try simp only [Act.put, List.setIfInBounds_toArray, List.set_cons_zero, List.set_cons_succ]
          refine wpAnyH_take (i := 26) (oi := ?ozz55) (v := ?vzz55) ?hzz55 ?azz55 ?bzz55 ?czz55 ?qzz55 ?yzz55 ?szz55 ?rzz55
          case hzz55 => simp only [List.getElem?_toArray, List.getElem?_cons_zero, List.getElem?_cons_succ]; rfl
          case azz55 => kernel_rfl
          case bzz55 => kernel_rfl
          case czz55 => kernel_rfl
          case yzz55 =>
            refine Or.inl ⟨by rfl, ?_⟩
            intro w hSw
            skip
            go_simp
            try with_reducible rfl
          case qzz55 => exact fun _ _ _ h => h
          case szz55 => first | assumption | trivial
          case' rzz55 => simp only [Act.put, List.setIfInBounds_toArray, List.set_cons_zero, List.set_cons_succ]
          refine wpAnyH_take (i := 27) (oi := ?ozz56) (v := ?vzz56) ?hzz56 ?azz56 ?bzz56 ?czz56 ?qzz56 ?yzz56 ?szz56 ?rzz56
          case hzz56 => simp only [List.getElem?_toArray, List.getElem?_cons_zero, List.getElem?_cons_succ]; rfl
          case azz56 => kernel_rfl
          case bzz56 => kernel_rfl
          case czz56 => kernel_rfl
          case yzz56 =>
            refine Or.inl ⟨by rfl, ?_⟩
            intro w hSw
            skip
            go_simp
            try with_reducible rfl
          case qzz56 => exact fun _ _ _ h => h
          case szz56 => first | assumption | trivial
          case' rzz56 => simp only [Act.put, List.setIfInBounds_toArray, List.set_cons_zero, List.set_cons_succ]
          refine wpAnyH_take (i := 28) (oi := ?ozz57) (v := ?vzz57) ?hzz57 ?azz57 ?bzz57 ?czz57 ?qzz57 ?yzz57 ?szz57 ?rzz57
          case hzz57 => simp only [List.getElem?_toArray, List.getElem?_cons_zero, List.getElem?_cons_succ]; rfl
          case azz57 => kernel_rfl
          case bzz57 => kernel_rfl
          case czz57 => kernel_rfl
          case yzz57 =>
            refine Or.inl ⟨by rfl, ?_⟩
            intro w hSw
            skip
            go_simp
            try with_reducible rfl
          case qzz57 => exact fun _ _ _ h => h
          case szz57 => first | assumption | trivial
          case' rzz57 => simp only [Act.put, List.setIfInBounds_toArray, List.set_cons_zero, List.set_cons_succ]
          refine wpAnyH_take (i := 29) (oi := ?ozz58) (v := ?vzz58) ?hzz58 ?azz58 ?bzz58 ?czz58 ?qzz58 ?yzz58 ?szz58 ?rzz58
          case hzz58 => simp only [List.getElem?_toArray, List.getElem?_cons_zero, List.getElem?_cons_succ]; rfl
          case azz58 => kernel_rfl
          case bzz58 => kernel_rfl
          case czz58 => kernel_rfl
          case yzz58 =>
            refine Or.inl ⟨by rfl, ?_⟩
            intro w hSw
            have a0 := box_ hSw x0; have a1 := box_ hSw x1; have a2 := box_ hSw x2; have a3 := box_ hSw x3; have a4 := box_ hSw x4; have a5 := box_ hSw x5; have a6 := box_ hSw x6; have a7 := box_ hSw x7; clear hSw
            go_simp
            try with_reducible rfl
          case qzz58 => exact fun _ _ _ h => h
          case szz58 => first | assumption | trivial
          case' rzz58 => simp only [Act.put, List.setIfInBounds_toArray, List.set_cons_zero, List.set_cons_succ]
          refine wpAnyH_take (i := 30) (oi := ?ozz59) (v := ?vzz59) ?hzz59 ?azz59 ?bzz59 ?czz59 ?qzz59 ?yzz59 ?szz59 ?rzz59
          case hzz59 => simp only [List.getElem?_toArray, List.getElem?_cons_zero, List.getElem?_cons_succ]; rfl
          case azz59 => kernel_rfl
          case bzz59 => kernel_rfl
          case czz59 => kernel_rfl
          case yzz59 =>
            refine Or.inl ⟨by rfl, ?_⟩
            intro w hSw
            have a0 := box_ hSw x0; have a1 := box_ hSw x1; have a2 := box_ hSw x2; have a3 := box_ hSw x3; have a4 := box_ hSw x4; have a5 := box_ hSw x5; have a6 := box_ hSw x6; have a7 := box_ hSw x7; clear hSw
            go_simp
            try with_reducible rfl
          case qzz59 => exact fun _ _ _ h => h
          case szz59 => first | assumption | trivial
          case' rzz59 => simp only [Act.put, List.setIfInBounds_toArray, List.set_cons_zero, List.set_cons_succ]
          refine wpAnyH_ready (rs := [31]) (by kernel_rfl) (by simp) ?_
          refine AllReadyH.cons (o := ?ozz62) ?hzz62 (fun K hK => ?kzz62) ?mzz62
          case hzz62 => simp only [List.getElem?_toArray, List.getElem?_cons_zero, List.getElem?_cons_succ]; rfl
          case kzz62 =>
            go_simp
            refine (K8.out _ (QF.out.trans hHeld)).mono ?_
            rintro e9 v9 ⟨rfl, q9⟩
            go_wp2_with fail
            refine hK.out _ _ ?Szz62 (fun hHeld => ?Rzz62)
            case Szz62 =>
              exact hHeld.trans q9
            case Rzz62 =>
              clear hK K
              try simp only [Act.put, List.setIfInBounds_toArray, List.set_cons_zero, List.set_cons_succ]
              refine wpAnyH_take (i := 32) (oi := ?ozz60) (v := ?vzz60) ?hzz60 ?azz60 ?bzz60 ?czz60 ?qzz60 ?yzz60 ?szz60 ?rzz60
              case hzz60 => simp only [List.getElem?_toArray, List.getElem?_cons_zero, List.getElem?_cons_succ]; rfl
              case azz60 => kernel_rfl
              case bzz60 => kernel_rfl
              case czz60 => kernel_rfl
              case yzz60 =>
                refine Or.inl ⟨by rfl, ?_⟩
                intro w hSw
                skip
                go_simp
                try with_reducible rfl
              case qzz60 => exact fun _ _ _ h => h
              case szz60 => first | assumption | trivial
              case' rzz60 => simp only [Act.put, List.setIfInBounds_toArray, List.set_cons_zero, List.set_cons_succ]
              refine wpAnyH_take (i := 33) (oi := ?ozz61) (v := ?vzz61) ?hzz61 ?azz61 ?bzz61 ?czz61 ?qzz61 ?yzz61 ?szz61 ?rzz61
              case hzz61 => simp only [List.getElem?_toArray, List.getElem?_cons_zero, List.getElem?_cons_succ]; rfl
              case azz61 => kernel_rfl
              case bzz61 => kernel_rfl
              case czz61 => kernel_rfl
              case yzz61 =>
                refine Or.inl ⟨by rfl, ?_⟩
                intro w hSw
                skip
                go_simp
                try with_reducible rfl
              case qzz61 => exact fun _ _ _ h => h
              case szz61 => first | assumption | trivial
              case' rzz61 => simp only [Act.put, List.setIfInBounds_toArray, List.set_cons_zero, List.set_cons_succ]
              refine wpAnyH_done (by kernel_rfl) ?_ _
              go_wp2
              go_ret
              exact ⟨by first | rfl | simp, QF.out.trans hHeld⟩
          case' mzz62 => skip
          exact AllReadyH.nil
      case' mzz63 => skip
      exact AllReadyH.nil
  case' mzz64 => skip
  exact AllReadyH.nil

theorem opened (W : World) (args : Array Value) (hn : args.size = 3) (h : ∀ (j : Nat) t v, Tryd.f4.params[j]? = some t → args[j]? = some v → RdV W t v ∧ (false = true → RdU W t v.cells.toList)) (hL : laidMetH Tryd.prog Rows.wireRepliesRow.laid W) :
    Calls Tryd.prog 4 args W fun e W' => e = .returned (.bool true) ∧ Q W W' := by
  obtain ⟨v0, v1, v2, rfl⟩ := args3 hn
  rw [Tryd.params4] at h
  obtain ⟨cs0, e0, r0⟩ := (h 0 40 v0 rfl rfl).1.struct Tryd.underlying40
  obtain ⟨p, A0, n0, c0, f0, hd0, hb0, hp0⟩ := open_reply r0
  subst f0
  obtain ⟨s, e1, s1⟩ := (h 1 9 v1 rfl rfl).1.string Tryd.underlying9
  obtain ⟨cs2, e2, r2⟩ := (h 2 40 v2 rfl rfl).1.struct Tryd.underlying40
  obtain ⟨o, A2, n2, c2, f2, hd2, hb2, hp2⟩ := open_reply r2
  subst f2
  subst e0 e1 e2
  obtain ⟨sa, hW⟩ := wk_laid1 hL
  exact walk p A0 n0 c0 s o A2 n2 c2 W sa sa hW hd0 hb0 hp0 s1 hd2 hb2 hp2

theorem start_met (os : Os) : laidMetH Tryd.prog Rows.wireRepliesRow.laid ((World.doorLaid Tryd.prog 600 os).forCall (fun _ _ => 0) ⟨#[], #[.agg #[.int .i64 0, .int .i64 0, .int .i64 0, .int .i64 0, .string ⟨#[]⟩, .bool false, .slice none 0 0, .bool false], .string ⟨#[]⟩, .agg #[.int .i64 0, .int .i64 0, .int .i64 0, .int .i64 0, .string ⟨#[]⟩, .bool false, .slice none 0 0, .bool false]], []⟩).memory :=
  laidMetH_of_parts3 (fuel := 8) (laidMet_of_run' 8 (by kernel_rfl) (by kernel_rfl)) (by kernel_rfl) (by kernel_rfl)
theorem reads (os : Os) {H : Type} (enc : TypeId × Value → H) : ∃ places, DataW.whole enc Tryd.prog ((World.doorLaid Tryd.prog 600 os).forCall (fun _ _ => 0) ⟨#[], #[.agg #[.int .i64 0, .int .i64 0, .int .i64 0, .int .i64 0, .string ⟨#[]⟩, .bool false, .slice none 0 0, .bool false], .string ⟨#[]⟩, .agg #[.int .i64 0, .int .i64 0, .int .i64 0, .int .i64 0, .string ⟨#[]⟩, .bool false, .slice none 0 0, .bool false]], []⟩).memory Tryd.f4.params.toList Rows.wireRepliesSpec.vars false (#[.agg #[.int .i64 0, .int .i64 0, .int .i64 0, .int .i64 0, .string ⟨#[]⟩, .bool false, .slice none 0 0, .bool false], .string ⟨#[]⟩, .agg #[.int .i64 0, .int .i64 0, .int .i64 0, .int .i64 0, .string ⟨#[]⟩, .bool false, .slice none 0 0, .bool false]] : Array Value).toList 8 = some ([.agg [.lit (.int .i64 0), .lit (.int .i64 0), .lit (.int .i64 0), .lit (.int .i64 0), .lit (.string []), .lit (.bool false), .nil, .lit (.bool false)], .lit (.string []), .agg [.lit (.int .i64 0), .lit (.int .i64 0), .lit (.int .i64 0), .lit (.int .i64 0), .lit (.string []), .lit (.bool false), .nil, .lit (.bool false)]], [], places) :=
  ⟨[], by kernel_rfl⟩

set_option maxRecDepth 100000 in
theorem lifted (os : Os) (started : os.Started) (H : Type) (enc : TypeId × Value → H) (F : Stop.Interp) :
    ReturnsInHanded {} Tryd.checked os 4 .any ((OpenSpec.ofChange Rows.wireRepliesSpec).preRow enc Tryd.prog Tryd.f4 Rows.wireRepliesRow.domain false Rows.wireRepliesRow.laid) (((OpenSpec.ofChange Rows.wireRepliesSpec).at F).post enc Tryd.prog Tryd.f4 false true false false) := by
  obtain ⟨places, hx⟩ := reads os enc
  refine returnsInHanded_of_row (C := Tryd.checked) (s := OpenSpec.ofChange Rows.wireRepliesSpec) ownKnob_ started (by kernel_rfl) Tryd.func4
    (witness_row_atRef (enc := enc) (C := Tryd.checked) false (World.doorLaid Tryd.prog 600 os) #[.agg #[.int .i64 0, .int .i64 0, .int .i64 0, .int .i64 0, .string ⟨#[]⟩, .bool false, .slice none 0 0, .bool false], .string ⟨#[]⟩, .agg #[.int .i64 0, .int .i64 0, .int .i64 0, .int .i64 0, .string ⟨#[]⟩, .bool false, .slice none 0 0, .bool false]] rfl (by kernel_rfl) (by kernel_rfl) (by kernel_rfl)
      (OpenSpec.preRow_of_cond 8 hx (by kernel_rfl) (fun k hk => by cases hk) (by kernel_rfl) (start_met os))) ?_
  intro W base args ds gs before hval hW _ hcond hsz hL _ _
  exact framedC (s := Rows.wireRepliesSpec) false Rows.wireRepliesRow.laid 3 (by rw [Tryd.params4]; rfl) rfl (by kernel_rfl) (by kernel_rfl)
    (fun H ds h => by match ds, h with | [d0, d1, d2], _ => exact ⟨rfl, rfl, rfl⟩)
    opened H enc W base args ds gs before hval hW (fun h => by cases h) hsz hL

theorem over : Rows.WireRepliesSaid :=
  OpenClaim.holds_of_cond 4 Tryd.f4 rfl rfl rfl rfl rfl rfl rfl ⟨rfl, rfl, rfl, rfl, rfl⟩ rfl rfl rfl rfl rfl (by kernel_rfl) Tryd.func4 (by kernel_rfl)
    (of_decide_eq_true (by kernel_rfl)) (by unfold Func.isWrapper; first | (rw [if_pos (by decide +kernel)]; kernel_rfl) | (rw [if_neg (by decide +kernel)]; exact ⟨rfl, rfl⟩))
    (fun os started H enc _ F => by rw [OpenClaim.pre_eq_preRow]; exact lifted os started H enc F)

/-- No parameter wants a stand-in; the program's own looks are as the card says. -/
theorem plain (f : FuncId) (fn : Func) (hf : Tryd.pinned.checked.prog.funcNamed "stanchion/stanchionlaw16.WireReplies" = some f) (hfn : Tryd.pinned.checked.prog.funcs[f]? = some fn) :
    true = Tryd.pinned.checked.prog.looks [] ∧ ∀ (j : Nat) t, fn.params[j]? = some t → Tryd.pinned.checked.prog.wantsStandIn t = false := by
  obtain rfl : f = 4 := Option.some.inj ((show Tryd.prog.funcNamed "stanchion/stanchionlaw16.WireReplies" = some 4 by kernel_rfl).symm.trans hf) |>.symm
  obtain rfl : fn = Tryd.f4 := (Option.some.inj (Tryd.func4.symm.trans hfn)).symm
  refine ⟨by kernel_rfl, fun j t ht => ?_⟩
  have h0 : (Tryd.f4.params.toList.all fun t => !(Tryd.prog.wantsStandIn t)) = true := by kernel_rfl
  have h1 := List.all_eq_true.1 h0 t (by rw [← Array.getElem?_toList] at ht; exact List.mem_of_getElem? ht)
  exact (by simpa using h1 : Tryd.prog.wantsStandIn t = false)

theorem proved : Rows.WireRepliesCardSaid :=
  Claim7.holds_tied_plain_at .later [] _ _ _ _ over (fun _ h => by cases h) (by kernel_rfl) (fun _ h => by cases h) wireReplies_row_tie rfl ⟨rfl, rfl⟩ (by kernel_rfl) rfl plain (by kernel_rfl)
end Go.Proofs.YtdipikdebapmlaaDoor.wireReplies
