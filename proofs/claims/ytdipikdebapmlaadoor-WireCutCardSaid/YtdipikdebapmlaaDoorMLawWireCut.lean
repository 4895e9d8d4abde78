/- For every request and reply, every cut: no beginning of what is written is taken, nor with a byte more. No condition. -/
import Derived.Test.YtdipikdebapmlaaDoorW6
import Derived.Test.YtdipikdebapmlaaDoorW3
import Derived.Deep.DeepCutAuto
import Derived.Test.YtdipikdebapmlaaDoorW10
import Derived.Test.YtdipikdebapmlaaDoorW11
import Derived.Test.YtdipikdebapmlaaDoorW9
namespace Go.Proofs.YtdipikdebapmlaaDoor.wireCut
set_option maxRecDepth 100000
open Go.ChangeShapes Go.WideShapes Go.ChangeAt Go.RowKit Prm Wi
set_option linter.unusedVariables false
set_option linter.unusedSimpArgs false

set_option maxRecDepth 100000 in
set_option maxHeartbeats 8000000 in
theorem walk00 (q : Rq) (p : Rp) (A : Option Addr) (N c : Nat) (cut : Int) (w : World) (sa sc : Addr) (hW : Wk w sa sc) (hne : sc ≠ sa) (hA : In_ pairK w A N c p.rows) (hp : RpIn p) (S S2 : ByteArray) (k1 : ∀ W, Calls Tryd.prog 9 #[.agg #[.int .i64 q.kind, .int .i64 q.epoch, .int .i64 q.sess, .int .i64 q.seq, .string q.tok, .int .i64 q.op.kind, .string q.op.key, .string q.op.val, .string q.op.lo, .string q.op.hi, .int .i64 q.op.most]] W fun e w' => e = .returned (.tuple #[.string S, .int .i64 0]) ∧ Q W w') (hss : S.size ≤ 1000) (hm : may q = true) (hS : S = ba (req q)) (k2 : ∀ W, Q w W → Calls Tryd.prog 15 #[.agg #[.int .i64 p.epoch, .int .i64 p.sess, .int .i64 p.seq, .int .i64 p.err, .string p.val, .bool p.found, .slice A N c, .bool p.over]] W fun e w' => e = .returned (.tuple #[.string S2, .int .i64 0]) ∧ Q W w') (hss2 : S2.size ≤ 2048) (hm2 : mayP p = true) (hS2 : S2 = ba (rep p)) :
    Calls Tryd.prog 6 #[.agg #[.int .i64 q.kind, .int .i64 q.epoch, .int .i64 q.sess, .int .i64 q.seq, .string q.tok, .int .i64 q.op.kind, .string q.op.key, .string q.op.val, .string q.op.lo, .string q.op.hi, .int .i64 q.op.most], .agg #[.int .i64 p.epoch, .int .i64 p.sess, .int .i64 p.seq, .int .i64 p.err, .string p.val, .bool p.found, .slice A N c, .bool p.over], .int .i64 cut] w fun e w' => e = .returned (.bool true) ∧ Q w w' := by
  have K0 := Lib.hid (fun W => wishown_any W)
  have X3 : Hid (Bx (w.alloc (.cells #[.int .i64 q.kind, .int .i64 q.epoch, .int .i64 q.sess, .int .i64 q.seq, .string q.tok, .int .i64 q.op.kind, .string q.op.key, .string q.op.val, .string q.op.lo, .string q.op.hi, .int .i64 q.op.most] 25)) w.heap.size [.int .i64 q.kind, .int .i64 q.epoch, .int .i64 q.sess, .int .i64 q.seq, .string q.tok, .int .i64 q.op.kind, .string q.op.key, .string q.op.val, .string q.op.lo, .string q.op.hi, .int .i64 q.op.most]) := Lib.hid (Bx.new w [.int .i64 q.kind, .int .i64 q.epoch, .int .i64 q.sess, .int .i64 q.seq, .string q.tok, .int .i64 q.op.kind, .string q.op.key, .string q.op.val, .string q.op.lo, .string q.op.hi, .int .i64 q.op.most] 25)
  have QF := Lib.hid ((Q.refl w).alloc (.cells #[.int .i64 q.kind, .int .i64 q.epoch, .int .i64 q.sess, .int .i64 q.seq, .string q.tok, .int .i64 q.op.kind, .string q.op.key, .string q.op.val, .string q.op.lo, .string q.op.hi, .int .i64 q.op.most] 25))
  have X3 := Lib.hid (X3.out.alloc (.cells #[.int .i64 p.epoch, .int .i64 p.sess, .int .i64 p.seq, .int .i64 p.err, .string p.val, .bool p.found, .slice A N c, .bool p.over] 40))
  have X4 : Hid (Bx ((w.alloc (.cells #[.int .i64 q.kind, .int .i64 q.epoch, .int .i64 q.sess, .int .i64 q.seq, .string q.tok, .int .i64 q.op.kind, .string q.op.key, .string q.op.val, .string q.op.lo, .string q.op.hi, .int .i64 q.op.most] 25)).alloc (.cells #[.int .i64 p.epoch, .int .i64 p.sess, .int .i64 p.seq, .int .i64 p.err, .string p.val, .bool p.found, .slice A N c, .bool p.over] 40)) (w.alloc (.cells #[.int .i64 q.kind, .int .i64 q.epoch, .int .i64 q.sess, .int .i64 q.seq, .string q.tok, .int .i64 q.op.kind, .string q.op.key, .string q.op.val, .string q.op.lo, .string q.op.hi, .int .i64 q.op.most] 25)).heap.size [.int .i64 p.epoch, .int .i64 p.sess, .int .i64 p.seq, .int .i64 p.err, .string p.val, .bool p.found, .slice A N c, .bool p.over]) := Lib.hid (Bx.new (w.alloc (.cells #[.int .i64 q.kind, .int .i64 q.epoch, .int .i64 q.sess, .int .i64 q.seq, .string q.tok, .int .i64 q.op.kind, .string q.op.key, .string q.op.val, .string q.op.lo, .string q.op.hi, .int .i64 q.op.most] 25)) [.int .i64 p.epoch, .int .i64 p.sess, .int .i64 p.seq, .int .i64 p.err, .string p.val, .bool p.found, .slice A N c, .bool p.over] 40)
  have QF := Lib.hid (QF.out.alloc (.cells #[.int .i64 p.epoch, .int .i64 p.sess, .int .i64 p.seq, .int .i64 p.err, .string p.val, .bool p.found, .slice A N c, .bool p.over] 40))
  rw [show (w.alloc (.cells #[.int .i64 q.kind, .int .i64 q.epoch, .int .i64 q.sess, .int .i64 q.seq, .string q.tok, .int .i64 q.op.kind, .string q.op.key, .string q.op.val, .string q.op.lo, .string q.op.hi, .int .i64 q.op.most] 25)).heap.size = w.heap.size + 1 by simp] at X4
  have K1 := Lib.hid k1
  have K2 := Lib.hid k2
  clear k1 k2 hA
  have HS := Lib.hid hS
  clear hS
  have HS2 := Lib.hid hS2
  clear hS2
  go_enter Tryd.func6, Tryd.ntmps6
  go_upto_region 1 with (fail)
  generalize ((w.alloc (.cells #[.int .i64 q.kind, .int .i64 q.epoch, .int .i64 q.sess, .int .i64 q.seq, .string q.tok, .int .i64 q.op.kind, .string q.op.key, .string q.op.val, .string q.op.lo, .string q.op.hi, .int .i64 q.op.most] 25)).alloc (.cells #[.int .i64 p.epoch, .int .i64 p.sess, .int .i64 p.seq, .int .i64 p.err, .string p.val, .bool p.found, .slice A N c, .bool p.over] 40)) = W0 at X3 X4 QF ⊢
  generalize hb2 : w.heap.size = b3 at X3 X4 ⊢
  generalize hb3 : b3 + 1 = b4 at X4 ⊢
  clear hb2 hb3
  go_wp2_with fail
  refine (K0.out _).mono ?_
  rintro e0 v0 ⟨rfl, q0⟩
  replace X3 := Lib.hid (X3.out.q q0)
  replace X4 := Lib.hid (X4.out.q q0)
  replace QF := Lib.hid (QF.out.trans q0)
  clear q0
  have x3_0 := (X3.out 0 _ rfl).1
  have x3_1 := (X3.out 1 _ rfl).1
  have x3_2 := (X3.out 2 _ rfl).1
  have x3_3 := (X3.out 3 _ rfl).1
  have x3_4 := (X3.out 4 _ rfl).1
  have x3_5 := (X3.out 5 _ rfl).1
  have x3_6 := (X3.out 6 _ rfl).1
  have x3_7 := (X3.out 7 _ rfl).1
  have x3_8 := (X3.out 8 _ rfl).1
  have x3_9 := (X3.out 9 _ rfl).1
  have x3_10 := (X3.out 10 _ rfl).1
  go_wp2_with fail
  refine (K1.out _).mono ?_
  rintro e1 v1 ⟨rfl, q1⟩
  clear x3_0 x3_1 x3_2 x3_3 x3_4 x3_5 x3_6 x3_7 x3_8 x3_9 x3_10
  replace X3 := Lib.hid (X3.out.q q1)
  replace X4 := Lib.hid (X4.out.q q1)
  replace QF := Lib.hid (QF.out.trans q1)
  clear q1
  have x4_0 := (X4.out 0 _ rfl).1
  have x4_1 := (X4.out 1 _ rfl).1
  have x4_2 := (X4.out 2 _ rfl).1
  have x4_3 := (X4.out 3 _ rfl).1
  have x4_4 := (X4.out 4 _ rfl).1
  have x4_5 := (X4.out 5 _ rfl).1
  have x4_6 := (X4.out 6 _ rfl).1
  have x4_7 := (X4.out 7 _ rfl).1
  go_wp2_with fail
  refine (K2.out _ QF.out).mono ?_
  rintro e2 v2 ⟨rfl, q2⟩
  clear x4_0 x4_1 x4_2 x4_3 x4_4 x4_5 x4_6 x4_7
  replace X3 := Lib.hid (X3.out.q q2)
  replace X4 := Lib.hid (X4.out.q q2)
  replace QF := Lib.hid (QF.out.trans q2)
  clear q2
  clear K0 K1 K2
  go_upto_region 4 with (fail)
  obtain ⟨bq, hbq⟩ : ∃ b, b = (decide (0 ≤ cut) && decide (cut < (S.size : Int))) := ⟨_, rfl⟩
  go_cut [42] (fun sx wx => sx = .bool bq ∧ Q v2 wx)
  case first =>
    by_cases h2 : 0 ≤ cut
    case neg =>
      first
      | (exfalso; omega)
      | (have hb : bq = false := by rw [hbq, decide_eq_false h2]; simp
         go_wp2_with fail
         go_meet
         exact ⟨by first | (rw [hb]; done) | (rw [hb]; rfl) | (rw [hb]; simp), Q.refl _⟩)
    by_cases h3 : cut < (S.size : Int)
    case neg =>
      first
      | (exfalso; omega)
      | (have hb : bq = false := by rw [hbq, decide_eq_false h3]; simp
         go_wp2_with fail
         go_meet
         exact ⟨by first | (rw [hb]; done) | (rw [hb]; rfl) | (rw [hb]; simp), Q.refl _⟩)
    have hb : bq = true := by rw [hbq, decide_eq_true h2, decide_eq_true h3]; rfl
    go_wp2_with fail
    go_meet
    exact ⟨by first | (rw [hb]; done) | (rw [hb]; rfl) | (rw [hb]; simp), Q.refl _⟩
  case rest =>
    obtain ⟨rfl, qz⟩ := hcut
    have X3 := Lib.hid (X3.out.q qz)
    have X4 := Lib.hid (X4.out.q qz)
    have QF := Lib.hid (QF.out.trans qz)
    clear qz
    cases bq with
    | false =>
      clear hbq
      go_upto_region 9 with (fail)
      obtain ⟨bq, hbq⟩ : ∃ b, b = (decide (0 ≤ cut) && decide (cut < (S2.size : Int))) := ⟨_, rfl⟩
      go_cut [73] (fun sx wx => sx = .bool bq ∧ Q wc wx)
      case first =>
        by_cases h2 : 0 ≤ cut
        case neg =>
          first
          | (exfalso; omega)
          | (have hb : bq = false := by rw [hbq, decide_eq_false h2]; simp
             go_wp2_with fail
             go_meet
             exact ⟨by first | (rw [hb]; done) | (rw [hb]; rfl) | (rw [hb]; simp), Q.refl _⟩)
        by_cases h3 : cut < (S2.size : Int)
        case neg =>
          first
          | (exfalso; omega)
          | (have hb : bq = false := by rw [hbq, decide_eq_false h3]; simp
             go_wp2_with fail
             go_meet
             exact ⟨by first | (rw [hb]; done) | (rw [hb]; rfl) | (rw [hb]; simp), Q.refl _⟩)
        have hb : bq = true := by rw [hbq, decide_eq_true h2, decide_eq_true h3]; rfl
        go_wp2_with fail
        go_meet
        exact ⟨by first | (rw [hb]; done) | (rw [hb]; rfl) | (rw [hb]; simp), Q.refl _⟩
      case rest =>
        obtain ⟨rfl, qz⟩ := hcut
        have X3 := Lib.hid (X3.out.q qz)
        have X4 := Lib.hid (X4.out.q qz)
        have QF := Lib.hid (QF.out.trans qz)
        clear qz
        cases bq with
        | false =>
          clear hbq
          go_wp2
          go_ret
          exact ⟨by first | rfl | simp, QF.out⟩
        | true =>
          have hbq2 := hbq.symm
          rw [Bool.and_eq_true, decide_eq_true_eq, decide_eq_true_eq] at hbq2
          obtain ⟨h2, h3⟩ := hbq2
          clear hbq
          have hkS2 : cut.toNat < S2.size := by omega
          have hle : cut ≤ (S2.size : Int) := by omega
          have KC : Hid (∀ (s : ByteArray), s.data.toList = S2.data.toList.take cut.toNat → ∀ W, Q w W → Calls Tryd.prog 17 #[.string s] W fun e w' => ∃ A c, e = .returned (.tuple #[.agg #[.int .i64 0, .int .i64 0, .int .i64 0, .int .i64 0, .string ⟨#[]⟩, .bool false, .slice A 0 c, .bool false], .int .i64 3]) ∧ In_ pairK w' A 0 c [] ∧ Q W w') := Lib.hid (fun s hs W qz => by
            have hl := rep_len hm2
            have hz : s.size ≤ 2048 := by rw [← Rn.size_data, hs, List.length_take, Rn.size_data]; omega
            have h := ptakeP_any sa sc s W (hW.q qz) (by omega)
            have h4 : S2.data.toList = rep p := by rw [HS2.out, ba_data]
            rw [hs, h4, takeP_cut hm2 (by rw [← h4, Rn.size_data]; exact hkS2)] at h
            exact h)
          have KD : Hid (∀ W, Q w W → Calls Tryd.prog 17 #[.string (S2 ++ ⟨#[48]⟩)] W fun e w' => ∃ A c, e = .returned (.tuple #[.agg #[.int .i64 0, .int .i64 0, .int .i64 0, .int .i64 0, .string ⟨#[]⟩, .bool false, .slice A 0 c, .bool false], .int .i64 3]) ∧ In_ pairK w' A 0 c [] ∧ Q W w') := Lib.hid (fun W qz => by
            have hl := rep_len hm2
            have h4 : (S2 ++ ⟨#[48]⟩ : ByteArray).data.toList = rep p ++ [48] := by rw [HS2.out]; simp [ba_data]
            have h := ptakeP_any sa sc (S2 ++ ⟨#[48]⟩) W (hW.q qz) (by rw [ByteArray.size_append]; show S2.size + 1 ≤ _; omega)
            rw [h4, takeP_more 48 hm2] at h
            exact h)
          have c2 : ¬ 9223372036854775807 < S2.size + 1 := by omega
          have hlit2 : (⟨#[48]⟩ : ByteArray).size = 1 := rfl
          go_wp2_with fail
          refine (KC.out _ (by simp) _ QF.out).mono ?_
          rintro e16 v16 ⟨A16, c16, rfl, i16, q16⟩
          clear i16
          have qa := (Q.refl v16).alloc (.cells #[.int .i64 0, .int .i64 0, .int .i64 0, .int .i64 0, .string ⟨#[]⟩, .bool false, .slice A16 0 c16, .bool false] 40)
          replace X3 := Lib.hid ((X3.out.q q16).q qa)
          replace X4 := Lib.hid ((X4.out.q q16).q qa)
          replace QF := Lib.hid ((QF.out.trans q16).trans qa)
          have X16 : Hid (Bx (v16.alloc (.cells #[.int .i64 0, .int .i64 0, .int .i64 0, .int .i64 0, .string ⟨#[]⟩, .bool false, .slice A16 0 c16, .bool false] 40)) v16.heap.size [.int .i64 0, .int .i64 0, .int .i64 0, .int .i64 0, .string ⟨#[]⟩, .bool false, .slice A16 0 c16, .bool false]) := Lib.hid (Bx.new v16 [.int .i64 0, .int .i64 0, .int .i64 0, .int .i64 0, .string ⟨#[]⟩, .bool false, .slice A16 0 c16, .bool false] 40)
          clear qa q16
          go_upto_region 11 with (fail)
          generalize v16.alloc (.cells #[.int .i64 0, .int .i64 0, .int .i64 0, .int .i64 0, .string ⟨#[]⟩, .bool false, .slice A16 0 c16, .bool false] 40) = W16 at X3 X4 X16 QF ⊢
          generalize v16.heap.size = b16 at X16 ⊢
          go_wp2_with fail
          refine (KD.out _ QF.out).mono ?_
          rintro e18 v18 ⟨A18, c18, rfl, i18, q18⟩
          clear i18
          have qa := (Q.refl v18).alloc (.cells #[.int .i64 0, .int .i64 0, .int .i64 0, .int .i64 0, .string ⟨#[]⟩, .bool false, .slice A18 0 c18, .bool false] 40)
          replace X3 := Lib.hid ((X3.out.q q18).q qa)
          replace X4 := Lib.hid ((X4.out.q q18).q qa)
          replace X16 := Lib.hid ((X16.out.q q18).q qa)
          replace QF := Lib.hid ((QF.out.trans q18).trans qa)
          have X18 : Hid (Bx (v18.alloc (.cells #[.int .i64 0, .int .i64 0, .int .i64 0, .int .i64 0, .string ⟨#[]⟩, .bool false, .slice A18 0 c18, .bool false] 40)) v18.heap.size [.int .i64 0, .int .i64 0, .int .i64 0, .int .i64 0, .string ⟨#[]⟩, .bool false, .slice A18 0 c18, .bool false]) := Lib.hid (Bx.new v18 [.int .i64 0, .int .i64 0, .int .i64 0, .int .i64 0, .string ⟨#[]⟩, .bool false, .slice A18 0 c18, .bool false] 40)
          clear qa q18
          go_upto_region 12 with (fail)
          generalize v18.alloc (.cells #[.int .i64 0, .int .i64 0, .int .i64 0, .int .i64 0, .string ⟨#[]⟩, .bool false, .slice A18 0 c18, .bool false] 40) = W18 at X3 X4 X16 X18 QF ⊢
          generalize v18.heap.size = b18 at X18 ⊢
          go_wp2
          go_ret
          exact ⟨by first | rfl | simp, QF.out⟩
    | true =>
      have hbq2 := hbq.symm
      rw [Bool.and_eq_true, decide_eq_true_eq, decide_eq_true_eq] at hbq2
      obtain ⟨h2, h3⟩ := hbq2
      clear hbq
      have hkS : cut.toNat < S.size := by omega
      have hle : cut ≤ (S.size : Int) := by omega
      have KA : Hid (∀ (s : ByteArray), s.data.toList = S.data.toList.take cut.toNat → ∀ W, Q w W → Calls Tryd.prog 11 #[.string s] W fun e w' => e = .returned (.tuple #[.agg #[.int .i64 0, .int .i64 0, .int .i64 0, .int .i64 0, .string ⟨#[]⟩, .int .i64 0, .string ⟨#[]⟩, .string ⟨#[]⟩, .string ⟨#[]⟩, .string ⟨#[]⟩, .int .i64 0], .int .i64 3]) ∧ Q W w') := Lib.hid (fun s hs W qz => by
        have hl := req_len hm
        have hz : s.size ≤ 1000 := by rw [← Rn.size_data, hs, List.length_take, Rn.size_data]; omega
        have h := ptakeQ_any sa sc s W (hW.q qz) hne (by omega)
        have h4 : S.data.toList = req q := by rw [HS.out, ba_data]
        rw [hs, h4, takeQ_cut hm (by omega) (by rw [← h4, Rn.size_data]; exact hkS)] at h
        exact h)
      have KB : Hid (∀ W, Q w W → Calls Tryd.prog 11 #[.string (S ++ ⟨#[48]⟩)] W fun e w' => e = .returned (.tuple #[.agg #[.int .i64 0, .int .i64 0, .int .i64 0, .int .i64 0, .string ⟨#[]⟩, .int .i64 0, .string ⟨#[]⟩, .string ⟨#[]⟩, .string ⟨#[]⟩, .string ⟨#[]⟩, .int .i64 0], .int .i64 3]) ∧ Q W w') := Lib.hid (fun W qz => by
        have hl := req_len hm
        have h4 : (S ++ ⟨#[48]⟩ : ByteArray).data.toList = req q ++ [48] := by rw [HS.out]; simp [ba_data]
        have h := ptakeQ_any sa sc (S ++ ⟨#[48]⟩) W (hW.q qz) hne (by rw [ByteArray.size_append]; show S.size + 1 ≤ _; omega)
        rw [h4, takeQ_more 48 hm (by omega)] at h
        exact h)
      have c1 : ¬ 9223372036854775807 < S.size + 1 := by omega
      have hlit : (⟨#[48]⟩ : ByteArray).size = 1 := rfl
      go_wp2_with fail
      refine (KA.out _ (by simp) _ QF.out).mono ?_
      rintro e12 v12 ⟨rfl, q12⟩
      have qa := (Q.refl v12).alloc (.cells #[.int .i64 0, .int .i64 0, .int .i64 0, .int .i64 0, .string ⟨#[]⟩, .int .i64 0, .string ⟨#[]⟩, .string ⟨#[]⟩, .string ⟨#[]⟩, .string ⟨#[]⟩, .int .i64 0] 25)
      replace X3 := Lib.hid ((X3.out.q q12).q qa)
      replace X4 := Lib.hid ((X4.out.q q12).q qa)
      replace QF := Lib.hid ((QF.out.trans q12).trans qa)
      have X12 : Hid (Bx (v12.alloc (.cells #[.int .i64 0, .int .i64 0, .int .i64 0, .int .i64 0, .string ⟨#[]⟩, .int .i64 0, .string ⟨#[]⟩, .string ⟨#[]⟩, .string ⟨#[]⟩, .string ⟨#[]⟩, .int .i64 0] 25)) v12.heap.size [.int .i64 0, .int .i64 0, .int .i64 0, .int .i64 0, .string ⟨#[]⟩, .int .i64 0, .string ⟨#[]⟩, .string ⟨#[]⟩, .string ⟨#[]⟩, .string ⟨#[]⟩, .int .i64 0]) := Lib.hid (Bx.new v12 [.int .i64 0, .int .i64 0, .int .i64 0, .int .i64 0, .string ⟨#[]⟩, .int .i64 0, .string ⟨#[]⟩, .string ⟨#[]⟩, .string ⟨#[]⟩, .string ⟨#[]⟩, .int .i64 0] 25)
      clear qa q12
      go_upto_region 6 with (fail)
      generalize v12.alloc (.cells #[.int .i64 0, .int .i64 0, .int .i64 0, .int .i64 0, .string ⟨#[]⟩, .int .i64 0, .string ⟨#[]⟩, .string ⟨#[]⟩, .string ⟨#[]⟩, .string ⟨#[]⟩, .int .i64 0] 25) = W12 at X3 X4 X12 QF ⊢
      generalize v12.heap.size = b12 at X12 ⊢
      go_wp2_with fail
      refine (KB.out _ QF.out).mono ?_
      rintro e14 v14 ⟨rfl, q14⟩
      have qa := (Q.refl v14).alloc (.cells #[.int .i64 0, .int .i64 0, .int .i64 0, .int .i64 0, .string ⟨#[]⟩, .int .i64 0, .string ⟨#[]⟩, .string ⟨#[]⟩, .string ⟨#[]⟩, .string ⟨#[]⟩, .int .i64 0] 25)
      replace X3 := Lib.hid ((X3.out.q q14).q qa)
      replace X4 := Lib.hid ((X4.out.q q14).q qa)
      replace X12 := Lib.hid ((X12.out.q q14).q qa)
      replace QF := Lib.hid ((QF.out.trans q14).trans qa)
      have X14 : Hid (Bx (v14.alloc (.cells #[.int .i64 0, .int .i64 0, .int .i64 0, .int .i64 0, .string ⟨#[]⟩, .int .i64 0, .string ⟨#[]⟩, .string ⟨#[]⟩, .string ⟨#[]⟩, .string ⟨#[]⟩, .int .i64 0] 25)) v14.heap.size [.int .i64 0, .int .i64 0, .int .i64 0, .int .i64 0, .string ⟨#[]⟩, .int .i64 0, .string ⟨#[]⟩, .string ⟨#[]⟩, .string ⟨#[]⟩, .string ⟨#[]⟩, .int .i64 0]) := Lib.hid (Bx.new v14 [.int .i64 0, .int .i64 0, .int .i64 0, .int .i64 0, .string ⟨#[]⟩, .int .i64 0, .string ⟨#[]⟩, .string ⟨#[]⟩, .string ⟨#[]⟩, .string ⟨#[]⟩, .int .i64 0] 25)
      clear qa q14
      go_upto_region 7 with (fail)
      generalize v14.alloc (.cells #[.int .i64 0, .int .i64 0, .int .i64 0, .int .i64 0, .string ⟨#[]⟩, .int .i64 0, .string ⟨#[]⟩, .string ⟨#[]⟩, .string ⟨#[]⟩, .string ⟨#[]⟩, .int .i64 0] 25) = W14 at X3 X4 X12 X14 QF ⊢
      generalize v14.heap.size = b14 at X14 ⊢
      go_upto_region 9 with (fail)
      obtain ⟨bq, hbq⟩ : ∃ b, b = (decide (0 ≤ cut) && decide (cut < (S2.size : Int))) := ⟨_, rfl⟩
      go_cut [73] (fun sx wx => sx = .bool bq ∧ Q W14 wx)
      case first =>
        by_cases h2 : 0 ≤ cut
        case neg =>
          first
          | (exfalso; omega)
          | (have hb : bq = false := by rw [hbq, decide_eq_false h2]; simp
             go_wp2_with fail
             go_meet
             exact ⟨by first | (rw [hb]; done) | (rw [hb]; rfl) | (rw [hb]; simp), Q.refl _⟩)
        by_cases h3 : cut < (S2.size : Int)
        case neg =>
          first
          | (exfalso; omega)
          | (have hb : bq = false := by rw [hbq, decide_eq_false h3]; simp
             go_wp2_with fail
             go_meet
             exact ⟨by first | (rw [hb]; done) | (rw [hb]; rfl) | (rw [hb]; simp), Q.refl _⟩)
        have hb : bq = true := by rw [hbq, decide_eq_true h2, decide_eq_true h3]; rfl
        go_wp2_with fail
        go_meet
        exact ⟨by first | (rw [hb]; done) | (rw [hb]; rfl) | (rw [hb]; simp), Q.refl _⟩
      case rest =>
        obtain ⟨rfl, qz⟩ := hcut
        have X3 := Lib.hid (X3.out.q qz)
        have X4 := Lib.hid (X4.out.q qz)
        have X12 := Lib.hid (X12.out.q qz)
        have X14 := Lib.hid (X14.out.q qz)
        have QF := Lib.hid (QF.out.trans qz)
        clear qz
        cases bq with
        | false =>
          clear hbq
          go_wp2
          go_ret
          exact ⟨by first | rfl | simp, QF.out⟩
        | true =>
          have hbq2 := hbq.symm
          rw [Bool.and_eq_true, decide_eq_true_eq, decide_eq_true_eq] at hbq2
          obtain ⟨h2, h3⟩ := hbq2
          clear hbq
          have hkS2 : cut.toNat < S2.size := by omega
          have hle : cut ≤ (S2.size : Int) := by omega
          have KC : Hid (∀ (s : ByteArray), s.data.toList = S2.data.toList.take cut.toNat → ∀ W, Q w W → Calls Tryd.prog 17 #[.string s] W fun e w' => ∃ A c, e = .returned (.tuple #[.agg #[.int .i64 0, .int .i64 0, .int .i64 0, .int .i64 0, .string ⟨#[]⟩, .bool false, .slice A 0 c, .bool false], .int .i64 3]) ∧ In_ pairK w' A 0 c [] ∧ Q W w') := Lib.hid (fun s hs W qz => by
            have hl := rep_len hm2
            have hz : s.size ≤ 2048 := by rw [← Rn.size_data, hs, List.length_take, Rn.size_data]; omega
            have h := ptakeP_any sa sc s W (hW.q qz) (by omega)
            have h4 : S2.data.toList = rep p := by rw [HS2.out, ba_data]
            rw [hs, h4, takeP_cut hm2 (by rw [← h4, Rn.size_data]; exact hkS2)] at h
            exact h)
          have KD : Hid (∀ W, Q w W → Calls Tryd.prog 17 #[.string (S2 ++ ⟨#[48]⟩)] W fun e w' => ∃ A c, e = .returned (.tuple #[.agg #[.int .i64 0, .int .i64 0, .int .i64 0, .int .i64 0, .string ⟨#[]⟩, .bool false, .slice A 0 c, .bool false], .int .i64 3]) ∧ In_ pairK w' A 0 c [] ∧ Q W w') := Lib.hid (fun W qz => by
            have hl := rep_len hm2
            have h4 : (S2 ++ ⟨#[48]⟩ : ByteArray).data.toList = rep p ++ [48] := by rw [HS2.out]; simp [ba_data]
            have h := ptakeP_any sa sc (S2 ++ ⟨#[48]⟩) W (hW.q qz) (by rw [ByteArray.size_append]; show S2.size + 1 ≤ _; omega)
            rw [h4, takeP_more 48 hm2] at h
            exact h)
          have c2 : ¬ 9223372036854775807 < S2.size + 1 := by omega
          have hlit2 : (⟨#[48]⟩ : ByteArray).size = 1 := rfl
          go_wp2_with fail
          refine (KC.out _ (by simp) _ QF.out).mono ?_
          rintro e16 v16 ⟨A16, c16, rfl, i16, q16⟩
          clear i16
          have qa := (Q.refl v16).alloc (.cells #[.int .i64 0, .int .i64 0, .int .i64 0, .int .i64 0, .string ⟨#[]⟩, .bool false, .slice A16 0 c16, .bool false] 40)
          replace X3 := Lib.hid ((X3.out.q q16).q qa)
          replace X4 := Lib.hid ((X4.out.q q16).q qa)
          replace X12 := Lib.hid ((X12.out.q q16).q qa)
          replace X14 := Lib.hid ((X14.out.q q16).q qa)
          replace QF := Lib.hid ((QF.out.trans q16).trans qa)
          have X16 : Hid (Bx (v16.alloc (.cells #[.int .i64 0, .int .i64 0, .int .i64 0, .int .i64 0, .string ⟨#[]⟩, .bool false, .slice A16 0 c16, .bool false] 40)) v16.heap.size [.int .i64 0, .int .i64 0, .int .i64 0, .int .i64 0, .string ⟨#[]⟩, .bool false, .slice A16 0 c16, .bool false]) := Lib.hid (Bx.new v16 [.int .i64 0, .int .i64 0, .int .i64 0, .int .i64 0, .string ⟨#[]⟩, .bool false, .slice A16 0 c16, .bool false] 40)
          clear qa q16
          go_upto_region 11 with (fail)
          generalize v16.alloc (.cells #[.int .i64 0, .int .i64 0, .int .i64 0, .int .i64 0, .string ⟨#[]⟩, .bool false, .slice A16 0 c16, .bool false] 40) = W16 at X3 X4 X12 X14 X16 QF ⊢
          generalize v16.heap.size = b16 at X16 ⊢
          go_wp2_with fail
          refine (KD.out _ QF.out).mono ?_
          rintro e18 v18 ⟨A18, c18, rfl, i18, q18⟩
          clear i18
          have qa := (Q.refl v18).alloc (.cells #[.int .i64 0, .int .i64 0, .int .i64 0, .int .i64 0, .string ⟨#[]⟩, .bool false, .slice A18 0 c18, .bool false] 40)
          replace X3 := Lib.hid ((X3.out.q q18).q qa)
          replace X4 := Lib.hid ((X4.out.q q18).q qa)
          replace X12 := Lib.hid ((X12.out.q q18).q qa)
          replace X14 := Lib.hid ((X14.out.q q18).q qa)
          replace X16 := Lib.hid ((X16.out.q q18).q qa)
          replace QF := Lib.hid ((QF.out.trans q18).trans qa)
          have X18 : Hid (Bx (v18.alloc (.cells #[.int .i64 0, .int .i64 0, .int .i64 0, .int .i64 0, .string ⟨#[]⟩, .bool false, .slice A18 0 c18, .bool false] 40)) v18.heap.size [.int .i64 0, .int .i64 0, .int .i64 0, .int .i64 0, .string ⟨#[]⟩, .bool false, .slice A18 0 c18, .bool false]) := Lib.hid (Bx.new v18 [.int .i64 0, .int .i64 0, .int .i64 0, .int .i64 0, .string ⟨#[]⟩, .bool false, .slice A18 0 c18, .bool false] 40)
          clear qa q18
          go_upto_region 12 with (fail)
          generalize v18.alloc (.cells #[.int .i64 0, .int .i64 0, .int .i64 0, .int .i64 0, .string ⟨#[]⟩, .bool false, .slice A18 0 c18, .bool false] 40) = W18 at X3 X4 X12 X14 X16 X18 QF ⊢
          generalize v18.heap.size = b18 at X18 ⊢
          go_wp2
          go_ret
          exact ⟨by first | rfl | simp, QF.out⟩
set_option maxRecDepth 100000 in
set_option maxHeartbeats 8000000 in
theorem walk01 (q : Rq) (p : Rp) (A : Option Addr) (N c : Nat) (cut : Int) (w : World) (sa sc : Addr) (hW : Wk w sa sc) (hne : sc ≠ sa) (hA : In_ pairK w A N c p.rows) (hp : RpIn p) (S S2 : ByteArray) (k1 : ∀ W, Calls Tryd.prog 9 #[.agg #[.int .i64 q.kind, .int .i64 q.epoch, .int .i64 q.sess, .int .i64 q.seq, .string q.tok, .int .i64 q.op.kind, .string q.op.key, .string q.op.val, .string q.op.lo, .string q.op.hi, .int .i64 q.op.most]] W fun e w' => e = .returned (.tuple #[.string S, .int .i64 0]) ∧ Q W w') (hss : S.size ≤ 1000) (hm : may q = true) (hS : S = ba (req q)) (k2 : ∀ W, Q w W → Calls Tryd.prog 15 #[.agg #[.int .i64 p.epoch, .int .i64 p.sess, .int .i64 p.seq, .int .i64 p.err, .string p.val, .bool p.found, .slice A N c, .bool p.over]] W fun e w' => e = .returned (.tuple #[.string S2, .int .i64 1]) ∧ Q W w') (hss2 : S2.size ≤ 2048) :
    Calls Tryd.prog 6 #[.agg #[.int .i64 q.kind, .int .i64 q.epoch, .int .i64 q.sess, .int .i64 q.seq, .string q.tok, .int .i64 q.op.kind, .string q.op.key, .string q.op.val, .string q.op.lo, .string q.op.hi, .int .i64 q.op.most], .agg #[.int .i64 p.epoch, .int .i64 p.sess, .int .i64 p.seq, .int .i64 p.err, .string p.val, .bool p.found, .slice A N c, .bool p.over], .int .i64 cut] w fun e w' => e = .returned (.bool true) ∧ Q w w' := by
  have K0 := Lib.hid (fun W => wishown_any W)
  have X3 : Hid (Bx (w.alloc (.cells #[.int .i64 q.kind, .int .i64 q.epoch, .int .i64 q.sess, .int .i64 q.seq, .string q.tok, .int .i64 q.op.kind, .string q.op.key, .string q.op.val, .string q.op.lo, .string q.op.hi, .int .i64 q.op.most] 25)) w.heap.size [.int .i64 q.kind, .int .i64 q.epoch, .int .i64 q.sess, .int .i64 q.seq, .string q.tok, .int .i64 q.op.kind, .string q.op.key, .string q.op.val, .string q.op.lo, .string q.op.hi, .int .i64 q.op.most]) := Lib.hid (Bx.new w [.int .i64 q.kind, .int .i64 q.epoch, .int .i64 q.sess, .int .i64 q.seq, .string q.tok, .int .i64 q.op.kind, .string q.op.key, .string q.op.val, .string q.op.lo, .string q.op.hi, .int .i64 q.op.most] 25)
  have QF := Lib.hid ((Q.refl w).alloc (.cells #[.int .i64 q.kind, .int .i64 q.epoch, .int .i64 q.sess, .int .i64 q.seq, .string q.tok, .int .i64 q.op.kind, .string q.op.key, .string q.op.val, .string q.op.lo, .string q.op.hi, .int .i64 q.op.most] 25))
  have X3 := Lib.hid (X3.out.alloc (.cells #[.int .i64 p.epoch, .int .i64 p.sess, .int .i64 p.seq, .int .i64 p.err, .string p.val, .bool p.found, .slice A N c, .bool p.over] 40))
  have X4 : Hid (Bx ((w.alloc (.cells #[.int .i64 q.kind, .int .i64 q.epoch, .int .i64 q.sess, .int .i64 q.seq, .string q.tok, .int .i64 q.op.kind, .string q.op.key, .string q.op.val, .string q.op.lo, .string q.op.hi, .int .i64 q.op.most] 25)).alloc (.cells #[.int .i64 p.epoch, .int .i64 p.sess, .int .i64 p.seq, .int .i64 p.err, .string p.val, .bool p.found, .slice A N c, .bool p.over] 40)) (w.alloc (.cells #[.int .i64 q.kind, .int .i64 q.epoch, .int .i64 q.sess, .int .i64 q.seq, .string q.tok, .int .i64 q.op.kind, .string q.op.key, .string q.op.val, .string q.op.lo, .string q.op.hi, .int .i64 q.op.most] 25)).heap.size [.int .i64 p.epoch, .int .i64 p.sess, .int .i64 p.seq, .int .i64 p.err, .string p.val, .bool p.found, .slice A N c, .bool p.over]) := Lib.hid (Bx.new (w.alloc (.cells #[.int .i64 q.kind, .int .i64 q.epoch, .int .i64 q.sess, .int .i64 q.seq, .string q.tok, .int .i64 q.op.kind, .string q.op.key, .string q.op.val, .string q.op.lo, .string q.op.hi, .int .i64 q.op.most] 25)) [.int .i64 p.epoch, .int .i64 p.sess, .int .i64 p.seq, .int .i64 p.err, .string p.val, .bool p.found, .slice A N c, .bool p.over] 40)
  have QF := Lib.hid (QF.out.alloc (.cells #[.int .i64 p.epoch, .int .i64 p.sess, .int .i64 p.seq, .int .i64 p.err, .string p.val, .bool p.found, .slice A N c, .bool p.over] 40))
  rw [show (w.alloc (.cells #[.int .i64 q.kind, .int .i64 q.epoch, .int .i64 q.sess, .int .i64 q.seq, .string q.tok, .int .i64 q.op.kind, .string q.op.key, .string q.op.val, .string q.op.lo, .string q.op.hi, .int .i64 q.op.most] 25)).heap.size = w.heap.size + 1 by simp] at X4
  have K1 := Lib.hid k1
  have K2 := Lib.hid k2
  clear k1 k2 hA
  have HS := Lib.hid hS
  clear hS
  go_enter Tryd.func6, Tryd.ntmps6
  go_upto_region 1 with (fail)
  generalize ((w.alloc (.cells #[.int .i64 q.kind, .int .i64 q.epoch, .int .i64 q.sess, .int .i64 q.seq, .string q.tok, .int .i64 q.op.kind, .string q.op.key, .string q.op.val, .string q.op.lo, .string q.op.hi, .int .i64 q.op.most] 25)).alloc (.cells #[.int .i64 p.epoch, .int .i64 p.sess, .int .i64 p.seq, .int .i64 p.err, .string p.val, .bool p.found, .slice A N c, .bool p.over] 40)) = W0 at X3 X4 QF ⊢
  generalize hb2 : w.heap.size = b3 at X3 X4 ⊢
  generalize hb3 : b3 + 1 = b4 at X4 ⊢
  clear hb2 hb3
  go_wp2_with fail
  refine (K0.out _).mono ?_
  rintro e0 v0 ⟨rfl, q0⟩
  replace X3 := Lib.hid (X3.out.q q0)
  replace X4 := Lib.hid (X4.out.q q0)
  replace QF := Lib.hid (QF.out.trans q0)
  clear q0
  have x3_0 := (X3.out 0 _ rfl).1
  have x3_1 := (X3.out 1 _ rfl).1
  have x3_2 := (X3.out 2 _ rfl).1
  have x3_3 := (X3.out 3 _ rfl).1
  have x3_4 := (X3.out 4 _ rfl).1
  have x3_5 := (X3.out 5 _ rfl).1
  have x3_6 := (X3.out 6 _ rfl).1
  have x3_7 := (X3.out 7 _ rfl).1
  have x3_8 := (X3.out 8 _ rfl).1
  have x3_9 := (X3.out 9 _ rfl).1
  have x3_10 := (X3.out 10 _ rfl).1
  go_wp2_with fail
  refine (K1.out _).mono ?_
  rintro e1 v1 ⟨rfl, q1⟩
  clear x3_0 x3_1 x3_2 x3_3 x3_4 x3_5 x3_6 x3_7 x3_8 x3_9 x3_10
  replace X3 := Lib.hid (X3.out.q q1)
  replace X4 := Lib.hid (X4.out.q q1)
  replace QF := Lib.hid (QF.out.trans q1)
  clear q1
  have x4_0 := (X4.out 0 _ rfl).1
  have x4_1 := (X4.out 1 _ rfl).1
  have x4_2 := (X4.out 2 _ rfl).1
  have x4_3 := (X4.out 3 _ rfl).1
  have x4_4 := (X4.out 4 _ rfl).1
  have x4_5 := (X4.out 5 _ rfl).1
  have x4_6 := (X4.out 6 _ rfl).1
  have x4_7 := (X4.out 7 _ rfl).1
  go_wp2_with fail
  refine (K2.out _ QF.out).mono ?_
  rintro e2 v2 ⟨rfl, q2⟩
  clear x4_0 x4_1 x4_2 x4_3 x4_4 x4_5 x4_6 x4_7
  replace X3 := Lib.hid (X3.out.q q2)
  replace X4 := Lib.hid (X4.out.q q2)
  replace QF := Lib.hid (QF.out.trans q2)
  clear q2
  clear K0 K1 K2
  go_upto_region 4 with (fail)
  obtain ⟨bq, hbq⟩ : ∃ b, b = (decide (0 ≤ cut) && decide (cut < (S.size : Int))) := ⟨_, rfl⟩
  go_cut [42] (fun sx wx => sx = .bool bq ∧ Q v2 wx)
  case first =>
    by_cases h2 : 0 ≤ cut
    case neg =>
      first
      | (exfalso; omega)
      | (have hb : bq = false := by rw [hbq, decide_eq_false h2]; simp
         go_wp2_with fail
         go_meet
         exact ⟨by first | (rw [hb]; done) | (rw [hb]; rfl) | (rw [hb]; simp), Q.refl _⟩)
    by_cases h3 : cut < (S.size : Int)
    case neg =>
      first
      | (exfalso; omega)
      | (have hb : bq = false := by rw [hbq, decide_eq_false h3]; simp
         go_wp2_with fail
         go_meet
         exact ⟨by first | (rw [hb]; done) | (rw [hb]; rfl) | (rw [hb]; simp), Q.refl _⟩)
    have hb : bq = true := by rw [hbq, decide_eq_true h2, decide_eq_true h3]; rfl
    go_wp2_with fail
    go_meet
    exact ⟨by first | (rw [hb]; done) | (rw [hb]; rfl) | (rw [hb]; simp), Q.refl _⟩
  case rest =>
    obtain ⟨rfl, qz⟩ := hcut
    have X3 := Lib.hid (X3.out.q qz)
    have X4 := Lib.hid (X4.out.q qz)
    have QF := Lib.hid (QF.out.trans qz)
    clear qz
    cases bq with
    | false =>
      clear hbq
      go_upto_region 9 with (fail)
      go_wp2
      go_ret
      exact ⟨by first | rfl | simp, QF.out⟩
    | true =>
      have hbq2 := hbq.symm
      rw [Bool.and_eq_true, decide_eq_true_eq, decide_eq_true_eq] at hbq2
      obtain ⟨h2, h3⟩ := hbq2
      clear hbq
      have hkS : cut.toNat < S.size := by omega
      have hle : cut ≤ (S.size : Int) := by omega
      have KA : Hid (∀ (s : ByteArray), s.data.toList = S.data.toList.take cut.toNat → ∀ W, Q w W → Calls Tryd.prog 11 #[.string s] W fun e w' => e = .returned (.tuple #[.agg #[.int .i64 0, .int .i64 0, .int .i64 0, .int .i64 0, .string ⟨#[]⟩, .int .i64 0, .string ⟨#[]⟩, .string ⟨#[]⟩, .string ⟨#[]⟩, .string ⟨#[]⟩, .int .i64 0], .int .i64 3]) ∧ Q W w') := Lib.hid (fun s hs W qz => by
        have hl := req_len hm
        have hz : s.size ≤ 1000 := by rw [← Rn.size_data, hs, List.length_take, Rn.size_data]; omega
        have h := ptakeQ_any sa sc s W (hW.q qz) hne (by omega)
        have h4 : S.data.toList = req q := by rw [HS.out, ba_data]
        rw [hs, h4, takeQ_cut hm (by omega) (by rw [← h4, Rn.size_data]; exact hkS)] at h
        exact h)
      have KB : Hid (∀ W, Q w W → Calls Tryd.prog 11 #[.string (S ++ ⟨#[48]⟩)] W fun e w' => e = .returned (.tuple #[.agg #[.int .i64 0, .int .i64 0, .int .i64 0, .int .i64 0, .string ⟨#[]⟩, .int .i64 0, .string ⟨#[]⟩, .string ⟨#[]⟩, .string ⟨#[]⟩, .string ⟨#[]⟩, .int .i64 0], .int .i64 3]) ∧ Q W w') := Lib.hid (fun W qz => by
        have hl := req_len hm
        have h4 : (S ++ ⟨#[48]⟩ : ByteArray).data.toList = req q ++ [48] := by rw [HS.out]; simp [ba_data]
        have h := ptakeQ_any sa sc (S ++ ⟨#[48]⟩) W (hW.q qz) hne (by rw [ByteArray.size_append]; show S.size + 1 ≤ _; omega)
        rw [h4, takeQ_more 48 hm (by omega)] at h
        exact h)
      have c1 : ¬ 9223372036854775807 < S.size + 1 := by omega
      have hlit : (⟨#[48]⟩ : ByteArray).size = 1 := rfl
      go_wp2_with fail
      refine (KA.out _ (by simp) _ QF.out).mono ?_
      rintro e12 v12 ⟨rfl, q12⟩
      have qa := (Q.refl v12).alloc (.cells #[.int .i64 0, .int .i64 0, .int .i64 0, .int .i64 0, .string ⟨#[]⟩, .int .i64 0, .string ⟨#[]⟩, .string ⟨#[]⟩, .string ⟨#[]⟩, .string ⟨#[]⟩, .int .i64 0] 25)
      replace X3 := Lib.hid ((X3.out.q q12).q qa)
      replace X4 := Lib.hid ((X4.out.q q12).q qa)
      replace QF := Lib.hid ((QF.out.trans q12).trans qa)
      have X12 : Hid (Bx (v12.alloc (.cells #[.int .i64 0, .int .i64 0, .int .i64 0, .int .i64 0, .string ⟨#[]⟩, .int .i64 0, .string ⟨#[]⟩, .string ⟨#[]⟩, .string ⟨#[]⟩, .string ⟨#[]⟩, .int .i64 0] 25)) v12.heap.size [.int .i64 0, .int .i64 0, .int .i64 0, .int .i64 0, .string ⟨#[]⟩, .int .i64 0, .string ⟨#[]⟩, .string ⟨#[]⟩, .string ⟨#[]⟩, .string ⟨#[]⟩, .int .i64 0]) := Lib.hid (Bx.new v12 [.int .i64 0, .int .i64 0, .int .i64 0, .int .i64 0, .string ⟨#[]⟩, .int .i64 0, .string ⟨#[]⟩, .string ⟨#[]⟩, .string ⟨#[]⟩, .string ⟨#[]⟩, .int .i64 0] 25)
      clear qa q12
      go_upto_region 6 with (fail)
      generalize v12.alloc (.cells #[.int .i64 0, .int .i64 0, .int .i64 0, .int .i64 0, .string ⟨#[]⟩, .int .i64 0, .string ⟨#[]⟩, .string ⟨#[]⟩, .string ⟨#[]⟩, .string ⟨#[]⟩, .int .i64 0] 25) = W12 at X3 X4 X12 QF ⊢
      generalize v12.heap.size = b12 at X12 ⊢
      go_wp2_with fail
      refine (KB.out _ QF.out).mono ?_
      rintro e14 v14 ⟨rfl, q14⟩
      have qa := (Q.refl v14).alloc (.cells #[.int .i64 0, .int .i64 0, .int .i64 0, .int .i64 0, .string ⟨#[]⟩, .int .i64 0, .string ⟨#[]⟩, .string ⟨#[]⟩, .string ⟨#[]⟩, .string ⟨#[]⟩, .int .i64 0] 25)
      replace X3 := Lib.hid ((X3.out.q q14).q qa)
      replace X4 := Lib.hid ((X4.out.q q14).q qa)
      replace X12 := Lib.hid ((X12.out.q q14).q qa)
      replace QF := Lib.hid ((QF.out.trans q14).trans qa)
      have X14 : Hid (Bx (v14.alloc (.cells #[.int .i64 0, .int .i64 0, .int .i64 0, .int .i64 0, .string ⟨#[]⟩, .int .i64 0, .string ⟨#[]⟩, .string ⟨#[]⟩, .string ⟨#[]⟩, .string ⟨#[]⟩, .int .i64 0] 25)) v14.heap.size [.int .i64 0, .int .i64 0, .int .i64 0, .int .i64 0, .string ⟨#[]⟩, .int .i64 0, .string ⟨#[]⟩, .string ⟨#[]⟩, .string ⟨#[]⟩, .string ⟨#[]⟩, .int .i64 0]) := Lib.hid (Bx.new v14 [.int .i64 0, .int .i64 0, .int .i64 0, .int .i64 0, .string ⟨#[]⟩, .int .i64 0, .string ⟨#[]⟩, .string ⟨#[]⟩, .string ⟨#[]⟩, .string ⟨#[]⟩, .int .i64 0] 25)
      clear qa q14
      go_upto_region 7 with (fail)
      generalize v14.alloc (.cells #[.int .i64 0, .int .i64 0, .int .i64 0, .int .i64 0, .string ⟨#[]⟩, .int .i64 0, .string ⟨#[]⟩, .string ⟨#[]⟩, .string ⟨#[]⟩, .string ⟨#[]⟩, .int .i64 0] 25) = W14 at X3 X4 X12 X14 QF ⊢
      generalize v14.heap.size = b14 at X14 ⊢
      go_upto_region 9 with (fail)
      go_wp2
      go_ret
      exact ⟨by first | rfl | simp, QF.out⟩
set_option maxRecDepth 100000 in
set_option maxHeartbeats 8000000 in
theorem walk10 (q : Rq) (p : Rp) (A : Option Addr) (N c : Nat) (cut : Int) (w : World) (sa sc : Addr) (hW : Wk w sa sc) (hne : sc ≠ sa) (hA : In_ pairK w A N c p.rows) (hp : RpIn p) (S S2 : ByteArray) (k1 : ∀ W, Calls Tryd.prog 9 #[.agg #[.int .i64 q.kind, .int .i64 q.epoch, .int .i64 q.sess, .int .i64 q.seq, .string q.tok, .int .i64 q.op.kind, .string q.op.key, .string q.op.val, .string q.op.lo, .string q.op.hi, .int .i64 q.op.most]] W fun e w' => e = .returned (.tuple #[.string S, .int .i64 1]) ∧ Q W w') (hss : S.size ≤ 1000) (k2 : ∀ W, Q w W → Calls Tryd.prog 15 #[.agg #[.int .i64 p.epoch, .int .i64 p.sess, .int .i64 p.seq, .int .i64 p.err, .string p.val, .bool p.found, .slice A N c, .bool p.over]] W fun e w' => e = .returned (.tuple #[.string S2, .int .i64 0]) ∧ Q W w') (hss2 : S2.size ≤ 2048) (hm2 : mayP p = true) (hS2 : S2 = ba (rep p)) :
    Calls Tryd.prog 6 #[.agg #[.int .i64 q.kind, .int .i64 q.epoch, .int .i64 q.sess, .int .i64 q.seq, .string q.tok, .int .i64 q.op.kind, .string q.op.key, .string q.op.val, .string q.op.lo, .string q.op.hi, .int .i64 q.op.most], .agg #[.int .i64 p.epoch, .int .i64 p.sess, .int .i64 p.seq, .int .i64 p.err, .string p.val, .bool p.found, .slice A N c, .bool p.over], .int .i64 cut] w fun e w' => e = .returned (.bool true) ∧ Q w w' := by
  have K0 := Lib.hid (fun W => wishown_any W)
  have X3 : Hid (Bx (w.alloc (.cells #[.int .i64 q.kind, .int .i64 q.epoch, .int .i64 q.sess, .int .i64 q.seq, .string q.tok, .int .i64 q.op.kind, .string q.op.key, .string q.op.val, .string q.op.lo, .string q.op.hi, .int .i64 q.op.most] 25)) w.heap.size [.int .i64 q.kind, .int .i64 q.epoch, .int .i64 q.sess, .int .i64 q.seq, .string q.tok, .int .i64 q.op.kind, .string q.op.key, .string q.op.val, .string q.op.lo, .string q.op.hi, .int .i64 q.op.most]) := Lib.hid (Bx.new w [.int .i64 q.kind, .int .i64 q.epoch, .int .i64 q.sess, .int .i64 q.seq, .string q.tok, .int .i64 q.op.kind, .string q.op.key, .string q.op.val, .string q.op.lo, .string q.op.hi, .int .i64 q.op.most] 25)
  have QF := Lib.hid ((Q.refl w).alloc (.cells #[.int .i64 q.kind, .int .i64 q.epoch, .int .i64 q.sess, .int .i64 q.seq, .string q.tok, .int .i64 q.op.kind, .string q.op.key, .string q.op.val, .string q.op.lo, .string q.op.hi, .int .i64 q.op.most] 25))
  have X3 := Lib.hid (X3.out.alloc (.cells #[.int .i64 p.epoch, .int .i64 p.sess, .int .i64 p.seq, .int .i64 p.err, .string p.val, .bool p.found, .slice A N c, .bool p.over] 40))
  have X4 : Hid (Bx ((w.alloc (.cells #[.int .i64 q.kind, .int .i64 q.epoch, .int .i64 q.sess, .int .i64 q.seq, .string q.tok, .int .i64 q.op.kind, .string q.op.key, .string q.op.val, .string q.op.lo, .string q.op.hi, .int .i64 q.op.most] 25)).alloc (.cells #[.int .i64 p.epoch, .int .i64 p.sess, .int .i64 p.seq, .int .i64 p.err, .string p.val, .bool p.found, .slice A N c, .bool p.over] 40)) (w.alloc (.cells #[.int .i64 q.kind, .int .i64 q.epoch, .int .i64 q.sess, .int .i64 q.seq, .string q.tok, .int .i64 q.op.kind, .string q.op.key, .string q.op.val, .string q.op.lo, .string q.op.hi, .int .i64 q.op.most] 25)).heap.size [.int .i64 p.epoch, .int .i64 p.sess, .int .i64 p.seq, .int .i64 p.err, .string p.val, .bool p.found, .slice A N c, .bool p.over]) := Lib.hid (Bx.new (w.alloc (.cells #[.int .i64 q.kind, .int .i64 q.epoch, .int .i64 q.sess, .int .i64 q.seq, .string q.tok, .int .i64 q.op.kind, .string q.op.key, .string q.op.val, .string q.op.lo, .string q.op.hi, .int .i64 q.op.most] 25)) [.int .i64 p.epoch, .int .i64 p.sess, .int .i64 p.seq, .int .i64 p.err, .string p.val, .bool p.found, .slice A N c, .bool p.over] 40)
  have QF := Lib.hid (QF.out.alloc (.cells #[.int .i64 p.epoch, .int .i64 p.sess, .int .i64 p.seq, .int .i64 p.err, .string p.val, .bool p.found, .slice A N c, .bool p.over] 40))
  rw [show (w.alloc (.cells #[.int .i64 q.kind, .int .i64 q.epoch, .int .i64 q.sess, .int .i64 q.seq, .string q.tok, .int .i64 q.op.kind, .string q.op.key, .string q.op.val, .string q.op.lo, .string q.op.hi, .int .i64 q.op.most] 25)).heap.size = w.heap.size + 1 by simp] at X4
  have K1 := Lib.hid k1
  have K2 := Lib.hid k2
  clear k1 k2 hA
  have HS2 := Lib.hid hS2
  clear hS2
  go_enter Tryd.func6, Tryd.ntmps6
  go_upto_region 1 with (fail)
  generalize ((w.alloc (.cells #[.int .i64 q.kind, .int .i64 q.epoch, .int .i64 q.sess, .int .i64 q.seq, .string q.tok, .int .i64 q.op.kind, .string q.op.key, .string q.op.val, .string q.op.lo, .string q.op.hi, .int .i64 q.op.most] 25)).alloc (.cells #[.int .i64 p.epoch, .int .i64 p.sess, .int .i64 p.seq, .int .i64 p.err, .string p.val, .bool p.found, .slice A N c, .bool p.over] 40)) = W0 at X3 X4 QF ⊢
  generalize hb2 : w.heap.size = b3 at X3 X4 ⊢
  generalize hb3 : b3 + 1 = b4 at X4 ⊢
  clear hb2 hb3
  go_wp2_with fail
  refine (K0.out _).mono ?_
  rintro e0 v0 ⟨rfl, q0⟩
  replace X3 := Lib.hid (X3.out.q q0)
  replace X4 := Lib.hid (X4.out.q q0)
  replace QF := Lib.hid (QF.out.trans q0)
  clear q0
  have x3_0 := (X3.out 0 _ rfl).1
  have x3_1 := (X3.out 1 _ rfl).1
  have x3_2 := (X3.out 2 _ rfl).1
  have x3_3 := (X3.out 3 _ rfl).1
  have x3_4 := (X3.out 4 _ rfl).1
  have x3_5 := (X3.out 5 _ rfl).1
  have x3_6 := (X3.out 6 _ rfl).1
  have x3_7 := (X3.out 7 _ rfl).1
  have x3_8 := (X3.out 8 _ rfl).1
  have x3_9 := (X3.out 9 _ rfl).1
  have x3_10 := (X3.out 10 _ rfl).1
  go_wp2_with fail
  refine (K1.out _).mono ?_
  rintro e1 v1 ⟨rfl, q1⟩
  clear x3_0 x3_1 x3_2 x3_3 x3_4 x3_5 x3_6 x3_7 x3_8 x3_9 x3_10
  replace X3 := Lib.hid (X3.out.q q1)
  replace X4 := Lib.hid (X4.out.q q1)
  replace QF := Lib.hid (QF.out.trans q1)
  clear q1
  have x4_0 := (X4.out 0 _ rfl).1
  have x4_1 := (X4.out 1 _ rfl).1
  have x4_2 := (X4.out 2 _ rfl).1
  have x4_3 := (X4.out 3 _ rfl).1
  have x4_4 := (X4.out 4 _ rfl).1
  have x4_5 := (X4.out 5 _ rfl).1
  have x4_6 := (X4.out 6 _ rfl).1
  have x4_7 := (X4.out 7 _ rfl).1
  go_wp2_with fail
  refine (K2.out _ QF.out).mono ?_
  rintro e2 v2 ⟨rfl, q2⟩
  clear x4_0 x4_1 x4_2 x4_3 x4_4 x4_5 x4_6 x4_7
  replace X3 := Lib.hid (X3.out.q q2)
  replace X4 := Lib.hid (X4.out.q q2)
  replace QF := Lib.hid (QF.out.trans q2)
  clear q2
  clear K0 K1 K2
  go_upto_region 4 with (fail)
  go_upto_region 9 with (fail)
  obtain ⟨bq, hbq⟩ : ∃ b, b = (decide (0 ≤ cut) && decide (cut < (S2.size : Int))) := ⟨_, rfl⟩
  go_cut [73] (fun sx wx => sx = .bool bq ∧ Q v2 wx)
  case first =>
    by_cases h2 : 0 ≤ cut
    case neg =>
      first
      | (exfalso; omega)
      | (have hb : bq = false := by rw [hbq, decide_eq_false h2]; simp
         go_wp2_with fail
         go_meet
         exact ⟨by first | (rw [hb]; done) | (rw [hb]; rfl) | (rw [hb]; simp), Q.refl _⟩)
    by_cases h3 : cut < (S2.size : Int)
    case neg =>
      first
      | (exfalso; omega)
      | (have hb : bq = false := by rw [hbq, decide_eq_false h3]; simp
         go_wp2_with fail
         go_meet
         exact ⟨by first | (rw [hb]; done) | (rw [hb]; rfl) | (rw [hb]; simp), Q.refl _⟩)
    have hb : bq = true := by rw [hbq, decide_eq_true h2, decide_eq_true h3]; rfl
    go_wp2_with fail
    go_meet
    exact ⟨by first | (rw [hb]; done) | (rw [hb]; rfl) | (rw [hb]; simp), Q.refl _⟩
  case rest =>
    obtain ⟨rfl, qz⟩ := hcut
    have X3 := Lib.hid (X3.out.q qz)
    have X4 := Lib.hid (X4.out.q qz)
    have QF := Lib.hid (QF.out.trans qz)
    clear qz
    cases bq with
    | false =>
      clear hbq
      go_wp2
      go_ret
      exact ⟨by first | rfl | simp, QF.out⟩
    | true =>
      have hbq2 := hbq.symm
      rw [Bool.and_eq_true, decide_eq_true_eq, decide_eq_true_eq] at hbq2
      obtain ⟨h2, h3⟩ := hbq2
      clear hbq
      have hkS2 : cut.toNat < S2.size := by omega
      have hle : cut ≤ (S2.size : Int) := by omega
      have KC : Hid (∀ (s : ByteArray), s.data.toList = S2.data.toList.take cut.toNat → ∀ W, Q w W → Calls Tryd.prog 17 #[.string s] W fun e w' => ∃ A c, e = .returned (.tuple #[.agg #[.int .i64 0, .int .i64 0, .int .i64 0, .int .i64 0, .string ⟨#[]⟩, .bool false, .slice A 0 c, .bool false], .int .i64 3]) ∧ In_ pairK w' A 0 c [] ∧ Q W w') := Lib.hid (fun s hs W qz => by
        have hl := rep_len hm2
        have hz : s.size ≤ 2048 := by rw [← Rn.size_data, hs, List.length_take, Rn.size_data]; omega
        have h := ptakeP_any sa sc s W (hW.q qz) (by omega)
        have h4 : S2.data.toList = rep p := by rw [HS2.out, ba_data]
        rw [hs, h4, takeP_cut hm2 (by rw [← h4, Rn.size_data]; exact hkS2)] at h
        exact h)
      have KD : Hid (∀ W, Q w W → Calls Tryd.prog 17 #[.string (S2 ++ ⟨#[48]⟩)] W fun e w' => ∃ A c, e = .returned (.tuple #[.agg #[.int .i64 0, .int .i64 0, .int .i64 0, .int .i64 0, .string ⟨#[]⟩, .bool false, .slice A 0 c, .bool false], .int .i64 3]) ∧ In_ pairK w' A 0 c [] ∧ Q W w') := Lib.hid (fun W qz => by
        have hl := rep_len hm2
        have h4 : (S2 ++ ⟨#[48]⟩ : ByteArray).data.toList = rep p ++ [48] := by rw [HS2.out]; simp [ba_data]
        have h := ptakeP_any sa sc (S2 ++ ⟨#[48]⟩) W (hW.q qz) (by rw [ByteArray.size_append]; show S2.size + 1 ≤ _; omega)
        rw [h4, takeP_more 48 hm2] at h
        exact h)
      have c2 : ¬ 9223372036854775807 < S2.size + 1 := by omega
      have hlit2 : (⟨#[48]⟩ : ByteArray).size = 1 := rfl
      go_wp2_with fail
      refine (KC.out _ (by simp) _ QF.out).mono ?_
      rintro e16 v16 ⟨A16, c16, rfl, i16, q16⟩
      clear i16
      have qa := (Q.refl v16).alloc (.cells #[.int .i64 0, .int .i64 0, .int .i64 0, .int .i64 0, .string ⟨#[]⟩, .bool false, .slice A16 0 c16, .bool false] 40)
      replace X3 := Lib.hid ((X3.out.q q16).q qa)
      replace X4 := Lib.hid ((X4.out.q q16).q qa)
      replace QF := Lib.hid ((QF.out.trans q16).trans qa)
      have X16 : Hid (Bx (v16.alloc (.cells #[.int .i64 0, .int .i64 0, .int .i64 0, .int .i64 0, .string ⟨#[]⟩, .bool false, .slice A16 0 c16, .bool false] 40)) v16.heap.size [.int .i64 0, .int .i64 0, .int .i64 0, .int .i64 0, .string ⟨#[]⟩, .bool false, .slice A16 0 c16, .bool false]) := Lib.hid (Bx.new v16 [.int .i64 0, .int .i64 0, .int .i64 0, .int .i64 0, .string ⟨#[]⟩, .bool false, .slice A16 0 c16, .bool false] 40)
      clear qa q16
      go_upto_region 11 with (fail)
      generalize v16.alloc (.cells #[.int .i64 0, .int .i64 0, .int .i64 0, .int .i64 0, .string ⟨#[]⟩, .bool false, .slice A16 0 c16, .bool false] 40) = W16 at X3 X4 X16 QF ⊢
      generalize v16.heap.size = b16 at X16 ⊢
      go_wp2_with fail
      refine (KD.out _ QF.out).mono ?_
      rintro e18 v18 ⟨A18, c18, rfl, i18, q18⟩
      clear i18
      have qa := (Q.refl v18).alloc (.cells #[.int .i64 0, .int .i64 0, .int .i64 0, .int .i64 0, .string ⟨#[]⟩, .bool false, .slice A18 0 c18, .bool false] 40)
      replace X3 := Lib.hid ((X3.out.q q18).q qa)
      replace X4 := Lib.hid ((X4.out.q q18).q qa)
      replace X16 := Lib.hid ((X16.out.q q18).q qa)
      replace QF := Lib.hid ((QF.out.trans q18).trans qa)
      have X18 : Hid (Bx (v18.alloc (.cells #[.int .i64 0, .int .i64 0, .int .i64 0, .int .i64 0, .string ⟨#[]⟩, .bool false, .slice A18 0 c18, .bool false] 40)) v18.heap.size [.int .i64 0, .int .i64 0, .int .i64 0, .int .i64 0, .string ⟨#[]⟩, .bool false, .slice A18 0 c18, .bool false]) := Lib.hid (Bx.new v18 [.int .i64 0, .int .i64 0, .int .i64 0, .int .i64 0, .string ⟨#[]⟩, .bool false, .slice A18 0 c18, .bool false] 40)
      clear qa q18
      go_upto_region 12 with (fail)
      generalize v18.alloc (.cells #[.int .i64 0, .int .i64 0, .int .i64 0, .int .i64 0, .string ⟨#[]⟩, .bool false, .slice A18 0 c18, .bool false] 40) = W18 at X3 X4 X16 X18 QF ⊢
      generalize v18.heap.size = b18 at X18 ⊢
      go_wp2
      go_ret
      exact ⟨by first | rfl | simp, QF.out⟩
set_option maxRecDepth 100000 in
set_option maxHeartbeats 8000000 in
theorem walk11 (q : Rq) (p : Rp) (A : Option Addr) (N c : Nat) (cut : Int) (w : World) (sa sc : Addr) (hW : Wk w sa sc) (hne : sc ≠ sa) (hA : In_ pairK w A N c p.rows) (hp : RpIn p) (S S2 : ByteArray) (k1 : ∀ W, Calls Tryd.prog 9 #[.agg #[.int .i64 q.kind, .int .i64 q.epoch, .int .i64 q.sess, .int .i64 q.seq, .string q.tok, .int .i64 q.op.kind, .string q.op.key, .string q.op.val, .string q.op.lo, .string q.op.hi, .int .i64 q.op.most]] W fun e w' => e = .returned (.tuple #[.string S, .int .i64 1]) ∧ Q W w') (hss : S.size ≤ 1000) (k2 : ∀ W, Q w W → Calls Tryd.prog 15 #[.agg #[.int .i64 p.epoch, .int .i64 p.sess, .int .i64 p.seq, .int .i64 p.err, .string p.val, .bool p.found, .slice A N c, .bool p.over]] W fun e w' => e = .returned (.tuple #[.string S2, .int .i64 1]) ∧ Q W w') (hss2 : S2.size ≤ 2048) :
    Calls Tryd.prog 6 #[.agg #[.int .i64 q.kind, .int .i64 q.epoch, .int .i64 q.sess, .int .i64 q.seq, .string q.tok, .int .i64 q.op.kind, .string q.op.key, .string q.op.val, .string q.op.lo, .string q.op.hi, .int .i64 q.op.most], .agg #[.int .i64 p.epoch, .int .i64 p.sess, .int .i64 p.seq, .int .i64 p.err, .string p.val, .bool p.found, .slice A N c, .bool p.over], .int .i64 cut] w fun e w' => e = .returned (.bool true) ∧ Q w w' := by
  have K0 := Lib.hid (fun W => wishown_any W)
  have X3 : Hid (Bx (w.alloc (.cells #[.int .i64 q.kind, .int .i64 q.epoch, .int .i64 q.sess, .int .i64 q.seq, .string q.tok, .int .i64 q.op.kind, .string q.op.key, .string q.op.val, .string q.op.lo, .string q.op.hi, .int .i64 q.op.most] 25)) w.heap.size [.int .i64 q.kind, .int .i64 q.epoch, .int .i64 q.sess, .int .i64 q.seq, .string q.tok, .int .i64 q.op.kind, .string q.op.key, .string q.op.val, .string q.op.lo, .string q.op.hi, .int .i64 q.op.most]) := Lib.hid (Bx.new w [.int .i64 q.kind, .int .i64 q.epoch, .int .i64 q.sess, .int .i64 q.seq, .string q.tok, .int .i64 q.op.kind, .string q.op.key, .string q.op.val, .string q.op.lo, .string q.op.hi, .int .i64 q.op.most] 25)
  have QF := Lib.hid ((Q.refl w).alloc (.cells #[.int .i64 q.kind, .int .i64 q.epoch, .int .i64 q.sess, .int .i64 q.seq, .string q.tok, .int .i64 q.op.kind, .string q.op.key, .string q.op.val, .string q.op.lo, .string q.op.hi, .int .i64 q.op.most] 25))
  have X3 := Lib.hid (X3.out.alloc (.cells #[.int .i64 p.epoch, .int .i64 p.sess, .int .i64 p.seq, .int .i64 p.err, .string p.val, .bool p.found, .slice A N c, .bool p.over] 40))
  have X4 : Hid (Bx ((w.alloc (.cells #[.int .i64 q.kind, .int .i64 q.epoch, .int .i64 q.sess, .int .i64 q.seq, .string q.tok, .int .i64 q.op.kind, .string q.op.key, .string q.op.val, .string q.op.lo, .string q.op.hi, .int .i64 q.op.most] 25)).alloc (.cells #[.int .i64 p.epoch, .int .i64 p.sess, .int .i64 p.seq, .int .i64 p.err, .string p.val, .bool p.found, .slice A N c, .bool p.over] 40)) (w.alloc (.cells #[.int .i64 q.kind, .int .i64 q.epoch, .int .i64 q.sess, .int .i64 q.seq, .string q.tok, .int .i64 q.op.kind, .string q.op.key, .string q.op.val, .string q.op.lo, .string q.op.hi, .int .i64 q.op.most] 25)).heap.size [.int .i64 p.epoch, .int .i64 p.sess, .int .i64 p.seq, .int .i64 p.err, .string p.val, .bool p.found, .slice A N c, .bool p.over]) := Lib.hid (Bx.new (w.alloc (.cells #[.int .i64 q.kind, .int .i64 q.epoch, .int .i64 q.sess, .int .i64 q.seq, .string q.tok, .int .i64 q.op.kind, .string q.op.key, .string q.op.val, .string q.op.lo, .string q.op.hi, .int .i64 q.op.most] 25)) [.int .i64 p.epoch, .int .i64 p.sess, .int .i64 p.seq, .int .i64 p.err, .string p.val, .bool p.found, .slice A N c, .bool p.over] 40)
  have QF := Lib.hid (QF.out.alloc (.cells #[.int .i64 p.epoch, .int .i64 p.sess, .int .i64 p.seq, .int .i64 p.err, .string p.val, .bool p.found, .slice A N c, .bool p.over] 40))
  rw [show (w.alloc (.cells #[.int .i64 q.kind, .int .i64 q.epoch, .int .i64 q.sess, .int .i64 q.seq, .string q.tok, .int .i64 q.op.kind, .string q.op.key, .string q.op.val, .string q.op.lo, .string q.op.hi, .int .i64 q.op.most] 25)).heap.size = w.heap.size + 1 by simp] at X4
  have K1 := Lib.hid k1
  have K2 := Lib.hid k2
  clear k1 k2 hA
  go_enter Tryd.func6, Tryd.ntmps6
  go_upto_region 1 with (fail)
  generalize ((w.alloc (.cells #[.int .i64 q.kind, .int .i64 q.epoch, .int .i64 q.sess, .int .i64 q.seq, .string q.tok, .int .i64 q.op.kind, .string q.op.key, .string q.op.val, .string q.op.lo, .string q.op.hi, .int .i64 q.op.most] 25)).alloc (.cells #[.int .i64 p.epoch, .int .i64 p.sess, .int .i64 p.seq, .int .i64 p.err, .string p.val, .bool p.found, .slice A N c, .bool p.over] 40)) = W0 at X3 X4 QF ⊢
  generalize hb2 : w.heap.size = b3 at X3 X4 ⊢
  generalize hb3 : b3 + 1 = b4 at X4 ⊢
  clear hb2 hb3
  go_wp2_with fail
  refine (K0.out _).mono ?_
  rintro e0 v0 ⟨rfl, q0⟩
  replace X3 := Lib.hid (X3.out.q q0)
  replace X4 := Lib.hid (X4.out.q q0)
  replace QF := Lib.hid (QF.out.trans q0)
  clear q0
  have x3_0 := (X3.out 0 _ rfl).1
  have x3_1 := (X3.out 1 _ rfl).1
  have x3_2 := (X3.out 2 _ rfl).1
  have x3_3 := (X3.out 3 _ rfl).1
  have x3_4 := (X3.out 4 _ rfl).1
  have x3_5 := (X3.out 5 _ rfl).1
  have x3_6 := (X3.out 6 _ rfl).1
  have x3_7 := (X3.out 7 _ rfl).1
  have x3_8 := (X3.out 8 _ rfl).1
  have x3_9 := (X3.out 9 _ rfl).1
  have x3_10 := (X3.out 10 _ rfl).1
  go_wp2_with fail
  refine (K1.out _).mono ?_
  rintro e1 v1 ⟨rfl, q1⟩
  clear x3_0 x3_1 x3_2 x3_3 x3_4 x3_5 x3_6 x3_7 x3_8 x3_9 x3_10
  replace X3 := Lib.hid (X3.out.q q1)
  replace X4 := Lib.hid (X4.out.q q1)
  replace QF := Lib.hid (QF.out.trans q1)
  clear q1
  have x4_0 := (X4.out 0 _ rfl).1
  have x4_1 := (X4.out 1 _ rfl).1
  have x4_2 := (X4.out 2 _ rfl).1
  have x4_3 := (X4.out 3 _ rfl).1
  have x4_4 := (X4.out 4 _ rfl).1
  have x4_5 := (X4.out 5 _ rfl).1
  have x4_6 := (X4.out 6 _ rfl).1
  have x4_7 := (X4.out 7 _ rfl).1
  go_wp2_with fail
  refine (K2.out _ QF.out).mono ?_
  rintro e2 v2 ⟨rfl, q2⟩
  clear x4_0 x4_1 x4_2 x4_3 x4_4 x4_5 x4_6 x4_7
  replace X3 := Lib.hid (X3.out.q q2)
  replace X4 := Lib.hid (X4.out.q q2)
  replace QF := Lib.hid (QF.out.trans q2)
  clear q2
  clear K0 K1 K2
  go_upto_region 4 with (fail)
  go_upto_region 9 with (fail)
  go_wp2
  go_ret
  exact ⟨by first | rfl | simp, QF.out⟩
theorem walk (q : Rq) (p : Rp) (A : Option Addr) (N c : Nat) (cut : Int) (w : World) (sa sc : Addr) (hW : Wk w sa sc) (hne : sc ≠ sa) (hq : RqIn q) (hA : In_ pairK w A N c p.rows) (hb : N * 32 ≤ 140737488351232) (hp : RpIn p) (hc : -9223372036854775808 ≤ cut ∧ cut ≤ 9223372036854775807) :
    Calls Tryd.prog 6 #[.agg #[.int .i64 q.kind, .int .i64 q.epoch, .int .i64 q.sess, .int .i64 q.seq, .string q.tok, .int .i64 q.op.kind, .string q.op.key, .string q.op.val, .string q.op.lo, .string q.op.hi, .int .i64 q.op.most], .agg #[.int .i64 p.epoch, .int .i64 p.sess, .int .i64 p.seq, .int .i64 p.err, .string p.val, .bool p.found, .slice A N c, .bool p.over], .int .i64 cut] w fun e w' => e = .returned (.bool true) ∧ Q w w' := by
  have hkA := keys_in hp.r
  cases hm : may q with
  | true =>
    have k1 := fun W => preq_any q W
    have hl := req_len hm
    rw [show reqM q = (req q, 0) by unfold reqM; rw [hm]; rfl] at k1
    cases hm2 : mayP p with
    | true =>
      have k2 := fun W (r : Q w W) => prep_any p A N c W (hA.lst.q r) hA.max hkA
      have hl2 := rep_len hm2
      rw [show repM p = (rep p, 0) by unfold repM; rw [hm2]; rfl] at k2
      exact walk00 q p A N c cut w sa sc hW hne hA hp (ba (req q)) (ba (rep p)) k1 (by rw [ba_size]; omega) hm rfl k2 (by rw [ba_size]; omega) hm2 rfl
    | false =>
      have k2 := fun W (r : Q w W) => prep_any p A N c W (hA.lst.q r) hA.max hkA
      rw [show repM p = ([], 1) by unfold repM; rw [hm2]; rfl] at k2
      exact walk01 q p A N c cut w sa sc hW hne hA hp (ba (req q)) (ba []) k1 (by rw [ba_size]; omega) hm rfl k2 (by rw [ba_size]; simp)
  | false =>
    have k1 := fun W => preq_any q W
    rw [show reqM q = ([], 1) by unfold reqM; rw [hm]; rfl] at k1
    cases hm2 : mayP p with
    | true =>
      have k2 := fun W (r : Q w W) => prep_any p A N c W (hA.lst.q r) hA.max hkA
      have hl2 := rep_len hm2
      rw [show repM p = (rep p, 0) by unfold repM; rw [hm2]; rfl] at k2
      exact walk10 q p A N c cut w sa sc hW hne hA hp (ba []) (ba (rep p)) k1 (by rw [ba_size]; simp) k2 (by rw [ba_size]; omega) hm2 rfl
    | false =>
      have k2 := fun W (r : Q w W) => prep_any p A N c W (hA.lst.q r) hA.max hkA
      rw [show repM p = ([], 1) by unfold repM; rw [hm2]; rfl] at k2
      exact walk11 q p A N c cut w sa sc hW hne hA hp (ba []) (ba []) k1 (by rw [ba_size]; simp) k2 (by rw [ba_size]; simp)

theorem opened (W : World) (args : Array Value) (hn : args.size = 3) (h : ∀ (j : Nat) t v, Tryd.f6.params[j]? = some t → args[j]? = some v → RdV W t v ∧ (false = true → RdU W t v.cells.toList)) (hL : laidMetH Tryd.prog Rows.wireCutRow.laid W) :
    Calls Tryd.prog 6 args W fun e W' => e = .returned (.bool true) ∧ Q W W' := by
  obtain ⟨v0, v1, v2, rfl⟩ := args3 hn
  rw [Tryd.params6] at h
  obtain ⟨cs0, e0, r0⟩ := (h 0 25 v0 rfl rfl).1.struct Tryd.underlying25
  obtain ⟨q, f0, p0⟩ := Wi.open_req r0
  subst f0
  obtain ⟨cs1, e1, r1⟩ := (h 1 40 v1 rfl rfl).1.struct Tryd.underlying40
  obtain ⟨p, A1, n1, c1, f1, hd1, hb1, hp1⟩ := open_reply r1
  subst f1
  obtain ⟨cut, e2, s2⟩ := (h 2 3 v2 rfl rfl).1.int Tryd.underlying3
  subst e0 e1 e2
  obtain ⟨sa, sc, hW, hne⟩ := wk_laid hL
  exact walk q p A1 n1 c1 cut W sa sc hW hne p0 hd1 hb1 hp1 (wf_i64 s2)

theorem start_met (os : Os) : laidMetH Tryd.prog Rows.wireCutRow.laid ((World.doorLaid Tryd.prog 600 os).forCall (fun _ _ => 0) ⟨#[], #[.agg #[.int .i64 0, .int .i64 0, .int .i64 0, .int .i64 0, .string ⟨#[]⟩, .int .i64 0, .string ⟨#[]⟩, .string ⟨#[]⟩, .string ⟨#[]⟩, .string ⟨#[]⟩, .int .i64 0], .agg #[.int .i64 0, .int .i64 0, .int .i64 0, .int .i64 0, .string ⟨#[]⟩, .bool false, .slice none 0 0, .bool false], .int .i64 0], []⟩).memory :=
  laidMetH_of_parts3 (fuel := 8) (laidMet_of_run' 8 (by kernel_rfl) (by kernel_rfl)) (by kernel_rfl) (by kernel_rfl)
theorem reads (os : Os) {H : Type} (enc : TypeId × Value → H) : ∃ places, DataW.whole enc Tryd.prog ((World.doorLaid Tryd.prog 600 os).forCall (fun _ _ => 0) ⟨#[], #[.agg #[.int .i64 0, .int .i64 0, .int .i64 0, .int .i64 0, .string ⟨#[]⟩, .int .i64 0, .string ⟨#[]⟩, .string ⟨#[]⟩, .string ⟨#[]⟩, .string ⟨#[]⟩, .int .i64 0], .agg #[.int .i64 0, .int .i64 0, .int .i64 0, .int .i64 0, .string ⟨#[]⟩, .bool false, .slice none 0 0, .bool false], .int .i64 0], []⟩).memory Tryd.f6.params.toList Rows.wireCutSpec.vars false (#[.agg #[.int .i64 0, .int .i64 0, .int .i64 0, .int .i64 0, .string ⟨#[]⟩, .int .i64 0, .string ⟨#[]⟩, .string ⟨#[]⟩, .string ⟨#[]⟩, .string ⟨#[]⟩, .int .i64 0], .agg #[.int .i64 0, .int .i64 0, .int .i64 0, .int .i64 0, .string ⟨#[]⟩, .bool false, .slice none 0 0, .bool false], .int .i64 0] : Array Value).toList 8 = some ([.agg [.lit (.int .i64 0), .lit (.int .i64 0), .lit (.int .i64 0), .lit (.int .i64 0), .lit (.string []), .agg [.lit (.int .i64 0), .lit (.string []), .lit (.string []), .lit (.string []), .lit (.string []), .lit (.int .i64 0)]], .agg [.lit (.int .i64 0), .lit (.int .i64 0), .lit (.int .i64 0), .lit (.int .i64 0), .lit (.string []), .lit (.bool false), .nil, .lit (.bool false)], .lit (.int .i64 0)], [], places) :=
  ⟨[], by kernel_rfl⟩

set_option maxRecDepth 100000 in
theorem lifted (os : Os) (started : os.Started) (H : Type) (enc : TypeId × Value → H) (F : Stop.Interp) :
    ReturnsInHanded {} Tryd.checked os 6 .any ((OpenSpec.ofChange Rows.wireCutSpec).preRow enc Tryd.prog Tryd.f6 Rows.wireCutRow.domain false Rows.wireCutRow.laid) (((OpenSpec.ofChange Rows.wireCutSpec).at F).post enc Tryd.prog Tryd.f6 false true false false) := by
  obtain ⟨places, hx⟩ := reads os enc
  refine returnsInHanded_of_row (C := Tryd.checked) (s := OpenSpec.ofChange Rows.wireCutSpec) ownKnob_ started (by kernel_rfl) Tryd.func6
    (witness_row_atRef (enc := enc) (C := Tryd.checked) false (World.doorLaid Tryd.prog 600 os) #[.agg #[.int .i64 0, .int .i64 0, .int .i64 0, .int .i64 0, .string ⟨#[]⟩, .int .i64 0, .string ⟨#[]⟩, .string ⟨#[]⟩, .string ⟨#[]⟩, .string ⟨#[]⟩, .int .i64 0], .agg #[.int .i64 0, .int .i64 0, .int .i64 0, .int .i64 0, .string ⟨#[]⟩, .bool false, .slice none 0 0, .bool false], .int .i64 0] rfl (by kernel_rfl) (by kernel_rfl) (by kernel_rfl)
      (OpenSpec.preRow_of_cond 8 hx (by kernel_rfl) (fun k hk => by cases hk) (by kernel_rfl) (start_met os))) ?_
  intro W base args ds gs before hval hW _ hcond hsz hL _ _
  exact framedC (s := Rows.wireCutSpec) false Rows.wireCutRow.laid 3 (by rw [Tryd.params6]; rfl) rfl (by kernel_rfl) (by kernel_rfl)
    (fun H ds h => by match ds, h with | [d0, d1, d2], _ => exact ⟨rfl, rfl, rfl⟩)
    opened H enc W base args ds gs before hval hW (fun h => by cases h) hsz hL

theorem over : Rows.WireCutSaid :=
  OpenClaim.holds_of_cond 6 Tryd.f6 rfl rfl rfl rfl rfl rfl rfl ⟨rfl, rfl, rfl, rfl, rfl⟩ rfl rfl rfl rfl rfl (by kernel_rfl) Tryd.func6 (by kernel_rfl)
    (of_decide_eq_true (by kernel_rfl)) (by unfold Func.isWrapper; first | (rw [if_pos (by decide +kernel)]; kernel_rfl) | (rw [if_neg (by decide +kernel)]; exact ⟨rfl, rfl⟩))
    (fun os started H enc _ F => by rw [OpenClaim.pre_eq_preRow]; exact lifted os started H enc F)

/-- No parameter wants a stand-in; the program's own looks are as the card says. -/
theorem plain (f : FuncId) (fn : Func) (hf : Tryd.pinned.checked.prog.funcNamed "stanchion/stanchionlaw16.WireCut" = some f) (hfn : Tryd.pinned.checked.prog.funcs[f]? = some fn) :
    true = Tryd.pinned.checked.prog.looks [] ∧ ∀ (j : Nat) t, fn.params[j]? = some t → Tryd.pinned.checked.prog.wantsStandIn t = false := by
  obtain rfl : f = 6 := Option.some.inj ((show Tryd.prog.funcNamed "stanchion/stanchionlaw16.WireCut" = some 6 by kernel_rfl).symm.trans hf) |>.symm
  obtain rfl : fn = Tryd.f6 := (Option.some.inj (Tryd.func6.symm.trans hfn)).symm
  refine ⟨by kernel_rfl, fun j t ht => ?_⟩
  have h0 : (Tryd.f6.params.toList.all fun t => !(Tryd.prog.wantsStandIn t)) = true := by kernel_rfl
  have h1 := List.all_eq_true.1 h0 t (by rw [← Array.getElem?_toList] at ht; exact List.mem_of_getElem? ht)
  exact (by simpa using h1 : Tryd.prog.wantsStandIn t = false)

theorem proved : Rows.WireCutCardSaid :=
  Claim7.holds_tied_plain_at .later [] _ _ _ _ over (fun _ h => by cases h) (by kernel_rfl) (fun _ h => by cases h) wireCut_row_tie rfl ⟨rfl, rfl⟩ (by kernel_rfl) rfl plain (by kernel_rfl)
end Go.Proofs.YtdipikdebapmlaaDoor.wireCut
