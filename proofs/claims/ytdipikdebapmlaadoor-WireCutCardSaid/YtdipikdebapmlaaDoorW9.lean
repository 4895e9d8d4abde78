/- WiTakeReq: merged. -/
import Derived.Test.YtdipikdebapmlaaDoorW3
import Derived.Test.YtdipikdebapmlaaDoorW7
import Derived.Deep.DeepCutAuto
/- The contract of the document's TakeReq (chapter 16). -/
namespace Go.Proofs.YtdipikdebapmlaaDoor
set_option maxRecDepth 100000
open Go.RowKit
set_option linter.unusedVariables false
set_option linter.unusedSimpArgs false

namespace Wi

theorem tkn_rest (p : Pt) : (tkn p).rest.length ≤ p.rest.length := by
  unfold tkn
  split
  · simp [pz]
  · exact Dm.tnum_len p.rest
theorem tkt_rest (m : Int) (p : Pt) : (tkt m p).rest.length ≤ p.rest.length := by
  cases h : (tkt m p).is with
  | true =>
    have e := (tkt_inv h).1
    rw [e]
    simp only [List.length_append]
    omega
  | false =>
    unfold tkt at h ⊢
    split
    · simp [pz]
    · rename_i h1; rw [if_neg h1] at h; cases h

set_option maxRecDepth 100000 in
set_option maxHeartbeats 8000000 in
theorem wtakeQ_any (s : ByteArray) (w : World) (hs : s.size ≤ 140737488355328) : Calls Tryd.prog 12 #[.string s] w fun e w' => e = .returned (.tuple #[rqV (takeQ s.data.toList).1, .int .i64 (takeQ s.data.toList).2]) ∧ Q w w' := by
  have hsz : s.data.toList.length = s.size := Rn.size_data s
  have X0 : Hid (Bx (w.alloc (.cells #[.int .i64 0, .int .i64 0, .int .i64 0, .int .i64 0, .string ⟨#[]⟩, .int .i64 0, .string ⟨#[]⟩, .string ⟨#[]⟩, .string ⟨#[]⟩, .string ⟨#[]⟩, .int .i64 0] 25)) w.heap.size [.int .i64 0, .int .i64 0, .int .i64 0, .int .i64 0, .string ⟨#[]⟩, .int .i64 0, .string ⟨#[]⟩, .string ⟨#[]⟩, .string ⟨#[]⟩, .string ⟨#[]⟩, .int .i64 0]) := Lib.hid (Bx.new w [.int .i64 0, .int .i64 0, .int .i64 0, .int .i64 0, .string ⟨#[]⟩, .int .i64 0, .string ⟨#[]⟩, .string ⟨#[]⟩, .string ⟨#[]⟩, .string ⟨#[]⟩, .int .i64 0] 25)
  have QF := Lib.hid ((Q.refl w).alloc (.cells #[.int .i64 0, .int .i64 0, .int .i64 0, .int .i64 0, .string ⟨#[]⟩, .int .i64 0, .string ⟨#[]⟩, .string ⟨#[]⟩, .string ⟨#[]⟩, .string ⟨#[]⟩, .int .i64 0] 25))
  by_cases hbig : 2048 < s.size
  · have HT : Hid (takeQ s.data.toList = (rq0, 4)) := Lib.hid (by unfold takeQ; rw [if_pos (by omega)])
    have hbi : (2048 : Int) < (s.size : Int) := by omega
    clear hsz
    go_enter Tryd.func12, Tryd.ntmps12
    go_upto_region 1 with (fail)
    generalize w.alloc (.cells #[.int .i64 0, .int .i64 0, .int .i64 0, .int .i64 0, .string ⟨#[]⟩, .int .i64 0, .string ⟨#[]⟩, .string ⟨#[]⟩, .string ⟨#[]⟩, .string ⟨#[]⟩, .int .i64 0] 25) = W0 at X0 QF ⊢
    have y0 := (X0.out 0 _ rfl).1
    have f0 := (X0.out 0 _ rfl).2
    have y1 := (X0.out 1 _ rfl).1
    have f1 := (X0.out 1 _ rfl).2
    have y2 := (X0.out 2 _ rfl).1
    have f2 := (X0.out 2 _ rfl).2
    have y3 := (X0.out 3 _ rfl).1
    have f3 := (X0.out 3 _ rfl).2
    have y4 := (X0.out 4 _ rfl).1
    have f4 := (X0.out 4 _ rfl).2
    have y5 := (X0.out 5 _ rfl).1
    have f5 := (X0.out 5 _ rfl).2
    have y6 := (X0.out 6 _ rfl).1
    have f6 := (X0.out 6 _ rfl).2
    have y7 := (X0.out 7 _ rfl).1
    have f7 := (X0.out 7 _ rfl).2
    have y8 := (X0.out 8 _ rfl).1
    have f8 := (X0.out 8 _ rfl).2
    have y9 := (X0.out 9 _ rfl).1
    have f9 := (X0.out 9 _ rfl).2
    have y10 := (X0.out 10 _ rfl).1
    have f10 := (X0.out 10 _ rfl).2
    have Z1 : Hid (Bx (((((((((((W0.setCell ⟨w.heap.size, 0, none⟩ (.int .i64 0)).setCell ⟨w.heap.size, 1, none⟩ (.int .i64 0)).setCell ⟨w.heap.size, 2, none⟩ (.int .i64 0)).setCell ⟨w.heap.size, 3, none⟩ (.int .i64 0)).setCell ⟨w.heap.size, 4, none⟩ (.string ⟨#[]⟩)).setCell ⟨w.heap.size, 5, none⟩ (.int .i64 0)).setCell ⟨w.heap.size, 6, none⟩ (.string ⟨#[]⟩)).setCell ⟨w.heap.size, 7, none⟩ (.string ⟨#[]⟩)).setCell ⟨w.heap.size, 8, none⟩ (.string ⟨#[]⟩)).setCell ⟨w.heap.size, 9, none⟩ (.string ⟨#[]⟩)).setCell ⟨w.heap.size, 10, none⟩ (.int .i64 0)) w.heap.size [.int .i64 0, .int .i64 0, .int .i64 0, .int .i64 0, .string ⟨#[]⟩, .int .i64 0, .string ⟨#[]⟩, .string ⟨#[]⟩, .string ⟨#[]⟩, .string ⟨#[]⟩, .int .i64 0]) := Lib.hid (Bx.puts [.int .i64 0, .int .i64 0, .int .i64 0, .int .i64 0, .string ⟨#[]⟩, .int .i64 0, .string ⟨#[]⟩, .string ⟨#[]⟩, .string ⟨#[]⟩, .string ⟨#[]⟩, .int .i64 0] [.int .i64 0, .int .i64 0, .int .i64 0, .int .i64 0, .string ⟨#[]⟩, .int .i64 0, .string ⟨#[]⟩, .string ⟨#[]⟩, .string ⟨#[]⟩, .string ⟨#[]⟩, .int .i64 0] [] X0.out rfl)
    have ZQ : Hid (Q w (((((((((((W0.setCell ⟨w.heap.size, 0, none⟩ (.int .i64 0)).setCell ⟨w.heap.size, 1, none⟩ (.int .i64 0)).setCell ⟨w.heap.size, 2, none⟩ (.int .i64 0)).setCell ⟨w.heap.size, 3, none⟩ (.int .i64 0)).setCell ⟨w.heap.size, 4, none⟩ (.string ⟨#[]⟩)).setCell ⟨w.heap.size, 5, none⟩ (.int .i64 0)).setCell ⟨w.heap.size, 6, none⟩ (.string ⟨#[]⟩)).setCell ⟨w.heap.size, 7, none⟩ (.string ⟨#[]⟩)).setCell ⟨w.heap.size, 8, none⟩ (.string ⟨#[]⟩)).setCell ⟨w.heap.size, 9, none⟩ (.string ⟨#[]⟩)).setCell ⟨w.heap.size, 10, none⟩ (.int .i64 0))) := Lib.hid (Q.sets (Nat.le_refl _) [.int .i64 0, .int .i64 0, .int .i64 0, .int .i64 0, .string ⟨#[]⟩, .int .i64 0, .string ⟨#[]⟩, .string ⟨#[]⟩, .string ⟨#[]⟩, .string ⟨#[]⟩, .int .i64 0] 0 QF.out)
    go_wp2
    generalize (((((((((((W0.setCell ⟨w.heap.size, 0, none⟩ (.int .i64 0)).setCell ⟨w.heap.size, 1, none⟩ (.int .i64 0)).setCell ⟨w.heap.size, 2, none⟩ (.int .i64 0)).setCell ⟨w.heap.size, 3, none⟩ (.int .i64 0)).setCell ⟨w.heap.size, 4, none⟩ (.string ⟨#[]⟩)).setCell ⟨w.heap.size, 5, none⟩ (.int .i64 0)).setCell ⟨w.heap.size, 6, none⟩ (.string ⟨#[]⟩)).setCell ⟨w.heap.size, 7, none⟩ (.string ⟨#[]⟩)).setCell ⟨w.heap.size, 8, none⟩ (.string ⟨#[]⟩)).setCell ⟨w.heap.size, 9, none⟩ (.string ⟨#[]⟩)).setCell ⟨w.heap.size, 10, none⟩ (.int .i64 0)) = W99 at Z1 ZQ ⊢
    have r0 := (Z1.out 0 _ rfl).1
    have r1 := (Z1.out 1 _ rfl).1
    have r2 := (Z1.out 2 _ rfl).1
    have r3 := (Z1.out 3 _ rfl).1
    have r4 := (Z1.out 4 _ rfl).1
    have r5 := (Z1.out 5 _ rfl).1
    have r6 := (Z1.out 6 _ rfl).1
    have r7 := (Z1.out 7 _ rfl).1
    have r8 := (Z1.out 8 _ rfl).1
    have r9 := (Z1.out 9 _ rfl).1
    have r10 := (Z1.out 10 _ rfl).1
    refine bodyPost_ret (v := .tuple #[.agg #[.int .i64 0, .int .i64 0, .int .i64 0, .int .i64 0, .string ⟨#[]⟩, .int .i64 0, .string ⟨#[]⟩, .string ⟨#[]⟩, .string ⟨#[]⟩, .string ⟨#[]⟩, .int .i64 0], .int .i64 4]) (by simp [results, Tryd.results12, go_sem, r0, r1, r2, r3, r4, r5, r6, r7, r8, r9, r10]) rfl ?_
    exact ⟨by rw [HT.out]; rfl, ZQ.out⟩

  have hbi : ¬ (2048 : Int) < (s.size : Int) := by omega
  have e0 : s = ba s.data.toList := (ba_of s).symm
  have hL : s.data.toList.length ≤ 2048 := by omega
  generalize s.data.toList = l at e0 hL ⊢
  obtain ⟨P1, h1⟩ : ∃ P, q1 l = P := ⟨_, rfl⟩
  obtain ⟨P2, h2⟩ : ∃ P, q2 l = P := ⟨_, rfl⟩
  obtain ⟨P3, h3⟩ : ∃ P, q3 l = P := ⟨_, rfl⟩
  obtain ⟨P4, h4⟩ : ∃ P, q4 l = P := ⟨_, rfl⟩
  obtain ⟨P5, h5⟩ : ∃ P, q5 l = P := ⟨_, rfl⟩
  have g1 : tkn (p0 l) = P1 := h1
  have g2 : tkn P1 = P2 := by rw [← h1]; exact h2
  have g3 : tkn P2 = P3 := by rw [← h2]; exact h3
  have g4 : tkn P3 = P4 := by rw [← h3]; exact h4
  have g5 : tkt 16 P4 = P5 := by rw [← h4]; exact h5
  have r0 : (p0 l).rest.length ≤ 2048 := hL
  have r1 : P1.rest.length ≤ 2048 := by rw [← g1]; exact Nat.le_trans (tkn_rest _) r0
  have r2 : P2.rest.length ≤ 2048 := by rw [← g2]; exact Nat.le_trans (tkn_rest _) r1
  have r3 : P3.rest.length ≤ 2048 := by rw [← g3]; exact Nat.le_trans (tkn_rest _) r2
  have r4 : P4.rest.length ≤ 2048 := by rw [← g4]; exact Nat.le_trans (tkn_rest _) r3
  have r5 : P5.rest.length ≤ 2048 := by rw [← g5]; exact Nat.le_trans (tkt_rest _ _) r4
  have K1 : Hid (∀ W, Calls Tryd.prog 27 #[.agg #[.int .i64 0, .string ⟨#[]⟩, .string s, .bool true]] W fun e w' => e = .returned (.agg #[.int .i64 (P1.n : Int), .string (ba P1.t), .string (ba P1.rest), .bool P1.is]) ∧ Q W w') := Lib.hid (fun W => by have h := takes_any (p0 l) W (by omega); rw [g1] at h; rw [e0]; exact h)
  have K2 : Hid (∀ W, Calls Tryd.prog 27 #[.agg #[.int .i64 (P1.n : Int), .string (ba P1.t), .string (ba P1.rest), .bool P1.is]] W fun e w' => e = .returned (.agg #[.int .i64 (P2.n : Int), .string (ba P2.t), .string (ba P2.rest), .bool P2.is]) ∧ Q W w') := Lib.hid (fun W => by have h := takes_any P1 W (by omega); rw [g2] at h; exact h)
  have K3 : Hid (∀ W, Calls Tryd.prog 27 #[.agg #[.int .i64 (P2.n : Int), .string (ba P2.t), .string (ba P2.rest), .bool P2.is]] W fun e w' => e = .returned (.agg #[.int .i64 (P3.n : Int), .string (ba P3.t), .string (ba P3.rest), .bool P3.is]) ∧ Q W w') := Lib.hid (fun W => by have h := takes_any P2 W (by omega); rw [g3] at h; exact h)
  have K4 : Hid (∀ W, Calls Tryd.prog 27 #[.agg #[.int .i64 (P3.n : Int), .string (ba P3.t), .string (ba P3.rest), .bool P3.is]] W fun e w' => e = .returned (.agg #[.int .i64 (P4.n : Int), .string (ba P4.t), .string (ba P4.rest), .bool P4.is]) ∧ Q W w') := Lib.hid (fun W => by have h := takes_any P3 W (by omega); rw [g4] at h; exact h)
  have K5 : Hid (∀ W, Calls Tryd.prog 28 #[.agg #[.int .i64 (P4.n : Int), .string (ba P4.t), .string (ba P4.rest), .bool P4.is], .int .i64 16] W fun e w' => e = .returned (.agg #[.int .i64 (P5.n : Int), .string (ba P5.t), .string (ba P5.rest), .bool P5.is]) ∧ Q W w') := Lib.hid (fun W => by have h := reads_any P4 16 W (by omega) (by omega); rw [g5] at h; exact h)
  have KM := Lib.hid (fun q W => wmay_any q W)
  have HQ : Hid (qOf l = ⟨(P1.n : Int), (P2.n : Int), (P3.n : Int), (P4.n : Int), ba P5.t, if P1.n = 5 then opOf P5 else op0⟩) := Lib.hid (by unfold qOf; rw [h1, h2, h3, h4, h5])
  have HLs : Hid (lastQ l = if P1.n = 5 then o6 P5 else P5) := Lib.hid (by unfold lastQ; rw [h1, h5])
  have HT : Hid (takeQ l = if (lastQ l).is = false ∨ (lastQ l).rest ≠ [] ∨ may (qOf l) = false then (rq0, 3) else (qOf l, 0)) := Lib.hid (by unfold takeQ; rw [if_neg (by omega)])
  have R5 := Lib.hid r5
  clear h1 h2 h3 h4 h5 g1 g2 g3 g4 g5 r0 r1 r2 r3 r4 r5 e0 hL hsz
  generalize takeQ l = res at HT ⊢
  generalize lastQ l = LL at HLs HT
  generalize qOf l = QQ at HQ HT
  go_enter Tryd.func12, Tryd.ntmps12
  go_upto_region 1 with (fail)
  generalize w.alloc (.cells #[.int .i64 0, .int .i64 0, .int .i64 0, .int .i64 0, .string ⟨#[]⟩, .int .i64 0, .string ⟨#[]⟩, .string ⟨#[]⟩, .string ⟨#[]⟩, .string ⟨#[]⟩, .int .i64 0] 25) = W0 at X0 QF ⊢
  generalize hb0 : w.heap.size = b0 at X0 ⊢
  have HB0 := Lib.hid hb0
  clear hb0
  go_wp2_with fail
  refine (K1.out _).mono ?_
  rintro e1 v1 ⟨rfl, q1⟩
  have qa := (Q.refl v1).alloc (.cells #[.int .i64 (P1.n : Int), .string (ba P1.t), .string (ba P1.rest), .bool P1.is] 62)
  replace X0 := Lib.hid ((X0.out.q q1).q qa)
  replace QF := Lib.hid ((QF.out.trans q1).trans qa)
  have X1 : Hid (Bx (v1.alloc (.cells #[.int .i64 (P1.n : Int), .string (ba P1.t), .string (ba P1.rest), .bool P1.is] 62)) v1.heap.size [.int .i64 (P1.n : Int), .string (ba P1.t), .string (ba P1.rest), .bool P1.is]) := Lib.hid (Bx.new v1 [.int .i64 (P1.n : Int), .string (ba P1.t), .string (ba P1.rest), .bool P1.is] 62)
  clear qa q1
  go_upto_region 4 with (fail)
  generalize v1.alloc (.cells #[.int .i64 (P1.n : Int), .string (ba P1.t), .string (ba P1.rest), .bool P1.is] 62) = W1 at X0 X1 QF ⊢
  generalize v1.heap.size = b1 at X1 ⊢
  have x0 := (X1.out 0 _ rfl).1
  have x1 := (X1.out 1 _ rfl).1
  have x2 := (X1.out 2 _ rfl).1
  have x3 := (X1.out 3 _ rfl).1
  go_wp2_with fail
  refine (K2.out _).mono ?_
  rintro e2 v2 ⟨rfl, q2⟩
  clear x0 x1 x2 x3
  have qa := (Q.refl v2).alloc (.cells #[.int .i64 (P2.n : Int), .string (ba P2.t), .string (ba P2.rest), .bool P2.is] 62)
  replace X0 := Lib.hid ((X0.out.q q2).q qa)
  replace X1 := Lib.hid ((X1.out.q q2).q qa)
  replace QF := Lib.hid ((QF.out.trans q2).trans qa)
  have X2 : Hid (Bx (v2.alloc (.cells #[.int .i64 (P2.n : Int), .string (ba P2.t), .string (ba P2.rest), .bool P2.is] 62)) v2.heap.size [.int .i64 (P2.n : Int), .string (ba P2.t), .string (ba P2.rest), .bool P2.is]) := Lib.hid (Bx.new v2 [.int .i64 (P2.n : Int), .string (ba P2.t), .string (ba P2.rest), .bool P2.is] 62)
  clear qa q2
  go_upto_region 5 with (fail)
  generalize v2.alloc (.cells #[.int .i64 (P2.n : Int), .string (ba P2.t), .string (ba P2.rest), .bool P2.is] 62) = W2 at X0 X1 X2 QF ⊢
  generalize v2.heap.size = b2 at X2 ⊢
  have x0 := (X2.out 0 _ rfl).1
  have x1 := (X2.out 1 _ rfl).1
  have x2 := (X2.out 2 _ rfl).1
  have x3 := (X2.out 3 _ rfl).1
  go_wp2_with fail
  refine (K3.out _).mono ?_
  rintro e3 v3 ⟨rfl, q3⟩
  clear x0 x1 x2 x3
  have qa := (Q.refl v3).alloc (.cells #[.int .i64 (P3.n : Int), .string (ba P3.t), .string (ba P3.rest), .bool P3.is] 62)
  replace X0 := Lib.hid ((X0.out.q q3).q qa)
  replace X1 := Lib.hid ((X1.out.q q3).q qa)
  replace X2 := Lib.hid ((X2.out.q q3).q qa)
  replace QF := Lib.hid ((QF.out.trans q3).trans qa)
  have X3 : Hid (Bx (v3.alloc (.cells #[.int .i64 (P3.n : Int), .string (ba P3.t), .string (ba P3.rest), .bool P3.is] 62)) v3.heap.size [.int .i64 (P3.n : Int), .string (ba P3.t), .string (ba P3.rest), .bool P3.is]) := Lib.hid (Bx.new v3 [.int .i64 (P3.n : Int), .string (ba P3.t), .string (ba P3.rest), .bool P3.is] 62)
  clear qa q3
  go_upto_region 6 with (fail)
  generalize v3.alloc (.cells #[.int .i64 (P3.n : Int), .string (ba P3.t), .string (ba P3.rest), .bool P3.is] 62) = W3 at X0 X1 X2 X3 QF ⊢
  generalize v3.heap.size = b3 at X3 ⊢
  have x0 := (X3.out 0 _ rfl).1
  have x1 := (X3.out 1 _ rfl).1
  have x2 := (X3.out 2 _ rfl).1
  have x3 := (X3.out 3 _ rfl).1
  go_wp2_with fail
  refine (K4.out _).mono ?_
  rintro e4 v4 ⟨rfl, q4⟩
  clear x0 x1 x2 x3
  have qa := (Q.refl v4).alloc (.cells #[.int .i64 (P4.n : Int), .string (ba P4.t), .string (ba P4.rest), .bool P4.is] 62)
  replace X0 := Lib.hid ((X0.out.q q4).q qa)
  replace X1 := Lib.hid ((X1.out.q q4).q qa)
  replace X2 := Lib.hid ((X2.out.q q4).q qa)
  replace X3 := Lib.hid ((X3.out.q q4).q qa)
  replace QF := Lib.hid ((QF.out.trans q4).trans qa)
  have X4 : Hid (Bx (v4.alloc (.cells #[.int .i64 (P4.n : Int), .string (ba P4.t), .string (ba P4.rest), .bool P4.is] 62)) v4.heap.size [.int .i64 (P4.n : Int), .string (ba P4.t), .string (ba P4.rest), .bool P4.is]) := Lib.hid (Bx.new v4 [.int .i64 (P4.n : Int), .string (ba P4.t), .string (ba P4.rest), .bool P4.is] 62)
  clear qa q4
  go_upto_region 7 with (fail)
  generalize v4.alloc (.cells #[.int .i64 (P4.n : Int), .string (ba P4.t), .string (ba P4.rest), .bool P4.is] 62) = W4 at X0 X1 X2 X3 X4 QF ⊢
  generalize v4.heap.size = b4 at X4 ⊢
  have x0 := (X4.out 0 _ rfl).1
  have x1 := (X4.out 1 _ rfl).1
  have x2 := (X4.out 2 _ rfl).1
  have x3 := (X4.out 3 _ rfl).1
  go_wp2_with fail
  refine (K5.out _).mono ?_
  rintro e5 v5 ⟨rfl, q5⟩
  clear x0 x1 x2 x3
  have qa := (Q.refl v5).alloc (.cells #[.int .i64 (P5.n : Int), .string (ba P5.t), .string (ba P5.rest), .bool P5.is] 62)
  replace X0 := Lib.hid ((X0.out.q q5).q qa)
  replace X1 := Lib.hid ((X1.out.q q5).q qa)
  replace X2 := Lib.hid ((X2.out.q q5).q qa)
  replace X3 := Lib.hid ((X3.out.q q5).q qa)
  replace X4 := Lib.hid ((X4.out.q q5).q qa)
  replace QF := Lib.hid ((QF.out.trans q5).trans qa)
  have X5 : Hid (Bx (v5.alloc (.cells #[.int .i64 (P5.n : Int), .string (ba P5.t), .string (ba P5.rest), .bool P5.is] 62)) v5.heap.size [.int .i64 (P5.n : Int), .string (ba P5.t), .string (ba P5.rest), .bool P5.is]) := Lib.hid (Bx.new v5 [.int .i64 (P5.n : Int), .string (ba P5.t), .string (ba P5.rest), .bool P5.is] 62)
  clear qa q5
  go_upto_region 8 with (fail)
  generalize v5.alloc (.cells #[.int .i64 (P5.n : Int), .string (ba P5.t), .string (ba P5.rest), .bool P5.is] 62) = W5 at X0 X1 X2 X3 X4 X5 QF ⊢
  generalize v5.heap.size = b5 at X5 ⊢
  have x10 := (X1.out 0 _ rfl).1
  have x20 := (X2.out 0 _ rfl).1
  have x30 := (X3.out 0 _ rfl).1
  have x40 := (X4.out 0 _ rfl).1
  have x51 := (X5.out 1 _ rfl).1
  have L0_9 := Lib.hid ((X0.out).lt)
  have H_9 := Lib.hid ((QF.out).size)
  have qa := (Q.refl W5).alloc (.cells #[.int .i64 (P1.n : Int), .int .i64 (P2.n : Int), .int .i64 (P3.n : Int), .int .i64 (P4.n : Int), .string (ba P5.t), .int .i64 0, .string ⟨#[]⟩, .string ⟨#[]⟩, .string ⟨#[]⟩, .string ⟨#[]⟩, .int .i64 0] 25)
  replace X0 := Lib.hid ((X0.out).q qa)
  replace X1 := Lib.hid ((X1.out).q qa)
  replace X2 := Lib.hid ((X2.out).q qa)
  replace X3 := Lib.hid ((X3.out).q qa)
  replace X4 := Lib.hid ((X4.out).q qa)
  replace X5 := Lib.hid ((X5.out).q qa)
  replace QF := Lib.hid ((QF.out).trans qa)
  have X9 : Hid (Bx (W5.alloc (.cells #[.int .i64 (P1.n : Int), .int .i64 (P2.n : Int), .int .i64 (P3.n : Int), .int .i64 (P4.n : Int), .string (ba P5.t), .int .i64 0, .string ⟨#[]⟩, .string ⟨#[]⟩, .string ⟨#[]⟩, .string ⟨#[]⟩, .int .i64 0] 25)) W5.heap.size [.int .i64 (P1.n : Int), .int .i64 (P2.n : Int), .int .i64 (P3.n : Int), .int .i64 (P4.n : Int), .string (ba P5.t), .int .i64 0, .string ⟨#[]⟩, .string ⟨#[]⟩, .string ⟨#[]⟩, .string ⟨#[]⟩, .int .i64 0]) := Lib.hid (Bx.new W5 [.int .i64 (P1.n : Int), .int .i64 (P2.n : Int), .int .i64 (P3.n : Int), .int .i64 (P4.n : Int), .string (ba P5.t), .int .i64 0, .string ⟨#[]⟩, .string ⟨#[]⟩, .string ⟨#[]⟩, .string ⟨#[]⟩, .int .i64 0] 25)
  clear qa
  go_upto_region 9 with (fail)
  generalize W5.alloc (.cells #[.int .i64 (P1.n : Int), .int .i64 (P2.n : Int), .int .i64 (P3.n : Int), .int .i64 (P4.n : Int), .string (ba P5.t), .int .i64 0, .string ⟨#[]⟩, .string ⟨#[]⟩, .string ⟨#[]⟩, .string ⟨#[]⟩, .int .i64 0] 25) = W9 at X0 X1 X2 X3 X4 X5 X9 QF ⊢
  generalize W5.heap.size = b9 at X9 L0_9 H_9 ⊢
  clear x10 x20 x30 x40 x51
  have x0 := (X5.out 0 _ rfl).1
  have x1 := (X5.out 1 _ rfl).1
  have x2 := (X5.out 2 _ rfl).1
  have x3 := (X5.out 3 _ rfl).1
  have L0_10 := Lib.hid ((X0.out).lt)
  have L9_10 := Lib.hid ((X9.out).lt)
  have H_10 := Lib.hid ((QF.out).size)
  have qa := (Q.refl W9).alloc (.cells #[.int .i64 (P5.n : Int), .string (ba P5.t), .string (ba P5.rest), .bool P5.is] 62)
  replace X0 := Lib.hid ((X0.out).q qa)
  replace X1 := Lib.hid ((X1.out).q qa)
  replace X2 := Lib.hid ((X2.out).q qa)
  replace X3 := Lib.hid ((X3.out).q qa)
  replace X4 := Lib.hid ((X4.out).q qa)
  replace X5 := Lib.hid ((X5.out).q qa)
  replace X9 := Lib.hid ((X9.out).q qa)
  replace QF := Lib.hid ((QF.out).trans qa)
  have X10 : Hid (Bx (W9.alloc (.cells #[.int .i64 (P5.n : Int), .string (ba P5.t), .string (ba P5.rest), .bool P5.is] 62)) W9.heap.size [.int .i64 (P5.n : Int), .string (ba P5.t), .string (ba P5.rest), .bool P5.is]) := Lib.hid (Bx.new W9 [.int .i64 (P5.n : Int), .string (ba P5.t), .string (ba P5.rest), .bool P5.is] 62)
  clear qa
  go_upto_region 10 with (fail)
  generalize W9.alloc (.cells #[.int .i64 (P5.n : Int), .string (ba P5.t), .string (ba P5.rest), .bool P5.is] 62) = W10 at X0 X1 X2 X3 X4 X5 X9 X10 QF ⊢
  generalize W9.heap.size = b10 at X10 L0_10 L9_10 H_10 ⊢
  clear x0 x1 x2 x3
  have k0 := (X1.out 0 _ rfl).1
  by_cases hk : P1.n = 5
  · have hkI : (P1.n : Int) = 5 := by omega
    obtain ⟨O1, g1⟩ : ∃ P, tkn P5 = P := ⟨_, rfl⟩
    obtain ⟨O2, g2⟩ : ∃ P, tkt 32 O1 = P := ⟨_, rfl⟩
    obtain ⟨O3, g3⟩ : ∃ P, tkt 64 O2 = P := ⟨_, rfl⟩
    obtain ⟨O4, g4⟩ : ∃ P, tkt 32 O3 = P := ⟨_, rfl⟩
    obtain ⟨O5, g5⟩ : ∃ P, tkt 32 O4 = P := ⟨_, rfl⟩
    obtain ⟨O6, g6⟩ : ∃ P, tkn O5 = P := ⟨_, rfl⟩
    have r0 := R5.out
    have r1 : O1.rest.length ≤ 2048 := by rw [← g1]; exact Nat.le_trans (tkn_rest _) r0
    have r2 : O2.rest.length ≤ 2048 := by rw [← g2]; exact Nat.le_trans (tkt_rest _ _) r1
    have r3 : O3.rest.length ≤ 2048 := by rw [← g3]; exact Nat.le_trans (tkt_rest _ _) r2
    have r4 : O4.rest.length ≤ 2048 := by rw [← g4]; exact Nat.le_trans (tkt_rest _ _) r3
    have r5 : O5.rest.length ≤ 2048 := by rw [← g5]; exact Nat.le_trans (tkt_rest _ _) r4
    have K6 : Hid (∀ W, Calls Tryd.prog 27 #[.agg #[.int .i64 (P5.n : Int), .string (ba P5.t), .string (ba P5.rest), .bool P5.is]] W fun e w' => e = .returned (.agg #[.int .i64 (O1.n : Int), .string (ba O1.t), .string (ba O1.rest), .bool O1.is]) ∧ Q W w') := Lib.hid (fun W => by have h := takes_any P5 W (by omega); rw [g1] at h; exact h)
    have K7 : Hid (∀ W, Calls Tryd.prog 28 #[.agg #[.int .i64 (O1.n : Int), .string (ba O1.t), .string (ba O1.rest), .bool O1.is], .int .i64 32] W fun e w' => e = .returned (.agg #[.int .i64 (O2.n : Int), .string (ba O2.t), .string (ba O2.rest), .bool O2.is]) ∧ Q W w') := Lib.hid (fun W => by have h := reads_any O1 32 W (by omega) (by omega); rw [g2] at h; exact h)
    have K8 : Hid (∀ W, Calls Tryd.prog 28 #[.agg #[.int .i64 (O2.n : Int), .string (ba O2.t), .string (ba O2.rest), .bool O2.is], .int .i64 64] W fun e w' => e = .returned (.agg #[.int .i64 (O3.n : Int), .string (ba O3.t), .string (ba O3.rest), .bool O3.is]) ∧ Q W w') := Lib.hid (fun W => by have h := reads_any O2 64 W (by omega) (by omega); rw [g3] at h; exact h)
    have K9 : Hid (∀ W, Calls Tryd.prog 28 #[.agg #[.int .i64 (O3.n : Int), .string (ba O3.t), .string (ba O3.rest), .bool O3.is], .int .i64 32] W fun e w' => e = .returned (.agg #[.int .i64 (O4.n : Int), .string (ba O4.t), .string (ba O4.rest), .bool O4.is]) ∧ Q W w') := Lib.hid (fun W => by have h := reads_any O3 32 W (by omega) (by omega); rw [g4] at h; exact h)
    have K10 : Hid (∀ W, Calls Tryd.prog 28 #[.agg #[.int .i64 (O4.n : Int), .string (ba O4.t), .string (ba O4.rest), .bool O4.is], .int .i64 32] W fun e w' => e = .returned (.agg #[.int .i64 (O5.n : Int), .string (ba O5.t), .string (ba O5.rest), .bool O5.is]) ∧ Q W w') := Lib.hid (fun W => by have h := reads_any O4 32 W (by omega) (by omega); rw [g5] at h; exact h)
    have K11 : Hid (∀ W, Calls Tryd.prog 27 #[.agg #[.int .i64 (O5.n : Int), .string (ba O5.t), .string (ba O5.rest), .bool O5.is]] W fun e w' => e = .returned (.agg #[.int .i64 (O6.n : Int), .string (ba O6.t), .string (ba O6.rest), .bool O6.is]) ∧ Q W w') := Lib.hid (fun W => by have h := takes_any O5 W (by omega); rw [g6] at h; exact h)
    have HE : Hid (QQ = ⟨(P1.n : Int), (P2.n : Int), (P3.n : Int), (P4.n : Int), ba P5.t, ⟨(O1.n : Int), ba O2.t, ba O3.t, ba O4.t, ba O5.t, (O6.n : Int)⟩⟩ ∧ LL = O6) := Lib.hid (by
      rw [HQ.out, HLs.out, if_pos hk, if_pos hk]
      unfold opOf o6 o5 o4 o3 o2 o1
      rw [g1, g2, g3, g4, g5, g6]
      exact ⟨rfl, rfl⟩)
    clear g1 g2 g3 g4 g5 g6 r0 r1 r2 r3 r4 r5
    go_upto_region 11 with (fail)
    clear k0
    have x0 := (X5.out 0 _ rfl).1
    have x1 := (X5.out 1 _ rfl).1
    have x2 := (X5.out 2 _ rfl).1
    have x3 := (X5.out 3 _ rfl).1
    go_wp2_with fail
    refine (K6.out _).mono ?_
    rintro e11 v11 ⟨rfl, q11⟩
    clear x0 x1 x2 x3
    have L10_11 := Lib.hid ((X10.out.q q11).lt)
    have qa := (Q.refl v11).alloc (.cells #[.int .i64 (O1.n : Int), .string (ba O1.t), .string (ba O1.rest), .bool O1.is] 62)
    replace X0 := Lib.hid ((X0.out.q q11).q qa)
    replace X1 := Lib.hid ((X1.out.q q11).q qa)
    replace X2 := Lib.hid ((X2.out.q q11).q qa)
    replace X3 := Lib.hid ((X3.out.q q11).q qa)
    replace X4 := Lib.hid ((X4.out.q q11).q qa)
    replace X5 := Lib.hid ((X5.out.q q11).q qa)
    replace X9 := Lib.hid ((X9.out.q q11).q qa)
    replace X10 := Lib.hid ((X10.out.q q11).q qa)
    replace QF := Lib.hid ((QF.out.trans q11).trans qa)
    have X11 : Hid (Bx (v11.alloc (.cells #[.int .i64 (O1.n : Int), .string (ba O1.t), .string (ba O1.rest), .bool O1.is] 62)) v11.heap.size [.int .i64 (O1.n : Int), .string (ba O1.t), .string (ba O1.rest), .bool O1.is]) := Lib.hid (Bx.new v11 [.int .i64 (O1.n : Int), .string (ba O1.t), .string (ba O1.rest), .bool O1.is] 62)
    clear qa q11
    go_upto_region 12 with (fail)
    generalize v11.alloc (.cells #[.int .i64 (O1.n : Int), .string (ba O1.t), .string (ba O1.rest), .bool O1.is] 62) = W11 at X0 X1 X2 X3 X4 X5 X9 X10 X11 QF ⊢
    generalize v11.heap.size = b11 at X11 L10_11 ⊢
    have x0 := (X11.out 0 _ rfl).1
    have x1 := (X11.out 1 _ rfl).1
    have x2 := (X11.out 2 _ rfl).1
    have x3 := (X11.out 3 _ rfl).1
    go_wp2_with fail
    refine (K7.out _).mono ?_
    rintro e12 v12 ⟨rfl, q12⟩
    clear x0 x1 x2 x3
    have L10_12 := Lib.hid ((X10.out.q q12).lt)
    have qa := (Q.refl v12).alloc (.cells #[.int .i64 (O2.n : Int), .string (ba O2.t), .string (ba O2.rest), .bool O2.is] 62)
    replace X0 := Lib.hid ((X0.out.q q12).q qa)
    replace X1 := Lib.hid ((X1.out.q q12).q qa)
    replace X2 := Lib.hid ((X2.out.q q12).q qa)
    replace X3 := Lib.hid ((X3.out.q q12).q qa)
    replace X4 := Lib.hid ((X4.out.q q12).q qa)
    replace X5 := Lib.hid ((X5.out.q q12).q qa)
    replace X9 := Lib.hid ((X9.out.q q12).q qa)
    replace X10 := Lib.hid ((X10.out.q q12).q qa)
    replace X11 := Lib.hid ((X11.out.q q12).q qa)
    replace QF := Lib.hid ((QF.out.trans q12).trans qa)
    have X12 : Hid (Bx (v12.alloc (.cells #[.int .i64 (O2.n : Int), .string (ba O2.t), .string (ba O2.rest), .bool O2.is] 62)) v12.heap.size [.int .i64 (O2.n : Int), .string (ba O2.t), .string (ba O2.rest), .bool O2.is]) := Lib.hid (Bx.new v12 [.int .i64 (O2.n : Int), .string (ba O2.t), .string (ba O2.rest), .bool O2.is] 62)
    clear qa q12
    go_upto_region 13 with (fail)
    generalize v12.alloc (.cells #[.int .i64 (O2.n : Int), .string (ba O2.t), .string (ba O2.rest), .bool O2.is] 62) = W12 at X0 X1 X2 X3 X4 X5 X9 X10 X11 X12 QF ⊢
    generalize v12.heap.size = b12 at X12 L10_12 ⊢
    have x0 := (X12.out 0 _ rfl).1
    have x1 := (X12.out 1 _ rfl).1
    have x2 := (X12.out 2 _ rfl).1
    have x3 := (X12.out 3 _ rfl).1
    go_wp2_with fail
    refine (K8.out _).mono ?_
    rintro e13 v13 ⟨rfl, q13⟩
    clear x0 x1 x2 x3
    have L10_13 := Lib.hid ((X10.out.q q13).lt)
    have qa := (Q.refl v13).alloc (.cells #[.int .i64 (O3.n : Int), .string (ba O3.t), .string (ba O3.rest), .bool O3.is] 62)
    replace X0 := Lib.hid ((X0.out.q q13).q qa)
    replace X1 := Lib.hid ((X1.out.q q13).q qa)
    replace X2 := Lib.hid ((X2.out.q q13).q qa)
    replace X3 := Lib.hid ((X3.out.q q13).q qa)
    replace X4 := Lib.hid ((X4.out.q q13).q qa)
    replace X5 := Lib.hid ((X5.out.q q13).q qa)
    replace X9 := Lib.hid ((X9.out.q q13).q qa)
    replace X10 := Lib.hid ((X10.out.q q13).q qa)
    replace X11 := Lib.hid ((X11.out.q q13).q qa)
    replace X12 := Lib.hid ((X12.out.q q13).q qa)
    replace QF := Lib.hid ((QF.out.trans q13).trans qa)
    have X13 : Hid (Bx (v13.alloc (.cells #[.int .i64 (O3.n : Int), .string (ba O3.t), .string (ba O3.rest), .bool O3.is] 62)) v13.heap.size [.int .i64 (O3.n : Int), .string (ba O3.t), .string (ba O3.rest), .bool O3.is]) := Lib.hid (Bx.new v13 [.int .i64 (O3.n : Int), .string (ba O3.t), .string (ba O3.rest), .bool O3.is] 62)
    clear qa q13
    go_upto_region 14 with (fail)
    generalize v13.alloc (.cells #[.int .i64 (O3.n : Int), .string (ba O3.t), .string (ba O3.rest), .bool O3.is] 62) = W13 at X0 X1 X2 X3 X4 X5 X9 X10 X11 X12 X13 QF ⊢
    generalize v13.heap.size = b13 at X13 L10_13 ⊢
    have x0 := (X13.out 0 _ rfl).1
    have x1 := (X13.out 1 _ rfl).1
    have x2 := (X13.out 2 _ rfl).1
    have x3 := (X13.out 3 _ rfl).1
    go_wp2_with fail
    refine (K9.out _).mono ?_
    rintro e14 v14 ⟨rfl, q14⟩
    clear x0 x1 x2 x3
    have L10_14 := Lib.hid ((X10.out.q q14).lt)
    have qa := (Q.refl v14).alloc (.cells #[.int .i64 (O4.n : Int), .string (ba O4.t), .string (ba O4.rest), .bool O4.is] 62)
    replace X0 := Lib.hid ((X0.out.q q14).q qa)
    replace X1 := Lib.hid ((X1.out.q q14).q qa)
    replace X2 := Lib.hid ((X2.out.q q14).q qa)
    replace X3 := Lib.hid ((X3.out.q q14).q qa)
    replace X4 := Lib.hid ((X4.out.q q14).q qa)
    replace X5 := Lib.hid ((X5.out.q q14).q qa)
    replace X9 := Lib.hid ((X9.out.q q14).q qa)
    replace X10 := Lib.hid ((X10.out.q q14).q qa)
    replace X11 := Lib.hid ((X11.out.q q14).q qa)
    replace X12 := Lib.hid ((X12.out.q q14).q qa)
    replace X13 := Lib.hid ((X13.out.q q14).q qa)
    replace QF := Lib.hid ((QF.out.trans q14).trans qa)
    have X14 : Hid (Bx (v14.alloc (.cells #[.int .i64 (O4.n : Int), .string (ba O4.t), .string (ba O4.rest), .bool O4.is] 62)) v14.heap.size [.int .i64 (O4.n : Int), .string (ba O4.t), .string (ba O4.rest), .bool O4.is]) := Lib.hid (Bx.new v14 [.int .i64 (O4.n : Int), .string (ba O4.t), .string (ba O4.rest), .bool O4.is] 62)
    clear qa q14
    go_upto_region 15 with (fail)
    generalize v14.alloc (.cells #[.int .i64 (O4.n : Int), .string (ba O4.t), .string (ba O4.rest), .bool O4.is] 62) = W14 at X0 X1 X2 X3 X4 X5 X9 X10 X11 X12 X13 X14 QF ⊢
    generalize v14.heap.size = b14 at X14 L10_14 ⊢
    have x0 := (X14.out 0 _ rfl).1
    have x1 := (X14.out 1 _ rfl).1
    have x2 := (X14.out 2 _ rfl).1
    have x3 := (X14.out 3 _ rfl).1
    go_wp2_with fail
    refine (K10.out _).mono ?_
    rintro e15 v15 ⟨rfl, q15⟩
    clear x0 x1 x2 x3
    have L10_15 := Lib.hid ((X10.out.q q15).lt)
    have qa := (Q.refl v15).alloc (.cells #[.int .i64 (O5.n : Int), .string (ba O5.t), .string (ba O5.rest), .bool O5.is] 62)
    replace X0 := Lib.hid ((X0.out.q q15).q qa)
    replace X1 := Lib.hid ((X1.out.q q15).q qa)
    replace X2 := Lib.hid ((X2.out.q q15).q qa)
    replace X3 := Lib.hid ((X3.out.q q15).q qa)
    replace X4 := Lib.hid ((X4.out.q q15).q qa)
    replace X5 := Lib.hid ((X5.out.q q15).q qa)
    replace X9 := Lib.hid ((X9.out.q q15).q qa)
    replace X10 := Lib.hid ((X10.out.q q15).q qa)
    replace X11 := Lib.hid ((X11.out.q q15).q qa)
    replace X12 := Lib.hid ((X12.out.q q15).q qa)
    replace X13 := Lib.hid ((X13.out.q q15).q qa)
    replace X14 := Lib.hid ((X14.out.q q15).q qa)
    replace QF := Lib.hid ((QF.out.trans q15).trans qa)
    have X15 : Hid (Bx (v15.alloc (.cells #[.int .i64 (O5.n : Int), .string (ba O5.t), .string (ba O5.rest), .bool O5.is] 62)) v15.heap.size [.int .i64 (O5.n : Int), .string (ba O5.t), .string (ba O5.rest), .bool O5.is]) := Lib.hid (Bx.new v15 [.int .i64 (O5.n : Int), .string (ba O5.t), .string (ba O5.rest), .bool O5.is] 62)
    clear qa q15
    go_upto_region 16 with (fail)
    generalize v15.alloc (.cells #[.int .i64 (O5.n : Int), .string (ba O5.t), .string (ba O5.rest), .bool O5.is] 62) = W15 at X0 X1 X2 X3 X4 X5 X9 X10 X11 X12 X13 X14 X15 QF ⊢
    generalize v15.heap.size = b15 at X15 L10_15 ⊢
    have x0 := (X15.out 0 _ rfl).1
    have x1 := (X15.out 1 _ rfl).1
    have x2 := (X15.out 2 _ rfl).1
    have x3 := (X15.out 3 _ rfl).1
    go_wp2_with fail
    refine (K11.out _).mono ?_
    rintro e16 v16 ⟨rfl, q16⟩
    clear x0 x1 x2 x3
    have X0 := Lib.hid (X0.out.q q16)
    have X1 := Lib.hid (X1.out.q q16)
    have X2 := Lib.hid (X2.out.q q16)
    have X3 := Lib.hid (X3.out.q q16)
    have X4 := Lib.hid (X4.out.q q16)
    have X5 := Lib.hid (X5.out.q q16)
    have X9 := Lib.hid (X9.out.q q16)
    have X10 := Lib.hid (X10.out.q q16)
    have X11 := Lib.hid (X11.out.q q16)
    have X12 := Lib.hid (X12.out.q q16)
    have X13 := Lib.hid (X13.out.q q16)
    have X14 := Lib.hid (X14.out.q q16)
    have X15 := Lib.hid (X15.out.q q16)
    have QF := Lib.hid (QF.out.trans q16)
    clear q16
    have y0 := (X10.out 0 _ rfl).1
    have f0 := (X10.out 0 _ rfl).2
    have y1 := (X10.out 1 _ rfl).1
    have f1 := (X10.out 1 _ rfl).2
    have y2 := (X10.out 2 _ rfl).1
    have f2 := (X10.out 2 _ rfl).2
    have y3 := (X10.out 3 _ rfl).1
    have f3 := (X10.out 3 _ rfl).2
    have A0 : b10 ≠ b0 := Nat.ne_of_gt L0_10.out
    have A9 : b10 ≠ b9 := Nat.ne_of_gt L9_10.out
    have A11 : b10 ≠ b11 := Nat.ne_of_lt L10_11.out
    have A12 : b10 ≠ b12 := Nat.ne_of_lt L10_12.out
    have A13 : b10 ≠ b13 := Nat.ne_of_lt L10_13.out
    have A14 : b10 ≠ b14 := Nat.ne_of_lt L10_14.out
    have A15 : b10 ≠ b15 := Nat.ne_of_lt L10_15.out
    have X0 : Hid (Bx ((((v16.setCell ⟨b10, 0, none⟩ (.int .i64 (O6.n : Int))).setCell ⟨b10, 1, none⟩ (.string (ba O6.t))).setCell ⟨b10, 2, none⟩ (.string (ba O6.rest))).setCell ⟨b10, 3, none⟩ (.bool O6.is)) b0 [.int .i64 0, .int .i64 0, .int .i64 0, .int .i64 0, .string ⟨#[]⟩, .int .i64 0, .string ⟨#[]⟩, .string ⟨#[]⟩, .string ⟨#[]⟩, .string ⟨#[]⟩, .int .i64 0]) := Lib.hid (Bx.fars A0 [.int .i64 (O6.n : Int), .string (ba O6.t), .string (ba O6.rest), .bool O6.is] 0 X0.out)
    have X9 : Hid (Bx ((((v16.setCell ⟨b10, 0, none⟩ (.int .i64 (O6.n : Int))).setCell ⟨b10, 1, none⟩ (.string (ba O6.t))).setCell ⟨b10, 2, none⟩ (.string (ba O6.rest))).setCell ⟨b10, 3, none⟩ (.bool O6.is)) b9 [.int .i64 (P1.n : Int), .int .i64 (P2.n : Int), .int .i64 (P3.n : Int), .int .i64 (P4.n : Int), .string (ba P5.t), .int .i64 0, .string ⟨#[]⟩, .string ⟨#[]⟩, .string ⟨#[]⟩, .string ⟨#[]⟩, .int .i64 0]) := Lib.hid (Bx.fars A9 [.int .i64 (O6.n : Int), .string (ba O6.t), .string (ba O6.rest), .bool O6.is] 0 X9.out)
    have X11 : Hid (Bx ((((v16.setCell ⟨b10, 0, none⟩ (.int .i64 (O6.n : Int))).setCell ⟨b10, 1, none⟩ (.string (ba O6.t))).setCell ⟨b10, 2, none⟩ (.string (ba O6.rest))).setCell ⟨b10, 3, none⟩ (.bool O6.is)) b11 [.int .i64 (O1.n : Int), .string (ba O1.t), .string (ba O1.rest), .bool O1.is]) := Lib.hid (Bx.fars A11 [.int .i64 (O6.n : Int), .string (ba O6.t), .string (ba O6.rest), .bool O6.is] 0 X11.out)
    have X12 : Hid (Bx ((((v16.setCell ⟨b10, 0, none⟩ (.int .i64 (O6.n : Int))).setCell ⟨b10, 1, none⟩ (.string (ba O6.t))).setCell ⟨b10, 2, none⟩ (.string (ba O6.rest))).setCell ⟨b10, 3, none⟩ (.bool O6.is)) b12 [.int .i64 (O2.n : Int), .string (ba O2.t), .string (ba O2.rest), .bool O2.is]) := Lib.hid (Bx.fars A12 [.int .i64 (O6.n : Int), .string (ba O6.t), .string (ba O6.rest), .bool O6.is] 0 X12.out)
    have X13 : Hid (Bx ((((v16.setCell ⟨b10, 0, none⟩ (.int .i64 (O6.n : Int))).setCell ⟨b10, 1, none⟩ (.string (ba O6.t))).setCell ⟨b10, 2, none⟩ (.string (ba O6.rest))).setCell ⟨b10, 3, none⟩ (.bool O6.is)) b13 [.int .i64 (O3.n : Int), .string (ba O3.t), .string (ba O3.rest), .bool O3.is]) := Lib.hid (Bx.fars A13 [.int .i64 (O6.n : Int), .string (ba O6.t), .string (ba O6.rest), .bool O6.is] 0 X13.out)
    have X14 : Hid (Bx ((((v16.setCell ⟨b10, 0, none⟩ (.int .i64 (O6.n : Int))).setCell ⟨b10, 1, none⟩ (.string (ba O6.t))).setCell ⟨b10, 2, none⟩ (.string (ba O6.rest))).setCell ⟨b10, 3, none⟩ (.bool O6.is)) b14 [.int .i64 (O4.n : Int), .string (ba O4.t), .string (ba O4.rest), .bool O4.is]) := Lib.hid (Bx.fars A14 [.int .i64 (O6.n : Int), .string (ba O6.t), .string (ba O6.rest), .bool O6.is] 0 X14.out)
    have X15 : Hid (Bx ((((v16.setCell ⟨b10, 0, none⟩ (.int .i64 (O6.n : Int))).setCell ⟨b10, 1, none⟩ (.string (ba O6.t))).setCell ⟨b10, 2, none⟩ (.string (ba O6.rest))).setCell ⟨b10, 3, none⟩ (.bool O6.is)) b15 [.int .i64 (O5.n : Int), .string (ba O5.t), .string (ba O5.rest), .bool O5.is]) := Lib.hid (Bx.fars A15 [.int .i64 (O6.n : Int), .string (ba O6.t), .string (ba O6.rest), .bool O6.is] 0 X15.out)
    have X10 : Hid (Bx ((((v16.setCell ⟨b10, 0, none⟩ (.int .i64 (O6.n : Int))).setCell ⟨b10, 1, none⟩ (.string (ba O6.t))).setCell ⟨b10, 2, none⟩ (.string (ba O6.rest))).setCell ⟨b10, 3, none⟩ (.bool O6.is)) b10 [.int .i64 (O6.n : Int), .string (ba O6.t), .string (ba O6.rest), .bool O6.is]) := Lib.hid (Bx.puts [.int .i64 (O6.n : Int), .string (ba O6.t), .string (ba O6.rest), .bool O6.is] [.int .i64 (P5.n : Int), .string (ba P5.t), .string (ba P5.rest), .bool P5.is] [] X10.out rfl)
    have QF : Hid (Q w ((((v16.setCell ⟨b10, 0, none⟩ (.int .i64 (O6.n : Int))).setCell ⟨b10, 1, none⟩ (.string (ba O6.t))).setCell ⟨b10, 2, none⟩ (.string (ba O6.rest))).setCell ⟨b10, 3, none⟩ (.bool O6.is))) := Lib.hid (Q.sets H_10.out [.int .i64 (O6.n : Int), .string (ba O6.t), .string (ba O6.rest), .bool O6.is] 0 QF.out)
    clear X1 X2 X3 X4 X5 A0 A9 A11 A12 A13 A14 A15
    go_upto_region 17 with (fail)
    clear y0 f0 y1 f1 y2 f2 y3 f3
    generalize ((((v16.setCell ⟨b10, 0, none⟩ (.int .i64 (O6.n : Int))).setCell ⟨b10, 1, none⟩ (.string (ba O6.t))).setCell ⟨b10, 2, none⟩ (.string (ba O6.rest))).setCell ⟨b10, 3, none⟩ (.bool O6.is)) = W16 at X0 X9 X10 X11 X12 X13 X14 X15 QF ⊢
    have u0 := (X11.out 0 _ rfl).1
    have u1 := (X12.out 1 _ rfl).1
    have u2 := (X13.out 1 _ rfl).1
    have u3 := (X14.out 1 _ rfl).1
    have u4 := (X15.out 1 _ rfl).1
    have u5 := (X10.out 0 _ rfl).1
    have y5 := (X9.out 5 _ rfl).1
    have f5 := (X9.out 5 _ rfl).2
    have y6 := (X9.out 6 _ rfl).1
    have f6 := (X9.out 6 _ rfl).2
    have y7 := (X9.out 7 _ rfl).1
    have f7 := (X9.out 7 _ rfl).2
    have y8 := (X9.out 8 _ rfl).1
    have f8 := (X9.out 8 _ rfl).2
    have y9 := (X9.out 9 _ rfl).1
    have f9 := (X9.out 9 _ rfl).2
    have y10 := (X9.out 10 _ rfl).1
    have f10 := (X9.out 10 _ rfl).2
    have N9 : b9 ≠ b0 := Nat.ne_of_gt L0_9.out
    have N10 : b9 ≠ b10 := Nat.ne_of_lt L9_10.out
    have X0 : Hid (Bx ((((((W16.setCell ⟨b9, 5, none⟩ (.int .i64 (O1.n : Int))).setCell ⟨b9, 6, none⟩ (.string (ba O2.t))).setCell ⟨b9, 7, none⟩ (.string (ba O3.t))).setCell ⟨b9, 8, none⟩ (.string (ba O4.t))).setCell ⟨b9, 9, none⟩ (.string (ba O5.t))).setCell ⟨b9, 10, none⟩ (.int .i64 (O6.n : Int))) b0 [.int .i64 0, .int .i64 0, .int .i64 0, .int .i64 0, .string ⟨#[]⟩, .int .i64 0, .string ⟨#[]⟩, .string ⟨#[]⟩, .string ⟨#[]⟩, .string ⟨#[]⟩, .int .i64 0]) := Lib.hid (Bx.fars N9 [.int .i64 (O1.n : Int), .string (ba O2.t), .string (ba O3.t), .string (ba O4.t), .string (ba O5.t), .int .i64 (O6.n : Int)] 5 X0.out)
    have X10 : Hid (Bx ((((((W16.setCell ⟨b9, 5, none⟩ (.int .i64 (O1.n : Int))).setCell ⟨b9, 6, none⟩ (.string (ba O2.t))).setCell ⟨b9, 7, none⟩ (.string (ba O3.t))).setCell ⟨b9, 8, none⟩ (.string (ba O4.t))).setCell ⟨b9, 9, none⟩ (.string (ba O5.t))).setCell ⟨b9, 10, none⟩ (.int .i64 (O6.n : Int))) b10 [.int .i64 (O6.n : Int), .string (ba O6.t), .string (ba O6.rest), .bool O6.is]) := Lib.hid (Bx.fars N10 [.int .i64 (O1.n : Int), .string (ba O2.t), .string (ba O3.t), .string (ba O4.t), .string (ba O5.t), .int .i64 (O6.n : Int)] 5 X10.out)
    have X9 : Hid (Bx ((((((W16.setCell ⟨b9, 5, none⟩ (.int .i64 (O1.n : Int))).setCell ⟨b9, 6, none⟩ (.string (ba O2.t))).setCell ⟨b9, 7, none⟩ (.string (ba O3.t))).setCell ⟨b9, 8, none⟩ (.string (ba O4.t))).setCell ⟨b9, 9, none⟩ (.string (ba O5.t))).setCell ⟨b9, 10, none⟩ (.int .i64 (O6.n : Int))) b9 ([.int .i64 (P1.n : Int), .int .i64 (P2.n : Int), .int .i64 (P3.n : Int), .int .i64 (P4.n : Int), .string (ba P5.t)] ++ [.int .i64 (O1.n : Int), .string (ba O2.t), .string (ba O3.t), .string (ba O4.t), .string (ba O5.t), .int .i64 (O6.n : Int)])) := Lib.hid (Bx.puts [.int .i64 (O1.n : Int), .string (ba O2.t), .string (ba O3.t), .string (ba O4.t), .string (ba O5.t), .int .i64 (O6.n : Int)] [.int .i64 0, .string ⟨#[]⟩, .string ⟨#[]⟩, .string ⟨#[]⟩, .string ⟨#[]⟩, .int .i64 0] [.int .i64 (P1.n : Int), .int .i64 (P2.n : Int), .int .i64 (P3.n : Int), .int .i64 (P4.n : Int), .string (ba P5.t)] X9.out rfl)
    have QF : Hid (Q w ((((((W16.setCell ⟨b9, 5, none⟩ (.int .i64 (O1.n : Int))).setCell ⟨b9, 6, none⟩ (.string (ba O2.t))).setCell ⟨b9, 7, none⟩ (.string (ba O3.t))).setCell ⟨b9, 8, none⟩ (.string (ba O4.t))).setCell ⟨b9, 9, none⟩ (.string (ba O5.t))).setCell ⟨b9, 10, none⟩ (.int .i64 (O6.n : Int)))) := Lib.hid (Q.sets H_9.out [.int .i64 (O1.n : Int), .string (ba O2.t), .string (ba O3.t), .string (ba O4.t), .string (ba O5.t), .int .i64 (O6.n : Int)] 5 QF.out)
    clear N9 N10 X11 X12 X13 X14 X15
    go_upto_region 18 with (fail)
    clear u0 u1 u2 u3 u4 u5 y5 f5 y6 f6 y7 f7 y8 f8 y9 f9 y10 f10
    generalize ((((((W16.setCell ⟨b9, 5, none⟩ (.int .i64 (O1.n : Int))).setCell ⟨b9, 6, none⟩ (.string (ba O2.t))).setCell ⟨b9, 7, none⟩ (.string (ba O3.t))).setCell ⟨b9, 8, none⟩ (.string (ba O4.t))).setCell ⟨b9, 9, none⟩ (.string (ba O5.t))).setCell ⟨b9, 10, none⟩ (.int .i64 (O6.n : Int))) = W17 at X0 X9 X10 QF ⊢
    have X9 : Hid (Bx W17 b9 [.int .i64 QQ.kind, .int .i64 QQ.epoch, .int .i64 QQ.sess, .int .i64 QQ.seq, .string QQ.tok, .int .i64 QQ.op.kind, .string QQ.op.key, .string QQ.op.val, .string QQ.op.lo, .string QQ.op.hi, .int .i64 QQ.op.most]) := Lib.hid (by rw [HE.out.1]; exact X9.out)
    have X10 : Hid (Bx W17 b10 [.int .i64 (LL.n : Int), .string (ba LL.t), .string (ba LL.rest), .bool LL.is]) := Lib.hid (by rw [HE.out.2]; exact X10.out)
    have x0 := (X9.out 0 _ rfl).1
    have x1 := (X9.out 1 _ rfl).1
    have x2 := (X9.out 2 _ rfl).1
    have x3 := (X9.out 3 _ rfl).1
    have x4 := (X9.out 4 _ rfl).1
    have x5 := (X9.out 5 _ rfl).1
    have x6 := (X9.out 6 _ rfl).1
    have x7 := (X9.out 7 _ rfl).1
    have x8 := (X9.out 8 _ rfl).1
    have x9 := (X9.out 9 _ rfl).1
    have x10 := (X9.out 10 _ rfl).1
    go_wp2_with fail
    refine (KM.out QQ _).mono ?_
    rintro em wm ⟨rfl, qm⟩
    clear x0 x1 x2 x3 x4 x5 x6 x7 x8 x9 x10
    have X0 := Lib.hid (X0.out.q qm)
    have X9 := Lib.hid (X9.out.q qm)
    have X10 := Lib.hid (X10.out.q qm)
    have QF := Lib.hid (QF.out.trans qm)
    clear qm
    have l2 := (X10.out 2 _ rfl).1
    have l3 := (X10.out 3 _ rfl).1
    have hrs : ((ba LL.rest).size : Int) = (LL.rest.length : Int) := by rw [ba_size]
    have HTT : Hid (res = if LL.is = false ∨ LL.rest ≠ [] ∨ may QQ = false then (rq0, 3) else (QQ, 0)) := HT
    clear HT HQ HLs HE
    cases hi : LL.is with
    | false =>
      rw [hi] at l3 HTT
      rw [if_pos (.inl rfl)] at HTT
      have y0 := (X0.out 0 _ rfl).1
      have f0 := (X0.out 0 _ rfl).2
      have y1 := (X0.out 1 _ rfl).1
      have f1 := (X0.out 1 _ rfl).2
      have y2 := (X0.out 2 _ rfl).1
      have f2 := (X0.out 2 _ rfl).2
      have y3 := (X0.out 3 _ rfl).1
      have f3 := (X0.out 3 _ rfl).2
      have y4 := (X0.out 4 _ rfl).1
      have f4 := (X0.out 4 _ rfl).2
      have y5 := (X0.out 5 _ rfl).1
      have f5 := (X0.out 5 _ rfl).2
      have y6 := (X0.out 6 _ rfl).1
      have f6 := (X0.out 6 _ rfl).2
      have y7 := (X0.out 7 _ rfl).1
      have f7 := (X0.out 7 _ rfl).2
      have y8 := (X0.out 8 _ rfl).1
      have f8 := (X0.out 8 _ rfl).2
      have y9 := (X0.out 9 _ rfl).1
      have f9 := (X0.out 9 _ rfl).2
      have y10 := (X0.out 10 _ rfl).1
      have f10 := (X0.out 10 _ rfl).2
      have Z1 : Hid (Bx (((((((((((wm.setCell ⟨b0, 0, none⟩ (.int .i64 0)).setCell ⟨b0, 1, none⟩ (.int .i64 0)).setCell ⟨b0, 2, none⟩ (.int .i64 0)).setCell ⟨b0, 3, none⟩ (.int .i64 0)).setCell ⟨b0, 4, none⟩ (.string ⟨#[]⟩)).setCell ⟨b0, 5, none⟩ (.int .i64 0)).setCell ⟨b0, 6, none⟩ (.string ⟨#[]⟩)).setCell ⟨b0, 7, none⟩ (.string ⟨#[]⟩)).setCell ⟨b0, 8, none⟩ (.string ⟨#[]⟩)).setCell ⟨b0, 9, none⟩ (.string ⟨#[]⟩)).setCell ⟨b0, 10, none⟩ (.int .i64 0)) b0 [.int .i64 0, .int .i64 0, .int .i64 0, .int .i64 0, .string ⟨#[]⟩, .int .i64 0, .string ⟨#[]⟩, .string ⟨#[]⟩, .string ⟨#[]⟩, .string ⟨#[]⟩, .int .i64 0]) := Lib.hid (Bx.puts [.int .i64 0, .int .i64 0, .int .i64 0, .int .i64 0, .string ⟨#[]⟩, .int .i64 0, .string ⟨#[]⟩, .string ⟨#[]⟩, .string ⟨#[]⟩, .string ⟨#[]⟩, .int .i64 0] [.int .i64 0, .int .i64 0, .int .i64 0, .int .i64 0, .string ⟨#[]⟩, .int .i64 0, .string ⟨#[]⟩, .string ⟨#[]⟩, .string ⟨#[]⟩, .string ⟨#[]⟩, .int .i64 0] [] X0.out rfl)
      have ZQ : Hid (Q w (((((((((((wm.setCell ⟨b0, 0, none⟩ (.int .i64 0)).setCell ⟨b0, 1, none⟩ (.int .i64 0)).setCell ⟨b0, 2, none⟩ (.int .i64 0)).setCell ⟨b0, 3, none⟩ (.int .i64 0)).setCell ⟨b0, 4, none⟩ (.string ⟨#[]⟩)).setCell ⟨b0, 5, none⟩ (.int .i64 0)).setCell ⟨b0, 6, none⟩ (.string ⟨#[]⟩)).setCell ⟨b0, 7, none⟩ (.string ⟨#[]⟩)).setCell ⟨b0, 8, none⟩ (.string ⟨#[]⟩)).setCell ⟨b0, 9, none⟩ (.string ⟨#[]⟩)).setCell ⟨b0, 10, none⟩ (.int .i64 0))) := Lib.hid (Q.sets (Nat.le_of_eq HB0.out) [.int .i64 0, .int .i64 0, .int .i64 0, .int .i64 0, .string ⟨#[]⟩, .int .i64 0, .string ⟨#[]⟩, .string ⟨#[]⟩, .string ⟨#[]⟩, .string ⟨#[]⟩, .int .i64 0] 0 QF.out)
      go_wp2
      generalize (((((((((((wm.setCell ⟨b0, 0, none⟩ (.int .i64 0)).setCell ⟨b0, 1, none⟩ (.int .i64 0)).setCell ⟨b0, 2, none⟩ (.int .i64 0)).setCell ⟨b0, 3, none⟩ (.int .i64 0)).setCell ⟨b0, 4, none⟩ (.string ⟨#[]⟩)).setCell ⟨b0, 5, none⟩ (.int .i64 0)).setCell ⟨b0, 6, none⟩ (.string ⟨#[]⟩)).setCell ⟨b0, 7, none⟩ (.string ⟨#[]⟩)).setCell ⟨b0, 8, none⟩ (.string ⟨#[]⟩)).setCell ⟨b0, 9, none⟩ (.string ⟨#[]⟩)).setCell ⟨b0, 10, none⟩ (.int .i64 0)) = W99 at Z1 ZQ ⊢
      have r0 := (Z1.out 0 _ rfl).1
      have r1 := (Z1.out 1 _ rfl).1
      have r2 := (Z1.out 2 _ rfl).1
      have r3 := (Z1.out 3 _ rfl).1
      have r4 := (Z1.out 4 _ rfl).1
      have r5 := (Z1.out 5 _ rfl).1
      have r6 := (Z1.out 6 _ rfl).1
      have r7 := (Z1.out 7 _ rfl).1
      have r8 := (Z1.out 8 _ rfl).1
      have r9 := (Z1.out 9 _ rfl).1
      have r10 := (Z1.out 10 _ rfl).1
      refine bodyPost_ret (v := .tuple #[.agg #[.int .i64 0, .int .i64 0, .int .i64 0, .int .i64 0, .string ⟨#[]⟩, .int .i64 0, .string ⟨#[]⟩, .string ⟨#[]⟩, .string ⟨#[]⟩, .string ⟨#[]⟩, .int .i64 0], .int .i64 3]) (by simp [results, Tryd.results12, go_sem, r0, r1, r2, r3, r4, r5, r6, r7, r8, r9, r10]) rfl ?_
      exact ⟨by first | (rw [HTT.out]; done) | (rw [HTT.out]; rfl), ZQ.out⟩
    | true =>
      rw [hi] at l3 HTT
      by_cases hr : LL.rest = []
      · cases hmq : may QQ with
        | false =>
          rw [hmq] at HTT
          rw [if_pos (.inr (.inr rfl))] at HTT
          have hlr : LL.rest.length = 0 := by rw [hr]; rfl
          have hz : (0 : Int) = ((ba LL.rest).size : Int) := by omega
          have hz2 : ¬ (0 : Int) < ((ba LL.rest).size : Int) := by omega
          have hz3 : (ba LL.rest).size = 0 := by omega
          clear hz
          have y0 := (X0.out 0 _ rfl).1
          have f0 := (X0.out 0 _ rfl).2
          have y1 := (X0.out 1 _ rfl).1
          have f1 := (X0.out 1 _ rfl).2
          have y2 := (X0.out 2 _ rfl).1
          have f2 := (X0.out 2 _ rfl).2
          have y3 := (X0.out 3 _ rfl).1
          have f3 := (X0.out 3 _ rfl).2
          have y4 := (X0.out 4 _ rfl).1
          have f4 := (X0.out 4 _ rfl).2
          have y5 := (X0.out 5 _ rfl).1
          have f5 := (X0.out 5 _ rfl).2
          have y6 := (X0.out 6 _ rfl).1
          have f6 := (X0.out 6 _ rfl).2
          have y7 := (X0.out 7 _ rfl).1
          have f7 := (X0.out 7 _ rfl).2
          have y8 := (X0.out 8 _ rfl).1
          have f8 := (X0.out 8 _ rfl).2
          have y9 := (X0.out 9 _ rfl).1
          have f9 := (X0.out 9 _ rfl).2
          have y10 := (X0.out 10 _ rfl).1
          have f10 := (X0.out 10 _ rfl).2
          have Z1 : Hid (Bx (((((((((((wm.setCell ⟨b0, 0, none⟩ (.int .i64 0)).setCell ⟨b0, 1, none⟩ (.int .i64 0)).setCell ⟨b0, 2, none⟩ (.int .i64 0)).setCell ⟨b0, 3, none⟩ (.int .i64 0)).setCell ⟨b0, 4, none⟩ (.string ⟨#[]⟩)).setCell ⟨b0, 5, none⟩ (.int .i64 0)).setCell ⟨b0, 6, none⟩ (.string ⟨#[]⟩)).setCell ⟨b0, 7, none⟩ (.string ⟨#[]⟩)).setCell ⟨b0, 8, none⟩ (.string ⟨#[]⟩)).setCell ⟨b0, 9, none⟩ (.string ⟨#[]⟩)).setCell ⟨b0, 10, none⟩ (.int .i64 0)) b0 [.int .i64 0, .int .i64 0, .int .i64 0, .int .i64 0, .string ⟨#[]⟩, .int .i64 0, .string ⟨#[]⟩, .string ⟨#[]⟩, .string ⟨#[]⟩, .string ⟨#[]⟩, .int .i64 0]) := Lib.hid (Bx.puts [.int .i64 0, .int .i64 0, .int .i64 0, .int .i64 0, .string ⟨#[]⟩, .int .i64 0, .string ⟨#[]⟩, .string ⟨#[]⟩, .string ⟨#[]⟩, .string ⟨#[]⟩, .int .i64 0] [.int .i64 0, .int .i64 0, .int .i64 0, .int .i64 0, .string ⟨#[]⟩, .int .i64 0, .string ⟨#[]⟩, .string ⟨#[]⟩, .string ⟨#[]⟩, .string ⟨#[]⟩, .int .i64 0] [] X0.out rfl)
          have ZQ : Hid (Q w (((((((((((wm.setCell ⟨b0, 0, none⟩ (.int .i64 0)).setCell ⟨b0, 1, none⟩ (.int .i64 0)).setCell ⟨b0, 2, none⟩ (.int .i64 0)).setCell ⟨b0, 3, none⟩ (.int .i64 0)).setCell ⟨b0, 4, none⟩ (.string ⟨#[]⟩)).setCell ⟨b0, 5, none⟩ (.int .i64 0)).setCell ⟨b0, 6, none⟩ (.string ⟨#[]⟩)).setCell ⟨b0, 7, none⟩ (.string ⟨#[]⟩)).setCell ⟨b0, 8, none⟩ (.string ⟨#[]⟩)).setCell ⟨b0, 9, none⟩ (.string ⟨#[]⟩)).setCell ⟨b0, 10, none⟩ (.int .i64 0))) := Lib.hid (Q.sets (Nat.le_of_eq HB0.out) [.int .i64 0, .int .i64 0, .int .i64 0, .int .i64 0, .string ⟨#[]⟩, .int .i64 0, .string ⟨#[]⟩, .string ⟨#[]⟩, .string ⟨#[]⟩, .string ⟨#[]⟩, .int .i64 0] 0 QF.out)
          go_wp2
          generalize (((((((((((wm.setCell ⟨b0, 0, none⟩ (.int .i64 0)).setCell ⟨b0, 1, none⟩ (.int .i64 0)).setCell ⟨b0, 2, none⟩ (.int .i64 0)).setCell ⟨b0, 3, none⟩ (.int .i64 0)).setCell ⟨b0, 4, none⟩ (.string ⟨#[]⟩)).setCell ⟨b0, 5, none⟩ (.int .i64 0)).setCell ⟨b0, 6, none⟩ (.string ⟨#[]⟩)).setCell ⟨b0, 7, none⟩ (.string ⟨#[]⟩)).setCell ⟨b0, 8, none⟩ (.string ⟨#[]⟩)).setCell ⟨b0, 9, none⟩ (.string ⟨#[]⟩)).setCell ⟨b0, 10, none⟩ (.int .i64 0)) = W99 at Z1 ZQ ⊢
          have r0 := (Z1.out 0 _ rfl).1
          have r1 := (Z1.out 1 _ rfl).1
          have r2 := (Z1.out 2 _ rfl).1
          have r3 := (Z1.out 3 _ rfl).1
          have r4 := (Z1.out 4 _ rfl).1
          have r5 := (Z1.out 5 _ rfl).1
          have r6 := (Z1.out 6 _ rfl).1
          have r7 := (Z1.out 7 _ rfl).1
          have r8 := (Z1.out 8 _ rfl).1
          have r9 := (Z1.out 9 _ rfl).1
          have r10 := (Z1.out 10 _ rfl).1
          refine bodyPost_ret (v := .tuple #[.agg #[.int .i64 0, .int .i64 0, .int .i64 0, .int .i64 0, .string ⟨#[]⟩, .int .i64 0, .string ⟨#[]⟩, .string ⟨#[]⟩, .string ⟨#[]⟩, .string ⟨#[]⟩, .int .i64 0], .int .i64 3]) (by simp [results, Tryd.results12, go_sem, r0, r1, r2, r3, r4, r5, r6, r7, r8, r9, r10]) rfl ?_
          exact ⟨by first | (rw [HTT.out]; done) | (rw [HTT.out]; rfl), ZQ.out⟩
        | true =>
          rw [hmq] at HTT
          rw [if_neg (by simp [hr])] at HTT
          have hlr : LL.rest.length = 0 := by rw [hr]; rfl
          have hz2 : ¬ (0 : Int) < ((ba LL.rest).size : Int) := by omega
          have hz3 : (ba LL.rest).size = 0 := by omega
          have x0 := (X9.out 0 _ rfl).1
          have x1 := (X9.out 1 _ rfl).1
          have x2 := (X9.out 2 _ rfl).1
          have x3 := (X9.out 3 _ rfl).1
          have x4 := (X9.out 4 _ rfl).1
          have x5 := (X9.out 5 _ rfl).1
          have x6 := (X9.out 6 _ rfl).1
          have x7 := (X9.out 7 _ rfl).1
          have x8 := (X9.out 8 _ rfl).1
          have x9 := (X9.out 9 _ rfl).1
          have x10 := (X9.out 10 _ rfl).1
          have y0 := (X0.out 0 _ rfl).1
          have f0 := (X0.out 0 _ rfl).2
          have y1 := (X0.out 1 _ rfl).1
          have f1 := (X0.out 1 _ rfl).2
          have y2 := (X0.out 2 _ rfl).1
          have f2 := (X0.out 2 _ rfl).2
          have y3 := (X0.out 3 _ rfl).1
          have f3 := (X0.out 3 _ rfl).2
          have y4 := (X0.out 4 _ rfl).1
          have f4 := (X0.out 4 _ rfl).2
          have y5 := (X0.out 5 _ rfl).1
          have f5 := (X0.out 5 _ rfl).2
          have y6 := (X0.out 6 _ rfl).1
          have f6 := (X0.out 6 _ rfl).2
          have y7 := (X0.out 7 _ rfl).1
          have f7 := (X0.out 7 _ rfl).2
          have y8 := (X0.out 8 _ rfl).1
          have f8 := (X0.out 8 _ rfl).2
          have y9 := (X0.out 9 _ rfl).1
          have f9 := (X0.out 9 _ rfl).2
          have y10 := (X0.out 10 _ rfl).1
          have f10 := (X0.out 10 _ rfl).2
          have Z1 : Hid (Bx (((((((((((wm.setCell ⟨b0, 0, none⟩ (.int .i64 QQ.kind)).setCell ⟨b0, 1, none⟩ (.int .i64 QQ.epoch)).setCell ⟨b0, 2, none⟩ (.int .i64 QQ.sess)).setCell ⟨b0, 3, none⟩ (.int .i64 QQ.seq)).setCell ⟨b0, 4, none⟩ (.string QQ.tok)).setCell ⟨b0, 5, none⟩ (.int .i64 QQ.op.kind)).setCell ⟨b0, 6, none⟩ (.string QQ.op.key)).setCell ⟨b0, 7, none⟩ (.string QQ.op.val)).setCell ⟨b0, 8, none⟩ (.string QQ.op.lo)).setCell ⟨b0, 9, none⟩ (.string QQ.op.hi)).setCell ⟨b0, 10, none⟩ (.int .i64 QQ.op.most)) b0 [.int .i64 QQ.kind, .int .i64 QQ.epoch, .int .i64 QQ.sess, .int .i64 QQ.seq, .string QQ.tok, .int .i64 QQ.op.kind, .string QQ.op.key, .string QQ.op.val, .string QQ.op.lo, .string QQ.op.hi, .int .i64 QQ.op.most]) := Lib.hid (Bx.puts [.int .i64 QQ.kind, .int .i64 QQ.epoch, .int .i64 QQ.sess, .int .i64 QQ.seq, .string QQ.tok, .int .i64 QQ.op.kind, .string QQ.op.key, .string QQ.op.val, .string QQ.op.lo, .string QQ.op.hi, .int .i64 QQ.op.most] [.int .i64 0, .int .i64 0, .int .i64 0, .int .i64 0, .string ⟨#[]⟩, .int .i64 0, .string ⟨#[]⟩, .string ⟨#[]⟩, .string ⟨#[]⟩, .string ⟨#[]⟩, .int .i64 0] [] X0.out rfl)
          have ZQ : Hid (Q w (((((((((((wm.setCell ⟨b0, 0, none⟩ (.int .i64 QQ.kind)).setCell ⟨b0, 1, none⟩ (.int .i64 QQ.epoch)).setCell ⟨b0, 2, none⟩ (.int .i64 QQ.sess)).setCell ⟨b0, 3, none⟩ (.int .i64 QQ.seq)).setCell ⟨b0, 4, none⟩ (.string QQ.tok)).setCell ⟨b0, 5, none⟩ (.int .i64 QQ.op.kind)).setCell ⟨b0, 6, none⟩ (.string QQ.op.key)).setCell ⟨b0, 7, none⟩ (.string QQ.op.val)).setCell ⟨b0, 8, none⟩ (.string QQ.op.lo)).setCell ⟨b0, 9, none⟩ (.string QQ.op.hi)).setCell ⟨b0, 10, none⟩ (.int .i64 QQ.op.most))) := Lib.hid (Q.sets (Nat.le_of_eq HB0.out) [.int .i64 QQ.kind, .int .i64 QQ.epoch, .int .i64 QQ.sess, .int .i64 QQ.seq, .string QQ.tok, .int .i64 QQ.op.kind, .string QQ.op.key, .string QQ.op.val, .string QQ.op.lo, .string QQ.op.hi, .int .i64 QQ.op.most] 0 QF.out)
          go_wp2
          generalize (((((((((((wm.setCell ⟨b0, 0, none⟩ (.int .i64 QQ.kind)).setCell ⟨b0, 1, none⟩ (.int .i64 QQ.epoch)).setCell ⟨b0, 2, none⟩ (.int .i64 QQ.sess)).setCell ⟨b0, 3, none⟩ (.int .i64 QQ.seq)).setCell ⟨b0, 4, none⟩ (.string QQ.tok)).setCell ⟨b0, 5, none⟩ (.int .i64 QQ.op.kind)).setCell ⟨b0, 6, none⟩ (.string QQ.op.key)).setCell ⟨b0, 7, none⟩ (.string QQ.op.val)).setCell ⟨b0, 8, none⟩ (.string QQ.op.lo)).setCell ⟨b0, 9, none⟩ (.string QQ.op.hi)).setCell ⟨b0, 10, none⟩ (.int .i64 QQ.op.most)) = W99 at Z1 ZQ ⊢
          have r0 := (Z1.out 0 _ rfl).1
          have r1 := (Z1.out 1 _ rfl).1
          have r2 := (Z1.out 2 _ rfl).1
          have r3 := (Z1.out 3 _ rfl).1
          have r4 := (Z1.out 4 _ rfl).1
          have r5 := (Z1.out 5 _ rfl).1
          have r6 := (Z1.out 6 _ rfl).1
          have r7 := (Z1.out 7 _ rfl).1
          have r8 := (Z1.out 8 _ rfl).1
          have r9 := (Z1.out 9 _ rfl).1
          have r10 := (Z1.out 10 _ rfl).1
          refine bodyPost_ret (v := .tuple #[.agg #[.int .i64 QQ.kind, .int .i64 QQ.epoch, .int .i64 QQ.sess, .int .i64 QQ.seq, .string QQ.tok, .int .i64 QQ.op.kind, .string QQ.op.key, .string QQ.op.val, .string QQ.op.lo, .string QQ.op.hi, .int .i64 QQ.op.most], .int .i64 0]) (by simp [results, Tryd.results12, go_sem, r0, r1, r2, r3, r4, r5, r6, r7, r8, r9, r10]) rfl ?_
          exact ⟨by first | (rw [HTT.out]; done) | (rw [HTT.out]; rfl), ZQ.out⟩
      · rw [if_pos (.inr (.inl hr))] at HTT
        have hlr : 0 < LL.rest.length := List.length_pos_iff.2 hr
        have hz2 : (0 : Int) < ((ba LL.rest).size : Int) := by omega
        have y0 := (X0.out 0 _ rfl).1
        have f0 := (X0.out 0 _ rfl).2
        have y1 := (X0.out 1 _ rfl).1
        have f1 := (X0.out 1 _ rfl).2
        have y2 := (X0.out 2 _ rfl).1
        have f2 := (X0.out 2 _ rfl).2
        have y3 := (X0.out 3 _ rfl).1
        have f3 := (X0.out 3 _ rfl).2
        have y4 := (X0.out 4 _ rfl).1
        have f4 := (X0.out 4 _ rfl).2
        have y5 := (X0.out 5 _ rfl).1
        have f5 := (X0.out 5 _ rfl).2
        have y6 := (X0.out 6 _ rfl).1
        have f6 := (X0.out 6 _ rfl).2
        have y7 := (X0.out 7 _ rfl).1
        have f7 := (X0.out 7 _ rfl).2
        have y8 := (X0.out 8 _ rfl).1
        have f8 := (X0.out 8 _ rfl).2
        have y9 := (X0.out 9 _ rfl).1
        have f9 := (X0.out 9 _ rfl).2
        have y10 := (X0.out 10 _ rfl).1
        have f10 := (X0.out 10 _ rfl).2
        have Z1 : Hid (Bx (((((((((((wm.setCell ⟨b0, 0, none⟩ (.int .i64 0)).setCell ⟨b0, 1, none⟩ (.int .i64 0)).setCell ⟨b0, 2, none⟩ (.int .i64 0)).setCell ⟨b0, 3, none⟩ (.int .i64 0)).setCell ⟨b0, 4, none⟩ (.string ⟨#[]⟩)).setCell ⟨b0, 5, none⟩ (.int .i64 0)).setCell ⟨b0, 6, none⟩ (.string ⟨#[]⟩)).setCell ⟨b0, 7, none⟩ (.string ⟨#[]⟩)).setCell ⟨b0, 8, none⟩ (.string ⟨#[]⟩)).setCell ⟨b0, 9, none⟩ (.string ⟨#[]⟩)).setCell ⟨b0, 10, none⟩ (.int .i64 0)) b0 [.int .i64 0, .int .i64 0, .int .i64 0, .int .i64 0, .string ⟨#[]⟩, .int .i64 0, .string ⟨#[]⟩, .string ⟨#[]⟩, .string ⟨#[]⟩, .string ⟨#[]⟩, .int .i64 0]) := Lib.hid (Bx.puts [.int .i64 0, .int .i64 0, .int .i64 0, .int .i64 0, .string ⟨#[]⟩, .int .i64 0, .string ⟨#[]⟩, .string ⟨#[]⟩, .string ⟨#[]⟩, .string ⟨#[]⟩, .int .i64 0] [.int .i64 0, .int .i64 0, .int .i64 0, .int .i64 0, .string ⟨#[]⟩, .int .i64 0, .string ⟨#[]⟩, .string ⟨#[]⟩, .string ⟨#[]⟩, .string ⟨#[]⟩, .int .i64 0] [] X0.out rfl)
        have ZQ : Hid (Q w (((((((((((wm.setCell ⟨b0, 0, none⟩ (.int .i64 0)).setCell ⟨b0, 1, none⟩ (.int .i64 0)).setCell ⟨b0, 2, none⟩ (.int .i64 0)).setCell ⟨b0, 3, none⟩ (.int .i64 0)).setCell ⟨b0, 4, none⟩ (.string ⟨#[]⟩)).setCell ⟨b0, 5, none⟩ (.int .i64 0)).setCell ⟨b0, 6, none⟩ (.string ⟨#[]⟩)).setCell ⟨b0, 7, none⟩ (.string ⟨#[]⟩)).setCell ⟨b0, 8, none⟩ (.string ⟨#[]⟩)).setCell ⟨b0, 9, none⟩ (.string ⟨#[]⟩)).setCell ⟨b0, 10, none⟩ (.int .i64 0))) := Lib.hid (Q.sets (Nat.le_of_eq HB0.out) [.int .i64 0, .int .i64 0, .int .i64 0, .int .i64 0, .string ⟨#[]⟩, .int .i64 0, .string ⟨#[]⟩, .string ⟨#[]⟩, .string ⟨#[]⟩, .string ⟨#[]⟩, .int .i64 0] 0 QF.out)
        go_wp2
        generalize (((((((((((wm.setCell ⟨b0, 0, none⟩ (.int .i64 0)).setCell ⟨b0, 1, none⟩ (.int .i64 0)).setCell ⟨b0, 2, none⟩ (.int .i64 0)).setCell ⟨b0, 3, none⟩ (.int .i64 0)).setCell ⟨b0, 4, none⟩ (.string ⟨#[]⟩)).setCell ⟨b0, 5, none⟩ (.int .i64 0)).setCell ⟨b0, 6, none⟩ (.string ⟨#[]⟩)).setCell ⟨b0, 7, none⟩ (.string ⟨#[]⟩)).setCell ⟨b0, 8, none⟩ (.string ⟨#[]⟩)).setCell ⟨b0, 9, none⟩ (.string ⟨#[]⟩)).setCell ⟨b0, 10, none⟩ (.int .i64 0)) = W99 at Z1 ZQ ⊢
        have r0 := (Z1.out 0 _ rfl).1
        have r1 := (Z1.out 1 _ rfl).1
        have r2 := (Z1.out 2 _ rfl).1
        have r3 := (Z1.out 3 _ rfl).1
        have r4 := (Z1.out 4 _ rfl).1
        have r5 := (Z1.out 5 _ rfl).1
        have r6 := (Z1.out 6 _ rfl).1
        have r7 := (Z1.out 7 _ rfl).1
        have r8 := (Z1.out 8 _ rfl).1
        have r9 := (Z1.out 9 _ rfl).1
        have r10 := (Z1.out 10 _ rfl).1
        refine bodyPost_ret (v := .tuple #[.agg #[.int .i64 0, .int .i64 0, .int .i64 0, .int .i64 0, .string ⟨#[]⟩, .int .i64 0, .string ⟨#[]⟩, .string ⟨#[]⟩, .string ⟨#[]⟩, .string ⟨#[]⟩, .int .i64 0], .int .i64 3]) (by simp [results, Tryd.results12, go_sem, r0, r1, r2, r3, r4, r5, r6, r7, r8, r9, r10]) rfl ?_
        exact ⟨by first | (rw [HTT.out]; done) | (rw [HTT.out]; rfl), ZQ.out⟩
  · have hkI : ¬ (P1.n : Int) = 5 := by omega
    have HE : Hid (QQ = ⟨(P1.n : Int), (P2.n : Int), (P3.n : Int), (P4.n : Int), ba P5.t, op0⟩ ∧ LL = P5) := Lib.hid (by
      rw [HQ.out, HLs.out, if_neg hk, if_neg hk]
      exact ⟨rfl, rfl⟩)
    go_upto_region 18 with (fail)
    clear k0
    have X9 : Hid (Bx W10 b9 [.int .i64 QQ.kind, .int .i64 QQ.epoch, .int .i64 QQ.sess, .int .i64 QQ.seq, .string QQ.tok, .int .i64 QQ.op.kind, .string QQ.op.key, .string QQ.op.val, .string QQ.op.lo, .string QQ.op.hi, .int .i64 QQ.op.most]) := Lib.hid (by rw [HE.out.1]; exact X9.out)
    have X10 : Hid (Bx W10 b10 [.int .i64 (LL.n : Int), .string (ba LL.t), .string (ba LL.rest), .bool LL.is]) := Lib.hid (by rw [HE.out.2]; exact X10.out)
    have x0 := (X9.out 0 _ rfl).1
    have x1 := (X9.out 1 _ rfl).1
    have x2 := (X9.out 2 _ rfl).1
    have x3 := (X9.out 3 _ rfl).1
    have x4 := (X9.out 4 _ rfl).1
    have x5 := (X9.out 5 _ rfl).1
    have x6 := (X9.out 6 _ rfl).1
    have x7 := (X9.out 7 _ rfl).1
    have x8 := (X9.out 8 _ rfl).1
    have x9 := (X9.out 9 _ rfl).1
    have x10 := (X9.out 10 _ rfl).1
    go_wp2_with fail
    refine (KM.out QQ _).mono ?_
    rintro em wm ⟨rfl, qm⟩
    clear x0 x1 x2 x3 x4 x5 x6 x7 x8 x9 x10
    have X0 := Lib.hid (X0.out.q qm)
    have X9 := Lib.hid (X9.out.q qm)
    have X10 := Lib.hid (X10.out.q qm)
    have QF := Lib.hid (QF.out.trans qm)
    clear qm
    have l2 := (X10.out 2 _ rfl).1
    have l3 := (X10.out 3 _ rfl).1
    have hrs : ((ba LL.rest).size : Int) = (LL.rest.length : Int) := by rw [ba_size]
    have HTT : Hid (res = if LL.is = false ∨ LL.rest ≠ [] ∨ may QQ = false then (rq0, 3) else (QQ, 0)) := HT
    clear HT HQ HLs HE
    cases hi : LL.is with
    | false =>
      rw [hi] at l3 HTT
      rw [if_pos (.inl rfl)] at HTT
      have y0 := (X0.out 0 _ rfl).1
      have f0 := (X0.out 0 _ rfl).2
      have y1 := (X0.out 1 _ rfl).1
      have f1 := (X0.out 1 _ rfl).2
      have y2 := (X0.out 2 _ rfl).1
      have f2 := (X0.out 2 _ rfl).2
      have y3 := (X0.out 3 _ rfl).1
      have f3 := (X0.out 3 _ rfl).2
      have y4 := (X0.out 4 _ rfl).1
      have f4 := (X0.out 4 _ rfl).2
      have y5 := (X0.out 5 _ rfl).1
      have f5 := (X0.out 5 _ rfl).2
      have y6 := (X0.out 6 _ rfl).1
      have f6 := (X0.out 6 _ rfl).2
      have y7 := (X0.out 7 _ rfl).1
      have f7 := (X0.out 7 _ rfl).2
      have y8 := (X0.out 8 _ rfl).1
      have f8 := (X0.out 8 _ rfl).2
      have y9 := (X0.out 9 _ rfl).1
      have f9 := (X0.out 9 _ rfl).2
      have y10 := (X0.out 10 _ rfl).1
      have f10 := (X0.out 10 _ rfl).2
      have Z1 : Hid (Bx (((((((((((wm.setCell ⟨b0, 0, none⟩ (.int .i64 0)).setCell ⟨b0, 1, none⟩ (.int .i64 0)).setCell ⟨b0, 2, none⟩ (.int .i64 0)).setCell ⟨b0, 3, none⟩ (.int .i64 0)).setCell ⟨b0, 4, none⟩ (.string ⟨#[]⟩)).setCell ⟨b0, 5, none⟩ (.int .i64 0)).setCell ⟨b0, 6, none⟩ (.string ⟨#[]⟩)).setCell ⟨b0, 7, none⟩ (.string ⟨#[]⟩)).setCell ⟨b0, 8, none⟩ (.string ⟨#[]⟩)).setCell ⟨b0, 9, none⟩ (.string ⟨#[]⟩)).setCell ⟨b0, 10, none⟩ (.int .i64 0)) b0 [.int .i64 0, .int .i64 0, .int .i64 0, .int .i64 0, .string ⟨#[]⟩, .int .i64 0, .string ⟨#[]⟩, .string ⟨#[]⟩, .string ⟨#[]⟩, .string ⟨#[]⟩, .int .i64 0]) := Lib.hid (Bx.puts [.int .i64 0, .int .i64 0, .int .i64 0, .int .i64 0, .string ⟨#[]⟩, .int .i64 0, .string ⟨#[]⟩, .string ⟨#[]⟩, .string ⟨#[]⟩, .string ⟨#[]⟩, .int .i64 0] [.int .i64 0, .int .i64 0, .int .i64 0, .int .i64 0, .string ⟨#[]⟩, .int .i64 0, .string ⟨#[]⟩, .string ⟨#[]⟩, .string ⟨#[]⟩, .string ⟨#[]⟩, .int .i64 0] [] X0.out rfl)
      have ZQ : Hid (Q w (((((((((((wm.setCell ⟨b0, 0, none⟩ (.int .i64 0)).setCell ⟨b0, 1, none⟩ (.int .i64 0)).setCell ⟨b0, 2, none⟩ (.int .i64 0)).setCell ⟨b0, 3, none⟩ (.int .i64 0)).setCell ⟨b0, 4, none⟩ (.string ⟨#[]⟩)).setCell ⟨b0, 5, none⟩ (.int .i64 0)).setCell ⟨b0, 6, none⟩ (.string ⟨#[]⟩)).setCell ⟨b0, 7, none⟩ (.string ⟨#[]⟩)).setCell ⟨b0, 8, none⟩ (.string ⟨#[]⟩)).setCell ⟨b0, 9, none⟩ (.string ⟨#[]⟩)).setCell ⟨b0, 10, none⟩ (.int .i64 0))) := Lib.hid (Q.sets (Nat.le_of_eq HB0.out) [.int .i64 0, .int .i64 0, .int .i64 0, .int .i64 0, .string ⟨#[]⟩, .int .i64 0, .string ⟨#[]⟩, .string ⟨#[]⟩, .string ⟨#[]⟩, .string ⟨#[]⟩, .int .i64 0] 0 QF.out)
      go_wp2
      generalize (((((((((((wm.setCell ⟨b0, 0, none⟩ (.int .i64 0)).setCell ⟨b0, 1, none⟩ (.int .i64 0)).setCell ⟨b0, 2, none⟩ (.int .i64 0)).setCell ⟨b0, 3, none⟩ (.int .i64 0)).setCell ⟨b0, 4, none⟩ (.string ⟨#[]⟩)).setCell ⟨b0, 5, none⟩ (.int .i64 0)).setCell ⟨b0, 6, none⟩ (.string ⟨#[]⟩)).setCell ⟨b0, 7, none⟩ (.string ⟨#[]⟩)).setCell ⟨b0, 8, none⟩ (.string ⟨#[]⟩)).setCell ⟨b0, 9, none⟩ (.string ⟨#[]⟩)).setCell ⟨b0, 10, none⟩ (.int .i64 0)) = W99 at Z1 ZQ ⊢
      have r0 := (Z1.out 0 _ rfl).1
      have r1 := (Z1.out 1 _ rfl).1
      have r2 := (Z1.out 2 _ rfl).1
      have r3 := (Z1.out 3 _ rfl).1
      have r4 := (Z1.out 4 _ rfl).1
      have r5 := (Z1.out 5 _ rfl).1
      have r6 := (Z1.out 6 _ rfl).1
      have r7 := (Z1.out 7 _ rfl).1
      have r8 := (Z1.out 8 _ rfl).1
      have r9 := (Z1.out 9 _ rfl).1
      have r10 := (Z1.out 10 _ rfl).1
      refine bodyPost_ret (v := .tuple #[.agg #[.int .i64 0, .int .i64 0, .int .i64 0, .int .i64 0, .string ⟨#[]⟩, .int .i64 0, .string ⟨#[]⟩, .string ⟨#[]⟩, .string ⟨#[]⟩, .string ⟨#[]⟩, .int .i64 0], .int .i64 3]) (by simp [results, Tryd.results12, go_sem, r0, r1, r2, r3, r4, r5, r6, r7, r8, r9, r10]) rfl ?_
      exact ⟨by first | (rw [HTT.out]; done) | (rw [HTT.out]; rfl), ZQ.out⟩
    | true =>
      rw [hi] at l3 HTT
      by_cases hr : LL.rest = []
      · cases hmq : may QQ with
        | false =>
          rw [hmq] at HTT
          rw [if_pos (.inr (.inr rfl))] at HTT
          have hlr : LL.rest.length = 0 := by rw [hr]; rfl
          have hz : (0 : Int) = ((ba LL.rest).size : Int) := by omega
          have hz2 : ¬ (0 : Int) < ((ba LL.rest).size : Int) := by omega
          have hz3 : (ba LL.rest).size = 0 := by omega
          clear hz
          have y0 := (X0.out 0 _ rfl).1
          have f0 := (X0.out 0 _ rfl).2
          have y1 := (X0.out 1 _ rfl).1
          have f1 := (X0.out 1 _ rfl).2
          have y2 := (X0.out 2 _ rfl).1
          have f2 := (X0.out 2 _ rfl).2
          have y3 := (X0.out 3 _ rfl).1
          have f3 := (X0.out 3 _ rfl).2
          have y4 := (X0.out 4 _ rfl).1
          have f4 := (X0.out 4 _ rfl).2
          have y5 := (X0.out 5 _ rfl).1
          have f5 := (X0.out 5 _ rfl).2
          have y6 := (X0.out 6 _ rfl).1
          have f6 := (X0.out 6 _ rfl).2
          have y7 := (X0.out 7 _ rfl).1
          have f7 := (X0.out 7 _ rfl).2
          have y8 := (X0.out 8 _ rfl).1
          have f8 := (X0.out 8 _ rfl).2
          have y9 := (X0.out 9 _ rfl).1
          have f9 := (X0.out 9 _ rfl).2
          have y10 := (X0.out 10 _ rfl).1
          have f10 := (X0.out 10 _ rfl).2
          have Z1 : Hid (Bx (((((((((((wm.setCell ⟨b0, 0, none⟩ (.int .i64 0)).setCell ⟨b0, 1, none⟩ (.int .i64 0)).setCell ⟨b0, 2, none⟩ (.int .i64 0)).setCell ⟨b0, 3, none⟩ (.int .i64 0)).setCell ⟨b0, 4, none⟩ (.string ⟨#[]⟩)).setCell ⟨b0, 5, none⟩ (.int .i64 0)).setCell ⟨b0, 6, none⟩ (.string ⟨#[]⟩)).setCell ⟨b0, 7, none⟩ (.string ⟨#[]⟩)).setCell ⟨b0, 8, none⟩ (.string ⟨#[]⟩)).setCell ⟨b0, 9, none⟩ (.string ⟨#[]⟩)).setCell ⟨b0, 10, none⟩ (.int .i64 0)) b0 [.int .i64 0, .int .i64 0, .int .i64 0, .int .i64 0, .string ⟨#[]⟩, .int .i64 0, .string ⟨#[]⟩, .string ⟨#[]⟩, .string ⟨#[]⟩, .string ⟨#[]⟩, .int .i64 0]) := Lib.hid (Bx.puts [.int .i64 0, .int .i64 0, .int .i64 0, .int .i64 0, .string ⟨#[]⟩, .int .i64 0, .string ⟨#[]⟩, .string ⟨#[]⟩, .string ⟨#[]⟩, .string ⟨#[]⟩, .int .i64 0] [.int .i64 0, .int .i64 0, .int .i64 0, .int .i64 0, .string ⟨#[]⟩, .int .i64 0, .string ⟨#[]⟩, .string ⟨#[]⟩, .string ⟨#[]⟩, .string ⟨#[]⟩, .int .i64 0] [] X0.out rfl)
          have ZQ : Hid (Q w (((((((((((wm.setCell ⟨b0, 0, none⟩ (.int .i64 0)).setCell ⟨b0, 1, none⟩ (.int .i64 0)).setCell ⟨b0, 2, none⟩ (.int .i64 0)).setCell ⟨b0, 3, none⟩ (.int .i64 0)).setCell ⟨b0, 4, none⟩ (.string ⟨#[]⟩)).setCell ⟨b0, 5, none⟩ (.int .i64 0)).setCell ⟨b0, 6, none⟩ (.string ⟨#[]⟩)).setCell ⟨b0, 7, none⟩ (.string ⟨#[]⟩)).setCell ⟨b0, 8, none⟩ (.string ⟨#[]⟩)).setCell ⟨b0, 9, none⟩ (.string ⟨#[]⟩)).setCell ⟨b0, 10, none⟩ (.int .i64 0))) := Lib.hid (Q.sets (Nat.le_of_eq HB0.out) [.int .i64 0, .int .i64 0, .int .i64 0, .int .i64 0, .string ⟨#[]⟩, .int .i64 0, .string ⟨#[]⟩, .string ⟨#[]⟩, .string ⟨#[]⟩, .string ⟨#[]⟩, .int .i64 0] 0 QF.out)
          go_wp2
          generalize (((((((((((wm.setCell ⟨b0, 0, none⟩ (.int .i64 0)).setCell ⟨b0, 1, none⟩ (.int .i64 0)).setCell ⟨b0, 2, none⟩ (.int .i64 0)).setCell ⟨b0, 3, none⟩ (.int .i64 0)).setCell ⟨b0, 4, none⟩ (.string ⟨#[]⟩)).setCell ⟨b0, 5, none⟩ (.int .i64 0)).setCell ⟨b0, 6, none⟩ (.string ⟨#[]⟩)).setCell ⟨b0, 7, none⟩ (.string ⟨#[]⟩)).setCell ⟨b0, 8, none⟩ (.string ⟨#[]⟩)).setCell ⟨b0, 9, none⟩ (.string ⟨#[]⟩)).setCell ⟨b0, 10, none⟩ (.int .i64 0)) = W99 at Z1 ZQ ⊢
          have r0 := (Z1.out 0 _ rfl).1
          have r1 := (Z1.out 1 _ rfl).1
          have r2 := (Z1.out 2 _ rfl).1
          have r3 := (Z1.out 3 _ rfl).1
          have r4 := (Z1.out 4 _ rfl).1
          have r5 := (Z1.out 5 _ rfl).1
          have r6 := (Z1.out 6 _ rfl).1
          have r7 := (Z1.out 7 _ rfl).1
          have r8 := (Z1.out 8 _ rfl).1
          have r9 := (Z1.out 9 _ rfl).1
          have r10 := (Z1.out 10 _ rfl).1
          refine bodyPost_ret (v := .tuple #[.agg #[.int .i64 0, .int .i64 0, .int .i64 0, .int .i64 0, .string ⟨#[]⟩, .int .i64 0, .string ⟨#[]⟩, .string ⟨#[]⟩, .string ⟨#[]⟩, .string ⟨#[]⟩, .int .i64 0], .int .i64 3]) (by simp [results, Tryd.results12, go_sem, r0, r1, r2, r3, r4, r5, r6, r7, r8, r9, r10]) rfl ?_
          exact ⟨by first | (rw [HTT.out]; done) | (rw [HTT.out]; rfl), ZQ.out⟩
        | true =>
          rw [hmq] at HTT
          rw [if_neg (by simp [hr])] at HTT
          have hlr : LL.rest.length = 0 := by rw [hr]; rfl
          have hz2 : ¬ (0 : Int) < ((ba LL.rest).size : Int) := by omega
          have hz3 : (ba LL.rest).size = 0 := by omega
          have x0 := (X9.out 0 _ rfl).1
          have x1 := (X9.out 1 _ rfl).1
          have x2 := (X9.out 2 _ rfl).1
          have x3 := (X9.out 3 _ rfl).1
          have x4 := (X9.out 4 _ rfl).1
          have x5 := (X9.out 5 _ rfl).1
          have x6 := (X9.out 6 _ rfl).1
          have x7 := (X9.out 7 _ rfl).1
          have x8 := (X9.out 8 _ rfl).1
          have x9 := (X9.out 9 _ rfl).1
          have x10 := (X9.out 10 _ rfl).1
          have y0 := (X0.out 0 _ rfl).1
          have f0 := (X0.out 0 _ rfl).2
          have y1 := (X0.out 1 _ rfl).1
          have f1 := (X0.out 1 _ rfl).2
          have y2 := (X0.out 2 _ rfl).1
          have f2 := (X0.out 2 _ rfl).2
          have y3 := (X0.out 3 _ rfl).1
          have f3 := (X0.out 3 _ rfl).2
          have y4 := (X0.out 4 _ rfl).1
          have f4 := (X0.out 4 _ rfl).2
          have y5 := (X0.out 5 _ rfl).1
          have f5 := (X0.out 5 _ rfl).2
          have y6 := (X0.out 6 _ rfl).1
          have f6 := (X0.out 6 _ rfl).2
          have y7 := (X0.out 7 _ rfl).1
          have f7 := (X0.out 7 _ rfl).2
          have y8 := (X0.out 8 _ rfl).1
          have f8 := (X0.out 8 _ rfl).2
          have y9 := (X0.out 9 _ rfl).1
          have f9 := (X0.out 9 _ rfl).2
          have y10 := (X0.out 10 _ rfl).1
          have f10 := (X0.out 10 _ rfl).2
          have Z1 : Hid (Bx (((((((((((wm.setCell ⟨b0, 0, none⟩ (.int .i64 QQ.kind)).setCell ⟨b0, 1, none⟩ (.int .i64 QQ.epoch)).setCell ⟨b0, 2, none⟩ (.int .i64 QQ.sess)).setCell ⟨b0, 3, none⟩ (.int .i64 QQ.seq)).setCell ⟨b0, 4, none⟩ (.string QQ.tok)).setCell ⟨b0, 5, none⟩ (.int .i64 QQ.op.kind)).setCell ⟨b0, 6, none⟩ (.string QQ.op.key)).setCell ⟨b0, 7, none⟩ (.string QQ.op.val)).setCell ⟨b0, 8, none⟩ (.string QQ.op.lo)).setCell ⟨b0, 9, none⟩ (.string QQ.op.hi)).setCell ⟨b0, 10, none⟩ (.int .i64 QQ.op.most)) b0 [.int .i64 QQ.kind, .int .i64 QQ.epoch, .int .i64 QQ.sess, .int .i64 QQ.seq, .string QQ.tok, .int .i64 QQ.op.kind, .string QQ.op.key, .string QQ.op.val, .string QQ.op.lo, .string QQ.op.hi, .int .i64 QQ.op.most]) := Lib.hid (Bx.puts [.int .i64 QQ.kind, .int .i64 QQ.epoch, .int .i64 QQ.sess, .int .i64 QQ.seq, .string QQ.tok, .int .i64 QQ.op.kind, .string QQ.op.key, .string QQ.op.val, .string QQ.op.lo, .string QQ.op.hi, .int .i64 QQ.op.most] [.int .i64 0, .int .i64 0, .int .i64 0, .int .i64 0, .string ⟨#[]⟩, .int .i64 0, .string ⟨#[]⟩, .string ⟨#[]⟩, .string ⟨#[]⟩, .string ⟨#[]⟩, .int .i64 0] [] X0.out rfl)
          have ZQ : Hid (Q w (((((((((((wm.setCell ⟨b0, 0, none⟩ (.int .i64 QQ.kind)).setCell ⟨b0, 1, none⟩ (.int .i64 QQ.epoch)).setCell ⟨b0, 2, none⟩ (.int .i64 QQ.sess)).setCell ⟨b0, 3, none⟩ (.int .i64 QQ.seq)).setCell ⟨b0, 4, none⟩ (.string QQ.tok)).setCell ⟨b0, 5, none⟩ (.int .i64 QQ.op.kind)).setCell ⟨b0, 6, none⟩ (.string QQ.op.key)).setCell ⟨b0, 7, none⟩ (.string QQ.op.val)).setCell ⟨b0, 8, none⟩ (.string QQ.op.lo)).setCell ⟨b0, 9, none⟩ (.string QQ.op.hi)).setCell ⟨b0, 10, none⟩ (.int .i64 QQ.op.most))) := Lib.hid (Q.sets (Nat.le_of_eq HB0.out) [.int .i64 QQ.kind, .int .i64 QQ.epoch, .int .i64 QQ.sess, .int .i64 QQ.seq, .string QQ.tok, .int .i64 QQ.op.kind, .string QQ.op.key, .string QQ.op.val, .string QQ.op.lo, .string QQ.op.hi, .int .i64 QQ.op.most] 0 QF.out)
          go_wp2
          generalize (((((((((((wm.setCell ⟨b0, 0, none⟩ (.int .i64 QQ.kind)).setCell ⟨b0, 1, none⟩ (.int .i64 QQ.epoch)).setCell ⟨b0, 2, none⟩ (.int .i64 QQ.sess)).setCell ⟨b0, 3, none⟩ (.int .i64 QQ.seq)).setCell ⟨b0, 4, none⟩ (.string QQ.tok)).setCell ⟨b0, 5, none⟩ (.int .i64 QQ.op.kind)).setCell ⟨b0, 6, none⟩ (.string QQ.op.key)).setCell ⟨b0, 7, none⟩ (.string QQ.op.val)).setCell ⟨b0, 8, none⟩ (.string QQ.op.lo)).setCell ⟨b0, 9, none⟩ (.string QQ.op.hi)).setCell ⟨b0, 10, none⟩ (.int .i64 QQ.op.most)) = W99 at Z1 ZQ ⊢
          have r0 := (Z1.out 0 _ rfl).1
          have r1 := (Z1.out 1 _ rfl).1
          have r2 := (Z1.out 2 _ rfl).1
          have r3 := (Z1.out 3 _ rfl).1
          have r4 := (Z1.out 4 _ rfl).1
          have r5 := (Z1.out 5 _ rfl).1
          have r6 := (Z1.out 6 _ rfl).1
          have r7 := (Z1.out 7 _ rfl).1
          have r8 := (Z1.out 8 _ rfl).1
          have r9 := (Z1.out 9 _ rfl).1
          have r10 := (Z1.out 10 _ rfl).1
          refine bodyPost_ret (v := .tuple #[.agg #[.int .i64 QQ.kind, .int .i64 QQ.epoch, .int .i64 QQ.sess, .int .i64 QQ.seq, .string QQ.tok, .int .i64 QQ.op.kind, .string QQ.op.key, .string QQ.op.val, .string QQ.op.lo, .string QQ.op.hi, .int .i64 QQ.op.most], .int .i64 0]) (by simp [results, Tryd.results12, go_sem, r0, r1, r2, r3, r4, r5, r6, r7, r8, r9, r10]) rfl ?_
          exact ⟨by first | (rw [HTT.out]; done) | (rw [HTT.out]; rfl), ZQ.out⟩
      · rw [if_pos (.inr (.inl hr))] at HTT
        have hlr : 0 < LL.rest.length := List.length_pos_iff.2 hr
        have hz2 : (0 : Int) < ((ba LL.rest).size : Int) := by omega
        have y0 := (X0.out 0 _ rfl).1
        have f0 := (X0.out 0 _ rfl).2
        have y1 := (X0.out 1 _ rfl).1
        have f1 := (X0.out 1 _ rfl).2
        have y2 := (X0.out 2 _ rfl).1
        have f2 := (X0.out 2 _ rfl).2
        have y3 := (X0.out 3 _ rfl).1
        have f3 := (X0.out 3 _ rfl).2
        have y4 := (X0.out 4 _ rfl).1
        have f4 := (X0.out 4 _ rfl).2
        have y5 := (X0.out 5 _ rfl).1
        have f5 := (X0.out 5 _ rfl).2
        have y6 := (X0.out 6 _ rfl).1
        have f6 := (X0.out 6 _ rfl).2
        have y7 := (X0.out 7 _ rfl).1
        have f7 := (X0.out 7 _ rfl).2
        have y8 := (X0.out 8 _ rfl).1
        have f8 := (X0.out 8 _ rfl).2
        have y9 := (X0.out 9 _ rfl).1
        have f9 := (X0.out 9 _ rfl).2
        have y10 := (X0.out 10 _ rfl).1
        have f10 := (X0.out 10 _ rfl).2
        have Z1 : Hid (Bx (((((((((((wm.setCell ⟨b0, 0, none⟩ (.int .i64 0)).setCell ⟨b0, 1, none⟩ (.int .i64 0)).setCell ⟨b0, 2, none⟩ (.int .i64 0)).setCell ⟨b0, 3, none⟩ (.int .i64 0)).setCell ⟨b0, 4, none⟩ (.string ⟨#[]⟩)).setCell ⟨b0, 5, none⟩ (.int .i64 0)).setCell ⟨b0, 6, none⟩ (.string ⟨#[]⟩)).setCell ⟨b0, 7, none⟩ (.string ⟨#[]⟩)).setCell ⟨b0, 8, none⟩ (.string ⟨#[]⟩)).setCell ⟨b0, 9, none⟩ (.string ⟨#[]⟩)).setCell ⟨b0, 10, none⟩ (.int .i64 0)) b0 [.int .i64 0, .int .i64 0, .int .i64 0, .int .i64 0, .string ⟨#[]⟩, .int .i64 0, .string ⟨#[]⟩, .string ⟨#[]⟩, .string ⟨#[]⟩, .string ⟨#[]⟩, .int .i64 0]) := Lib.hid (Bx.puts [.int .i64 0, .int .i64 0, .int .i64 0, .int .i64 0, .string ⟨#[]⟩, .int .i64 0, .string ⟨#[]⟩, .string ⟨#[]⟩, .string ⟨#[]⟩, .string ⟨#[]⟩, .int .i64 0] [.int .i64 0, .int .i64 0, .int .i64 0, .int .i64 0, .string ⟨#[]⟩, .int .i64 0, .string ⟨#[]⟩, .string ⟨#[]⟩, .string ⟨#[]⟩, .string ⟨#[]⟩, .int .i64 0] [] X0.out rfl)
        have ZQ : Hid (Q w (((((((((((wm.setCell ⟨b0, 0, none⟩ (.int .i64 0)).setCell ⟨b0, 1, none⟩ (.int .i64 0)).setCell ⟨b0, 2, none⟩ (.int .i64 0)).setCell ⟨b0, 3, none⟩ (.int .i64 0)).setCell ⟨b0, 4, none⟩ (.string ⟨#[]⟩)).setCell ⟨b0, 5, none⟩ (.int .i64 0)).setCell ⟨b0, 6, none⟩ (.string ⟨#[]⟩)).setCell ⟨b0, 7, none⟩ (.string ⟨#[]⟩)).setCell ⟨b0, 8, none⟩ (.string ⟨#[]⟩)).setCell ⟨b0, 9, none⟩ (.string ⟨#[]⟩)).setCell ⟨b0, 10, none⟩ (.int .i64 0))) := Lib.hid (Q.sets (Nat.le_of_eq HB0.out) [.int .i64 0, .int .i64 0, .int .i64 0, .int .i64 0, .string ⟨#[]⟩, .int .i64 0, .string ⟨#[]⟩, .string ⟨#[]⟩, .string ⟨#[]⟩, .string ⟨#[]⟩, .int .i64 0] 0 QF.out)
        go_wp2
        generalize (((((((((((wm.setCell ⟨b0, 0, none⟩ (.int .i64 0)).setCell ⟨b0, 1, none⟩ (.int .i64 0)).setCell ⟨b0, 2, none⟩ (.int .i64 0)).setCell ⟨b0, 3, none⟩ (.int .i64 0)).setCell ⟨b0, 4, none⟩ (.string ⟨#[]⟩)).setCell ⟨b0, 5, none⟩ (.int .i64 0)).setCell ⟨b0, 6, none⟩ (.string ⟨#[]⟩)).setCell ⟨b0, 7, none⟩ (.string ⟨#[]⟩)).setCell ⟨b0, 8, none⟩ (.string ⟨#[]⟩)).setCell ⟨b0, 9, none⟩ (.string ⟨#[]⟩)).setCell ⟨b0, 10, none⟩ (.int .i64 0)) = W99 at Z1 ZQ ⊢
        have r0 := (Z1.out 0 _ rfl).1
        have r1 := (Z1.out 1 _ rfl).1
        have r2 := (Z1.out 2 _ rfl).1
        have r3 := (Z1.out 3 _ rfl).1
        have r4 := (Z1.out 4 _ rfl).1
        have r5 := (Z1.out 5 _ rfl).1
        have r6 := (Z1.out 6 _ rfl).1
        have r7 := (Z1.out 7 _ rfl).1
        have r8 := (Z1.out 8 _ rfl).1
        have r9 := (Z1.out 9 _ rfl).1
        have r10 := (Z1.out 10 _ rfl).1
        refine bodyPost_ret (v := .tuple #[.agg #[.int .i64 0, .int .i64 0, .int .i64 0, .int .i64 0, .string ⟨#[]⟩, .int .i64 0, .string ⟨#[]⟩, .string ⟨#[]⟩, .string ⟨#[]⟩, .string ⟨#[]⟩, .int .i64 0], .int .i64 3]) (by simp [results, Tryd.results12, go_sem, r0, r1, r2, r3, r4, r5, r6, r7, r8, r9, r10]) rfl ?_
        exact ⟨by first | (rw [HTT.out]; done) | (rw [HTT.out]; rfl), ZQ.out⟩

end Wi
end Go.Proofs.YtdipikdebapmlaaDoor
