/- WiTakeRep, WiTakeOP, EqualP, WiSameO: merged. -/
import Derived.Test.YtdipikdebapmlaaDoorW9
import Derived.Test.YtdipikdebapmlaaDoorW3
import Derived.Test.YtdipikdebapmlaaDoorW8
import Derived.Test.YtdipikdebapmlaaDoorW2
/- The contract of the document's TakeReply (chapter 16). -/
namespace Go.Proofs.YtdipikdebapmlaaDoor
set_option maxRecDepth 100000
open Go.RowKit Prm
set_option linter.unusedVariables false
set_option linter.unusedSimpArgs false

namespace Wi

/-- what TakeReply answers. -/
def RetRp (w : World) (x : Rp × Int) (e : Ending) (w' : World) : Prop :=
  ∃ A c, e = .returned (.tuple #[rpV x.1 A x.1.rows.length c, .int .i64 x.2]) ∧ In_ pairK w' A x.1.rows.length c x.1.rows ∧ Q w w'
/-- the same, and that the rows lie in memory of the call's own. -/
def RetRpF (w : World) (x : Rp × Int) (e : Ending) (w' : World) : Prop :=
  ∃ A c, e = .returned (.tuple #[rpV x.1 A x.1.rows.length c, .int .i64 x.2]) ∧ In_ pairK w' A x.1.rows.length c x.1.rows ∧ (∀ ad, A = some ad → w.heap.size ≤ ad.block) ∧ Q w w'
theorem retRpF_w {w : World} {x : Rp × Int} {e : Ending} {w' : World} : RetRpF w x e w' → RetRp w x e w' := fun ⟨A, c, he, hi, _, q⟩ => ⟨A, c, he, hi, q⟩
theorem own_from {α : Type} {K : Kind α} {w : World} {base n c : Nat} {A : Option Addr} {l : List α} (o : OwnK K w base A n c l) : ∀ ad, A = some ad → base ≤ ad.block := by
  rintro ad rfl
  rcases o.parts with ⟨h0, _⟩ | ⟨g, cur, h0, h1, _⟩
  · cases h0
  · injection h0 with h0
    subst h0
    exact h1
theorem tkt_size (m : Int) (p : Pt) (hm : 0 ≤ m) : ((ba (tkt m p).t).size : Int) ≤ m := by
  rw [ba_size]
  cases h : (tkt m p).is with
  | true => exact (tkt_inv h).2.1
  | false =>
    unfold tkt at h ⊢
    split
    · simpa [pz] using hm
    · rename_i h1; rw [if_neg h1] at h; cases h

set_option maxRecDepth 100000 in
set_option maxHeartbeats 8000000 in
theorem wtakeP_any (s : ByteArray) (w : World) (hs : s.size ≤ 140737488355328) : Calls Tryd.prog 18 #[.string s] w (RetRpF w (takeP s.data.toList)) := by
  have hsz : s.data.toList.length = s.size := Rn.size_data s
  have X0 : Hid (Bx (w.alloc (.cells #[.int .i64 0, .int .i64 0, .int .i64 0, .int .i64 0, .string ⟨#[]⟩, .bool false, .slice none 0 0, .bool false] 40)) w.heap.size [.int .i64 0, .int .i64 0, .int .i64 0, .int .i64 0, .string ⟨#[]⟩, .bool false, .slice none 0 0, .bool false]) := Lib.hid (Bx.new w [.int .i64 0, .int .i64 0, .int .i64 0, .int .i64 0, .string ⟨#[]⟩, .bool false, .slice none 0 0, .bool false] 40)
  have QF := Lib.hid ((Q.refl w).alloc (.cells #[.int .i64 0, .int .i64 0, .int .i64 0, .int .i64 0, .string ⟨#[]⟩, .bool false, .slice none 0 0, .bool false] 40))
  have e0 : s = ba s.data.toList := (ba_of s).symm
  have hL : s.data.toList.length ≤ 140737488355328 := by omega
  generalize s.data.toList = l at e0 hL ⊢
  obtain ⟨P1, h1⟩ : ∃ P, r1 l = P := ⟨_, rfl⟩
  obtain ⟨P2, h2⟩ : ∃ P, r2 l = P := ⟨_, rfl⟩
  obtain ⟨P3, h3⟩ : ∃ P, r3 l = P := ⟨_, rfl⟩
  obtain ⟨P4, h4⟩ : ∃ P, r4 l = P := ⟨_, rfl⟩
  obtain ⟨P5, h5⟩ : ∃ P, r5 l = P := ⟨_, rfl⟩
  obtain ⟨P6, h6⟩ : ∃ P, r6 l = P := ⟨_, rfl⟩
  obtain ⟨P7, h7⟩ : ∃ P, r7 l = P := ⟨_, rfl⟩
  obtain ⟨P8, h8⟩ : ∃ P, r8 l = P := ⟨_, rfl⟩
  have g1 : tkn (p0 l) = P1 := h1
  have g2 : tkn P1 = P2 := by rw [← h1]; exact h2
  have g3 : tkn P2 = P3 := by rw [← h2]; exact h3
  have g4 : tkn P3 = P4 := by rw [← h3]; exact h4
  have g5 : tkt 64 P4 = P5 := by rw [← h4]; exact h5
  have g6 : tkn P5 = P6 := by rw [← h5]; exact h6
  have g7 : tkn P6 = P7 := by rw [← h6]; exact h7
  have g8 : tkn P7 = P8 := by rw [← h7]; exact h8
  have z0 : (p0 l).rest.length ≤ 140737488355328 := hL
  have z1 : P1.rest.length ≤ 140737488355328 := by rw [← g1]; exact Nat.le_trans (tkn_rest _) z0
  have z2 : P2.rest.length ≤ 140737488355328 := by rw [← g2]; exact Nat.le_trans (tkn_rest _) z1
  have z3 : P3.rest.length ≤ 140737488355328 := by rw [← g3]; exact Nat.le_trans (tkn_rest _) z2
  have z4 : P4.rest.length ≤ 140737488355328 := by rw [← g4]; exact Nat.le_trans (tkn_rest _) z3
  have z5 : P5.rest.length ≤ 140737488355328 := by rw [← g5]; exact Nat.le_trans (tkt_rest _ _) z4
  have z6 : P6.rest.length ≤ 140737488355328 := by rw [← g6]; exact Nat.le_trans (tkn_rest _) z5
  have z7 : P7.rest.length ≤ 140737488355328 := by rw [← g7]; exact Nat.le_trans (tkn_rest _) z6
  have z8 : P8.rest.length ≤ 140737488355328 := by rw [← g8]; exact Nat.le_trans (tkn_rest _) z7
  have K1 : Hid (∀ W, Calls Tryd.prog 27 #[.agg #[.int .i64 0, .string ⟨#[]⟩, .string s, .bool true]] W fun e w' => e = .returned (.agg #[.int .i64 (P1.n : Int), .string (ba P1.t), .string (ba P1.rest), .bool P1.is]) ∧ Q W w') := Lib.hid (fun W => by have h := takes_any (p0 l) W (by omega); rw [g1] at h; rw [e0]; exact h)
  have K2 : Hid (∀ W, Calls Tryd.prog 27 #[.agg #[.int .i64 (P1.n : Int), .string (ba P1.t), .string (ba P1.rest), .bool P1.is]] W fun e w' => e = .returned (.agg #[.int .i64 (P2.n : Int), .string (ba P2.t), .string (ba P2.rest), .bool P2.is]) ∧ Q W w') := Lib.hid (fun W => by have h := takes_any P1 W (by omega); rw [g2] at h; exact h)
  have K3 : Hid (∀ W, Calls Tryd.prog 27 #[.agg #[.int .i64 (P2.n : Int), .string (ba P2.t), .string (ba P2.rest), .bool P2.is]] W fun e w' => e = .returned (.agg #[.int .i64 (P3.n : Int), .string (ba P3.t), .string (ba P3.rest), .bool P3.is]) ∧ Q W w') := Lib.hid (fun W => by have h := takes_any P2 W (by omega); rw [g3] at h; exact h)
  have K4 : Hid (∀ W, Calls Tryd.prog 27 #[.agg #[.int .i64 (P3.n : Int), .string (ba P3.t), .string (ba P3.rest), .bool P3.is]] W fun e w' => e = .returned (.agg #[.int .i64 (P4.n : Int), .string (ba P4.t), .string (ba P4.rest), .bool P4.is]) ∧ Q W w') := Lib.hid (fun W => by have h := takes_any P3 W (by omega); rw [g4] at h; exact h)
  have K5 : Hid (∀ W, Calls Tryd.prog 28 #[.agg #[.int .i64 (P4.n : Int), .string (ba P4.t), .string (ba P4.rest), .bool P4.is], .int .i64 64] W fun e w' => e = .returned (.agg #[.int .i64 (P5.n : Int), .string (ba P5.t), .string (ba P5.rest), .bool P5.is]) ∧ Q W w') := Lib.hid (fun W => by have h := reads_any P4 64 W (by omega) (by omega); rw [g5] at h; exact h)
  have K6 : Hid (∀ W, Calls Tryd.prog 27 #[.agg #[.int .i64 (P5.n : Int), .string (ba P5.t), .string (ba P5.rest), .bool P5.is]] W fun e w' => e = .returned (.agg #[.int .i64 (P6.n : Int), .string (ba P6.t), .string (ba P6.rest), .bool P6.is]) ∧ Q W w') := Lib.hid (fun W => by have h := takes_any P5 W (by omega); rw [g6] at h; exact h)
  have K7 : Hid (∀ W, Calls Tryd.prog 27 #[.agg #[.int .i64 (P6.n : Int), .string (ba P6.t), .string (ba P6.rest), .bool P6.is]] W fun e w' => e = .returned (.agg #[.int .i64 (P7.n : Int), .string (ba P7.t), .string (ba P7.rest), .bool P7.is]) ∧ Q W w') := Lib.hid (fun W => by have h := takes_any P6 W (by omega); rw [g7] at h; exact h)
  have K8 : Hid (∀ W, Calls Tryd.prog 27 #[.agg #[.int .i64 (P7.n : Int), .string (ba P7.t), .string (ba P7.rest), .bool P7.is]] W fun e w' => e = .returned (.agg #[.int .i64 (P8.n : Int), .string (ba P8.t), .string (ba P8.rest), .bool P8.is]) ∧ Q W w') := Lib.hid (fun W => by have h := takes_any P7 W (by omega); rw [g8] at h; exact h)
  have KM := Lib.hid (fun (q : Rp) A N c W hA hm hk => wmayP_any q A N c W hA hm hk)
  have HT : Hid (takeP l = if P8.is = false ∨ 1 < P6.n ∨ 1 < P7.n ∨ 16 < P8.n ∨ 16 < P4.n then (rp0, 3)
    else if (tkR P8.n [] P8).2.is = false ∨ (tkR P8.n [] P8).2.rest ≠ [] ∨ mayP ⟨(P1.n : Int), (P2.n : Int), (P3.n : Int), (P4.n : Int), ba P5.t, decide (P6.n = 1), decide (P7.n = 1), (tkR P8.n [] P8).1⟩ = false then (rp0, 3)
    else (⟨(P1.n : Int), (P2.n : Int), (P3.n : Int), (P4.n : Int), ba P5.t, decide (P6.n = 1), decide (P7.n = 1), (tkR P8.n [] P8).1⟩, 0)) := Lib.hid (by
    unfold takeP rOf lastR
    rw [h1, h2, h3, h4, h5, h6, h7, h8])
  have Z8F := Lib.hid z8
  clear h1 h2 h3 h4 h5 h6 h7 h8 g1 g2 g3 g4 g5 g6 g7 g8 z0 z1 z2 z3 z4 z5 z6 z7 z8 e0 hL hsz
  unfold RetRpF
  generalize takeP l = res at HT ⊢
  go_enter Tryd.func18, Tryd.ntmps18
  go_upto_region 1 with (fail)
  generalize w.alloc (.cells #[.int .i64 0, .int .i64 0, .int .i64 0, .int .i64 0, .string ⟨#[]⟩, .bool false, .slice none 0 0, .bool false] 40) = W0 at X0 QF ⊢
  generalize hb0 : w.heap.size = b0 at X0 ⊢
  have HB0 := Lib.hid hb0
  clear hb0
  go_wp2_with fail
  refine (K1.out _).mono ?_
  rintro e1 v1 ⟨rfl, q1⟩
  have qa := (Q.refl v1).alloc (.cells #[.int .i64 (P1.n : Int), .string (ba P1.t), .string (ba P1.rest), .bool P1.is] 62)
  replace X0 := Lib.hid ((X0.out.q q1).q qa)
  replace QF := Lib.hid ((QF.out.trans q1).trans qa)
  have X1 : Hid (Bx (v1.alloc (.cells #[.int .i64 (P1.n : Int), .string (ba P1.t), .string (ba P1.rest), .bool P1.is] 62)) v1.heap.size [.int .i64 (P1.n : Int), .string (ba P1.t), .string (ba P1.rest), .bool P1.is]) := Lib.hid (Bx.new v1 [.int .i64 (P1.n : Int), .string (ba P1.t), .string (ba P1.rest), .bool P1.is] 62)
  clear qa q1
  go_upto_region 2 with (fail)
  generalize v1.alloc (.cells #[.int .i64 (P1.n : Int), .string (ba P1.t), .string (ba P1.rest), .bool P1.is] 62) = W1 at X0 X1 QF ⊢
  generalize v1.heap.size = b1 at X1 ⊢
  have x0 := (X1.out 0 _ rfl).1
  have x1 := (X1.out 1 _ rfl).1
  have x2 := (X1.out 2 _ rfl).1
  have x3 := (X1.out 3 _ rfl).1
  go_wp2_with fail
  refine (K2.out _).mono ?_
  rintro e2 v2 ⟨rfl, q2⟩
  clear x0 x1 x2 x3
  have qa := (Q.refl v2).alloc (.cells #[.int .i64 (P2.n : Int), .string (ba P2.t), .string (ba P2.rest), .bool P2.is] 62)
  replace X0 := Lib.hid ((X0.out.q q2).q qa)
  replace X1 := Lib.hid ((X1.out.q q2).q qa)
  replace QF := Lib.hid ((QF.out.trans q2).trans qa)
  have X2 : Hid (Bx (v2.alloc (.cells #[.int .i64 (P2.n : Int), .string (ba P2.t), .string (ba P2.rest), .bool P2.is] 62)) v2.heap.size [.int .i64 (P2.n : Int), .string (ba P2.t), .string (ba P2.rest), .bool P2.is]) := Lib.hid (Bx.new v2 [.int .i64 (P2.n : Int), .string (ba P2.t), .string (ba P2.rest), .bool P2.is] 62)
  clear qa q2
  go_upto_region 3 with (fail)
  generalize v2.alloc (.cells #[.int .i64 (P2.n : Int), .string (ba P2.t), .string (ba P2.rest), .bool P2.is] 62) = W2 at X0 X1 X2 QF ⊢
  generalize v2.heap.size = b2 at X2 ⊢
  have x0 := (X2.out 0 _ rfl).1
  have x1 := (X2.out 1 _ rfl).1
  have x2 := (X2.out 2 _ rfl).1
  have x3 := (X2.out 3 _ rfl).1
  go_wp2_with fail
  refine (K3.out _).mono ?_
  rintro e3 v3 ⟨rfl, q3⟩
  clear x0 x1 x2 x3
  have qa := (Q.refl v3).alloc (.cells #[.int .i64 (P3.n : Int), .string (ba P3.t), .string (ba P3.rest), .bool P3.is] 62)
  replace X0 := Lib.hid ((X0.out.q q3).q qa)
  replace X1 := Lib.hid ((X1.out.q q3).q qa)
  replace X2 := Lib.hid ((X2.out.q q3).q qa)
  replace QF := Lib.hid ((QF.out.trans q3).trans qa)
  have X3 : Hid (Bx (v3.alloc (.cells #[.int .i64 (P3.n : Int), .string (ba P3.t), .string (ba P3.rest), .bool P3.is] 62)) v3.heap.size [.int .i64 (P3.n : Int), .string (ba P3.t), .string (ba P3.rest), .bool P3.is]) := Lib.hid (Bx.new v3 [.int .i64 (P3.n : Int), .string (ba P3.t), .string (ba P3.rest), .bool P3.is] 62)
  clear qa q3
  go_upto_region 4 with (fail)
  generalize v3.alloc (.cells #[.int .i64 (P3.n : Int), .string (ba P3.t), .string (ba P3.rest), .bool P3.is] 62) = W3 at X0 X1 X2 X3 QF ⊢
  generalize v3.heap.size = b3 at X3 ⊢
  have x0 := (X3.out 0 _ rfl).1
  have x1 := (X3.out 1 _ rfl).1
  have x2 := (X3.out 2 _ rfl).1
  have x3 := (X3.out 3 _ rfl).1
  go_wp2_with fail
  refine (K4.out _).mono ?_
  rintro e4 v4 ⟨rfl, q4⟩
  clear x0 x1 x2 x3
  have qa := (Q.refl v4).alloc (.cells #[.int .i64 (P4.n : Int), .string (ba P4.t), .string (ba P4.rest), .bool P4.is] 62)
  replace X0 := Lib.hid ((X0.out.q q4).q qa)
  replace X1 := Lib.hid ((X1.out.q q4).q qa)
  replace X2 := Lib.hid ((X2.out.q q4).q qa)
  replace X3 := Lib.hid ((X3.out.q q4).q qa)
  replace QF := Lib.hid ((QF.out.trans q4).trans qa)
  have X4 : Hid (Bx (v4.alloc (.cells #[.int .i64 (P4.n : Int), .string (ba P4.t), .string (ba P4.rest), .bool P4.is] 62)) v4.heap.size [.int .i64 (P4.n : Int), .string (ba P4.t), .string (ba P4.rest), .bool P4.is]) := Lib.hid (Bx.new v4 [.int .i64 (P4.n : Int), .string (ba P4.t), .string (ba P4.rest), .bool P4.is] 62)
  clear qa q4
  go_upto_region 5 with (fail)
  generalize v4.alloc (.cells #[.int .i64 (P4.n : Int), .string (ba P4.t), .string (ba P4.rest), .bool P4.is] 62) = W4 at X0 X1 X2 X3 X4 QF ⊢
  generalize v4.heap.size = b4 at X4 ⊢
  have x0 := (X4.out 0 _ rfl).1
  have x1 := (X4.out 1 _ rfl).1
  have x2 := (X4.out 2 _ rfl).1
  have x3 := (X4.out 3 _ rfl).1
  go_wp2_with fail
  refine (K5.out _).mono ?_
  rintro e5 v5 ⟨rfl, q5⟩
  clear x0 x1 x2 x3
  have qa := (Q.refl v5).alloc (.cells #[.int .i64 (P5.n : Int), .string (ba P5.t), .string (ba P5.rest), .bool P5.is] 62)
  replace X0 := Lib.hid ((X0.out.q q5).q qa)
  replace X1 := Lib.hid ((X1.out.q q5).q qa)
  replace X2 := Lib.hid ((X2.out.q q5).q qa)
  replace X3 := Lib.hid ((X3.out.q q5).q qa)
  replace X4 := Lib.hid ((X4.out.q q5).q qa)
  replace QF := Lib.hid ((QF.out.trans q5).trans qa)
  have X5 : Hid (Bx (v5.alloc (.cells #[.int .i64 (P5.n : Int), .string (ba P5.t), .string (ba P5.rest), .bool P5.is] 62)) v5.heap.size [.int .i64 (P5.n : Int), .string (ba P5.t), .string (ba P5.rest), .bool P5.is]) := Lib.hid (Bx.new v5 [.int .i64 (P5.n : Int), .string (ba P5.t), .string (ba P5.rest), .bool P5.is] 62)
  clear qa q5
  go_upto_region 6 with (fail)
  generalize v5.alloc (.cells #[.int .i64 (P5.n : Int), .string (ba P5.t), .string (ba P5.rest), .bool P5.is] 62) = W5 at X0 X1 X2 X3 X4 X5 QF ⊢
  generalize v5.heap.size = b5 at X5 ⊢
  have x0 := (X5.out 0 _ rfl).1
  have x1 := (X5.out 1 _ rfl).1
  have x2 := (X5.out 2 _ rfl).1
  have x3 := (X5.out 3 _ rfl).1
  go_wp2_with fail
  refine (K6.out _).mono ?_
  rintro e6 v6 ⟨rfl, q6⟩
  clear x0 x1 x2 x3
  have qa := (Q.refl v6).alloc (.cells #[.int .i64 (P6.n : Int), .string (ba P6.t), .string (ba P6.rest), .bool P6.is] 62)
  replace X0 := Lib.hid ((X0.out.q q6).q qa)
  replace X1 := Lib.hid ((X1.out.q q6).q qa)
  replace X2 := Lib.hid ((X2.out.q q6).q qa)
  replace X3 := Lib.hid ((X3.out.q q6).q qa)
  replace X4 := Lib.hid ((X4.out.q q6).q qa)
  replace X5 := Lib.hid ((X5.out.q q6).q qa)
  replace QF := Lib.hid ((QF.out.trans q6).trans qa)
  have X6 : Hid (Bx (v6.alloc (.cells #[.int .i64 (P6.n : Int), .string (ba P6.t), .string (ba P6.rest), .bool P6.is] 62)) v6.heap.size [.int .i64 (P6.n : Int), .string (ba P6.t), .string (ba P6.rest), .bool P6.is]) := Lib.hid (Bx.new v6 [.int .i64 (P6.n : Int), .string (ba P6.t), .string (ba P6.rest), .bool P6.is] 62)
  clear qa q6
  go_upto_region 7 with (fail)
  generalize v6.alloc (.cells #[.int .i64 (P6.n : Int), .string (ba P6.t), .string (ba P6.rest), .bool P6.is] 62) = W6 at X0 X1 X2 X3 X4 X5 X6 QF ⊢
  generalize v6.heap.size = b6 at X6 ⊢
  have x0 := (X6.out 0 _ rfl).1
  have x1 := (X6.out 1 _ rfl).1
  have x2 := (X6.out 2 _ rfl).1
  have x3 := (X6.out 3 _ rfl).1
  go_wp2_with fail
  refine (K7.out _).mono ?_
  rintro e7 v7 ⟨rfl, q7⟩
  clear x0 x1 x2 x3
  have qa := (Q.refl v7).alloc (.cells #[.int .i64 (P7.n : Int), .string (ba P7.t), .string (ba P7.rest), .bool P7.is] 62)
  replace X0 := Lib.hid ((X0.out.q q7).q qa)
  replace X1 := Lib.hid ((X1.out.q q7).q qa)
  replace X2 := Lib.hid ((X2.out.q q7).q qa)
  replace X3 := Lib.hid ((X3.out.q q7).q qa)
  replace X4 := Lib.hid ((X4.out.q q7).q qa)
  replace X5 := Lib.hid ((X5.out.q q7).q qa)
  replace X6 := Lib.hid ((X6.out.q q7).q qa)
  replace QF := Lib.hid ((QF.out.trans q7).trans qa)
  have X7 : Hid (Bx (v7.alloc (.cells #[.int .i64 (P7.n : Int), .string (ba P7.t), .string (ba P7.rest), .bool P7.is] 62)) v7.heap.size [.int .i64 (P7.n : Int), .string (ba P7.t), .string (ba P7.rest), .bool P7.is]) := Lib.hid (Bx.new v7 [.int .i64 (P7.n : Int), .string (ba P7.t), .string (ba P7.rest), .bool P7.is] 62)
  clear qa q7
  go_upto_region 8 with (fail)
  generalize v7.alloc (.cells #[.int .i64 (P7.n : Int), .string (ba P7.t), .string (ba P7.rest), .bool P7.is] 62) = W7 at X0 X1 X2 X3 X4 X5 X6 X7 QF ⊢
  generalize v7.heap.size = b7 at X7 ⊢
  have x0 := (X7.out 0 _ rfl).1
  have x1 := (X7.out 1 _ rfl).1
  have x2 := (X7.out 2 _ rfl).1
  have x3 := (X7.out 3 _ rfl).1
  go_wp2_with fail
  refine (K8.out _).mono ?_
  rintro e8 v8 ⟨rfl, q8⟩
  clear x0 x1 x2 x3
  have L0_8 := Lib.hid ((X0.out.q q8).lt)
  have qa := (Q.refl v8).alloc (.cells #[.int .i64 (P8.n : Int), .string (ba P8.t), .string (ba P8.rest), .bool P8.is] 62)
  replace X0 := Lib.hid ((X0.out.q q8).q qa)
  replace X1 := Lib.hid ((X1.out.q q8).q qa)
  replace X2 := Lib.hid ((X2.out.q q8).q qa)
  replace X3 := Lib.hid ((X3.out.q q8).q qa)
  replace X4 := Lib.hid ((X4.out.q q8).q qa)
  replace X5 := Lib.hid ((X5.out.q q8).q qa)
  replace X6 := Lib.hid ((X6.out.q q8).q qa)
  replace X7 := Lib.hid ((X7.out.q q8).q qa)
  replace QF := Lib.hid ((QF.out.trans q8).trans qa)
  have X8 : Hid (Bx (v8.alloc (.cells #[.int .i64 (P8.n : Int), .string (ba P8.t), .string (ba P8.rest), .bool P8.is] 62)) v8.heap.size [.int .i64 (P8.n : Int), .string (ba P8.t), .string (ba P8.rest), .bool P8.is]) := Lib.hid (Bx.new v8 [.int .i64 (P8.n : Int), .string (ba P8.t), .string (ba P8.rest), .bool P8.is] 62)
  clear qa q8
  go_upto_region 9 with (fail)
  generalize v8.alloc (.cells #[.int .i64 (P8.n : Int), .string (ba P8.t), .string (ba P8.rest), .bool P8.is] 62) = W8 at X0 X1 X2 X3 X4 X5 X6 X7 X8 QF ⊢
  generalize v8.heap.size = b8 at X8 L0_8 ⊢
  have a8 := (X8.out 3 _ rfl).1
  have a80 := (X8.out 0 _ rfl).1
  have a6 := (X6.out 0 _ rfl).1
  have a7 := (X7.out 0 _ rfl).1
  have a4 := (X4.out 0 _ rfl).1
  cases hi : P8.is with
  | false =>
    have HB : Hid (res = (rp0, 3)) := Lib.hid (by rw [HT.out, if_pos (.inl hi)])
    rw [hi] at a8
    have y0 := (X0.out 0 _ rfl).1
    have f0 := (X0.out 0 _ rfl).2
    have y1 := (X0.out 1 _ rfl).1
    have f1 := (X0.out 1 _ rfl).2
    have y2 := (X0.out 2 _ rfl).1
    have f2 := (X0.out 2 _ rfl).2
    have y3 := (X0.out 3 _ rfl).1
    have f3 := (X0.out 3 _ rfl).2
    have y4 := (X0.out 4 _ rfl).1
    have f4 := (X0.out 4 _ rfl).2
    have y5 := (X0.out 5 _ rfl).1
    have f5 := (X0.out 5 _ rfl).2
    have y6 := (X0.out 6 _ rfl).1
    have f6 := (X0.out 6 _ rfl).2
    have y7 := (X0.out 7 _ rfl).1
    have f7 := (X0.out 7 _ rfl).2
    have Z1 : Hid (Bx ((((((((W8.setCell ⟨b0, 0, none⟩ (.int .i64 0)).setCell ⟨b0, 1, none⟩ (.int .i64 0)).setCell ⟨b0, 2, none⟩ (.int .i64 0)).setCell ⟨b0, 3, none⟩ (.int .i64 0)).setCell ⟨b0, 4, none⟩ (.string ⟨#[]⟩)).setCell ⟨b0, 5, none⟩ (.bool false)).setCell ⟨b0, 6, none⟩ (.slice none 0 0)).setCell ⟨b0, 7, none⟩ (.bool false)) b0 [.int .i64 0, .int .i64 0, .int .i64 0, .int .i64 0, .string ⟨#[]⟩, .bool false, .slice none 0 0, .bool false]) := Lib.hid (Bx.puts [.int .i64 0, .int .i64 0, .int .i64 0, .int .i64 0, .string ⟨#[]⟩, .bool false, .slice none 0 0, .bool false] [.int .i64 0, .int .i64 0, .int .i64 0, .int .i64 0, .string ⟨#[]⟩, .bool false, .slice none 0 0, .bool false] [] X0.out rfl)
    have ZQ : Hid (Q w ((((((((W8.setCell ⟨b0, 0, none⟩ (.int .i64 0)).setCell ⟨b0, 1, none⟩ (.int .i64 0)).setCell ⟨b0, 2, none⟩ (.int .i64 0)).setCell ⟨b0, 3, none⟩ (.int .i64 0)).setCell ⟨b0, 4, none⟩ (.string ⟨#[]⟩)).setCell ⟨b0, 5, none⟩ (.bool false)).setCell ⟨b0, 6, none⟩ (.slice none 0 0)).setCell ⟨b0, 7, none⟩ (.bool false))) := Lib.hid (Q.sets (Nat.le_of_eq HB0.out) [.int .i64 0, .int .i64 0, .int .i64 0, .int .i64 0, .string ⟨#[]⟩, .bool false, .slice none 0 0, .bool false] 0 QF.out)
    go_wp2
    generalize ((((((((W8.setCell ⟨b0, 0, none⟩ (.int .i64 0)).setCell ⟨b0, 1, none⟩ (.int .i64 0)).setCell ⟨b0, 2, none⟩ (.int .i64 0)).setCell ⟨b0, 3, none⟩ (.int .i64 0)).setCell ⟨b0, 4, none⟩ (.string ⟨#[]⟩)).setCell ⟨b0, 5, none⟩ (.bool false)).setCell ⟨b0, 6, none⟩ (.slice none 0 0)).setCell ⟨b0, 7, none⟩ (.bool false)) = W99 at Z1 ZQ ⊢
    have r0 := (Z1.out 0 _ rfl).1
    have r1 := (Z1.out 1 _ rfl).1
    have r2 := (Z1.out 2 _ rfl).1
    have r3 := (Z1.out 3 _ rfl).1
    have r4 := (Z1.out 4 _ rfl).1
    have r5 := (Z1.out 5 _ rfl).1
    have r6 := (Z1.out 6 _ rfl).1
    have r7 := (Z1.out 7 _ rfl).1
    refine bodyPost_ret (v := .tuple #[.agg #[.int .i64 0, .int .i64 0, .int .i64 0, .int .i64 0, .string ⟨#[]⟩, .bool false, .slice none 0 0, .bool false], .int .i64 3]) (by simp [results, Tryd.results18, go_sem, r0, r1, r2, r3, r4, r5, r6, r7]) rfl ?_
    exact ⟨none, 0, by first | (rw [HB.out]; done) | (rw [HB.out]; rfl), by rw [HB.out]; exact In_.none_ _ _, (fun _ e => by cases e), ZQ.out⟩
  | true =>
    rw [hi] at a8
    by_cases hc1 : 1 < P6.n
    · have HB : Hid (res = (rp0, 3)) := Lib.hid (by rw [HT.out, if_pos (.inr (.inl hc1))])
      have hci : (1 : Int) < (P6.n : Int) := by omega
      have y0 := (X0.out 0 _ rfl).1
      have f0 := (X0.out 0 _ rfl).2
      have y1 := (X0.out 1 _ rfl).1
      have f1 := (X0.out 1 _ rfl).2
      have y2 := (X0.out 2 _ rfl).1
      have f2 := (X0.out 2 _ rfl).2
      have y3 := (X0.out 3 _ rfl).1
      have f3 := (X0.out 3 _ rfl).2
      have y4 := (X0.out 4 _ rfl).1
      have f4 := (X0.out 4 _ rfl).2
      have y5 := (X0.out 5 _ rfl).1
      have f5 := (X0.out 5 _ rfl).2
      have y6 := (X0.out 6 _ rfl).1
      have f6 := (X0.out 6 _ rfl).2
      have y7 := (X0.out 7 _ rfl).1
      have f7 := (X0.out 7 _ rfl).2
      have Z1 : Hid (Bx ((((((((W8.setCell ⟨b0, 0, none⟩ (.int .i64 0)).setCell ⟨b0, 1, none⟩ (.int .i64 0)).setCell ⟨b0, 2, none⟩ (.int .i64 0)).setCell ⟨b0, 3, none⟩ (.int .i64 0)).setCell ⟨b0, 4, none⟩ (.string ⟨#[]⟩)).setCell ⟨b0, 5, none⟩ (.bool false)).setCell ⟨b0, 6, none⟩ (.slice none 0 0)).setCell ⟨b0, 7, none⟩ (.bool false)) b0 [.int .i64 0, .int .i64 0, .int .i64 0, .int .i64 0, .string ⟨#[]⟩, .bool false, .slice none 0 0, .bool false]) := Lib.hid (Bx.puts [.int .i64 0, .int .i64 0, .int .i64 0, .int .i64 0, .string ⟨#[]⟩, .bool false, .slice none 0 0, .bool false] [.int .i64 0, .int .i64 0, .int .i64 0, .int .i64 0, .string ⟨#[]⟩, .bool false, .slice none 0 0, .bool false] [] X0.out rfl)
      have ZQ : Hid (Q w ((((((((W8.setCell ⟨b0, 0, none⟩ (.int .i64 0)).setCell ⟨b0, 1, none⟩ (.int .i64 0)).setCell ⟨b0, 2, none⟩ (.int .i64 0)).setCell ⟨b0, 3, none⟩ (.int .i64 0)).setCell ⟨b0, 4, none⟩ (.string ⟨#[]⟩)).setCell ⟨b0, 5, none⟩ (.bool false)).setCell ⟨b0, 6, none⟩ (.slice none 0 0)).setCell ⟨b0, 7, none⟩ (.bool false))) := Lib.hid (Q.sets (Nat.le_of_eq HB0.out) [.int .i64 0, .int .i64 0, .int .i64 0, .int .i64 0, .string ⟨#[]⟩, .bool false, .slice none 0 0, .bool false] 0 QF.out)
      go_wp2
      generalize ((((((((W8.setCell ⟨b0, 0, none⟩ (.int .i64 0)).setCell ⟨b0, 1, none⟩ (.int .i64 0)).setCell ⟨b0, 2, none⟩ (.int .i64 0)).setCell ⟨b0, 3, none⟩ (.int .i64 0)).setCell ⟨b0, 4, none⟩ (.string ⟨#[]⟩)).setCell ⟨b0, 5, none⟩ (.bool false)).setCell ⟨b0, 6, none⟩ (.slice none 0 0)).setCell ⟨b0, 7, none⟩ (.bool false)) = W99 at Z1 ZQ ⊢
      have r0 := (Z1.out 0 _ rfl).1
      have r1 := (Z1.out 1 _ rfl).1
      have r2 := (Z1.out 2 _ rfl).1
      have r3 := (Z1.out 3 _ rfl).1
      have r4 := (Z1.out 4 _ rfl).1
      have r5 := (Z1.out 5 _ rfl).1
      have r6 := (Z1.out 6 _ rfl).1
      have r7 := (Z1.out 7 _ rfl).1
      refine bodyPost_ret (v := .tuple #[.agg #[.int .i64 0, .int .i64 0, .int .i64 0, .int .i64 0, .string ⟨#[]⟩, .bool false, .slice none 0 0, .bool false], .int .i64 3]) (by simp [results, Tryd.results18, go_sem, r0, r1, r2, r3, r4, r5, r6, r7]) rfl ?_
      exact ⟨none, 0, by first | (rw [HB.out]; done) | (rw [HB.out]; rfl), by rw [HB.out]; exact In_.none_ _ _, (fun _ e => by cases e), ZQ.out⟩
    have hci1 : ¬ (1 : Int) < (P6.n : Int) := by omega
    by_cases hc2 : 1 < P7.n
    · have HB : Hid (res = (rp0, 3)) := Lib.hid (by rw [HT.out, if_pos (.inr (.inr (.inl hc2)))])
      have hci : (1 : Int) < (P7.n : Int) := by omega
      have y0 := (X0.out 0 _ rfl).1
      have f0 := (X0.out 0 _ rfl).2
      have y1 := (X0.out 1 _ rfl).1
      have f1 := (X0.out 1 _ rfl).2
      have y2 := (X0.out 2 _ rfl).1
      have f2 := (X0.out 2 _ rfl).2
      have y3 := (X0.out 3 _ rfl).1
      have f3 := (X0.out 3 _ rfl).2
      have y4 := (X0.out 4 _ rfl).1
      have f4 := (X0.out 4 _ rfl).2
      have y5 := (X0.out 5 _ rfl).1
      have f5 := (X0.out 5 _ rfl).2
      have y6 := (X0.out 6 _ rfl).1
      have f6 := (X0.out 6 _ rfl).2
      have y7 := (X0.out 7 _ rfl).1
      have f7 := (X0.out 7 _ rfl).2
      have Z1 : Hid (Bx ((((((((W8.setCell ⟨b0, 0, none⟩ (.int .i64 0)).setCell ⟨b0, 1, none⟩ (.int .i64 0)).setCell ⟨b0, 2, none⟩ (.int .i64 0)).setCell ⟨b0, 3, none⟩ (.int .i64 0)).setCell ⟨b0, 4, none⟩ (.string ⟨#[]⟩)).setCell ⟨b0, 5, none⟩ (.bool false)).setCell ⟨b0, 6, none⟩ (.slice none 0 0)).setCell ⟨b0, 7, none⟩ (.bool false)) b0 [.int .i64 0, .int .i64 0, .int .i64 0, .int .i64 0, .string ⟨#[]⟩, .bool false, .slice none 0 0, .bool false]) := Lib.hid (Bx.puts [.int .i64 0, .int .i64 0, .int .i64 0, .int .i64 0, .string ⟨#[]⟩, .bool false, .slice none 0 0, .bool false] [.int .i64 0, .int .i64 0, .int .i64 0, .int .i64 0, .string ⟨#[]⟩, .bool false, .slice none 0 0, .bool false] [] X0.out rfl)
      have ZQ : Hid (Q w ((((((((W8.setCell ⟨b0, 0, none⟩ (.int .i64 0)).setCell ⟨b0, 1, none⟩ (.int .i64 0)).setCell ⟨b0, 2, none⟩ (.int .i64 0)).setCell ⟨b0, 3, none⟩ (.int .i64 0)).setCell ⟨b0, 4, none⟩ (.string ⟨#[]⟩)).setCell ⟨b0, 5, none⟩ (.bool false)).setCell ⟨b0, 6, none⟩ (.slice none 0 0)).setCell ⟨b0, 7, none⟩ (.bool false))) := Lib.hid (Q.sets (Nat.le_of_eq HB0.out) [.int .i64 0, .int .i64 0, .int .i64 0, .int .i64 0, .string ⟨#[]⟩, .bool false, .slice none 0 0, .bool false] 0 QF.out)
      go_wp2
      generalize ((((((((W8.setCell ⟨b0, 0, none⟩ (.int .i64 0)).setCell ⟨b0, 1, none⟩ (.int .i64 0)).setCell ⟨b0, 2, none⟩ (.int .i64 0)).setCell ⟨b0, 3, none⟩ (.int .i64 0)).setCell ⟨b0, 4, none⟩ (.string ⟨#[]⟩)).setCell ⟨b0, 5, none⟩ (.bool false)).setCell ⟨b0, 6, none⟩ (.slice none 0 0)).setCell ⟨b0, 7, none⟩ (.bool false)) = W99 at Z1 ZQ ⊢
      have r0 := (Z1.out 0 _ rfl).1
      have r1 := (Z1.out 1 _ rfl).1
      have r2 := (Z1.out 2 _ rfl).1
      have r3 := (Z1.out 3 _ rfl).1
      have r4 := (Z1.out 4 _ rfl).1
      have r5 := (Z1.out 5 _ rfl).1
      have r6 := (Z1.out 6 _ rfl).1
      have r7 := (Z1.out 7 _ rfl).1
      refine bodyPost_ret (v := .tuple #[.agg #[.int .i64 0, .int .i64 0, .int .i64 0, .int .i64 0, .string ⟨#[]⟩, .bool false, .slice none 0 0, .bool false], .int .i64 3]) (by simp [results, Tryd.results18, go_sem, r0, r1, r2, r3, r4, r5, r6, r7]) rfl ?_
      exact ⟨none, 0, by first | (rw [HB.out]; done) | (rw [HB.out]; rfl), by rw [HB.out]; exact In_.none_ _ _, (fun _ e => by cases e), ZQ.out⟩
    have hci2 : ¬ (1 : Int) < (P7.n : Int) := by omega
    by_cases hc3 : 16 < P8.n
    · have HB : Hid (res = (rp0, 3)) := Lib.hid (by rw [HT.out, if_pos (.inr (.inr (.inr (.inl hc3))))])
      have hci : (16 : Int) < (P8.n : Int) := by omega
      have y0 := (X0.out 0 _ rfl).1
      have f0 := (X0.out 0 _ rfl).2
      have y1 := (X0.out 1 _ rfl).1
      have f1 := (X0.out 1 _ rfl).2
      have y2 := (X0.out 2 _ rfl).1
      have f2 := (X0.out 2 _ rfl).2
      have y3 := (X0.out 3 _ rfl).1
      have f3 := (X0.out 3 _ rfl).2
      have y4 := (X0.out 4 _ rfl).1
      have f4 := (X0.out 4 _ rfl).2
      have y5 := (X0.out 5 _ rfl).1
      have f5 := (X0.out 5 _ rfl).2
      have y6 := (X0.out 6 _ rfl).1
      have f6 := (X0.out 6 _ rfl).2
      have y7 := (X0.out 7 _ rfl).1
      have f7 := (X0.out 7 _ rfl).2
      have Z1 : Hid (Bx ((((((((W8.setCell ⟨b0, 0, none⟩ (.int .i64 0)).setCell ⟨b0, 1, none⟩ (.int .i64 0)).setCell ⟨b0, 2, none⟩ (.int .i64 0)).setCell ⟨b0, 3, none⟩ (.int .i64 0)).setCell ⟨b0, 4, none⟩ (.string ⟨#[]⟩)).setCell ⟨b0, 5, none⟩ (.bool false)).setCell ⟨b0, 6, none⟩ (.slice none 0 0)).setCell ⟨b0, 7, none⟩ (.bool false)) b0 [.int .i64 0, .int .i64 0, .int .i64 0, .int .i64 0, .string ⟨#[]⟩, .bool false, .slice none 0 0, .bool false]) := Lib.hid (Bx.puts [.int .i64 0, .int .i64 0, .int .i64 0, .int .i64 0, .string ⟨#[]⟩, .bool false, .slice none 0 0, .bool false] [.int .i64 0, .int .i64 0, .int .i64 0, .int .i64 0, .string ⟨#[]⟩, .bool false, .slice none 0 0, .bool false] [] X0.out rfl)
      have ZQ : Hid (Q w ((((((((W8.setCell ⟨b0, 0, none⟩ (.int .i64 0)).setCell ⟨b0, 1, none⟩ (.int .i64 0)).setCell ⟨b0, 2, none⟩ (.int .i64 0)).setCell ⟨b0, 3, none⟩ (.int .i64 0)).setCell ⟨b0, 4, none⟩ (.string ⟨#[]⟩)).setCell ⟨b0, 5, none⟩ (.bool false)).setCell ⟨b0, 6, none⟩ (.slice none 0 0)).setCell ⟨b0, 7, none⟩ (.bool false))) := Lib.hid (Q.sets (Nat.le_of_eq HB0.out) [.int .i64 0, .int .i64 0, .int .i64 0, .int .i64 0, .string ⟨#[]⟩, .bool false, .slice none 0 0, .bool false] 0 QF.out)
      go_wp2
      generalize ((((((((W8.setCell ⟨b0, 0, none⟩ (.int .i64 0)).setCell ⟨b0, 1, none⟩ (.int .i64 0)).setCell ⟨b0, 2, none⟩ (.int .i64 0)).setCell ⟨b0, 3, none⟩ (.int .i64 0)).setCell ⟨b0, 4, none⟩ (.string ⟨#[]⟩)).setCell ⟨b0, 5, none⟩ (.bool false)).setCell ⟨b0, 6, none⟩ (.slice none 0 0)).setCell ⟨b0, 7, none⟩ (.bool false)) = W99 at Z1 ZQ ⊢
      have r0 := (Z1.out 0 _ rfl).1
      have r1 := (Z1.out 1 _ rfl).1
      have r2 := (Z1.out 2 _ rfl).1
      have r3 := (Z1.out 3 _ rfl).1
      have r4 := (Z1.out 4 _ rfl).1
      have r5 := (Z1.out 5 _ rfl).1
      have r6 := (Z1.out 6 _ rfl).1
      have r7 := (Z1.out 7 _ rfl).1
      refine bodyPost_ret (v := .tuple #[.agg #[.int .i64 0, .int .i64 0, .int .i64 0, .int .i64 0, .string ⟨#[]⟩, .bool false, .slice none 0 0, .bool false], .int .i64 3]) (by simp [results, Tryd.results18, go_sem, r0, r1, r2, r3, r4, r5, r6, r7]) rfl ?_
      exact ⟨none, 0, by first | (rw [HB.out]; done) | (rw [HB.out]; rfl), by rw [HB.out]; exact In_.none_ _ _, (fun _ e => by cases e), ZQ.out⟩
    have hci3 : ¬ (16 : Int) < (P8.n : Int) := by omega
    by_cases hc4 : 16 < P4.n
    · have HB : Hid (res = (rp0, 3)) := Lib.hid (by rw [HT.out, if_pos (.inr (.inr (.inr (.inr (hc4)))))])
      have hci : (16 : Int) < (P4.n : Int) := by omega
      have y0 := (X0.out 0 _ rfl).1
      have f0 := (X0.out 0 _ rfl).2
      have y1 := (X0.out 1 _ rfl).1
      have f1 := (X0.out 1 _ rfl).2
      have y2 := (X0.out 2 _ rfl).1
      have f2 := (X0.out 2 _ rfl).2
      have y3 := (X0.out 3 _ rfl).1
      have f3 := (X0.out 3 _ rfl).2
      have y4 := (X0.out 4 _ rfl).1
      have f4 := (X0.out 4 _ rfl).2
      have y5 := (X0.out 5 _ rfl).1
      have f5 := (X0.out 5 _ rfl).2
      have y6 := (X0.out 6 _ rfl).1
      have f6 := (X0.out 6 _ rfl).2
      have y7 := (X0.out 7 _ rfl).1
      have f7 := (X0.out 7 _ rfl).2
      have Z1 : Hid (Bx ((((((((W8.setCell ⟨b0, 0, none⟩ (.int .i64 0)).setCell ⟨b0, 1, none⟩ (.int .i64 0)).setCell ⟨b0, 2, none⟩ (.int .i64 0)).setCell ⟨b0, 3, none⟩ (.int .i64 0)).setCell ⟨b0, 4, none⟩ (.string ⟨#[]⟩)).setCell ⟨b0, 5, none⟩ (.bool false)).setCell ⟨b0, 6, none⟩ (.slice none 0 0)).setCell ⟨b0, 7, none⟩ (.bool false)) b0 [.int .i64 0, .int .i64 0, .int .i64 0, .int .i64 0, .string ⟨#[]⟩, .bool false, .slice none 0 0, .bool false]) := Lib.hid (Bx.puts [.int .i64 0, .int .i64 0, .int .i64 0, .int .i64 0, .string ⟨#[]⟩, .bool false, .slice none 0 0, .bool false] [.int .i64 0, .int .i64 0, .int .i64 0, .int .i64 0, .string ⟨#[]⟩, .bool false, .slice none 0 0, .bool false] [] X0.out rfl)
      have ZQ : Hid (Q w ((((((((W8.setCell ⟨b0, 0, none⟩ (.int .i64 0)).setCell ⟨b0, 1, none⟩ (.int .i64 0)).setCell ⟨b0, 2, none⟩ (.int .i64 0)).setCell ⟨b0, 3, none⟩ (.int .i64 0)).setCell ⟨b0, 4, none⟩ (.string ⟨#[]⟩)).setCell ⟨b0, 5, none⟩ (.bool false)).setCell ⟨b0, 6, none⟩ (.slice none 0 0)).setCell ⟨b0, 7, none⟩ (.bool false))) := Lib.hid (Q.sets (Nat.le_of_eq HB0.out) [.int .i64 0, .int .i64 0, .int .i64 0, .int .i64 0, .string ⟨#[]⟩, .bool false, .slice none 0 0, .bool false] 0 QF.out)
      go_wp2
      generalize ((((((((W8.setCell ⟨b0, 0, none⟩ (.int .i64 0)).setCell ⟨b0, 1, none⟩ (.int .i64 0)).setCell ⟨b0, 2, none⟩ (.int .i64 0)).setCell ⟨b0, 3, none⟩ (.int .i64 0)).setCell ⟨b0, 4, none⟩ (.string ⟨#[]⟩)).setCell ⟨b0, 5, none⟩ (.bool false)).setCell ⟨b0, 6, none⟩ (.slice none 0 0)).setCell ⟨b0, 7, none⟩ (.bool false)) = W99 at Z1 ZQ ⊢
      have r0 := (Z1.out 0 _ rfl).1
      have r1 := (Z1.out 1 _ rfl).1
      have r2 := (Z1.out 2 _ rfl).1
      have r3 := (Z1.out 3 _ rfl).1
      have r4 := (Z1.out 4 _ rfl).1
      have r5 := (Z1.out 5 _ rfl).1
      have r6 := (Z1.out 6 _ rfl).1
      have r7 := (Z1.out 7 _ rfl).1
      refine bodyPost_ret (v := .tuple #[.agg #[.int .i64 0, .int .i64 0, .int .i64 0, .int .i64 0, .string ⟨#[]⟩, .bool false, .slice none 0 0, .bool false], .int .i64 3]) (by simp [results, Tryd.results18, go_sem, r0, r1, r2, r3, r4, r5, r6, r7]) rfl ?_
      exact ⟨none, 0, by first | (rw [HB.out]; done) | (rw [HB.out]; rfl), by rw [HB.out]; exact In_.none_ _ _, (fun _ e => by cases e), ZQ.out⟩
    have hci4 : ¬ (16 : Int) < (P4.n : Int) := by omega
    have HT2 := HT.out
    rw [if_neg (by rintro (h | h | h | h | h); exact absurd (hi.symm.trans h) (by simp); exact hc1 h; exact hc2 h; exact hc3 h; exact hc4 h)] at HT2
    have HT3 := Lib.hid HT2
    clear HT2 HT
    clear hi
    go_upto_region 11 with (fail)
    clear a8 a80 a6 a7 a4
    have x10 := (X1.out 0 _ rfl).1
    have x20 := (X2.out 0 _ rfl).1
    have x30 := (X3.out 0 _ rfl).1
    have x40 := (X4.out 0 _ rfl).1
    have x50 := (X5.out 1 _ rfl).1
    have x60 := (X6.out 0 _ rfl).1
    have x70 := (X7.out 0 _ rfl).1
    have L0_12 := Lib.hid ((X0.out).lt)
    have L8_12 := Lib.hid ((X8.out).lt)
    have H_12 := Lib.hid ((QF.out).size)
    have qa := (Q.refl W8).alloc (.cells #[.int .i64 (P1.n : Int), .int .i64 (P2.n : Int), .int .i64 (P3.n : Int), .int .i64 (P4.n : Int), .string (ba P5.t), .bool (decide ((P6.n : Int) = 1)), .slice none 0 0, .bool (decide ((P7.n : Int) = 1))] 40)
    replace X0 := Lib.hid ((X0.out).q qa)
    replace X1 := Lib.hid ((X1.out).q qa)
    replace X2 := Lib.hid ((X2.out).q qa)
    replace X3 := Lib.hid ((X3.out).q qa)
    replace X4 := Lib.hid ((X4.out).q qa)
    replace X5 := Lib.hid ((X5.out).q qa)
    replace X6 := Lib.hid ((X6.out).q qa)
    replace X7 := Lib.hid ((X7.out).q qa)
    replace X8 := Lib.hid ((X8.out).q qa)
    replace QF := Lib.hid ((QF.out).trans qa)
    have X12 : Hid (Bx (W8.alloc (.cells #[.int .i64 (P1.n : Int), .int .i64 (P2.n : Int), .int .i64 (P3.n : Int), .int .i64 (P4.n : Int), .string (ba P5.t), .bool (decide ((P6.n : Int) = 1)), .slice none 0 0, .bool (decide ((P7.n : Int) = 1))] 40)) W8.heap.size [.int .i64 (P1.n : Int), .int .i64 (P2.n : Int), .int .i64 (P3.n : Int), .int .i64 (P4.n : Int), .string (ba P5.t), .bool (decide ((P6.n : Int) = 1)), .slice none 0 0, .bool (decide ((P7.n : Int) = 1))]) := Lib.hid (Bx.new W8 [.int .i64 (P1.n : Int), .int .i64 (P2.n : Int), .int .i64 (P3.n : Int), .int .i64 (P4.n : Int), .string (ba P5.t), .bool (decide ((P6.n : Int) = 1)), .slice none 0 0, .bool (decide ((P7.n : Int) = 1))] 40)
    clear qa
    go_upto_region 12 with (fail)
    generalize W8.alloc (.cells #[.int .i64 (P1.n : Int), .int .i64 (P2.n : Int), .int .i64 (P3.n : Int), .int .i64 (P4.n : Int), .string (ba P5.t), .bool (decide ((P6.n : Int) = 1)), .slice none 0 0, .bool (decide ((P7.n : Int) = 1))] 40) = W12 at X0 X1 X2 X3 X4 X5 X6 X7 X8 X12 QF ⊢
    generalize W8.heap.size = b12 at X12 L0_12 L8_12 H_12 ⊢
    clear x10 x20 x30 x40 x50 x60 x70
    have x0 := (X8.out 0 _ rfl).1
    have x1 := (X8.out 1 _ rfl).1
    have x2 := (X8.out 2 _ rfl).1
    have x3 := (X8.out 3 _ rfl).1
    have L0_13 := Lib.hid ((X0.out).lt)
    have L8_13 := Lib.hid ((X8.out).lt)
    have L12_13 := Lib.hid ((X12.out).lt)
    have H_13 := Lib.hid ((QF.out).size)
    have qa := (Q.refl W12).alloc (.cells #[.int .i64 (P8.n : Int), .string (ba P8.t), .string (ba P8.rest), .bool P8.is] 62)
    replace X0 := Lib.hid ((X0.out).q qa)
    replace X1 := Lib.hid ((X1.out).q qa)
    replace X2 := Lib.hid ((X2.out).q qa)
    replace X3 := Lib.hid ((X3.out).q qa)
    replace X4 := Lib.hid ((X4.out).q qa)
    replace X5 := Lib.hid ((X5.out).q qa)
    replace X6 := Lib.hid ((X6.out).q qa)
    replace X7 := Lib.hid ((X7.out).q qa)
    replace X8 := Lib.hid ((X8.out).q qa)
    replace X12 := Lib.hid ((X12.out).q qa)
    replace QF := Lib.hid ((QF.out).trans qa)
    have X13 : Hid (Bx (W12.alloc (.cells #[.int .i64 (P8.n : Int), .string (ba P8.t), .string (ba P8.rest), .bool P8.is] 62)) W12.heap.size [.int .i64 (P8.n : Int), .string (ba P8.t), .string (ba P8.rest), .bool P8.is]) := Lib.hid (Bx.new W12 [.int .i64 (P8.n : Int), .string (ba P8.t), .string (ba P8.rest), .bool P8.is] 62)
    clear qa
    go_upto_region 13 with (fail)
    generalize W12.alloc (.cells #[.int .i64 (P8.n : Int), .string (ba P8.t), .string (ba P8.rest), .bool P8.is] 62) = W13 at X0 X1 X2 X3 X4 X5 X6 X7 X8 X12 X13 QF ⊢
    generalize W12.heap.size = b13 at X13 L0_13 L8_13 L12_13 H_13 ⊢
    clear x0 x1 x2 x3
    clear X1 X2 X3 X4 X5 X6 X7
    have A13_0 := Lib.hid (Nat.ne_of_gt L0_13.out)
    have A13_8 := Lib.hid (Nat.ne_of_gt L8_13.out)
    have A13_12 := Lib.hid (Nat.ne_of_gt L12_13.out)
    have A12_0 := Lib.hid (Nat.ne_of_gt L0_12.out)
    have A12_8 := Lib.hid (Nat.ne_of_gt L8_12.out)
    have A12_13 := Lib.hid (Nat.ne_of_lt L12_13.out)
    have I0 := Lib.hid X0.out.lt
    have I8 := Lib.hid X8.out.lt
    have I12 := Lib.hid X12.out.lt
    have I13 := Lib.hid X13.out.lt
    have hwb := QF.out.size
    generalize hBB : W13.heap.size = BB at I0 I8 I12 I13 hwb
    have HBB := Lib.hid hBB
    clear hBB L0_12 L8_12 L0_13 L8_13 L12_13 L0_8 K1 K2 K3 K4 K5 K6 K7 K8
    go_upto_region 14 with (fail)
    go_loopw [14] (fun iv wr => ∃ (k : Nat) (acc : List Pr) (PL : Pt) (A4 : Option Addr) (c4 : Nat), iv = .int .i64 (k : Nat) ∧ k ≤ P8.n ∧ acc.length = k ∧ OwnK pairK wr BB A4 acc.length c4 acc ∧ Bx wr b0 [.int .i64 0, .int .i64 0, .int .i64 0, .int .i64 0, .string ⟨#[]⟩, .bool false, .slice none 0 0, .bool false] ∧ Bx wr b8 [.int .i64 (P8.n : Int), .string (ba P8.t), .string (ba P8.rest), .bool P8.is] ∧ Bx wr b12 [.int .i64 (P1.n : Int), .int .i64 (P2.n : Int), .int .i64 (P3.n : Int), .int .i64 (P4.n : Int), .string (ba P5.t), .bool (decide ((P6.n : Int) = 1)), .slice A4 acc.length c4, .bool (decide ((P7.n : Int) = 1))] ∧ Bx wr b13 [.int .i64 (PL.n : Int), .string (ba PL.t), .string (ba PL.rest), .bool PL.is] ∧
      PL.rest.length ≤ 140737488355328 ∧ tkR P8.n [] P8 = tkR (P8.n - k) acc PL ∧ (∀ x ∈ acc, x.key.size ≤ 32) ∧ Q w wr ∧ BB ≤ wr.heap.size) (fun iv _ => P8.n - (intOf iv).toNat)
    case atStart => exact ⟨0, [], P8, none, 0, rfl, Nat.zero_le _, rfl, OwnK.nil_ _ _ _, X0.out, X8.out, X12.out, X13.out, Z8F.out, rfl, (fun x hx => by cases hx), QF.out, Nat.le_of_eq HBB.out.symm⟩
    case round =>
      obtain ⟨k, acc, PL, A4, c4, rfl, hk, hacl, ho, hx0, hx8, hx12, hx13, hpl, htk, hky, hq, hbw⟩ := hrel
      have X0 := Lib.hid hx0
      have X8 := Lib.hid hx8
      have X12 := Lib.hid hx12
      have X13 := Lib.hid hx13
      have O := Lib.hid ho
      have QF := Lib.hid hq
      have HTK := Lib.hid htk
      have HKY := Lib.hid hky
      have HPL := Lib.hid hpl
      have HAL := Lib.hid hacl
      have HBW := Lib.hid hbw
      clear hx0 hx8 hx12 hx13 ho hq htk hky hpl hacl hbw HBB
      have a80 := (X8.out 0 _ rfl).1
      by_cases hlt : k < P8.n
      · have hki : (k : Int) < (P8.n : Int) := by omega
        obtain ⟨PK, g9⟩ : ∃ P, tkt 32 PL = P := ⟨_, rfl⟩
        obtain ⟨PV, g10⟩ : ∃ P, tkt 64 PK = P := ⟨_, rfl⟩
        have y1 := HPL.out
        have y2 : PK.rest.length ≤ 140737488355328 := by rw [← g9]; exact Nat.le_trans (tkt_rest _ _) y1
        have y3 : PV.rest.length ≤ 140737488355328 := by rw [← g10]; exact Nat.le_trans (tkt_rest _ _) y2
        have K9 : Hid (∀ W, Calls Tryd.prog 28 #[.agg #[.int .i64 (PL.n : Int), .string (ba PL.t), .string (ba PL.rest), .bool PL.is], .int .i64 32] W fun e w' => e = .returned (.agg #[.int .i64 (PK.n : Int), .string (ba PK.t), .string (ba PK.rest), .bool PK.is]) ∧ Q W w') := Lib.hid (fun W => by have h := reads_any PL 32 W (by omega) (by omega); rw [g9] at h; exact h)
        have K10 : Hid (∀ W, Calls Tryd.prog 28 #[.agg #[.int .i64 (PK.n : Int), .string (ba PK.t), .string (ba PK.rest), .bool PK.is], .int .i64 64] W fun e w' => e = .returned (.agg #[.int .i64 (PV.n : Int), .string (ba PV.t), .string (ba PV.rest), .bool PV.is]) ∧ Q W w') := Lib.hid (fun W => by have h := reads_any PK 64 W (by omega) (by omega); rw [g10] at h; exact h)
        have hstep : tkR (P8.n - k) acc PL = tkR (P8.n - (k + 1)) (acc ++ [⟨ba PK.t, ba PV.t⟩]) PV := by
          rw [show P8.n - k = (P8.n - (k + 1)) + 1 by omega, ← g10, ← g9]
          rfl
        have hks : (ba PK.t).size ≤ 32 := by rw [← g9]; have := tkt_size 32 PL (by omega); omega
        have HSTEP := Lib.hid (And.intro (HTK.out.trans hstep) (And.intro hks y3))
        clear hstep hks y1 y2 y3 g9 g10
        go_upto_region 16 with (fail)
        clear a80
        have x0 := (X13.out 0 _ rfl).1
        have x1 := (X13.out 1 _ rfl).1
        have x2 := (X13.out 2 _ rfl).1
        have x3 := (X13.out 3 _ rfl).1
        go_wp2_with fail
        refine (K9.out _).mono ?_
        rintro e15 v15 ⟨rfl, q15⟩
        clear x0 x1 x2 x3
        have L13_15 := Lib.hid ((X13.out.q q15).lt)
        have qa := (Q.refl v15).alloc (.cells #[.int .i64 (PK.n : Int), .string (ba PK.t), .string (ba PK.rest), .bool PK.is] 62)
        replace X0 := Lib.hid ((X0.out.q q15).q qa)
        replace X8 := Lib.hid ((X8.out.q q15).q qa)
        replace X12 := Lib.hid ((X12.out.q q15).q qa)
        replace X13 := Lib.hid ((X13.out.q q15).q qa)
        replace O := Lib.hid ((O.out.q q15).q qa)
        replace HBW := Lib.hid (Nat.le_trans HBW.out (Nat.le_trans q15.size qa.size))
        replace QF := Lib.hid ((QF.out.trans q15).trans qa)
        have X15 : Hid (Bx (v15.alloc (.cells #[.int .i64 (PK.n : Int), .string (ba PK.t), .string (ba PK.rest), .bool PK.is] 62)) v15.heap.size [.int .i64 (PK.n : Int), .string (ba PK.t), .string (ba PK.rest), .bool PK.is]) := Lib.hid (Bx.new v15 [.int .i64 (PK.n : Int), .string (ba PK.t), .string (ba PK.rest), .bool PK.is] 62)
        clear qa q15
        go_upto_region 17 with (fail)
        generalize v15.alloc (.cells #[.int .i64 (PK.n : Int), .string (ba PK.t), .string (ba PK.rest), .bool PK.is] 62) = W15 at X0 X8 X12 X13 X15 O HBW QF ⊢
        generalize v15.heap.size = b15 at X15 L13_15 ⊢
        have x0 := (X15.out 0 _ rfl).1
        have x1 := (X15.out 1 _ rfl).1
        have x2 := (X15.out 2 _ rfl).1
        have x3 := (X15.out 3 _ rfl).1
        go_wp2_with fail
        refine (K10.out _).mono ?_
        rintro e17 v17 ⟨rfl, q17⟩
        clear x0 x1 x2 x3
        have X0 := Lib.hid (X0.out.q q17)
        have X8 := Lib.hid (X8.out.q q17)
        have X12 := Lib.hid (X12.out.q q17)
        have X13 := Lib.hid (X13.out.q q17)
        have X15 := Lib.hid (X15.out.q q17)
        have O := Lib.hid (O.out.q q17)
        have HBW := Lib.hid (Nat.le_trans HBW.out q17.size)
        have QF := Lib.hid (QF.out.trans q17)
        clear q17
        have y0 := (X13.out 0 _ rfl).1
        have f0 := (X13.out 0 _ rfl).2
        have y1 := (X13.out 1 _ rfl).1
        have f1 := (X13.out 1 _ rfl).2
        have y2 := (X13.out 2 _ rfl).1
        have f2 := (X13.out 2 _ rfl).2
        have y3 := (X13.out 3 _ rfl).1
        have f3 := (X13.out 3 _ rfl).2
        have X0 : Hid (Bx ((((v17.setCell ⟨b13, 0, none⟩ (.int .i64 (PV.n : Int))).setCell ⟨b13, 1, none⟩ (.string (ba PV.t))).setCell ⟨b13, 2, none⟩ (.string (ba PV.rest))).setCell ⟨b13, 3, none⟩ (.bool PV.is)) b0 [.int .i64 0, .int .i64 0, .int .i64 0, .int .i64 0, .string ⟨#[]⟩, .bool false, .slice none 0 0, .bool false]) := Lib.hid (Bx.fars A13_0.out [.int .i64 (PV.n : Int), .string (ba PV.t), .string (ba PV.rest), .bool PV.is] 0 X0.out)
        have X8 : Hid (Bx ((((v17.setCell ⟨b13, 0, none⟩ (.int .i64 (PV.n : Int))).setCell ⟨b13, 1, none⟩ (.string (ba PV.t))).setCell ⟨b13, 2, none⟩ (.string (ba PV.rest))).setCell ⟨b13, 3, none⟩ (.bool PV.is)) b8 [.int .i64 (P8.n : Int), .string (ba P8.t), .string (ba P8.rest), .bool P8.is]) := Lib.hid (Bx.fars A13_8.out [.int .i64 (PV.n : Int), .string (ba PV.t), .string (ba PV.rest), .bool PV.is] 0 X8.out)
        have X12 : Hid (Bx ((((v17.setCell ⟨b13, 0, none⟩ (.int .i64 (PV.n : Int))).setCell ⟨b13, 1, none⟩ (.string (ba PV.t))).setCell ⟨b13, 2, none⟩ (.string (ba PV.rest))).setCell ⟨b13, 3, none⟩ (.bool PV.is)) b12 [.int .i64 (P1.n : Int), .int .i64 (P2.n : Int), .int .i64 (P3.n : Int), .int .i64 (P4.n : Int), .string (ba P5.t), .bool (decide ((P6.n : Int) = 1)), .slice A4 acc.length c4, .bool (decide ((P7.n : Int) = 1))]) := Lib.hid (Bx.fars A13_12.out [.int .i64 (PV.n : Int), .string (ba PV.t), .string (ba PV.rest), .bool PV.is] 0 X12.out)
        have X15 : Hid (Bx ((((v17.setCell ⟨b13, 0, none⟩ (.int .i64 (PV.n : Int))).setCell ⟨b13, 1, none⟩ (.string (ba PV.t))).setCell ⟨b13, 2, none⟩ (.string (ba PV.rest))).setCell ⟨b13, 3, none⟩ (.bool PV.is)) b15 [.int .i64 (PK.n : Int), .string (ba PK.t), .string (ba PK.rest), .bool PK.is]) := Lib.hid (Bx.fars (Nat.ne_of_lt L13_15.out) [.int .i64 (PV.n : Int), .string (ba PV.t), .string (ba PV.rest), .bool PV.is] 0 X15.out)
        have X13 : Hid (Bx ((((v17.setCell ⟨b13, 0, none⟩ (.int .i64 (PV.n : Int))).setCell ⟨b13, 1, none⟩ (.string (ba PV.t))).setCell ⟨b13, 2, none⟩ (.string (ba PV.rest))).setCell ⟨b13, 3, none⟩ (.bool PV.is)) b13 [.int .i64 (PV.n : Int), .string (ba PV.t), .string (ba PV.rest), .bool PV.is]) := Lib.hid (Bx.puts [.int .i64 (PV.n : Int), .string (ba PV.t), .string (ba PV.rest), .bool PV.is] [.int .i64 (PL.n : Int), .string (ba PL.t), .string (ba PL.rest), .bool PL.is] [] X13.out rfl)
        have O : Hid (OwnK pairK ((((v17.setCell ⟨b13, 0, none⟩ (.int .i64 (PV.n : Int))).setCell ⟨b13, 1, none⟩ (.string (ba PV.t))).setCell ⟨b13, 2, none⟩ (.string (ba PV.rest))).setCell ⟨b13, 3, none⟩ (.bool PV.is)) BB A4 acc.length c4 acc) := Lib.hid (OwnK.sets I13.out [.int .i64 (PV.n : Int), .string (ba PV.t), .string (ba PV.rest), .bool PV.is] 0 O.out)
        have HBW : Hid (BB ≤ (((((v17.setCell ⟨b13, 0, none⟩ (.int .i64 (PV.n : Int))).setCell ⟨b13, 1, none⟩ (.string (ba PV.t))).setCell ⟨b13, 2, none⟩ (.string (ba PV.rest))).setCell ⟨b13, 3, none⟩ (.bool PV.is))).heap.size) := Lib.hid (by simpa [World.setCell] using HBW.out)
        have QF : Hid (Q w ((((v17.setCell ⟨b13, 0, none⟩ (.int .i64 (PV.n : Int))).setCell ⟨b13, 1, none⟩ (.string (ba PV.t))).setCell ⟨b13, 2, none⟩ (.string (ba PV.rest))).setCell ⟨b13, 3, none⟩ (.bool PV.is))) := Lib.hid (Q.sets H_13.out [.int .i64 (PV.n : Int), .string (ba PV.t), .string (ba PV.rest), .bool PV.is] 0 QF.out)
        go_upto_region 18 with (fail)
        clear y0 f0 y1 f1 y2 f2 y3 f3
        generalize ((((v17.setCell ⟨b13, 0, none⟩ (.int .i64 (PV.n : Int))).setCell ⟨b13, 1, none⟩ (.string (ba PV.t))).setCell ⟨b13, 2, none⟩ (.string (ba PV.rest))).setCell ⟨b13, 3, none⟩ (.bool PV.is)) = W17 at X0 X8 X12 X13 X15 O HBW QF ⊢
        have hbw : BB ≤ W17.heap.size := HBW.out
        have u6 := (X12.out 6 _ rfl).1
        have u15 := (X15.out 1 _ rfl).1
        have u13 := (X13.out 1 _ rfl).1
        have hbo : (acc.length + 1) * 32 ≤ 140737488355328 := by have := HAL.out; omega
        go_wp2_with (at_builtin
                     refine wpl_appK pairK rfl (.tmp 87) (.tmp 93) 38 rfl rfl BB A4 acc.length c4 acc rfl (O.out.alloc _) (some ⟨W17.heap.size, 0, none⟩) 1 1 [⟨ba PK.t, ba PV.t⟩] rfl ((OwnK.lit1 pairK W17 W17.heap.size (Nat.le_refl _) ⟨ba PK.t, ba PV.t⟩).lst) (fun e => by cases e) hbo (by simp; omega) ?_
                     intro A5 c5 w5 o5 b5
                     have B5 : Hid (Below BB W17 w5) := Lib.hid (Below.trans (Below.alloc (Below.refl _ _) hbw _) b5)
                     have O5 := Lib.hid o5
                     clear o5 b5 u6 u15 u13
                     have X0 := Lib.hid (X0.out.below B5.out I0.out)
                     have X8 := Lib.hid (X8.out.below B5.out I8.out)
                     have X12 := Lib.hid (X12.out.below B5.out I12.out)
                     have X13 := Lib.hid (X13.out.below B5.out I13.out)
                     have QF := Lib.hid (Below.trans QF.out (Below.mono B5.out hwb))
                     have y6 := (X12.out 6 _ rfl).1
                     have f6 := (X12.out 6 _ rfl).2)
        have Z12 := Lib.hid (X12.out.set (k := 6) (by simp) (.slice A5 (acc.length + 1) c5))
        have Z0 := Lib.hid (X0.out.far (p := ⟨b12, 6, none⟩) A12_0.out (.slice A5 (acc.length + 1) c5))
        have Z8' := Lib.hid (X8.out.far (p := ⟨b12, 6, none⟩) A12_8.out (.slice A5 (acc.length + 1) c5))
        have Z13 := Lib.hid (X13.out.far (p := ⟨b12, 6, none⟩) A12_13.out (.slice A5 (acc.length + 1) c5))
        have ZO := Lib.hid (O5.out.setCell (p := ⟨b12, 6, none⟩) I12.out (.slice A5 (acc.length + 1) c5))
        have ZQ := Lib.hid (QF.out.setCell (p := ⟨b12, 6, none⟩) H_12.out (.slice A5 (acc.length + 1) c5))
        go_roundw
        case rel =>
          refine ⟨k + 1, acc ++ [⟨ba PK.t, ba PV.t⟩], PV, A5, c5, by go_num, by omega, by rw [List.length_append, HAL.out]; rfl, ?_, Z0.out, Z8'.out, ?_, Z13.out, HSTEP.out.2.2, HSTEP.out.1, ?_, ZQ.out, ?_⟩
          · rw [List.length_append]; exact ZO.out
          · rw [List.length_append]; exact Z12.out
          · intro x hx
            rcases List.mem_append.1 hx with h | h
            · exact HKY.out x h
            · simp only [List.mem_singleton] at h
              subst h
              exact HSTEP.out.2.1
          · simpa [World.setCell] using Nat.le_trans hbw B5.out.size
        case measure => simp [intOf]; omega
      · have hkn : ¬ (k : Int) < (P8.n : Int) := by omega
        have hkk : k = P8.n := by omega
        have HFin : tkR P8.n [] P8 = (acc, PL) := by rw [HTK.out, hkk, Nat.sub_self]; rfl
        have HT4 := HT3.out
        rw [HFin] at HT4
        have hd6 : decide ((P6.n : Int) = 1) = decide (P6.n = 1) := decide_eq_decide.2 (by omega)
        have hd7 : decide ((P7.n : Int) = 1) = decide (P7.n = 1) := decide_eq_decide.2 (by omega)
        have hX12 := X12.out
        rw [hd6, hd7] at hX12
        obtain ⟨QQ, hQ⟩ : ∃ q : Rp, q = ⟨(P1.n : Int), (P2.n : Int), (P3.n : Int), (P4.n : Int), ba P5.t, decide (P6.n = 1), decide (P7.n = 1), acc⟩ := ⟨_, rfl⟩
        have X12 : Hid (Bx wr b12 [.int .i64 QQ.epoch, .int .i64 QQ.sess, .int .i64 QQ.seq, .int .i64 QQ.err, .string QQ.val, .bool QQ.found, .slice A4 acc.length c4, .bool QQ.over]) := Lib.hid (by rw [hQ]; exact hX12)
        have HQR : Hid (QQ.rows = acc) := Lib.hid (by rw [hQ])
        have HTT : Hid (res = if PL.is = false ∨ PL.rest ≠ [] ∨ mayP QQ = false then (rp0, 3) else (QQ, 0)) := Lib.hid (by rw [hQ]; exact HT4)
        have hac : acc.length ≤ 16 := by have := HAL.out; omega
        have KM2 := Lib.hid (fun W (o : OwnK pairK W BB A4 acc.length c4 acc) => KM.out QQ A4 acc.length c4 W (by rw [HQR.out]; exact o.lst) (by unfold maxLen; omega) (by rw [HQR.out]; exact fun x hx => by have := HKY.out x hx; unfold maxLen; omega))
        have HAC := Lib.hid hac
        clear HFin HT4 hd6 hd7 hX12 hQ HT3 HTK KM HKY hac hkk
        go_upto_region 19 with (fail)
        clear a80
        have x0 := (X12.out 0 _ rfl).1
        have x1 := (X12.out 1 _ rfl).1
        have x2 := (X12.out 2 _ rfl).1
        have x3 := (X12.out 3 _ rfl).1
        have x4 := (X12.out 4 _ rfl).1
        have x5 := (X12.out 5 _ rfl).1
        have x6 := (X12.out 6 _ rfl).1
        have x7 := (X12.out 7 _ rfl).1
        go_wp2_with fail
        refine (KM2.out _ O.out).mono ?_
        rintro em wm ⟨rfl, qm⟩
        clear x0 x1 x2 x3 x4 x5 x6 x7
        have X0 := Lib.hid (X0.out.q qm)
        have X12 := Lib.hid (X12.out.q qm)
        have X13 := Lib.hid (X13.out.q qm)
        have O := Lib.hid (O.out.q qm)
        have QF := Lib.hid (QF.out.trans qm)
        clear qm
        have l2 := (X13.out 2 _ rfl).1
        have l3 := (X13.out 3 _ rfl).1
        have hrs : ((ba PL.rest).size : Int) = (PL.rest.length : Int) := by rw [ba_size]
        cases hi : PL.is with
        | false =>
          rw [hi] at l3 HTT
          rw [if_pos (.inl rfl)] at HTT
          have y0 := (X0.out 0 _ rfl).1
          have f0 := (X0.out 0 _ rfl).2
          have y1 := (X0.out 1 _ rfl).1
          have f1 := (X0.out 1 _ rfl).2
          have y2 := (X0.out 2 _ rfl).1
          have f2 := (X0.out 2 _ rfl).2
          have y3 := (X0.out 3 _ rfl).1
          have f3 := (X0.out 3 _ rfl).2
          have y4 := (X0.out 4 _ rfl).1
          have f4 := (X0.out 4 _ rfl).2
          have y5 := (X0.out 5 _ rfl).1
          have f5 := (X0.out 5 _ rfl).2
          have y6 := (X0.out 6 _ rfl).1
          have f6 := (X0.out 6 _ rfl).2
          have y7 := (X0.out 7 _ rfl).1
          have f7 := (X0.out 7 _ rfl).2
          have Z1 : Hid (Bx ((((((((wm.setCell ⟨b0, 0, none⟩ (.int .i64 0)).setCell ⟨b0, 1, none⟩ (.int .i64 0)).setCell ⟨b0, 2, none⟩ (.int .i64 0)).setCell ⟨b0, 3, none⟩ (.int .i64 0)).setCell ⟨b0, 4, none⟩ (.string ⟨#[]⟩)).setCell ⟨b0, 5, none⟩ (.bool false)).setCell ⟨b0, 6, none⟩ (.slice none 0 0)).setCell ⟨b0, 7, none⟩ (.bool false)) b0 [.int .i64 0, .int .i64 0, .int .i64 0, .int .i64 0, .string ⟨#[]⟩, .bool false, .slice none 0 0, .bool false]) := Lib.hid (Bx.puts [.int .i64 0, .int .i64 0, .int .i64 0, .int .i64 0, .string ⟨#[]⟩, .bool false, .slice none 0 0, .bool false] [.int .i64 0, .int .i64 0, .int .i64 0, .int .i64 0, .string ⟨#[]⟩, .bool false, .slice none 0 0, .bool false] [] X0.out rfl)
          have ZQ : Hid (Q w ((((((((wm.setCell ⟨b0, 0, none⟩ (.int .i64 0)).setCell ⟨b0, 1, none⟩ (.int .i64 0)).setCell ⟨b0, 2, none⟩ (.int .i64 0)).setCell ⟨b0, 3, none⟩ (.int .i64 0)).setCell ⟨b0, 4, none⟩ (.string ⟨#[]⟩)).setCell ⟨b0, 5, none⟩ (.bool false)).setCell ⟨b0, 6, none⟩ (.slice none 0 0)).setCell ⟨b0, 7, none⟩ (.bool false))) := Lib.hid (Q.sets (Nat.le_of_eq HB0.out) [.int .i64 0, .int .i64 0, .int .i64 0, .int .i64 0, .string ⟨#[]⟩, .bool false, .slice none 0 0, .bool false] 0 QF.out)
          go_wp2
          generalize ((((((((wm.setCell ⟨b0, 0, none⟩ (.int .i64 0)).setCell ⟨b0, 1, none⟩ (.int .i64 0)).setCell ⟨b0, 2, none⟩ (.int .i64 0)).setCell ⟨b0, 3, none⟩ (.int .i64 0)).setCell ⟨b0, 4, none⟩ (.string ⟨#[]⟩)).setCell ⟨b0, 5, none⟩ (.bool false)).setCell ⟨b0, 6, none⟩ (.slice none 0 0)).setCell ⟨b0, 7, none⟩ (.bool false)) = W99 at Z1 ZQ ⊢
          have r0 := (Z1.out 0 _ rfl).1
          have r1 := (Z1.out 1 _ rfl).1
          have r2 := (Z1.out 2 _ rfl).1
          have r3 := (Z1.out 3 _ rfl).1
          have r4 := (Z1.out 4 _ rfl).1
          have r5 := (Z1.out 5 _ rfl).1
          have r6 := (Z1.out 6 _ rfl).1
          have r7 := (Z1.out 7 _ rfl).1
          refine bodyPost_ret (v := .tuple #[.agg #[.int .i64 0, .int .i64 0, .int .i64 0, .int .i64 0, .string ⟨#[]⟩, .bool false, .slice none 0 0, .bool false], .int .i64 3]) (by simp [results, Tryd.results18, go_sem, r0, r1, r2, r3, r4, r5, r6, r7]) rfl ?_
          exact ⟨none, 0, by first | (rw [HTT.out]; done) | (rw [HTT.out]; rfl), by rw [HTT.out]; exact In_.none_ _ _, (fun _ e => by cases e), ZQ.out⟩
        | true =>
          rw [hi] at l3 HTT
          by_cases hr : PL.rest = []
          · cases hmq : mayP QQ with
            | false =>
              rw [hmq] at HTT
              rw [if_pos (.inr (.inr rfl))] at HTT
              have hlr : PL.rest.length = 0 := by rw [hr]; rfl
              have hz2 : ¬ (0 : Int) < ((ba PL.rest).size : Int) := by omega
              have hz3 : (ba PL.rest).size = 0 := by omega
              have y0 := (X0.out 0 _ rfl).1
              have f0 := (X0.out 0 _ rfl).2
              have y1 := (X0.out 1 _ rfl).1
              have f1 := (X0.out 1 _ rfl).2
              have y2 := (X0.out 2 _ rfl).1
              have f2 := (X0.out 2 _ rfl).2
              have y3 := (X0.out 3 _ rfl).1
              have f3 := (X0.out 3 _ rfl).2
              have y4 := (X0.out 4 _ rfl).1
              have f4 := (X0.out 4 _ rfl).2
              have y5 := (X0.out 5 _ rfl).1
              have f5 := (X0.out 5 _ rfl).2
              have y6 := (X0.out 6 _ rfl).1
              have f6 := (X0.out 6 _ rfl).2
              have y7 := (X0.out 7 _ rfl).1
              have f7 := (X0.out 7 _ rfl).2
              have Z1 : Hid (Bx ((((((((wm.setCell ⟨b0, 0, none⟩ (.int .i64 0)).setCell ⟨b0, 1, none⟩ (.int .i64 0)).setCell ⟨b0, 2, none⟩ (.int .i64 0)).setCell ⟨b0, 3, none⟩ (.int .i64 0)).setCell ⟨b0, 4, none⟩ (.string ⟨#[]⟩)).setCell ⟨b0, 5, none⟩ (.bool false)).setCell ⟨b0, 6, none⟩ (.slice none 0 0)).setCell ⟨b0, 7, none⟩ (.bool false)) b0 [.int .i64 0, .int .i64 0, .int .i64 0, .int .i64 0, .string ⟨#[]⟩, .bool false, .slice none 0 0, .bool false]) := Lib.hid (Bx.puts [.int .i64 0, .int .i64 0, .int .i64 0, .int .i64 0, .string ⟨#[]⟩, .bool false, .slice none 0 0, .bool false] [.int .i64 0, .int .i64 0, .int .i64 0, .int .i64 0, .string ⟨#[]⟩, .bool false, .slice none 0 0, .bool false] [] X0.out rfl)
              have ZQ : Hid (Q w ((((((((wm.setCell ⟨b0, 0, none⟩ (.int .i64 0)).setCell ⟨b0, 1, none⟩ (.int .i64 0)).setCell ⟨b0, 2, none⟩ (.int .i64 0)).setCell ⟨b0, 3, none⟩ (.int .i64 0)).setCell ⟨b0, 4, none⟩ (.string ⟨#[]⟩)).setCell ⟨b0, 5, none⟩ (.bool false)).setCell ⟨b0, 6, none⟩ (.slice none 0 0)).setCell ⟨b0, 7, none⟩ (.bool false))) := Lib.hid (Q.sets (Nat.le_of_eq HB0.out) [.int .i64 0, .int .i64 0, .int .i64 0, .int .i64 0, .string ⟨#[]⟩, .bool false, .slice none 0 0, .bool false] 0 QF.out)
              go_wp2
              generalize ((((((((wm.setCell ⟨b0, 0, none⟩ (.int .i64 0)).setCell ⟨b0, 1, none⟩ (.int .i64 0)).setCell ⟨b0, 2, none⟩ (.int .i64 0)).setCell ⟨b0, 3, none⟩ (.int .i64 0)).setCell ⟨b0, 4, none⟩ (.string ⟨#[]⟩)).setCell ⟨b0, 5, none⟩ (.bool false)).setCell ⟨b0, 6, none⟩ (.slice none 0 0)).setCell ⟨b0, 7, none⟩ (.bool false)) = W99 at Z1 ZQ ⊢
              have r0 := (Z1.out 0 _ rfl).1
              have r1 := (Z1.out 1 _ rfl).1
              have r2 := (Z1.out 2 _ rfl).1
              have r3 := (Z1.out 3 _ rfl).1
              have r4 := (Z1.out 4 _ rfl).1
              have r5 := (Z1.out 5 _ rfl).1
              have r6 := (Z1.out 6 _ rfl).1
              have r7 := (Z1.out 7 _ rfl).1
              refine bodyPost_ret (v := .tuple #[.agg #[.int .i64 0, .int .i64 0, .int .i64 0, .int .i64 0, .string ⟨#[]⟩, .bool false, .slice none 0 0, .bool false], .int .i64 3]) (by simp [results, Tryd.results18, go_sem, r0, r1, r2, r3, r4, r5, r6, r7]) rfl ?_
              exact ⟨none, 0, by first | (rw [HTT.out]; done) | (rw [HTT.out]; rfl), by rw [HTT.out]; exact In_.none_ _ _, (fun _ e => by cases e), ZQ.out⟩
            | true =>
              rw [hmq] at HTT
              rw [if_neg (by simp [hr])] at HTT
              have hlr : PL.rest.length = 0 := by rw [hr]; rfl
              have hz2 : ¬ (0 : Int) < ((ba PL.rest).size : Int) := by omega
              have hz3 : (ba PL.rest).size = 0 := by omega
              have x0 := (X12.out 0 _ rfl).1
              have x1 := (X12.out 1 _ rfl).1
              have x2 := (X12.out 2 _ rfl).1
              have x3 := (X12.out 3 _ rfl).1
              have x4 := (X12.out 4 _ rfl).1
              have x5 := (X12.out 5 _ rfl).1
              have x6 := (X12.out 6 _ rfl).1
              have x7 := (X12.out 7 _ rfl).1
              have y0 := (X0.out 0 _ rfl).1
              have f0 := (X0.out 0 _ rfl).2
              have y1 := (X0.out 1 _ rfl).1
              have f1 := (X0.out 1 _ rfl).2
              have y2 := (X0.out 2 _ rfl).1
              have f2 := (X0.out 2 _ rfl).2
              have y3 := (X0.out 3 _ rfl).1
              have f3 := (X0.out 3 _ rfl).2
              have y4 := (X0.out 4 _ rfl).1
              have f4 := (X0.out 4 _ rfl).2
              have y5 := (X0.out 5 _ rfl).1
              have f5 := (X0.out 5 _ rfl).2
              have y6 := (X0.out 6 _ rfl).1
              have f6 := (X0.out 6 _ rfl).2
              have y7 := (X0.out 7 _ rfl).1
              have f7 := (X0.out 7 _ rfl).2
              have Z1 : Hid (Bx ((((((((wm.setCell ⟨b0, 0, none⟩ (.int .i64 QQ.epoch)).setCell ⟨b0, 1, none⟩ (.int .i64 QQ.sess)).setCell ⟨b0, 2, none⟩ (.int .i64 QQ.seq)).setCell ⟨b0, 3, none⟩ (.int .i64 QQ.err)).setCell ⟨b0, 4, none⟩ (.string QQ.val)).setCell ⟨b0, 5, none⟩ (.bool QQ.found)).setCell ⟨b0, 6, none⟩ (.slice A4 acc.length c4)).setCell ⟨b0, 7, none⟩ (.bool QQ.over)) b0 [.int .i64 QQ.epoch, .int .i64 QQ.sess, .int .i64 QQ.seq, .int .i64 QQ.err, .string QQ.val, .bool QQ.found, .slice A4 acc.length c4, .bool QQ.over]) := Lib.hid (Bx.puts [.int .i64 QQ.epoch, .int .i64 QQ.sess, .int .i64 QQ.seq, .int .i64 QQ.err, .string QQ.val, .bool QQ.found, .slice A4 acc.length c4, .bool QQ.over] [.int .i64 0, .int .i64 0, .int .i64 0, .int .i64 0, .string ⟨#[]⟩, .bool false, .slice none 0 0, .bool false] [] X0.out rfl)
              have ZQ : Hid (Q w ((((((((wm.setCell ⟨b0, 0, none⟩ (.int .i64 QQ.epoch)).setCell ⟨b0, 1, none⟩ (.int .i64 QQ.sess)).setCell ⟨b0, 2, none⟩ (.int .i64 QQ.seq)).setCell ⟨b0, 3, none⟩ (.int .i64 QQ.err)).setCell ⟨b0, 4, none⟩ (.string QQ.val)).setCell ⟨b0, 5, none⟩ (.bool QQ.found)).setCell ⟨b0, 6, none⟩ (.slice A4 acc.length c4)).setCell ⟨b0, 7, none⟩ (.bool QQ.over))) := Lib.hid (Q.sets (Nat.le_of_eq HB0.out) [.int .i64 QQ.epoch, .int .i64 QQ.sess, .int .i64 QQ.seq, .int .i64 QQ.err, .string QQ.val, .bool QQ.found, .slice A4 acc.length c4, .bool QQ.over] 0 QF.out)
              have ZO : Hid (OwnK pairK ((((((((wm.setCell ⟨b0, 0, none⟩ (.int .i64 QQ.epoch)).setCell ⟨b0, 1, none⟩ (.int .i64 QQ.sess)).setCell ⟨b0, 2, none⟩ (.int .i64 QQ.seq)).setCell ⟨b0, 3, none⟩ (.int .i64 QQ.err)).setCell ⟨b0, 4, none⟩ (.string QQ.val)).setCell ⟨b0, 5, none⟩ (.bool QQ.found)).setCell ⟨b0, 6, none⟩ (.slice A4 acc.length c4)).setCell ⟨b0, 7, none⟩ (.bool QQ.over)) BB A4 acc.length c4 acc) := Lib.hid (OwnK.sets I0.out [.int .i64 QQ.epoch, .int .i64 QQ.sess, .int .i64 QQ.seq, .int .i64 QQ.err, .string QQ.val, .bool QQ.found, .slice A4 acc.length c4, .bool QQ.over] 0 O.out)
              go_wp2
              generalize ((((((((wm.setCell ⟨b0, 0, none⟩ (.int .i64 QQ.epoch)).setCell ⟨b0, 1, none⟩ (.int .i64 QQ.sess)).setCell ⟨b0, 2, none⟩ (.int .i64 QQ.seq)).setCell ⟨b0, 3, none⟩ (.int .i64 QQ.err)).setCell ⟨b0, 4, none⟩ (.string QQ.val)).setCell ⟨b0, 5, none⟩ (.bool QQ.found)).setCell ⟨b0, 6, none⟩ (.slice A4 acc.length c4)).setCell ⟨b0, 7, none⟩ (.bool QQ.over)) = W99 at Z1 ZQ ZO ⊢
              have r0 := (Z1.out 0 _ rfl).1
              have r1 := (Z1.out 1 _ rfl).1
              have r2 := (Z1.out 2 _ rfl).1
              have r3 := (Z1.out 3 _ rfl).1
              have r4 := (Z1.out 4 _ rfl).1
              have r5 := (Z1.out 5 _ rfl).1
              have r6 := (Z1.out 6 _ rfl).1
              have r7 := (Z1.out 7 _ rfl).1
              refine bodyPost_ret (v := .tuple #[.agg #[.int .i64 QQ.epoch, .int .i64 QQ.sess, .int .i64 QQ.seq, .int .i64 QQ.err, .string QQ.val, .bool QQ.found, .slice A4 acc.length c4, .bool QQ.over], .int .i64 0]) (by simp [results, Tryd.results18, go_sem, r0, r1, r2, r3, r4, r5, r6, r7]) rfl ?_
              refine ⟨A4, c4, ?_, ?_, (fun ad e => by have h1 := own_from ZO.out ad e; have h2 := I0.out; have h3 := HB0.out; omega), ZQ.out⟩
              · rw [HTT.out]; show _ = Ending.returned (Value.tuple #[rpV QQ A4 QQ.rows.length c4, .int .i64 0]); rw [HQR.out]
              · rw [HTT.out]; show In_ pairK W99 A4 QQ.rows.length c4 QQ.rows; rw [HQR.out]; exact ZO.out.in_ (by show acc.length * 32 ≤ _; have := HAC.out; omega)
          · rw [if_pos (.inr (.inl hr))] at HTT
            have hlr : 0 < PL.rest.length := List.length_pos_iff.2 hr
            have hz2 : (0 : Int) < ((ba PL.rest).size : Int) := by omega
            have y0 := (X0.out 0 _ rfl).1
            have f0 := (X0.out 0 _ rfl).2
            have y1 := (X0.out 1 _ rfl).1
            have f1 := (X0.out 1 _ rfl).2
            have y2 := (X0.out 2 _ rfl).1
            have f2 := (X0.out 2 _ rfl).2
            have y3 := (X0.out 3 _ rfl).1
            have f3 := (X0.out 3 _ rfl).2
            have y4 := (X0.out 4 _ rfl).1
            have f4 := (X0.out 4 _ rfl).2
            have y5 := (X0.out 5 _ rfl).1
            have f5 := (X0.out 5 _ rfl).2
            have y6 := (X0.out 6 _ rfl).1
            have f6 := (X0.out 6 _ rfl).2
            have y7 := (X0.out 7 _ rfl).1
            have f7 := (X0.out 7 _ rfl).2
            have Z1 : Hid (Bx ((((((((wm.setCell ⟨b0, 0, none⟩ (.int .i64 0)).setCell ⟨b0, 1, none⟩ (.int .i64 0)).setCell ⟨b0, 2, none⟩ (.int .i64 0)).setCell ⟨b0, 3, none⟩ (.int .i64 0)).setCell ⟨b0, 4, none⟩ (.string ⟨#[]⟩)).setCell ⟨b0, 5, none⟩ (.bool false)).setCell ⟨b0, 6, none⟩ (.slice none 0 0)).setCell ⟨b0, 7, none⟩ (.bool false)) b0 [.int .i64 0, .int .i64 0, .int .i64 0, .int .i64 0, .string ⟨#[]⟩, .bool false, .slice none 0 0, .bool false]) := Lib.hid (Bx.puts [.int .i64 0, .int .i64 0, .int .i64 0, .int .i64 0, .string ⟨#[]⟩, .bool false, .slice none 0 0, .bool false] [.int .i64 0, .int .i64 0, .int .i64 0, .int .i64 0, .string ⟨#[]⟩, .bool false, .slice none 0 0, .bool false] [] X0.out rfl)
            have ZQ : Hid (Q w ((((((((wm.setCell ⟨b0, 0, none⟩ (.int .i64 0)).setCell ⟨b0, 1, none⟩ (.int .i64 0)).setCell ⟨b0, 2, none⟩ (.int .i64 0)).setCell ⟨b0, 3, none⟩ (.int .i64 0)).setCell ⟨b0, 4, none⟩ (.string ⟨#[]⟩)).setCell ⟨b0, 5, none⟩ (.bool false)).setCell ⟨b0, 6, none⟩ (.slice none 0 0)).setCell ⟨b0, 7, none⟩ (.bool false))) := Lib.hid (Q.sets (Nat.le_of_eq HB0.out) [.int .i64 0, .int .i64 0, .int .i64 0, .int .i64 0, .string ⟨#[]⟩, .bool false, .slice none 0 0, .bool false] 0 QF.out)
            go_wp2
            generalize ((((((((wm.setCell ⟨b0, 0, none⟩ (.int .i64 0)).setCell ⟨b0, 1, none⟩ (.int .i64 0)).setCell ⟨b0, 2, none⟩ (.int .i64 0)).setCell ⟨b0, 3, none⟩ (.int .i64 0)).setCell ⟨b0, 4, none⟩ (.string ⟨#[]⟩)).setCell ⟨b0, 5, none⟩ (.bool false)).setCell ⟨b0, 6, none⟩ (.slice none 0 0)).setCell ⟨b0, 7, none⟩ (.bool false)) = W99 at Z1 ZQ ⊢
            have r0 := (Z1.out 0 _ rfl).1
            have r1 := (Z1.out 1 _ rfl).1
            have r2 := (Z1.out 2 _ rfl).1
            have r3 := (Z1.out 3 _ rfl).1
            have r4 := (Z1.out 4 _ rfl).1
            have r5 := (Z1.out 5 _ rfl).1
            have r6 := (Z1.out 6 _ rfl).1
            have r7 := (Z1.out 7 _ rfl).1
            refine bodyPost_ret (v := .tuple #[.agg #[.int .i64 0, .int .i64 0, .int .i64 0, .int .i64 0, .string ⟨#[]⟩, .bool false, .slice none 0 0, .bool false], .int .i64 3]) (by simp [results, Tryd.results18, go_sem, r0, r1, r2, r3, r4, r5, r6, r7]) rfl ?_
            exact ⟨none, 0, by first | (rw [HTT.out]; done) | (rw [HTT.out]; rfl), by rw [HTT.out]; exact In_.none_ _ _, (fun _ e => by cases e), ZQ.out⟩

end Wi
end Go.Proofs.YtdipikdebapmlaaDoor

/- Contracts: the package's takeReply, TakeReply. -/
namespace Go.Proofs.YtdipikdebapmlaaDoor
set_option maxRecDepth 100000
open Go.RowKit Prm
set_option linter.unusedVariables false
set_option linter.unusedSimpArgs false
namespace Wi

theorem in_far {α : Type} {K : Kind α} {w w' : World} {A : Option Addr} {n c b : Nat} {l : List α} (h : In_ K w A n c l) (hg : w.grownBy w' (some b)) (hne : ∀ ad, A = some ad → ad.block ≠ b) : In_ K w' A n c l := by
  refine ⟨⟨h.lst.1, fun j u hu => ?_⟩, h.nil, h.le, h.cap, h.few⟩
  obtain ⟨ad, e, hb, hc⟩ := h.lst.2 j u hu
  refine ⟨ad, e, Nat.lt_of_lt_of_le hb hg.size, ?_⟩
  have hbl : w'.heap[(ad.add j).block]? = w.heap[(ad.add j).block]? := hg.block _ (by rw [addr_block]; exact hb) (by rw [addr_block]; intro e2; injection e2 with e2; exact hne ad e e2)
  exact (World.cell?_of_block (w := w) (a := ad.add j) hbl).trans hc
/-- the rows that came with a call, and where they lie not. -/
def Rows_ (w : World) (A : Option Addr) (n cp : Nat) (l : List Pr) (lo : Nat) : Prop := In_ pairK w A n cp l ∧ ∀ ad, A = some ad → lo ≤ ad.block
theorem Rows_.q {w w' : World} {A : Option Addr} {n cp : Nat} {l : List Pr} {lo : Nat} (h : Rows_ w A n cp l lo) (q : Q w w') : Rows_ w' A n cp l lo := ⟨h.1.q q, h.2⟩
theorem Rows_.far {w w' : World} {A : Option Addr} {n cp b : Nat} {l : List Pr} {lo : Nat} (h : Rows_ w A n cp l lo) (g : w.grownBy w' (some b)) (hb : b < lo) : Rows_ w' A n cp l lo := ⟨in_far h.1 g (fun ad e => by have := h.2 ad e; omega), h.2⟩
theorem Rows_.none_ (w : World) (lo : Nat) : Rows_ w none 0 0 [] lo := ⟨In_.none_ _ _, fun _ e => by cases e⟩

set_option maxRecDepth 100000 in
set_option maxHeartbeats 8000000 in
theorem takeReplyO_any (a c : Addr) (s : ByteArray) (w : World) (hS : Sen w a c) (hs : s.size ≤ maxLen) :
    Calls Tryd.prog 37 #[.string s] w fun e w' => ∃ A cp E, e = .returned (.tuple #[rpV (takeS s.data.toList).1 A (takeS s.data.toList).1.rows.length cp, E]) ∧ ErV a c E (takeS s.data.toList).2 ∧ Rows_ w' A (takeS s.data.toList).1.rows.length cp (takeS s.data.toList).1.rows w.heap.size ∧ Q w w' := by
  have X0 : Hid (Bx (w.alloc (.cells #[.int .i64 0, .int .i64 0, .int .i64 0, .int .i64 0, .string ⟨#[]⟩, .bool false, .slice none 0 0, .bool false] 40)) w.heap.size [.int .i64 0, .int .i64 0, .int .i64 0, .int .i64 0, .string ⟨#[]⟩, .bool false, .slice none 0 0, .bool false]) := Lib.hid (Bx.new w [.int .i64 0, .int .i64 0, .int .i64 0, .int .i64 0, .string ⟨#[]⟩, .bool false, .slice none 0 0, .bool false] 40)
  have QF := Lib.hid ((Q.refl w).alloc (.cells #[.int .i64 0, .int .i64 0, .int .i64 0, .int .i64 0, .string ⟨#[]⟩, .bool false, .slice none 0 0, .bool false] 40))
  have HS := Lib.hid hS
  have hb0 := Lib.hid (Nat.le_refl w.heap.size)
  have HV : Hid (takeS s.data.toList = if (lastS s.data.toList).is = false ∨ (lastS s.data.toList).rest ≠ [] ∨ mayP (sOf s.data.toList) = false then (rp0, 3) else (sOf s.data.toList, 0)) := Lib.hid rfl
  have HN := Lib.hid (fun W => hd_new a s W hs)
  have KQ := Lib.hid (fun W b (q : Q w W) (hb : w.heap.size ≤ b) (h : Hd a W b (p0 s.data.toList)) => hreply_any a c b s.data.toList w W hS q hb h)
  generalize s.data.toList = l at HV HN KQ ⊢
  have KM := Lib.hid (fun W A N cp hA hm => pmayP_any (sOf l) A N cp W hA hm)
  have KE := Lib.hid (fun W b (q : Q w W) (hb : w.heap.size ≤ b) (h : Hd a W b (lastS l)) => hend_any a c b ⟨#[82, 101, 112, 108, 121]⟩ (mayP (sOf l)) (lastS l) w W hS q hb h)
  have HOK : Hid ((lastS l).is = true ∧ (lastS l).rest = [] ∧ mayP (sOf l) = true → takeS l = (sOf l, 0)) := Lib.hid (fun h => by rw [HV.out, if_neg (by simp [h.1, h.2.1, h.2.2])])
  have HNO : Hid (¬ ((lastS l).is = true ∧ (lastS l).rest = [] ∧ mayP (sOf l) = true) → takeS l = (rp0, 3)) := Lib.hid (fun h => by
    rw [HV.out, if_pos]
    cases h1 : (lastS l).is with
    | false => exact .inl rfl
    | true =>
      by_cases h2 : (lastS l).rest = []
      · cases h3 : mayP (sOf l) with
        | false => exact .inr (.inr rfl)
        | true => exact absurd ⟨h1, h2, h3⟩ h
      · exact .inr (.inl h2))
  generalize hok : ((lastS l).is = true ∧ (lastS l).rest = [] ∧ mayP (sOf l) = true) = OK at HOK HNO KE
  generalize takeS l = res at HOK HNO ⊢
  generalize mayP (sOf l) = mb at KM KE
  generalize sOf l = Y at KQ KM HOK
  clear HV hS hs hok
  change Hid (∀ W (A : Option Addr) N cp, Lst pairK W A N Y.rows → N ≤ maxLen → Calls Tryd.prog 33 #[.agg #[.int .i64 Y.epoch, .int .i64 Y.sess, .int .i64 Y.seq, .int .i64 Y.err, .string Y.val, .bool Y.found, .slice A N cp, .bool Y.over]] W fun e w' => e = .returned (.bool mb) ∧ Q W w') at KM
  change Hid (∀ W b, Q w W → w.heap.size ≤ b → Hd a W b (p0 l) → Calls Tryd.prog 57 #[.pointer (some ⟨b, 0, none⟩)] W fun e w' => ∃ A cp, e = .returned (.agg #[.int .i64 Y.epoch, .int .i64 Y.sess, .int .i64 Y.seq, .int .i64 Y.err, .string Y.val, .bool Y.found, .slice A Y.rows.length cp, .bool Y.over]) ∧ In_ pairK w' A Y.rows.length cp Y.rows ∧ (∀ ad, A = some ad → W.heap.size ≤ ad.block) ∧ Hd a w' b (lastS l) ∧ W.grownBy w' (some b)) at KQ
  generalize lastS l = LL at KQ KE
  go_enter Tryd.func37, Tryd.ntmps37
  go_upto_region 1 with (fail)
  generalize w.alloc (.cells #[.int .i64 0, .int .i64 0, .int .i64 0, .int .i64 0, .string ⟨#[]⟩, .bool false, .slice none 0 0, .bool false] 40) = W0 at X0 QF ⊢
  generalize hbb : w.heap.size = b0 at X0 hb0 ⊢
  have HB0 := Lib.hid hbb
  clear hbb
  have H1 := Lib.hid (HN.out W0)
  have L0 := Lib.hid X0.out.lt
  have q0 := (Q.refl W0).alloc (.cells #[.string s, .nilIface] 89)
  have L2 := Lib.hid (show w.heap.size ≤ W0.heap.size from QF.out.size)
  replace X0 := Lib.hid (X0.out.q q0)
  replace QF := Lib.hid (QF.out.trans q0)
  clear q0
  go_upto_region 2 with (fail)
  generalize W0.alloc (.cells #[.string s, .nilIface] 89) = W1 at X0 QF H1 ⊢
  generalize W0.heap.size = b1 at L0 L2 H1 ⊢
  have L1 := Lib.hid H1.out.lt
  go_wp2_with fail
  refine (KQ.out W1 b1 QF.out L2.out H1.out).mono ?_
  rintro e1 v1 ⟨A, cp, rfl, hi, hlo, hd, g⟩
  replace X0 := Lib.hid (bx_only X0.out g (Nat.ne_of_lt L0.out))
  replace QF := Lib.hid (q_only QF.out g L2.out)
  have H2 := Lib.hid hd
  have O := Lib.hid (show Rows_ v1 A Y.rows.length cp Y.rows W1.heap.size from ⟨hi, hlo⟩)
  have hnm := hi.max
  clear hd g H1 hi hlo
  have qa := (Q.refl v1).alloc (.cells #[.int .i64 Y.epoch, .int .i64 Y.sess, .int .i64 Y.seq, .int .i64 Y.err, .string Y.val, .bool Y.found, .slice A Y.rows.length cp, .bool Y.over] 40)
  have L3 := Lib.hid (Nat.ne_of_gt H2.out.lt)
  replace X0 := Lib.hid (X0.out.q qa)
  replace QF := Lib.hid (QF.out.trans qa)
  replace H2 := Lib.hid (H2.out.q qa)
  replace O := Lib.hid (O.out.q qa)
  have X2 : Hid (Bx (v1.alloc (.cells #[.int .i64 Y.epoch, .int .i64 Y.sess, .int .i64 Y.seq, .int .i64 Y.err, .string Y.val, .bool Y.found, .slice A Y.rows.length cp, .bool Y.over] 40)) v1.heap.size [.int .i64 Y.epoch, .int .i64 Y.sess, .int .i64 Y.seq, .int .i64 Y.err, .string Y.val, .bool Y.found, .slice A Y.rows.length cp, .bool Y.over]) := Lib.hid (Bx.new v1 [.int .i64 Y.epoch, .int .i64 Y.sess, .int .i64 Y.seq, .int .i64 Y.err, .string Y.val, .bool Y.found, .slice A Y.rows.length cp, .bool Y.over] 40)
  clear qa
  go_upto_region 3 with (fail)
  generalize v1.alloc (.cells #[.int .i64 Y.epoch, .int .i64 Y.sess, .int .i64 Y.seq, .int .i64 Y.err, .string Y.val, .bool Y.found, .slice A Y.rows.length cp, .bool Y.over] 40) = W2 at X0 X2 QF H2 O ⊢
  generalize v1.heap.size = b2 at X2 L3 ⊢
  have x0 := (X2.out 0 _ rfl).1
  have x1 := (X2.out 1 _ rfl).1
  have x2 := (X2.out 2 _ rfl).1
  have x3 := (X2.out 3 _ rfl).1
  have x4 := (X2.out 4 _ rfl).1
  have x5 := (X2.out 5 _ rfl).1
  have x6 := (X2.out 6 _ rfl).1
  have x7 := (X2.out 7 _ rfl).1
  go_wp2_with fail
  refine (KM.out W2 A Y.rows.length cp O.out.1.lst hnm).mono ?_
  rintro e3 v3 ⟨rfl, q3⟩
  replace X0 := Lib.hid (X0.out.q q3)
  replace X2 := Lib.hid (X2.out.q q3)
  replace H2 := Lib.hid (H2.out.q q3)
  replace O := Lib.hid (O.out.q q3)
  replace QF := Lib.hid (QF.out.trans q3)
  clear q3 x0 x1 x2 x3 x4 x5 x6 x7
  go_wp2_with fail
  refine (KE.out v3 b1 QF.out L2.out H2.out).mono ?_
  rintro e4 v4 ⟨⟨E, rfl, e1, e2⟩, g⟩
  replace X0 := Lib.hid (bx_only X0.out g (Nat.ne_of_lt L0.out))
  replace X2 := Lib.hid (bx_only X2.out g L3.out)
  replace QF := Lib.hid (q_only QF.out g L2.out)
  replace O := Lib.hid (O.out.far g L1.out)
  clear g H2
  have L4 := Lib.hid (show b0 ≤ W1.heap.size by have := L0.out; have := L1.out; omega)
  by_cases hok : OK
  · obtain rfl := e1 hok
    have HR := Lib.hid (HOK.out hok)
    clear e1 e2 hok
    have x0 := (X2.out 0 _ rfl).1
    have x1 := (X2.out 1 _ rfl).1
    have x2 := (X2.out 2 _ rfl).1
    have x3 := (X2.out 3 _ rfl).1
    have x4 := (X2.out 4 _ rfl).1
    have x5 := (X2.out 5 _ rfl).1
    have x6 := (X2.out 6 _ rfl).1
    have x7 := (X2.out 7 _ rfl).1
    have y0 := (X0.out 0 _ rfl).1
    have f0 := (X0.out 0 _ rfl).2
    have y1 := (X0.out 1 _ rfl).1
    have f1 := (X0.out 1 _ rfl).2
    have y2 := (X0.out 2 _ rfl).1
    have f2 := (X0.out 2 _ rfl).2
    have y3 := (X0.out 3 _ rfl).1
    have f3 := (X0.out 3 _ rfl).2
    have y4 := (X0.out 4 _ rfl).1
    have f4 := (X0.out 4 _ rfl).2
    have y5 := (X0.out 5 _ rfl).1
    have f5 := (X0.out 5 _ rfl).2
    have y6 := (X0.out 6 _ rfl).1
    have f6 := (X0.out 6 _ rfl).2
    have y7 := (X0.out 7 _ rfl).1
    have f7 := (X0.out 7 _ rfl).2
    have Z1 : Hid (Bx ((((((((v4.setCell ⟨b0, 0, none⟩ (.int .i64 Y.epoch)).setCell ⟨b0, 1, none⟩ (.int .i64 Y.sess)).setCell ⟨b0, 2, none⟩ (.int .i64 Y.seq)).setCell ⟨b0, 3, none⟩ (.int .i64 Y.err)).setCell ⟨b0, 4, none⟩ (.string Y.val)).setCell ⟨b0, 5, none⟩ (.bool Y.found)).setCell ⟨b0, 6, none⟩ (.slice A Y.rows.length cp)).setCell ⟨b0, 7, none⟩ (.bool Y.over)) b0 [.int .i64 Y.epoch, .int .i64 Y.sess, .int .i64 Y.seq, .int .i64 Y.err, .string Y.val, .bool Y.found, .slice A Y.rows.length cp, .bool Y.over]) := Lib.hid (Bx.puts [.int .i64 Y.epoch, .int .i64 Y.sess, .int .i64 Y.seq, .int .i64 Y.err, .string Y.val, .bool Y.found, .slice A Y.rows.length cp, .bool Y.over] [.int .i64 0, .int .i64 0, .int .i64 0, .int .i64 0, .string ⟨#[]⟩, .bool false, .slice none 0 0, .bool false] [] X0.out rfl)
    have ZQ : Hid (Q w ((((((((v4.setCell ⟨b0, 0, none⟩ (.int .i64 Y.epoch)).setCell ⟨b0, 1, none⟩ (.int .i64 Y.sess)).setCell ⟨b0, 2, none⟩ (.int .i64 Y.seq)).setCell ⟨b0, 3, none⟩ (.int .i64 Y.err)).setCell ⟨b0, 4, none⟩ (.string Y.val)).setCell ⟨b0, 5, none⟩ (.bool Y.found)).setCell ⟨b0, 6, none⟩ (.slice A Y.rows.length cp)).setCell ⟨b0, 7, none⟩ (.bool Y.over))) := Lib.hid (Q.sets (Nat.le_of_eq HB0.out) [.int .i64 Y.epoch, .int .i64 Y.sess, .int .i64 Y.seq, .int .i64 Y.err, .string Y.val, .bool Y.found, .slice A Y.rows.length cp, .bool Y.over] 0 QF.out)
    have ZO : Hid (Rows_ ((((((((v4.setCell ⟨b0, 0, none⟩ (.int .i64 Y.epoch)).setCell ⟨b0, 1, none⟩ (.int .i64 Y.sess)).setCell ⟨b0, 2, none⟩ (.int .i64 Y.seq)).setCell ⟨b0, 3, none⟩ (.int .i64 Y.err)).setCell ⟨b0, 4, none⟩ (.string Y.val)).setCell ⟨b0, 5, none⟩ (.bool Y.found)).setCell ⟨b0, 6, none⟩ (.slice A Y.rows.length cp)).setCell ⟨b0, 7, none⟩ (.bool Y.over)) A Y.rows.length cp Y.rows W1.heap.size) := Lib.hid (O.out.far (only_sets [.int .i64 Y.epoch, .int .i64 Y.sess, .int .i64 Y.seq, .int .i64 Y.err, .string Y.val, .bool Y.found, .slice A Y.rows.length cp, .bool Y.over] 0 _ (only_refl _ _)) (show b0 < W1.heap.size by have := L0.out; have := L1.out; omega))
    go_wp2
    generalize ((((((((v4.setCell ⟨b0, 0, none⟩ (.int .i64 Y.epoch)).setCell ⟨b0, 1, none⟩ (.int .i64 Y.sess)).setCell ⟨b0, 2, none⟩ (.int .i64 Y.seq)).setCell ⟨b0, 3, none⟩ (.int .i64 Y.err)).setCell ⟨b0, 4, none⟩ (.string Y.val)).setCell ⟨b0, 5, none⟩ (.bool Y.found)).setCell ⟨b0, 6, none⟩ (.slice A Y.rows.length cp)).setCell ⟨b0, 7, none⟩ (.bool Y.over)) = W99 at Z1 ZQ ZO ⊢
    have r0 := (Z1.out 0 _ rfl).1
    have r1 := (Z1.out 1 _ rfl).1
    have r2 := (Z1.out 2 _ rfl).1
    have r3 := (Z1.out 3 _ rfl).1
    have r4 := (Z1.out 4 _ rfl).1
    have r5 := (Z1.out 5 _ rfl).1
    have r6 := (Z1.out 6 _ rfl).1
    have r7 := (Z1.out 7 _ rfl).1
    refine bodyPost_ret (v := .tuple #[.agg #[.int .i64 Y.epoch, .int .i64 Y.sess, .int .i64 Y.seq, .int .i64 Y.err, .string Y.val, .bool Y.found, .slice A Y.rows.length cp, .bool Y.over], .nilIface]) (by simp [results, Tryd.results37, go_sem, r0, r1, r2, r3, r4, r5, r6, r7]) rfl ?_
    exact ⟨A, cp, .nilIface, by rw [HR.out], by rw [HR.out]; exact .inl ⟨rfl, rfl⟩, by rw [HR.out]; exact ⟨ZO.out.1, fun ad e => by have := ZO.out.2 ad e; have := L4.out; have := HB0.out; omega⟩, ZQ.out⟩
  · obtain ⟨f, rfl⟩ := e2 hok
    have HR := Lib.hid (HNO.out hok)
    clear e1 e2 hok
    have y0 := (X0.out 0 _ rfl).1
    have f0 := (X0.out 0 _ rfl).2
    have y1 := (X0.out 1 _ rfl).1
    have f1 := (X0.out 1 _ rfl).2
    have y2 := (X0.out 2 _ rfl).1
    have f2 := (X0.out 2 _ rfl).2
    have y3 := (X0.out 3 _ rfl).1
    have f3 := (X0.out 3 _ rfl).2
    have y4 := (X0.out 4 _ rfl).1
    have f4 := (X0.out 4 _ rfl).2
    have y5 := (X0.out 5 _ rfl).1
    have f5 := (X0.out 5 _ rfl).2
    have y6 := (X0.out 6 _ rfl).1
    have f6 := (X0.out 6 _ rfl).2
    have y7 := (X0.out 7 _ rfl).1
    have f7 := (X0.out 7 _ rfl).2
    have Z1 : Hid (Bx ((((((((v4.setCell ⟨b0, 0, none⟩ (.int .i64 0)).setCell ⟨b0, 1, none⟩ (.int .i64 0)).setCell ⟨b0, 2, none⟩ (.int .i64 0)).setCell ⟨b0, 3, none⟩ (.int .i64 0)).setCell ⟨b0, 4, none⟩ (.string ⟨#[]⟩)).setCell ⟨b0, 5, none⟩ (.bool false)).setCell ⟨b0, 6, none⟩ (.slice none 0 0)).setCell ⟨b0, 7, none⟩ (.bool false)) b0 [.int .i64 0, .int .i64 0, .int .i64 0, .int .i64 0, .string ⟨#[]⟩, .bool false, .slice none 0 0, .bool false]) := Lib.hid (Bx.puts [.int .i64 0, .int .i64 0, .int .i64 0, .int .i64 0, .string ⟨#[]⟩, .bool false, .slice none 0 0, .bool false] [.int .i64 0, .int .i64 0, .int .i64 0, .int .i64 0, .string ⟨#[]⟩, .bool false, .slice none 0 0, .bool false] [] X0.out rfl)
    have ZQ : Hid (Q w ((((((((v4.setCell ⟨b0, 0, none⟩ (.int .i64 0)).setCell ⟨b0, 1, none⟩ (.int .i64 0)).setCell ⟨b0, 2, none⟩ (.int .i64 0)).setCell ⟨b0, 3, none⟩ (.int .i64 0)).setCell ⟨b0, 4, none⟩ (.string ⟨#[]⟩)).setCell ⟨b0, 5, none⟩ (.bool false)).setCell ⟨b0, 6, none⟩ (.slice none 0 0)).setCell ⟨b0, 7, none⟩ (.bool false))) := Lib.hid (Q.sets (Nat.le_of_eq HB0.out) [.int .i64 0, .int .i64 0, .int .i64 0, .int .i64 0, .string ⟨#[]⟩, .bool false, .slice none 0 0, .bool false] 0 QF.out)
    go_wp2
    generalize ((((((((v4.setCell ⟨b0, 0, none⟩ (.int .i64 0)).setCell ⟨b0, 1, none⟩ (.int .i64 0)).setCell ⟨b0, 2, none⟩ (.int .i64 0)).setCell ⟨b0, 3, none⟩ (.int .i64 0)).setCell ⟨b0, 4, none⟩ (.string ⟨#[]⟩)).setCell ⟨b0, 5, none⟩ (.bool false)).setCell ⟨b0, 6, none⟩ (.slice none 0 0)).setCell ⟨b0, 7, none⟩ (.bool false)) = W99 at Z1 ZQ ⊢
    have r0 := (Z1.out 0 _ rfl).1
    have r1 := (Z1.out 1 _ rfl).1
    have r2 := (Z1.out 2 _ rfl).1
    have r3 := (Z1.out 3 _ rfl).1
    have r4 := (Z1.out 4 _ rfl).1
    have r5 := (Z1.out 5 _ rfl).1
    have r6 := (Z1.out 6 _ rfl).1
    have r7 := (Z1.out 7 _ rfl).1
    refine bodyPost_ret (v := .tuple #[.agg #[.int .i64 0, .int .i64 0, .int .i64 0, .int .i64 0, .string ⟨#[]⟩, .bool false, .slice none 0 0, .bool false], fltV a f]) (by simp [results, Tryd.results37, go_sem, r0, r1, r2, r3, r4, r5, r6, r7]) rfl ?_
    exact ⟨none, 0, fltV a f, by rw [HR.out]; rfl, by rw [HR.out]; exact .inr (.inl ⟨f, rfl, rfl⟩), by rw [HR.out]; exact Rows_.none_ _ _, ZQ.out⟩

set_option maxRecDepth 100000 in
set_option maxHeartbeats 8000000 in
theorem ptakeP_any (a c : Addr) (s : ByteArray) (w : World) (hW : Wk w a c) (hs : s.size ≤ 140737488355328) : Calls Tryd.prog 17 #[.string s] w (RetRp w (takeP s.data.toList)) := by
  have K0 := fun W (q : Q w W) => takeReplyO_any a c s W (hW.sen.q q) (by unfold maxLen; omega)
  simp only [takeS_eq] at K0
  unfold RetRp
  generalize takeP s.data.toList = x at K0 ⊢
  obtain ⟨Y, er⟩ := x
  have K1 : Hid (∀ W, Q w W → Calls Tryd.prog 37 #[.string s] W fun e w' => ∃ A cp E, e = .returned (.tuple #[.agg #[.int .i64 Y.epoch, .int .i64 Y.sess, .int .i64 Y.seq, .int .i64 Y.err, .string Y.val, .bool Y.found, .slice A Y.rows.length cp, .bool Y.over], E]) ∧ ErV a c E er ∧ Rows_ w' A Y.rows.length cp Y.rows W.heap.size ∧ Q W w') := Lib.hid K0
  have KU := Lib.hid (fun W (q : Q w W) E h => number_any a c E er W h (hW.q q))
  show Calls _ _ _ _ fun e w' => ∃ A cp, e = .returned (.tuple #[.agg #[.int .i64 Y.epoch, .int .i64 Y.sess, .int .i64 Y.seq, .int .i64 Y.err, .string Y.val, .bool Y.found, .slice A Y.rows.length cp, .bool Y.over], .int .i64 er]) ∧ In_ pairK w' A Y.rows.length cp Y.rows ∧ Q w w'
  have X0 : Hid (Bx (w.alloc (.cells #[.int .i64 0, .int .i64 0, .int .i64 0, .int .i64 0, .string ⟨#[]⟩, .bool false, .slice none 0 0, .bool false] 40)) w.heap.size [.int .i64 0, .int .i64 0, .int .i64 0, .int .i64 0, .string ⟨#[]⟩, .bool false, .slice none 0 0, .bool false]) := Lib.hid (Bx.new w [.int .i64 0, .int .i64 0, .int .i64 0, .int .i64 0, .string ⟨#[]⟩, .bool false, .slice none 0 0, .bool false] 40)
  have QF := Lib.hid ((Q.refl w).alloc (.cells #[.int .i64 0, .int .i64 0, .int .i64 0, .int .i64 0, .string ⟨#[]⟩, .bool false, .slice none 0 0, .bool false] 40))
  clear hW K0
  go_enter Tryd.func17, Tryd.ntmps17
  go_upto_region 1 with (fail)
  generalize w.alloc (.cells #[.int .i64 0, .int .i64 0, .int .i64 0, .int .i64 0, .string ⟨#[]⟩, .bool false, .slice none 0 0, .bool false] 40) = W0 at X0 QF ⊢
  generalize hb0 : w.heap.size = b0 at X0 ⊢
  have HB0 := Lib.hid hb0
  have LB := Lib.hid X0.out.lt
  clear hb0
  go_wp2_with fail
  refine (K1.out W0 QF.out).mono ?_
  rintro e1 v1 ⟨A, cp, E, rfl, hE, ho, q1⟩
  have HE := Lib.hid hE
  have qa := (Q.refl v1).alloc (.cells #[.int .i64 Y.epoch, .int .i64 Y.sess, .int .i64 Y.seq, .int .i64 Y.err, .string Y.val, .bool Y.found, .slice A Y.rows.length cp, .bool Y.over] 40)
  replace X0 := Lib.hid ((X0.out.q q1).q qa)
  have O := Lib.hid (ho.q qa)
  replace QF := Lib.hid ((QF.out.trans q1).trans qa)
  have X1 : Hid (Bx (v1.alloc (.cells #[.int .i64 Y.epoch, .int .i64 Y.sess, .int .i64 Y.seq, .int .i64 Y.err, .string Y.val, .bool Y.found, .slice A Y.rows.length cp, .bool Y.over] 40)) v1.heap.size [.int .i64 Y.epoch, .int .i64 Y.sess, .int .i64 Y.seq, .int .i64 Y.err, .string Y.val, .bool Y.found, .slice A Y.rows.length cp, .bool Y.over]) := Lib.hid (Bx.new v1 [.int .i64 Y.epoch, .int .i64 Y.sess, .int .i64 Y.seq, .int .i64 Y.err, .string Y.val, .bool Y.found, .slice A Y.rows.length cp, .bool Y.over] 40)
  clear qa q1 hE ho
  go_upto_region 2 with (fail)
  generalize v1.alloc (.cells #[.int .i64 Y.epoch, .int .i64 Y.sess, .int .i64 Y.seq, .int .i64 Y.err, .string Y.val, .bool Y.found, .slice A Y.rows.length cp, .bool Y.over] 40) = W1 at X0 X1 QF O ⊢
  generalize v1.heap.size = b1 at X1 ⊢
  have x0 := (X1.out 0 _ rfl).1
  have x1 := (X1.out 1 _ rfl).1
  have x2 := (X1.out 2 _ rfl).1
  have x3 := (X1.out 3 _ rfl).1
  have x4 := (X1.out 4 _ rfl).1
  have x5 := (X1.out 5 _ rfl).1
  have x6 := (X1.out 6 _ rfl).1
  have x7 := (X1.out 7 _ rfl).1
  refine wp_region_heldL 3 (Q W1) (by kernel_rfl) ?szz6 (fun hHeld => ?rzz6)
  case szz6 =>
    exact (Q.refl W1).drew
  case' rzz6 => skip
  generalize hgen : W1.drew = D0 at hHeld ⊢
  clear hgen
  refine wpAnyL_take (i := 0) (oi := ?ozz7) (v := ?vzz7) ?hzz7 ?azz7 ?bzz7 ?czz7 ?kzz7 ?qzz7 ?yzz7 ?szz7 ?rzz7
  case hzz7 => simp only [List.getElem?_toArray, List.getElem?_cons_zero]; rfl
  case azz7 => kernel_rfl
  case bzz7 => kernel_rfl
  case czz7 => kernel_rfl
  case kzz7 => kernel_rfl
  case yzz7 =>
    refine Or.inl ⟨by rfl, ?_⟩
    intro w hSw
    have a0 := box_ hSw x0; have a1 := box_ hSw x1; have a2 := box_ hSw x2; have a3 := box_ hSw x3; have a4 := box_ hSw x4; have a5 := box_ hSw x5; have a6 := box_ hSw x6; have a7 := box_ hSw x7; clear hSw
    go_simp
    try with_reducible rfl
  case qzz7 => exact fun _ _ _ h => h
  case szz7 => first | assumption | trivial
  case' rzz7 => simp only [Act.put, List.setIfInBounds_toArray, List.set_cons_zero, List.set_cons_succ]
  refine wpAnyL_ready (rs := [1]) (by kernel_rfl) (by simp) ?_
  refine AllReadyL.cons (o := ?ozz11) ?hzz11 (fun K hK => ?kzz11) ?mzz11
  case hzz11 => simp only [List.getElem?_toArray, List.getElem?_cons_zero, List.getElem?_cons_succ]; rfl
  case kzz11 =>
    go_simp
    refine hK.out _ _ ?Szz11 (fun hHeld => ?Rzz11)
    case Szz11 =>
      first | exact hHeld | trivial
    case Rzz11 =>
      clear hK K
      try simp only [Act.put, List.setIfInBounds_toArray, List.set_cons_zero, List.set_cons_succ]
      refine wpAnyL_ready (rs := [2]) (by kernel_rfl) (by simp) ?_
      refine AllReadyL.cons (o := ?ozz10) ?hzz10 (fun K hK => ?kzz10) ?mzz10
      case hzz10 => simp only [List.getElem?_toArray, List.getElem?_cons_zero, List.getElem?_cons_succ]; rfl
      case kzz10 =>
        go_simp
        refine (KU.out _ (QF.out.trans hHeld) E HE.out).mono ?_
        rintro e3 v3 ⟨rfl, q3⟩
        go_wp2_with fail
        refine hK.out _ _ ?Szz10 (fun hHeld => ?Rzz10)
        case Szz10 =>
          exact hHeld.trans q3
        case Rzz10 =>
          clear hK K
          try simp only [Act.put, List.setIfInBounds_toArray, List.set_cons_zero, List.set_cons_succ]
          refine wpAnyL_ready (rs := [3]) (by kernel_rfl) (by simp) ?_
          refine AllReadyL.consK (o := ?ozz9) ?hzz9 ?lzz9 (fun K hK => ?kzz9) ?mzz9
          case hzz9 => simp only [List.getElem?_toArray, List.getElem?_cons_zero, List.getElem?_cons_succ]; rfl
          case lzz9 => kernel_rfl
          case kzz9 =>
            have HZ := Lib.hid hHeld
            have BX0 := Lib.hid (X0.out.q HZ.out)
            have y0 := (BX0.out 0 _ rfl).1
            have f0 := (BX0.out 0 _ rfl).2
            have y1 := (BX0.out 1 _ rfl).1
            have f1 := (BX0.out 1 _ rfl).2
            have y2 := (BX0.out 2 _ rfl).1
            have f2 := (BX0.out 2 _ rfl).2
            have y3 := (BX0.out 3 _ rfl).1
            have f3 := (BX0.out 3 _ rfl).2
            have y4 := (BX0.out 4 _ rfl).1
            have f4 := (BX0.out 4 _ rfl).2
            have y5 := (BX0.out 5 _ rfl).1
            have f5 := (BX0.out 5 _ rfl).2
            have y6 := (BX0.out 6 _ rfl).1
            have f6 := (BX0.out 6 _ rfl).2
            have y7 := (BX0.out 7 _ rfl).1
            have f7 := (BX0.out 7 _ rfl).2
            have Z1 : Hid (Bx ((((((((v3.setCell ⟨b0, 0, none⟩ (.int .i64 Y.epoch)).setCell ⟨b0, 1, none⟩ (.int .i64 Y.sess)).setCell ⟨b0, 2, none⟩ (.int .i64 Y.seq)).setCell ⟨b0, 3, none⟩ (.int .i64 Y.err)).setCell ⟨b0, 4, none⟩ (.string Y.val)).setCell ⟨b0, 5, none⟩ (.bool Y.found)).setCell ⟨b0, 6, none⟩ (.slice A Y.rows.length cp)).setCell ⟨b0, 7, none⟩ (.bool Y.over)) b0 [.int .i64 Y.epoch, .int .i64 Y.sess, .int .i64 Y.seq, .int .i64 Y.err, .string Y.val, .bool Y.found, .slice A Y.rows.length cp, .bool Y.over]) := Lib.hid (Bx.puts [.int .i64 Y.epoch, .int .i64 Y.sess, .int .i64 Y.seq, .int .i64 Y.err, .string Y.val, .bool Y.found, .slice A Y.rows.length cp, .bool Y.over] [.int .i64 0, .int .i64 0, .int .i64 0, .int .i64 0, .string ⟨#[]⟩, .bool false, .slice none 0 0, .bool false] [] BX0.out rfl)
            have ZQ : Hid (Q w ((((((((v3.setCell ⟨b0, 0, none⟩ (.int .i64 Y.epoch)).setCell ⟨b0, 1, none⟩ (.int .i64 Y.sess)).setCell ⟨b0, 2, none⟩ (.int .i64 Y.seq)).setCell ⟨b0, 3, none⟩ (.int .i64 Y.err)).setCell ⟨b0, 4, none⟩ (.string Y.val)).setCell ⟨b0, 5, none⟩ (.bool Y.found)).setCell ⟨b0, 6, none⟩ (.slice A Y.rows.length cp)).setCell ⟨b0, 7, none⟩ (.bool Y.over))) := Lib.hid (Q.sets (Nat.le_of_eq HB0.out) [.int .i64 Y.epoch, .int .i64 Y.sess, .int .i64 Y.seq, .int .i64 Y.err, .string Y.val, .bool Y.found, .slice A Y.rows.length cp, .bool Y.over] 0 (QF.out.trans HZ.out))
            have ZO : Hid (Rows_ ((((((((v3.setCell ⟨b0, 0, none⟩ (.int .i64 Y.epoch)).setCell ⟨b0, 1, none⟩ (.int .i64 Y.sess)).setCell ⟨b0, 2, none⟩ (.int .i64 Y.seq)).setCell ⟨b0, 3, none⟩ (.int .i64 Y.err)).setCell ⟨b0, 4, none⟩ (.string Y.val)).setCell ⟨b0, 5, none⟩ (.bool Y.found)).setCell ⟨b0, 6, none⟩ (.slice A Y.rows.length cp)).setCell ⟨b0, 7, none⟩ (.bool Y.over)) A Y.rows.length cp Y.rows W0.heap.size) := Lib.hid ((O.out.q HZ.out).far (only_sets [.int .i64 Y.epoch, .int .i64 Y.sess, .int .i64 Y.seq, .int .i64 Y.err, .string Y.val, .bool Y.found, .slice A Y.rows.length cp, .bool Y.over] 0 _ (only_refl _ _)) LB.out)
            go_simp
            refine hK.out _ _ ?Rzz9
            case Rzz9 =>
              clear hK K
              try simp only [Act.put, List.setIfInBounds_toArray, List.set_cons_zero, List.set_cons_succ]
              refine wpAnyH_take (i := 4) (oi := ?ozz8) (v := ?vzz8) ?hzz8 ?azz8 ?bzz8 ?czz8 ?qzz8 ?yzz8 ?szz8 ?rzz8
              case hzz8 => simp only [List.getElem?_toArray, List.getElem?_cons_zero, List.getElem?_cons_succ]; rfl
              case azz8 => kernel_rfl
              case bzz8 => kernel_rfl
              case czz8 => kernel_rfl
              case yzz8 =>
                refine Or.inl ⟨by rfl, ?_⟩
                intro w hSw
                skip
                go_simp
                try with_reducible rfl
              case qzz8 => exact fun _ _ _ h => h
              case szz8 => first | assumption | trivial
              case' rzz8 => simp only [Act.put, List.setIfInBounds_toArray, List.set_cons_zero, List.set_cons_succ]
              refine wpAnyH_done (by kernel_rfl) ?_ _
              go_wp2
              generalize ((((((((v3.setCell ⟨b0, 0, none⟩ (.int .i64 Y.epoch)).setCell ⟨b0, 1, none⟩ (.int .i64 Y.sess)).setCell ⟨b0, 2, none⟩ (.int .i64 Y.seq)).setCell ⟨b0, 3, none⟩ (.int .i64 Y.err)).setCell ⟨b0, 4, none⟩ (.string Y.val)).setCell ⟨b0, 5, none⟩ (.bool Y.found)).setCell ⟨b0, 6, none⟩ (.slice A Y.rows.length cp)).setCell ⟨b0, 7, none⟩ (.bool Y.over)) = W99 at Z1 ZQ ZO ⊢
              have r0 := (Z1.out 0 _ rfl).1
              have r1 := (Z1.out 1 _ rfl).1
              have r2 := (Z1.out 2 _ rfl).1
              have r3 := (Z1.out 3 _ rfl).1
              have r4 := (Z1.out 4 _ rfl).1
              have r5 := (Z1.out 5 _ rfl).1
              have r6 := (Z1.out 6 _ rfl).1
              have r7 := (Z1.out 7 _ rfl).1
              refine bodyPost_ret (v := .tuple #[.agg #[.int .i64 Y.epoch, .int .i64 Y.sess, .int .i64 Y.seq, .int .i64 Y.err, .string Y.val, .bool Y.found, .slice A Y.rows.length cp, .bool Y.over], .int .i64 er]) (by simp [results, Tryd.results17, go_sem, r0, r1, r2, r3, r4, r5, r6, r7]) rfl ?_
              exact ⟨A, cp, rfl, ZO.out.1, ZQ.out⟩
          case' mzz9 => skip
          exact AllReadyL.nil
      case' mzz10 => skip
      exact AllReadyL.nil
  case' mzz11 => skip
  exact AllReadyL.nil
end Wi
end Go.Proofs.YtdipikdebapmlaaDoor

/- The contract of slices.Equal of pairs. -/
namespace Go.Proofs.YtdipikdebapmlaaDoor
set_option maxRecDepth 100000
open Go.RowKit Prm
set_option linter.unusedVariables false
set_option linter.unusedSimpArgs false

set_option maxHeartbeats 1000000 in
theorem equalPairs (A B : Option Addr) (n c m d : Nat) (l l2 : List Pr) (w : World) (h1 : Lst pairK w A n l) (h2 : Lst pairK w B m l2) (hn : n ≤ maxLen) (hm : m ≤ maxLen) :
    Calls Tryd.prog 39 #[.slice A n c, .slice B m d] w fun e w' => e = .returned (.bool (decide (l = l2))) ∧ Q w w' := by
  unfold maxLen at hn hm
  have H1 := Lib.hid h1
  have H2 := Lib.hid h2
  have L1 := Lib.hid h1.len
  have L2 := Lib.hid h2.len
  clear h1 h2
  by_cases hnm : n = m
  · subst hnm
    go_enter Tryd.func39, Tryd.ntmps39
    go_wp2
    go_loopw [13] (fun i wr => ∃ k : Nat, k ≤ n ∧ i = .int .i64 k ∧ Q w wr ∧ l.take k = l2.take k) (fun i _ => n - (intOf i).toNat)
    case atStart => exact ⟨0, Nat.zero_le _, rfl, Q.refl _, by simp⟩
    case round =>
      obtain ⟨k, hk, rfl, hq, ht⟩ := hrel
      have HT := Lib.hid ht
      clear ht
      by_cases hlt : k < n
      · have k1 : k < l.length := by have := L1.out; omega
        have k2 : k < l2.length := by have := L2.out; omega
        obtain ⟨ad, rfl, hb, c0, c1⟩ := load_pair (H1.out.q hq) hlt k1
        obtain ⟨ae, rfl, he, d0, d1⟩ := load_pair (H2.out.q hq) hlt k2
        have hne := fun W => neq_pair W l[k] l2[k]
        have hkn : (k : Int) < (n : Int) := by omega
        by_cases heq : l[k] = l2[k]
        · have hd : decide (l[k] = l2[k]) = true := by simpa using heq
          have HE := Lib.hid heq
          clear heq
          go_wp2
          go_quiet (fail)
          go_wp2
          go_roundw
          case rel => exact ⟨k + 1, by omega, by go_num, hq.drewN _, by rw [List.take_succ_eq_append_getElem k1, List.take_succ_eq_append_getElem k2, HT.out, HE.out]⟩
          case measure => simp [intOf]; omega
        · have hd : decide (l[k] = l2[k]) = false := by simpa using heq
          have HE := Lib.hid heq
          clear heq
          go_wp2
          go_quiet (fail)
          go_wp2
          go_ret
          exact ⟨ret_bool (by symm; simp only [decide_eq_false_iff_not]; rintro rfl; exact HE.out rfl), hq.drewN _⟩
      · go_wp2
        go_ret
        exact ⟨ret_bool (by symm; simp only [decide_eq_true_eq]; have h1 := HT.out; rwa [List.take_of_length_le (by have := L1.out; omega), List.take_of_length_le (by have := L2.out; omega)] at h1), hq⟩
  · have n1 : ((n : Int) != (m : Int)) = true := by simp; omega
    have n2 : (n != m) = true := by simp; omega
    have n3 : (n == m) = false := by simp; omega
    have n4 : ((n : Int) == (m : Int)) = false := by simp; omega
    have n5 : ¬ (n : Int) = m := by omega
    have HN := Lib.hid hnm
    go_enter Tryd.func39, Tryd.ntmps39
    go_wp2
    go_ret
    exact ⟨ret_bool (by symm; simp only [decide_eq_false_iff_not]; rintro rfl; exact HN.out (L1.out.symm.trans L2.out)), Q.refl _⟩
end Go.Proofs.YtdipikdebapmlaaDoor

/- The contract of the package's Same. -/
namespace Go.Proofs.YtdipikdebapmlaaDoor
set_option maxRecDepth 100000
open Go.RowKit Prm
set_option linter.unusedVariables false
set_option linter.unusedSimpArgs false
namespace Wi

set_option maxRecDepth 100000 in
set_option maxHeartbeats 4000000 in
theorem psame_any (p q : Rp) (A B : Option Addr) (N c M d : Nat) (w : World) (hA : Lst pairK w A N p.rows) (hB : Lst pairK w B M q.rows) (hN : N ≤ maxLen) (hM : M ≤ maxLen) :
    Calls Tryd.prog 20 #[rpV p A N c, rpV q B M d] w fun e w' => e = .returned (.bool (decide (p = q))) ∧ Q w w' := by
  obtain ⟨e1, s1, n1, er1, v1, fd1, ov1, l1⟩ := p
  obtain ⟨e2, s2, n2, er2, v2, fd2, ov2, l2⟩ := q
  simp only at hA hB
  have hE : decide ((⟨e1, s1, n1, er1, v1, fd1, ov1, l1⟩ : Rp) = ⟨e2, s2, n2, er2, v2, fd2, ov2, l2⟩) = (decide (l1 = l2) && decide (e1 = e2) && decide (s1 = s2) && decide (n1 = n2) && decide (er1 = er2) && decide (v1 = v2) && decide (fd1 = fd2) && decide (ov1 = ov2)) := by
    rw [Bool.eq_iff_iff]
    simp only [Rp.mk.injEq, Bool.and_eq_true, decide_eq_true_eq]
    constructor
    · rintro ⟨h1, h2, h3, h4, h5, h6, h7, h8⟩; exact ⟨⟨⟨⟨⟨⟨⟨h8, h1⟩, h2⟩, h3⟩, h4⟩, h5⟩, h6⟩, h7⟩
    · rintro ⟨⟨⟨⟨⟨⟨⟨h8, h1⟩, h2⟩, h3⟩, h4⟩, h5⟩, h6⟩, h7⟩; exact ⟨h1, h2, h3, h4, h5, h6, h7, h8⟩
  rw [hE]
  have KS := Lib.hid (fun W (q : Q w W) => equalPairs A B N c M d l1 l2 W (hA.q q) (hB.q q) hN hM)
  have X := Lib.hid (And.intro ((Bx.new w [.int .i64 e1, .int .i64 s1, .int .i64 n1, .int .i64 er1, .string v1, .bool fd1, .slice A N c, .bool ov1] 40).alloc (.cells #[.int .i64 e2, .int .i64 s2, .int .i64 n2, .int .i64 er2, .string v2, .bool fd2, .slice B M d, .bool ov2] 40)) (And.intro (Bx.new (w.alloc (.cells #[.int .i64 e1, .int .i64 s1, .int .i64 n1, .int .i64 er1, .string v1, .bool fd1, .slice A N c, .bool ov1] 40)) [.int .i64 e2, .int .i64 s2, .int .i64 n2, .int .i64 er2, .string v2, .bool fd2, .slice B M d, .bool ov2] 40) (((Q.refl w).alloc (.cells #[.int .i64 e1, .int .i64 s1, .int .i64 n1, .int .i64 er1, .string v1, .bool fd1, .slice A N c, .bool ov1] 40)).alloc (.cells #[.int .i64 e2, .int .i64 s2, .int .i64 n2, .int .i64 er2, .string v2, .bool fd2, .slice B M d, .bool ov2] 40))))
  rw [show (w.alloc (.cells #[.int .i64 e1, .int .i64 s1, .int .i64 n1, .int .i64 er1, .string v1, .bool fd1, .slice A N c, .bool ov1] 40)).heap.size = w.heap.size + 1 by simp] at X
  clear hE hA hB
  show Calls _ _ #[.agg #[.int .i64 e1, .int .i64 s1, .int .i64 n1, .int .i64 er1, .string v1, .bool fd1, .slice A N c, .bool ov1], .agg #[.int .i64 e2, .int .i64 s2, .int .i64 n2, .int .i64 er2, .string v2, .bool fd2, .slice B M d, .bool ov2]] _ _
  generalize hr : (decide (l1 = l2) && decide (e1 = e2) && decide (s1 = s2) && decide (n1 = n2) && decide (er1 = er2) && decide (v1 = v2) && decide (fd1 = fd2) && decide (ov1 = ov2)) = res
  have HR := Lib.hid hr.symm
  clear hr
  go_enter Tryd.func20, Tryd.ntmps20
  go_upto_region 1 with (fail)
  change Hid (Bx ((w.alloc (.cells #[.int .i64 e1, .int .i64 s1, .int .i64 n1, .int .i64 er1, .string v1, .bool fd1, .slice A N c, .bool ov1] 40)).alloc (.cells #[.int .i64 e2, .int .i64 s2, .int .i64 n2, .int .i64 er2, .string v2, .bool fd2, .slice B M d, .bool ov2] 40)) _ _ ∧ Bx ((w.alloc (.cells #[.int .i64 e1, .int .i64 s1, .int .i64 n1, .int .i64 er1, .string v1, .bool fd1, .slice A N c, .bool ov1] 40)).alloc (.cells #[.int .i64 e2, .int .i64 s2, .int .i64 n2, .int .i64 er2, .string v2, .bool fd2, .slice B M d, .bool ov2] 40)) _ _ ∧ Q w ((w.alloc (.cells #[.int .i64 e1, .int .i64 s1, .int .i64 n1, .int .i64 er1, .string v1, .bool fd1, .slice A N c, .bool ov1] 40)).alloc (.cells #[.int .i64 e2, .int .i64 s2, .int .i64 n2, .int .i64 er2, .string v2, .bool fd2, .slice B M d, .bool ov2] 40))) at X
  generalize ((w.alloc (.cells #[.int .i64 e1, .int .i64 s1, .int .i64 n1, .int .i64 er1, .string v1, .bool fd1, .slice A N c, .bool ov1] 40)).alloc (.cells #[.int .i64 e2, .int .i64 s2, .int .i64 n2, .int .i64 er2, .string v2, .bool fd2, .slice B M d, .bool ov2] 40)) = W0 at X ⊢
  have x0 := (X.out.1 0 _ rfl).1
  have y0 := (X.out.2.1 0 _ rfl).1
  have x1 := (X.out.1 1 _ rfl).1
  have y1 := (X.out.2.1 1 _ rfl).1
  have x2 := (X.out.1 2 _ rfl).1
  have y2 := (X.out.2.1 2 _ rfl).1
  have x3 := (X.out.1 3 _ rfl).1
  have y3 := (X.out.2.1 3 _ rfl).1
  have x4 := (X.out.1 4 _ rfl).1
  have y4 := (X.out.2.1 4 _ rfl).1
  have x5 := (X.out.1 5 _ rfl).1
  have y5 := (X.out.2.1 5 _ rfl).1
  have x6 := (X.out.1 6 _ rfl).1
  have y6 := (X.out.2.1 6 _ rfl).1
  have x7 := (X.out.1 7 _ rfl).1
  have y7 := (X.out.2.1 7 _ rfl).1
  by_cases h0 : e1 = e2
  case neg =>
    have HM : Hid (res = false) := Lib.hid (by rw [HR.out, decide_eq_false h0]; simp)
    have hb : (e1 == e2) = false := by simpa using h0
    go_wp2
    go_ret
    exact ⟨by rw [HM.out]; rfl, X.out.2.2⟩
  subst h0
  by_cases h1 : s1 = s2
  case neg =>
    have HM : Hid (res = false) := Lib.hid (by rw [HR.out, decide_eq_false h1]; simp)
    have hb : (s1 == s2) = false := by simpa using h1
    go_wp2
    go_ret
    exact ⟨by rw [HM.out]; rfl, X.out.2.2⟩
  subst h1
  by_cases h2 : n1 = n2
  case neg =>
    have HM : Hid (res = false) := Lib.hid (by rw [HR.out, decide_eq_false h2]; simp)
    have hb : (n1 == n2) = false := by simpa using h2
    go_wp2
    go_ret
    exact ⟨by rw [HM.out]; rfl, X.out.2.2⟩
  subst h2
  by_cases h3 : er1 = er2
  case neg =>
    have HM : Hid (res = false) := Lib.hid (by rw [HR.out, decide_eq_false h3]; simp)
    have hb : (er1 == er2) = false := by simpa using h3
    go_wp2
    go_ret
    exact ⟨by rw [HM.out]; rfl, X.out.2.2⟩
  subst h3
  by_cases h4 : v1 = v2
  case neg =>
    have HM : Hid (res = false) := Lib.hid (by rw [HR.out, decide_eq_false h4]; simp)
    have hs : (v1.toList == v2.toList) = false := by rw [same_str]; exact decide_eq_false h4
    have hs2 : ¬ v1.toList = v2.toList := by intro h; rw [str_inj] at h; exact h4 h
    go_wp2
    go_ret
    exact ⟨by rw [HM.out]; rfl, X.out.2.2⟩
  subst h4
  by_cases h5 : fd1 = fd2
  case neg =>
    have HM : Hid (res = false) := Lib.hid (by rw [HR.out, decide_eq_false h5]; simp)
    have hb : (fd1 == fd2) = false := by cases fd1 <;> cases fd2 <;> simp_all
    go_wp2
    go_ret
    exact ⟨by rw [HM.out]; rfl, X.out.2.2⟩
  subst h5
  by_cases h6 : ov1 = ov2
  case neg =>
    have HM : Hid (res = false) := Lib.hid (by rw [HR.out, decide_eq_false h6]; simp)
    have hb : (ov1 == ov2) = false := by cases ov1 <;> cases ov2 <;> simp_all
    go_wp2
    go_ret
    exact ⟨by rw [HM.out]; rfl, X.out.2.2⟩
  subst h6
  have HM : Hid (res = decide (l1 = l2)) := Lib.hid (by rw [HR.out]; simp)
  clear HR
  generalize decide (l1 = l2) = le at KS HM
  go_wp2_with fail
  refine (KS.out _ X.out.2.2).mono ?_
  rintro ek wk ⟨rfl, qk⟩
  go_wp2
  go_ret
  exact ⟨by rw [HM.out]; rfl, X.out.2.2.trans qk⟩

end Wi
end Go.Proofs.YtdipikdebapmlaaDoor
