/- For every batch and every number: a batch that may be is taken from its bytes as it was; of its bytes with one more, or of a beginning of them, none is. No condition. -/
import Derived.Test.YtlbjobbmjccekaaBatchIn
import Derived.Test.YtlbjobbmjccekaaBatchShown
import Derived.Test.YtlbjobbmjccekaaBatchTake
import Derived.Test.YtlbjobbmjccekaaTableMath
namespace Go.Proofs.Ytlbjobbmjccekaa.batchBack
set_option maxRecDepth 100000
open Go.ChangeShapes Go.WideShapes Go.ChangeAt Go.RowKit Prm
set_option linter.unusedVariables false
set_option linter.unusedSimpArgs false

theorem btake_at (S : ByteArray) (l : List UInt8) (T : Bm.Bt × Nat) (h : S.data.toList = l) (hs : S.size ≤ maxLen) (hT : Bm.take l = T) (w : World) : Calls Try.prog 14 #[.string S] w (RetTB w T) := by
  have := btake_any S w hs
  rw [h, hT] at this
  exact this

set_option maxHeartbeats 8000000 in
theorem walk (k cut : Int) (tok : ByteArray) (C : Option Addr) (p q : Nat) (ws : List Wr) (w : World) (hC : In_ writeK w C p q ws) (hc0 : -9223372036854775808 ≤ cut) (hc1 : cut ≤ 9223372036854775807) :
    Calls Try.prog 6 #[batV k tok C p q, .int .i64 cut] w fun e w' => e = .returned (.bool true) ∧ Q w w' := by
  have hp := hC.max
  have KB := Lib.hid (fun W y => bbytes_any k tok C p q ws W (hC.lst.q y) hp)
  have KM := Lib.hid (fun W y => may_any k tok C p q ws W (hC.lst.q y) hp)
  cases hm : Bm.may ⟨k, tok, ws⟩ with
  | false =>
    rw [show Bm.bytesM ⟨k, tok, ws⟩ = ([], 1) by unfold Bm.bytesM; rw [hm]; rfl] at KB
    rw [hm] at KM
    clear hC hp hm
    go_enter Try.func6, Try.ntmps6
    go_wp2_with fail
    refine (bshown_any _).mono ?_
    rintro e w1 ⟨rfl, q1⟩
    have X1 := Lib.hid ((Bx.new w [.int .i64 k, .string tok, .slice C p q] 24).q q1)
    have Q1 := Lib.hid (((Q.refl w).alloc _).trans q1)
    clear q1
    obtain ⟨c0, c1, c2⟩ := X1.out.get3.1
    go_wp2_with fail
    refine (KB.out _ Q1.out).mono ?_
    rintro e w2 ⟨rfl, q2⟩
    have X2 := Lib.hid (X1.out.q q2)
    have Q2 := Lib.hid (Q1.out.trans q2)
    clear q2 c0 c1 c2 X1 Q1
    obtain ⟨c0, c1, c2⟩ := X2.out.get3.1
    go_wp2_with fail
    refine (KM.out _ Q2.out).mono ?_
    rintro e w3 ⟨rfl, q3⟩
    have Q3 := Lib.hid (Q2.out.trans q3)
    clear q3
    go_wp2_with fail
    go_ret
    exact ⟨by first | rfl | simp, Q3.out⟩
  | true =>
    rw [show Bm.bytesM ⟨k, tok, ws⟩ = (Bm.bytes ⟨k, tok, ws⟩, 0) by unfold Bm.bytesM; rw [hm]; rfl] at KB
    clear KM
    have hbl := Bm.bytes_len hm
    have t1 := Bm.take_bytes hm
    have t2 := Bm.take_more 48 hm
    have t3 := fun j hj => Bm.take_cut hm j hj
    have hwl := Bm.may_len hm
    simp only at hwl
    have hpl := hC.len
    generalize Bm.bytes ⟨k, tok, ws⟩ = l at KB hbl t1 t2 t3
    obtain ⟨S, hS⟩ : ∃ S : ByteArray, S = ⟨l.toArray⟩ := ⟨_, rfl⟩
    have hSl : S.data.toList = l := by rw [hS]
    have hSs : S.size = l.length := by rw [hS]; show l.toArray.size = _; simp
    simp only at KB
    rw [← hS] at KB
    have K1 := Lib.hid (fun W => btake_at S l _ hSl (by unfold maxLen; omega) t1 W)
    have K2 := Lib.hid (fun W => btake_at (S ++ ⟨#[48]⟩) (l ++ [48]) _ (by rw [← hSl]; simp) (by rw [ByteArray.size_append, show (⟨#[48]⟩ : ByteArray).size = 1 from rfl]; unfold maxLen; omega) t2 W)
    have K3 := Lib.hid (fun j (hj : j < l.length) W => btake_at (S.extract 0 j) (l.take j) _ (by rw [extract_list, hSl]; simp) (by rw [extract_list, hSl]; show ((l.take j).drop 0).toArray.size ≤ _; simp; unfold maxLen; omega) (t3 j hj) W)
    have hz1 : ¬(9223372036854775807 < S.size + 1) := by omega
    have hlit : (⟨#[48]⟩ : ByteArray).size = 1 := rfl
    have HSs := Lib.hid hSs
    have HC := Lib.hid hC
    have hwm : ws.length ≤ maxLen := by unfold maxLen; omega
    have HP := Lib.hid hp
    clear hC hm hbl t1 t2 t3 hwl hpl hS hSl hSs hp
    by_cases g0 : cut < 0
    · have g1 : decide (cut < 0) = true := decide_eq_true g0
      go_enter Try.func6, Try.ntmps6
      go_wp2_with fail
      refine (bshown_any _).mono ?_
      rintro e w1 ⟨rfl, q1⟩
      have X1 := Lib.hid ((Bx.new w [.int .i64 k, .string tok, .slice C p q] 24).q q1)
      have Q1 := Lib.hid (((Q.refl w).alloc _).trans q1)
      clear q1
      obtain ⟨c0, c1, c2⟩ := X1.out.get3.1
      go_wp2_with fail
      refine (KB.out _ Q1.out).mono ?_
      rintro e w2 ⟨rfl, q2⟩
      have X2 := Lib.hid (X1.out.q q2)
      have Q2 := Lib.hid (Q1.out.trans q2)
      clear q2 c0 c1 c2 X1 Q1
      go_wp2_with fail
      refine (K1.out _).mono ?_
      rintro e w3 ⟨A3, c3, rfl, o3, q3⟩
      have X3 := Lib.hid ((X2.out.q q3).alloc (.cells #[.int .i64 k, .string tok, .slice A3 ws.length c3] 24))
      have Q3 := Lib.hid ((Q2.out.trans q3).alloc (.cells #[.int .i64 k, .string tok, .slice A3 ws.length c3] 24))
      have B3 := Lib.hid (Bx.new w3 [.int .i64 k, .string tok, .slice A3 ws.length c3] 24)
      have O3 := Lib.hid (o3.lst.q ((Q.refl _).alloc (.cells #[.int .i64 k, .string tok, .slice A3 ws.length c3] 24)))
      clear q3 o3 X2 Q2
      simp only at O3
      obtain ⟨c0, c1, c2⟩ := X3.out.get3.1
      obtain ⟨d0, d1, d2⟩ := B3.out.get3.1
      go_wp2_with fail
      refine (sameBatch_any k k tok tok C A3 p q ws.length c3 ws ws _ (HC.out.lst.q Q3.out) O3.out HP.out hwm).mono ?_
      rw [decide_eq_true rfl]
      rintro e w4 ⟨rfl, q4⟩
      have Q4 := Lib.hid (Q3.out.trans q4)
      clear q4 c0 c1 c2 d0 d1 d2 X3 Q3 B3 O3
      go_wp2_with fail
      refine (K2.out _).mono ?_
      rintro e w5 ⟨A5, c5, rfl, o5, q5⟩
      have Q5 := Lib.hid ((Q4.out.trans q5).alloc (.cells #[.int .i64 0, .string ⟨#[]⟩, .slice A5 0 c5] 24))
      clear q5 o5 Q4
      go_wp2
      go_ret
      exact ⟨by first | rfl | simp, Q5.out⟩
    · have g1 : decide (cut < 0) = false := decide_eq_false g0
      by_cases g2 : (S.size : Int) ≤ cut
      · have g3 : decide ((S.size : Int) ≤ cut) = true := decide_eq_true g2
        go_enter Try.func6, Try.ntmps6
        go_wp2_with fail
        refine (bshown_any _).mono ?_
        rintro e w1 ⟨rfl, q1⟩
        have X1 := Lib.hid ((Bx.new w [.int .i64 k, .string tok, .slice C p q] 24).q q1)
        have Q1 := Lib.hid (((Q.refl w).alloc _).trans q1)
        clear q1
        obtain ⟨c0, c1, c2⟩ := X1.out.get3.1
        go_wp2_with fail
        refine (KB.out _ Q1.out).mono ?_
        rintro e w2 ⟨rfl, q2⟩
        have X2 := Lib.hid (X1.out.q q2)
        have Q2 := Lib.hid (Q1.out.trans q2)
        clear q2 c0 c1 c2 X1 Q1
        go_wp2_with fail
        refine (K1.out _).mono ?_
        rintro e w3 ⟨A3, c3, rfl, o3, q3⟩
        have X3 := Lib.hid ((X2.out.q q3).alloc (.cells #[.int .i64 k, .string tok, .slice A3 ws.length c3] 24))
        have Q3 := Lib.hid ((Q2.out.trans q3).alloc (.cells #[.int .i64 k, .string tok, .slice A3 ws.length c3] 24))
        have B3 := Lib.hid (Bx.new w3 [.int .i64 k, .string tok, .slice A3 ws.length c3] 24)
        have O3 := Lib.hid (o3.lst.q ((Q.refl _).alloc (.cells #[.int .i64 k, .string tok, .slice A3 ws.length c3] 24)))
        clear q3 o3 X2 Q2
        simp only at O3
        obtain ⟨c0, c1, c2⟩ := X3.out.get3.1
        obtain ⟨d0, d1, d2⟩ := B3.out.get3.1
        go_wp2_with fail
        refine (sameBatch_any k k tok tok C A3 p q ws.length c3 ws ws _ (HC.out.lst.q Q3.out) O3.out HP.out hwm).mono ?_
        rw [decide_eq_true rfl]
        rintro e w4 ⟨rfl, q4⟩
        have Q4 := Lib.hid (Q3.out.trans q4)
        clear q4 c0 c1 c2 d0 d1 d2 X3 Q3 B3 O3
        go_wp2_with fail
        refine (K2.out _).mono ?_
        rintro e w5 ⟨A5, c5, rfl, o5, q5⟩
        have Q5 := Lib.hid ((Q4.out.trans q5).alloc (.cells #[.int .i64 0, .string ⟨#[]⟩, .slice A5 0 c5] 24))
        clear q5 o5 Q4
        go_wp2
        go_ret
        exact ⟨by first | rfl | simp, Q5.out⟩
      · have g3 : decide ((S.size : Int) ≤ cut) = false := decide_eq_false g2
        obtain ⟨j, rfl⟩ : ∃ j : Nat, cut = (j : Int) := ⟨cut.toNat, by omega⟩
        have K4 := Lib.hid (K3.out j (by have := HSs.out; omega))
        have g4 : (j : Int) ≤ (S.size : Int) := by omega
        have g5 : (0 : Int) ≤ (j : Int) := by omega
        clear K3
        go_enter Try.func6, Try.ntmps6
        go_wp2_with fail
        refine (bshown_any _).mono ?_
        rintro e w1 ⟨rfl, q1⟩
        have X1 := Lib.hid ((Bx.new w [.int .i64 k, .string tok, .slice C p q] 24).q q1)
        have Q1 := Lib.hid (((Q.refl w).alloc _).trans q1)
        clear q1
        obtain ⟨c0, c1, c2⟩ := X1.out.get3.1
        go_wp2_with fail
        refine (KB.out _ Q1.out).mono ?_
        rintro e w2 ⟨rfl, q2⟩
        have X2 := Lib.hid (X1.out.q q2)
        have Q2 := Lib.hid (Q1.out.trans q2)
        clear q2 c0 c1 c2 X1 Q1
        go_wp2_with fail
        refine (K1.out _).mono ?_
        rintro e w3 ⟨A3, c3, rfl, o3, q3⟩
        have X3 := Lib.hid ((X2.out.q q3).alloc (.cells #[.int .i64 k, .string tok, .slice A3 ws.length c3] 24))
        have Q3 := Lib.hid ((Q2.out.trans q3).alloc (.cells #[.int .i64 k, .string tok, .slice A3 ws.length c3] 24))
        have B3 := Lib.hid (Bx.new w3 [.int .i64 k, .string tok, .slice A3 ws.length c3] 24)
        have O3 := Lib.hid (o3.lst.q ((Q.refl _).alloc (.cells #[.int .i64 k, .string tok, .slice A3 ws.length c3] 24)))
        clear q3 o3 X2 Q2
        simp only at O3
        obtain ⟨c0, c1, c2⟩ := X3.out.get3.1
        obtain ⟨d0, d1, d2⟩ := B3.out.get3.1
        go_wp2_with fail
        refine (sameBatch_any k k tok tok C A3 p q ws.length c3 ws ws _ (HC.out.lst.q Q3.out) O3.out HP.out hwm).mono ?_
        rw [decide_eq_true rfl]
        rintro e w4 ⟨rfl, q4⟩
        have Q4 := Lib.hid (Q3.out.trans q4)
        clear q4 c0 c1 c2 d0 d1 d2 X3 Q3 B3 O3
        go_wp2_with fail
        refine (K2.out _).mono ?_
        rintro e w5 ⟨A5, c5, rfl, o5, q5⟩
        have Q5 := Lib.hid ((Q4.out.trans q5).alloc (.cells #[.int .i64 0, .string ⟨#[]⟩, .slice A5 0 c5] 24))
        clear q5 o5 Q4
        go_wp2_with fail
        refine (K4.out _).mono ?_
        rintro e w7 ⟨A7, c7, rfl, o7, q7⟩
        have Q7 := Lib.hid ((Q5.out.trans q7).alloc (.cells #[.int .i64 0, .string ⟨#[]⟩, .slice A7 0 c7] 24))
        clear q7 o7
        go_wp2
        go_ret
        exact ⟨by first | rfl | simp, Q7.out⟩
theorem opened (W : World) (args : Array Value) (hn : args.size = 2) (h : ∀ (j : Nat) t v, Try.f6.params[j]? = some t → args[j]? = some v → RdV W t v) :
    Calls Try.prog 6 args W fun e W' => e = .returned (.bool true) ∧ Q W W' := by
  obtain ⟨v0, v1, rfl⟩ := args2 hn
  rw [Try.params6] at h
  obtain ⟨cs, rfl, hr⟩ := (h 0 24 v0 rfl rfl).struct Try.underlying24
  obtain ⟨cut, rfl, s1⟩ := (h 1 3 v1 rfl rfl).int Try.underlying3
  obtain ⟨k, tok, C, p, q, ws, rfl, h1, h2, h3, h4, _⟩ := open_batch hr
  exact walk k cut tok C p q ws W h2 (wf_i64 s1).1 (wf_i64 s1).2

set_option maxRecDepth 100000 in
theorem lifted (os : Os) (started : os.Started) (H : Type) (enc : TypeId × Value → H) :
    ReturnsInHanded {} Try.checked os 6 .any (Rows.batchBackSpec.pre6 enc Try.prog Try.f6 Rows.batchBackRow.domain false) (Rows.batchBackSpec.post enc Try.prog Try.f6 false true false false) :=
  framed 2 Try.func6 (by rw [Try.params6]; rfl) rfl (by kernel_rfl) (by kernel_rfl) (by kernel_rfl)
    (fun H ds h => by match ds, h with | [d0, d1], _ => exact ⟨rfl, rfl, rfl⟩)
    opened os started H enc
    (ChangeSpec.witness6 (enc := enc) (C := Try.checked) false ⟨#[], #[.agg #[.int .i64 0, .string ⟨#[]⟩, .slice none 0 0], .int .i64 0], []⟩ 8 (by kernel_rfl) (by kernel_rfl) (by kernel_rfl) (by kernel_rfl))

theorem over : Rows.batchBackRow.holds Try.pinned (OpenSpec.ofChange Rows.batchBackSpec) :=
  OpenClaim.holds_of_wide 6 Try.f6 rfl rfl rfl rfl rfl rfl rfl ⟨rfl, rfl, rfl, rfl, rfl⟩ rfl rfl rfl rfl rfl (by kernel_rfl) Try.func6 (by kernel_rfl)
    (of_decide_eq_true (by kernel_rfl)) (by unfold Func.isWrapper; first | (rw [if_pos (by decide +kernel)]; kernel_rfl) | (rw [if_neg (by decide +kernel)]; exact ⟨rfl, rfl⟩))
    (fun os started H enc _ => lifted os started H enc)

theorem proved : Rows.BatchBackSaid := over
end Go.Proofs.Ytlbjobbmjccekaa.batchBack
