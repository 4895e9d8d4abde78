/- For every row, keys and number: whether it is right, what is found, and what is between two keys, is as the document says. No condition. -/
import Derived.Test.YtfgnlnolgjapnaaPairIn
namespace Go.Proofs.Ytfgnlnolgjapnaa.tableFinds
set_option maxRecDepth 100000
open Go.ChangeShapes Go.WideShapes Go.ChangeAt Go.RowKit Prm
set_option linter.unusedVariables false

set_option maxHeartbeats 4000000 in
theorem walk (A : Option Addr) (n c : Nat) (l : List Pr) (key lo hi : ByteArray) (most : Int) (w : World) (hd : In_ pairK w A n c l) (hp : ∀ p ∈ l, PrIn p) (h0 : key.size ≤ 140737488351232) (h1 : lo.size ≤ 140737488351232) (h2 : hi.size ≤ 140737488351232) (hm : most ≤ 9223372036854775807) :
    Calls Try.prog 4 #[.agg #[.slice A n c, .string key, .string lo, .string hi, .int .i64 most]] w fun e w' => e = .returned (.bool true) ∧ Q w w' := by
  have HD := Lib.hid hd
  have HM := Lib.hid hd.max
  have HFew := Lib.hid (show n * 32 ≤ 140737488355328 from hd.few)
  have HK := Lib.hid (keys_in hp)
  have HL := Lib.hid hd.len
  have k0 : key.size ≤ maxLen := by unfold maxLen; omega
  have k1 : lo.size ≤ maxLen := by unfold maxLen; omega
  have k2 : hi.size ≤ maxLen := by unfold maxLen; omega
  have F1 := Lib.hid (fun W (h : In_ pairK W A n c l) => find_any key A n c l W h.lst HM.out)
  have F2 := Lib.hid (fun W (h : In_ pairK W A n c l) => refFind_any key A n c l W h.lst HM.out)
  have R1 := Lib.hid (fun W (h : In_ pairK W A n c l) => range_any lo hi most A n c l W h hm)
  have R2 := Lib.hid (fun W (h : In_ pairK W A n c l) => refRange_any lo hi most A n c l W h.lst HFew.out hm HK.out k1 k2)
  have G1 := Lib.hid (fun W (h : In_ pairK W A n c l) => right_any A n c l W h.lst HM.out)
  have G2 := Lib.hid (fun W (h : In_ pairK W A n c l) => refRight_any A n c l W h.lst HM.out HK.out)
  have B1 := Lib.hid (fun W => between_any key lo hi W)
  have B2 := Lib.hid (fun W => refBetween_any key lo hi W k0 k1 k2)
  have HRl := Lib.hid (show (range l lo hi most).length ≤ n by
    unfold range; rw [List.length_take]; have := List.length_filter_le (fun p => btw lo hi p.key) l; have := HL.out; omega)
  generalize find key l = fr at F1 F2
  obtain ⟨fs, fb⟩ := fr
  generalize range l lo hi most = rl at R1 R2 HRl
  generalize right l = rt at G1 G2
  generalize btw lo hi key = bt at B1 B2
  clear hd hp h0 h1 h2 k0 k1 k2
  go_enter Try.func4, Try.ntmps4
  go_wp2_with fail
  refine (tshown_any _).mono ?_
  rintro e w1 ⟨rfl, q1⟩
  have Q1 := Lib.hid (((Q.refl w).alloc _).trans q1)
  clear q1
  go_wp2_with fail
  refine (F1.out _ (HD.out.q Q1.out)).mono ?_
  rintro e w2 ⟨rfl, q2⟩
  have Q2 := Lib.hid (Q1.out.trans q2)
  clear q2
  go_wp2_with fail
  refine (F2.out _ (HD.out.q Q2.out)).mono ?_
  rintro e w3 ⟨rfl, rfl⟩
  go_wp2_with fail
  refine (R1.out _ (HD.out.q Q2.out)).mono ?_
  rintro e w3 ⟨A3, c3, rfl, o3, q3⟩
  have Q3 := Lib.hid (Q2.out.trans q3)
  have O3 := Lib.hid o3.lst
  clear q3 o3
  go_wp2_with fail
  refine (R2.out _ (HD.out.q Q3.out)).mono ?_
  rintro e w4 ⟨A4, c4, rfl, o4, q4⟩
  have O34 := Lib.hid (O3.out.q q4)
  have Q4 := Lib.hid (Q3.out.trans q4)
  have O4 := Lib.hid o4.lst
  clear q4 o4
  go_wp2_with fail
  refine (refSame_any A3 A4 rl.length c3 rl.length c4 rl rl _ O34.out O4.out (Nat.le_trans HRl.out HM.out) (Nat.le_trans HRl.out HM.out)).mono ?_
  rw [show decide (rl = rl) = true from decide_eq_true rfl]
  rintro e w5 ⟨rfl, q5⟩
  have Q5 := Lib.hid (Q4.out.trans q5)
  clear q5
  go_wp2_with fail
  refine (G1.out _ (HD.out.q Q5.out)).mono ?_
  rintro e w6 ⟨rfl, q6⟩
  have Q6 := Lib.hid (Q5.out.trans q6)
  clear q6
  go_wp2_with fail
  refine (G2.out _ (HD.out.q Q6.out)).mono ?_
  rintro e w7 ⟨rfl, q7⟩
  have Q7 := Lib.hid (Q6.out.trans q7)
  clear q7
  go_wp2_with fail
  refine (B1.out _).mono ?_
  rintro e w8 ⟨rfl, rfl⟩
  go_wp2_with fail
  refine (B2.out _).mono ?_
  rintro e w9 ⟨rfl, q9⟩
  have Q9 := Lib.hid (Q7.out.trans q9)
  clear q9
  go_wp2
  all_goals go_ret
  all_goals exact ⟨by first | rfl | simp, Q9.out⟩

theorem opened (W : World) (args : Array Value) (hn : args.size = 1) (h : ∀ (j : Nat) t v, Try.f4.params[j]? = some t → args[j]? = some v → RdV W t v) :
    Calls Try.prog 4 args W fun e W' => e = .returned (.bool true) ∧ Q W W' := by
  obtain ⟨v, rfl⟩ := args1 hn
  rw [Try.params4] at h
  obtain ⟨cs, rfl, hr⟩ := (h 0 33 v rfl rfl).struct Try.underlying33
  obtain ⟨hl, _⟩ := hr.struct Try.underlying33
  rw [show Try.prog.cellsOf 33 = 5 by kernel_rfl] at hl
  match cs, hl with
  | [x0, x1, x2, x3, x4], _ =>
    obtain ⟨A, n, c, l, e0, hd, _, hp⟩ := open_pairs (hr.field Try.underlying33 0 (ty := 22) 0 1 rfl (by kernel_rfl))
    obtain ⟨key, e1, h1⟩ := (hr.field Try.underlying33 1 (ty := 9) 1 1 rfl (by kernel_rfl)).string Try.underlying9
    obtain ⟨lo, e2, h2⟩ := (hr.field Try.underlying33 2 (ty := 9) 2 1 rfl (by kernel_rfl)).string Try.underlying9
    obtain ⟨hi, e3, h3⟩ := (hr.field Try.underlying33 3 (ty := 9) 3 1 rfl (by kernel_rfl)).string Try.underlying9
    obtain ⟨most, e4, h4⟩ := (hr.field Try.underlying33 4 (ty := 3) 4 1 rfl (by kernel_rfl)).int Try.underlying3
    simp at e0 e1 e2 e3 e4
    subst e0 e1 e2 e3 e4
    exact walk A n c l key lo hi most W hd hp h1 h2 h3 (wf_i64 h4).2

set_option maxRecDepth 100000 in
theorem lifted (os : Os) (started : os.Started) (H : Type) (enc : TypeId × Value → H) :
    ReturnsInHanded {} Try.checked os 4 .any (Rows.tableFindsSpec.pre6 enc Try.prog Try.f4 Rows.tableFindsRow.domain false) (Rows.tableFindsSpec.post enc Try.prog Try.f4 false true false false) :=
  framed 1 Try.func4 (by rw [Try.params4]; rfl) rfl (by kernel_rfl) (by kernel_rfl) (by kernel_rfl)
    (fun H ds h => by match ds, h with | [d0], _ => exact ⟨rfl, rfl, rfl⟩)
    opened os started H enc
    (ChangeSpec.witness6 (enc := enc) (C := Try.checked) false ⟨#[], #[.agg #[.slice none 0 0, .string ByteArray.empty, .string ByteArray.empty, .string ByteArray.empty, .int .i64 0]], []⟩ 8 (by kernel_rfl) (by kernel_rfl) (by kernel_rfl) (by kernel_rfl))

theorem over : Rows.tableFindsRow.holds Try.pinned (OpenSpec.ofChange Rows.tableFindsSpec) :=
  OpenClaim.holds_of_wide 4 Try.f4 rfl rfl rfl rfl rfl rfl rfl ⟨rfl, rfl, rfl, rfl, rfl⟩ rfl rfl rfl rfl rfl (by kernel_rfl) Try.func4 (by kernel_rfl)
    (of_decide_eq_true (by kernel_rfl)) (by unfold Func.isWrapper; first | (rw [if_pos (by decide +kernel)]; kernel_rfl) | (rw [if_neg (by decide +kernel)]; exact ⟨rfl, rfl⟩))
    (fun os started H enc _ => lifted os started H enc)

theorem proved : Rows.TableFindsSaid := over
end Go.Proofs.Ytfgnlnolgjapnaa.tableFinds
