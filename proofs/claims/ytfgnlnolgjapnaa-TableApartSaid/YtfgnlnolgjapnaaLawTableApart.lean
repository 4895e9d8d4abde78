/- For every row, keys and value: what is put, or dropped, changes no other key. No condition. -/
import Derived.Test.YtfgnlnolgjapnaaPairIn
import Derived.Test.YtfgnlnolgjapnaaTableMath
namespace Go.Proofs.Ytfgnlnolgjapnaa.tableApart
set_option maxRecDepth 100000
open Go.ChangeShapes Go.WideShapes Go.ChangeAt Go.RowKit Prm
set_option linter.unusedVariables false

set_option maxHeartbeats 4000000 in
theorem walk_same (A : Option Addr) (n c : Nat) (l : List Pr) (key val other : ByteArray) (w : World) (hd : In_ pairK w A n c l) (hb : n * 32 ≤ 140737488351232) (hp : ∀ p ∈ l, PrIn p) (h0 : key.size ≤ 140737488351232) (h1 : val.size ≤ 140737488351232) (h2 : other.size ≤ 140737488351232) (hk : key = other) :
    Calls Try.prog 6 #[.agg #[.slice A n c, .string key, .string val, .string other]] w fun e w' => e = .returned (.bool true) ∧ Q w w' := by
  have e1 := same_str key other
  rw [decide_eq_true hk] at e1
  clear hk hd hp
  go_enter Try.func6, Try.ntmps6
  go_wp2_with fail
  refine (tshown_any _).mono ?_
  rintro e w1 ⟨rfl, q1⟩
  have Q1 := Lib.hid (((Q.refl w).alloc _).trans q1)
  clear q1
  go_wp2
  go_ret
  exact ⟨rfl, Q1.out⟩
set_option maxHeartbeats 4000000 in
theorem walk_other (A : Option Addr) (n c : Nat) (l : List Pr) (key val other : ByteArray) (w : World) (hd : In_ pairK w A n c l) (hb : n * 32 ≤ 140737488351232) (hp : ∀ p ∈ l, PrIn p) (h0 : key.size ≤ 140737488351232) (h1 : val.size ≤ 140737488351232) (h2 : other.size ≤ 140737488351232) (hk : ¬ key = other) :
    Calls Try.prog 6 #[.agg #[.slice A n c, .string key, .string val, .string other]] w fun e w' => e = .returned (.bool true) ∧ Q w w' := by
  have e1 := same_str key other
  rw [decide_eq_false hk] at e1
  have HD := Lib.hid hd
  have HM := Lib.hid hd.max
  have HL := Lib.hid hd.len
  have F1 := Lib.hid (fun W (h : In_ pairK W A n c l) => find_any other A n c l W h.lst HM.out)
  have P1 := Lib.hid (fun W (h : In_ pairK W A n c l) => put_any key val A n c l W h (by omega))
  have D1 := Lib.hid (fun W (h : In_ pairK W A n c l) => drop_any key A n c l W h (by omega))
  have L1 := Lib.hid (show (put l ⟨key, val⟩).length ≤ maxLen by have := put_len l ⟨key, val⟩; have := HL.out; unfold maxLen; omega)
  have L2 := Lib.hid (show (drop l key).length ≤ maxLen by have := drop_len l key; have := HL.out; unfold maxLen; omega)
  have E1 := Lib.hid (find_put_other (p := ⟨key, val⟩) hk l)
  have E2 := Lib.hid (find_drop_other hk l)
  generalize put l ⟨key, val⟩ = r1 at P1 L1 E1
  generalize drop l key = r2 at D1 L2 E2
  have F2 := Lib.hid (fun W A c (h : Lst pairK W A r1.length r1) => find_any other A r1.length c r1 W h L1.out)
  have F3 := Lib.hid (fun W A c (h : Lst pairK W A r2.length r2) => find_any other A r2.length c r2 W h L2.out)
  rw [E1.out] at F2
  rw [E2.out] at F3
  generalize find other l = fr at F1 F2 F3 E1 E2
  obtain ⟨fs, fb⟩ := fr
  clear hd hp h0 h1 h2 hk E1 E2
  go_enter Try.func6, Try.ntmps6
  go_wp2_with fail
  refine (tshown_any _).mono ?_
  rintro e w1 ⟨rfl, q1⟩
  have Q1 := Lib.hid (((Q.refl w).alloc _).trans q1)
  clear q1
  go_wp2_with fail
  refine (F1.out _ (HD.out.q Q1.out)).mono ?_
  rintro e w2 ⟨rfl, q2⟩
  have Q2 := Lib.hid (Q1.out.trans q2)
  clear q2
  go_wp2_with fail
  refine (P1.out _ (HD.out.q Q2.out)).mono ?_
  rintro e w3 ⟨A3, c3, rfl, o3, q3⟩
  have Q3 := Lib.hid (Q2.out.trans q3)
  have O3 := Lib.hid o3
  have q3' := Lib.hid q3
  clear q3 o3
  go_wp2_with fail
  refine (F2.out _ A3 c3 O3.out.lst).mono ?_
  rintro e w4 ⟨rfl, q4⟩
  have Q4 := Lib.hid (Q3.out.trans q4)
  clear q4
  go_wp2_with fail
  refine (D1.out _ (HD.out.q Q4.out)).mono ?_
  rintro e w5 ⟨A5, c5, rfl, o5, q5⟩
  have Q5 := Lib.hid (Q4.out.trans q5)
  have O5 := Lib.hid o5
  have q5' := Lib.hid q5
  clear q5 o5
  go_wp2_with fail
  refine (F3.out _ A5 c5 O5.out.lst).mono ?_
  rintro e w6 ⟨rfl, q6⟩
  have Q6 := Lib.hid (Q5.out.trans q6)
  clear q6
  go_wp2
  all_goals go_ret
  all_goals exact ⟨by first | rfl | simp, Q6.out⟩

set_option maxHeartbeats 4000000 in
theorem walk (A : Option Addr) (n c : Nat) (l : List Pr) (key val other : ByteArray) (w : World) (hd : In_ pairK w A n c l) (hb : n * 32 ≤ 140737488351232) (hp : ∀ p ∈ l, PrIn p) (h0 : key.size ≤ 140737488351232) (h1 : val.size ≤ 140737488351232) (h2 : other.size ≤ 140737488351232) :
    Calls Try.prog 6 #[.agg #[.slice A n c, .string key, .string val, .string other]] w fun e w' => e = .returned (.bool true) ∧ Q w w' := by
  by_cases hk : key = other
  · exact walk_same A n c l key val other w hd hb hp h0 h1 h2 hk
  · exact walk_other A n c l key val other w hd hb hp h0 h1 h2 hk

theorem opened (W : World) (args : Array Value) (hn : args.size = 1) (h : ∀ (j : Nat) t v, Try.f6.params[j]? = some t → args[j]? = some v → RdV W t v) :
    Calls Try.prog 6 args W fun e W' => e = .returned (.bool true) ∧ Q W W' := by
  obtain ⟨v, rfl⟩ := args1 hn
  rw [Try.params6] at h
  obtain ⟨cs, rfl, hr⟩ := (h 0 44 v rfl rfl).struct Try.underlying44
  obtain ⟨hl, _⟩ := hr.struct Try.underlying44
  rw [show Try.prog.cellsOf 44 = 4 by kernel_rfl] at hl
  match cs, hl with
  | [x0, x1, x2, x3], _ =>
    obtain ⟨A0, n0, c0, l, e0, hd0, hb0, hp0⟩ := open_pairs (hr.field Try.underlying44 0 (ty := 22) 0 1 rfl (by kernel_rfl))
    obtain ⟨key, e1, s1⟩ := (hr.field Try.underlying44 1 (ty := 9) 1 1 rfl (by kernel_rfl)).string Try.underlying9
    obtain ⟨val, e2, s2⟩ := (hr.field Try.underlying44 2 (ty := 9) 2 1 rfl (by kernel_rfl)).string Try.underlying9
    obtain ⟨other, e3, s3⟩ := (hr.field Try.underlying44 3 (ty := 9) 3 1 rfl (by kernel_rfl)).string Try.underlying9
    simp at e0 e1 e2 e3
    subst e0 e1 e2 e3
    exact walk A0 n0 c0 l key val other W hd0 hb0 hp0 s1 s2 s3

set_option maxRecDepth 100000 in
theorem lifted (os : Os) (started : os.Started) (H : Type) (enc : TypeId × Value → H) :
    ReturnsInHanded {} Try.checked os 6 .any (Rows.tableApartSpec.pre6 enc Try.prog Try.f6 Rows.tableApartRow.domain false) (Rows.tableApartSpec.post enc Try.prog Try.f6 false true false false) :=
  framed 1 Try.func6 (by rw [Try.params6]; rfl) rfl (by kernel_rfl) (by kernel_rfl) (by kernel_rfl)
    (fun H ds h => by match ds, h with | [d0], _ => exact ⟨rfl, rfl, rfl⟩)
    opened os started H enc
    (ChangeSpec.witness6 (enc := enc) (C := Try.checked) false ⟨#[], #[.agg #[.slice none 0 0, .string ByteArray.empty, .string ByteArray.empty, .string ByteArray.empty]], []⟩ 8 (by kernel_rfl) (by kernel_rfl) (by kernel_rfl) (by kernel_rfl))

theorem over : Rows.tableApartRow.holds Try.pinned (OpenSpec.ofChange Rows.tableApartSpec) :=
  OpenClaim.holds_of_wide 6 Try.f6 rfl rfl rfl rfl rfl rfl rfl ⟨rfl, rfl, rfl, rfl, rfl⟩ rfl rfl rfl rfl rfl (by kernel_rfl) Try.func6 (by kernel_rfl)
    (of_decide_eq_true (by kernel_rfl)) (by unfold Func.isWrapper; first | (rw [if_pos (by decide +kernel)]; kernel_rfl) | (rw [if_neg (by decide +kernel)]; exact ⟨rfl, rfl⟩))
    (fun os started H enc _ => lifted os started H enc)

theorem proved : Rows.TableApartSaid := over
end Go.Proofs.Ytfgnlnolgjapnaa.tableApart
