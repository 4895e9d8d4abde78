/- For every row, keys and number: a range of at most so many is the beginning of the whole one. No condition. -/
import Derived.Test.YtfgnlnolgjapnaaPairIn
import Derived.Test.YtfgnlnolgjapnaaTableMath
namespace Go.Proofs.Ytfgnlnolgjapnaa.tableMost
set_option maxRecDepth 100000
open Go.ChangeShapes Go.WideShapes Go.ChangeAt Go.RowKit Prm
set_option linter.unusedVariables false

theorem Lst.take {K : Kind Pr} {w : World} {A : Option Addr} {n : Nat} {l : List Pr} (h : Lst K w A n l) {m : Nat} (hm : m ≤ n) : Lst K w A m (l.take m) := by
  have hl := h.len
  refine ⟨by rw [K.rows_len, List.length_take]; congr 1; omega, fun j u hu => ?_⟩
  rw [K.rows_take, List.getElem?_take] at hu
  split at hu
  · exact h.2 j u hu
  · cases hu
theorem range_take (l : List Pr) (lo hi : ByteArray) (most : Int) : range l lo hi most = (range l lo hi l.length).take most.toNat := by rw [range_len]; rfl

set_option maxHeartbeats 4000000 in
theorem walk_neg (A : Option Addr) (n c : Nat) (l : List Pr) (lo hi : ByteArray) (most : Int) (w : World) (hd : In_ pairK w A n c l) (hb : n * 32 ≤ 140737488351232) (hp : ∀ p ∈ l, PrIn p) (h0 : lo.size ≤ 140737488351232) (h1 : hi.size ≤ 140737488351232) (hm : -9223372036854775808 ≤ most ∧ most ≤ 9223372036854775807) (hx : most < 0) :
    Calls Try.prog 10 #[.agg #[.slice A n c, .string lo, .string hi, .int .i64 most]] w fun e w' => e = .returned (.bool true) ∧ Q w w' := by
  have HD := Lib.hid hd
  have HM := Lib.hid hd.max
  have HL := Lib.hid hd.len
  have R1 := Lib.hid (fun W (h : In_ pairK W A n c l) => range_any lo hi (n : Int) A n c l W h (by omega))
  have R2 := Lib.hid (fun W (h : In_ pairK W A n c l) => range_any lo hi (most) A n c l W h hm.2)
  rw [range_take l lo hi (most), HL.out] at R2
  have L1 := Lib.hid (show (range l lo hi n).length ≤ maxLen by
    unfold range; rw [List.length_take]; have := List.length_filter_le (fun p => btw lo hi p.key) l; have := HL.out; unfold maxLen; omega)
  rw [show most.toNat = 0 by omega] at R2
  generalize range l lo hi n = r at R1 R2 L1
  have hrl : r.length ≤ 9223372036854775807 := by have := L1.out; unfold maxLen at this; omega
  have TK := Lib.hid (fun W A2 (h : Lst pairK W A2 r.length r) => Lst.take h (m := 0) (by omega))
  have SL := Lib.hid (show (r.take (0)).length ≤ maxLen by rw [List.length_take]; have := L1.out; omega)
  generalize r.take (0) = s at R2 TK SL
  clear hd hp h0 h1
  go_enter Try.func10, Try.ntmps10
  go_wp2_with fail
  refine (tshown_any _).mono ?_
  rintro e w1 ⟨rfl, q1⟩
  have Q1 := Lib.hid (((Q.refl w).alloc _).trans q1)
  clear q1
  go_wp2_with fail
  refine (R1.out _ (HD.out.q Q1.out)).mono ?_
  rintro e w2 ⟨A2, c2, rfl, o2, q2⟩
  have Q2 := Lib.hid (Q1.out.trans q2)
  have O2 := Lib.hid o2
  have q2' := Lib.hid q2
  clear q2 o2
  have hle2 : 0 ≤ c2 := Nat.le_trans (by omega) O2.out.le
  go_wp2_with fail
  refine (R2.out _ (HD.out.q Q2.out)).mono ?_
  rintro e w3 ⟨A3, c3, rfl, o3, q3⟩
  have Q3 := Lib.hid (Q2.out.trans q3)
  have O3 := Lib.hid o3
  have q3' := Lib.hid q3
  clear q3 o3
  go_wp2_with fail
  refine (refSame_any A3 A2 s.length c3 (0) c2 s s _ O3.out.lst (TK.out _ _ (O2.out.lst.q q3'.out)) SL.out (by have := L1.out; omega)).mono ?_
  rw [show decide (s = s) = true from decide_eq_true rfl]
  rintro e w4 ⟨rfl, q4⟩
  have Q4 := Lib.hid (Q3.out.trans q4)
  clear q4
  go_wp2
  all_goals go_ret
  all_goals exact ⟨by first | rfl | simp, Q4.out⟩

set_option maxHeartbeats 4000000 in
theorem walk_big (A : Option Addr) (n c : Nat) (l : List Pr) (lo hi : ByteArray) (most : Int) (w : World) (hd : In_ pairK w A n c l) (hb : n * 32 ≤ 140737488351232) (hp : ∀ p ∈ l, PrIn p) (h0 : lo.size ≤ 140737488351232) (h1 : hi.size ≤ 140737488351232) (hm : -9223372036854775808 ≤ most ∧ most ≤ 9223372036854775807) (hx : ((range l lo hi n).length : Int) < most) :
    Calls Try.prog 10 #[.agg #[.slice A n c, .string lo, .string hi, .int .i64 most]] w fun e w' => e = .returned (.bool true) ∧ Q w w' := by
  have HD := Lib.hid hd
  have HM := Lib.hid hd.max
  have HL := Lib.hid hd.len
  have R1 := Lib.hid (fun W (h : In_ pairK W A n c l) => range_any lo hi (n : Int) A n c l W h (by omega))
  have R2 := Lib.hid (fun W (h : In_ pairK W A n c l) => range_any lo hi (most) A n c l W h hm.2)
  rw [range_take l lo hi (most), HL.out] at R2
  have L1 := Lib.hid (show (range l lo hi n).length ≤ maxLen by
    unfold range; rw [List.length_take]; have := List.length_filter_le (fun p => btw lo hi p.key) l; have := HL.out; unfold maxLen; omega)
  generalize range l lo hi n = r at R1 R2 L1 hx
  have hrl : r.length ≤ 9223372036854775807 := by have := L1.out; unfold maxLen at this; omega
  have hx0 : ¬ most < 0 := by omega
  have E := Lib.hid (show r.take most.toNat = r.take r.length by rw [List.take_length, List.take_of_length_le (by omega)])
  rw [E.out] at R2
  have TK := Lib.hid (fun W A2 (h : Lst pairK W A2 r.length r) => Lst.take h (m := r.length) (by omega))
  have SL := Lib.hid (show (r.take (r.length)).length ≤ maxLen by rw [List.length_take]; have := L1.out; omega)
  generalize r.take (r.length) = s at R2 TK SL
  clear hd hp h0 h1 E
  go_enter Try.func10, Try.ntmps10
  go_wp2_with fail
  refine (tshown_any _).mono ?_
  rintro e w1 ⟨rfl, q1⟩
  have Q1 := Lib.hid (((Q.refl w).alloc _).trans q1)
  clear q1
  go_wp2_with fail
  refine (R1.out _ (HD.out.q Q1.out)).mono ?_
  rintro e w2 ⟨A2, c2, rfl, o2, q2⟩
  have Q2 := Lib.hid (Q1.out.trans q2)
  have O2 := Lib.hid o2
  have q2' := Lib.hid q2
  clear q2 o2
  have hle2 : r.length ≤ c2 := Nat.le_trans (by omega) O2.out.le
  go_wp2_with fail
  refine (R2.out _ (HD.out.q Q2.out)).mono ?_
  rintro e w3 ⟨A3, c3, rfl, o3, q3⟩
  have Q3 := Lib.hid (Q2.out.trans q3)
  have O3 := Lib.hid o3
  have q3' := Lib.hid q3
  clear q3 o3
  go_wp2_with fail
  refine (refSame_any A3 A2 s.length c3 (r.length) c2 s s _ O3.out.lst (TK.out _ _ (O2.out.lst.q q3'.out)) SL.out (by have := L1.out; omega)).mono ?_
  rw [show decide (s = s) = true from decide_eq_true rfl]
  rintro e w4 ⟨rfl, q4⟩
  have Q4 := Lib.hid (Q3.out.trans q4)
  clear q4
  go_wp2
  all_goals go_ret
  all_goals exact ⟨by first | rfl | simp, Q4.out⟩

set_option maxHeartbeats 4000000 in
theorem walk_mid (A : Option Addr) (n c : Nat) (l : List Pr) (lo hi : ByteArray) (most : Int) (w : World) (hd : In_ pairK w A n c l) (hb : n * 32 ≤ 140737488351232) (hp : ∀ p ∈ l, PrIn p) (h0 : lo.size ≤ 140737488351232) (h1 : hi.size ≤ 140737488351232) (hm : -9223372036854775808 ≤ most ∧ most ≤ 9223372036854775807) (k : Nat) (hk : most = k) (hx : k ≤ (range l lo hi n).length) :
    Calls Try.prog 10 #[.agg #[.slice A n c, .string lo, .string hi, .int .i64 most]] w fun e w' => e = .returned (.bool true) ∧ Q w w' := by
  subst hk
  have HD := Lib.hid hd
  have HM := Lib.hid hd.max
  have HL := Lib.hid hd.len
  have R1 := Lib.hid (fun W (h : In_ pairK W A n c l) => range_any lo hi (n : Int) A n c l W h (by omega))
  have R2 := Lib.hid (fun W (h : In_ pairK W A n c l) => range_any lo hi ((k : Int)) A n c l W h hm.2)
  rw [range_take l lo hi ((k : Int)), HL.out] at R2
  have L1 := Lib.hid (show (range l lo hi n).length ≤ maxLen by
    unfold range; rw [List.length_take]; have := List.length_filter_le (fun p => btw lo hi p.key) l; have := HL.out; unfold maxLen; omega)
  rw [show ((k : Int)).toNat = k by omega] at R2
  generalize range l lo hi n = r at R1 R2 L1 hx
  have hrl : r.length ≤ 9223372036854775807 := by have := L1.out; unfold maxLen at this; omega
  have hki : (k : Int) ≤ (r.length : Int) := by omega
  have TK := Lib.hid (fun W A2 (h : Lst pairK W A2 r.length r) => Lst.take h (m := k) (by omega))
  have SL := Lib.hid (show (r.take (k)).length ≤ maxLen by rw [List.length_take]; have := L1.out; omega)
  generalize r.take (k) = s at R2 TK SL
  clear hd hp h0 h1
  go_enter Try.func10, Try.ntmps10
  go_wp2_with fail
  refine (tshown_any _).mono ?_
  rintro e w1 ⟨rfl, q1⟩
  have Q1 := Lib.hid (((Q.refl w).alloc _).trans q1)
  clear q1
  go_wp2_with fail
  refine (R1.out _ (HD.out.q Q1.out)).mono ?_
  rintro e w2 ⟨A2, c2, rfl, o2, q2⟩
  have Q2 := Lib.hid (Q1.out.trans q2)
  have O2 := Lib.hid o2
  have q2' := Lib.hid q2
  clear q2 o2
  have hle2 : k ≤ c2 := Nat.le_trans (by omega) O2.out.le
  go_wp2_with fail
  refine (R2.out _ (HD.out.q Q2.out)).mono ?_
  rintro e w3 ⟨A3, c3, rfl, o3, q3⟩
  have Q3 := Lib.hid (Q2.out.trans q3)
  have O3 := Lib.hid o3
  have q3' := Lib.hid q3
  clear q3 o3
  go_wp2_with fail
  refine (refSame_any A3 A2 s.length c3 (k) c2 s s _ O3.out.lst (TK.out _ _ (O2.out.lst.q q3'.out)) SL.out (by have := L1.out; omega)).mono ?_
  rw [show decide (s = s) = true from decide_eq_true rfl]
  rintro e w4 ⟨rfl, q4⟩
  have Q4 := Lib.hid (Q3.out.trans q4)
  clear q4
  go_wp2
  all_goals go_ret
  all_goals exact ⟨by first | rfl | simp, Q4.out⟩

set_option maxHeartbeats 4000000 in
theorem walk (A : Option Addr) (n c : Nat) (l : List Pr) (lo hi : ByteArray) (most : Int) (w : World) (hd : In_ pairK w A n c l) (hb : n * 32 ≤ 140737488351232) (hp : ∀ p ∈ l, PrIn p) (h0 : lo.size ≤ 140737488351232) (h1 : hi.size ≤ 140737488351232) (hm : -9223372036854775808 ≤ most ∧ most ≤ 9223372036854775807) :
    Calls Try.prog 10 #[.agg #[.slice A n c, .string lo, .string hi, .int .i64 most]] w fun e w' => e = .returned (.bool true) ∧ Q w w' := by
  by_cases hx : most < 0
  · exact walk_neg A n c l lo hi most w hd hb hp h0 h1 hm hx
  · by_cases hy : ((range l lo hi n).length : Int) < most
    · exact walk_big A n c l lo hi most w hd hb hp h0 h1 hm hy
    · exact walk_mid A n c l lo hi most w hd hb hp h0 h1 hm most.toNat (by omega) (by omega)

theorem opened (W : World) (args : Array Value) (hn : args.size = 1) (h : ∀ (j : Nat) t v, Try.f10.params[j]? = some t → args[j]? = some v → RdV W t v) :
    Calls Try.prog 10 args W fun e W' => e = .returned (.bool true) ∧ Q W W' := by
  obtain ⟨v, rfl⟩ := args1 hn
  rw [Try.params10] at h
  obtain ⟨cs, rfl, hr⟩ := (h 0 56 v rfl rfl).struct Try.underlying56
  obtain ⟨hl, _⟩ := hr.struct Try.underlying56
  rw [show Try.prog.cellsOf 56 = 4 by kernel_rfl] at hl
  match cs, hl with
  | [x0, x1, x2, x3], _ =>
    obtain ⟨A0, n0, c0, l, e0, hd0, hb0, hp0⟩ := open_pairs (hr.field Try.underlying56 0 (ty := 22) 0 1 rfl (by kernel_rfl))
    obtain ⟨lo, e1, s1⟩ := (hr.field Try.underlying56 1 (ty := 9) 1 1 rfl (by kernel_rfl)).string Try.underlying9
    obtain ⟨hi, e2, s2⟩ := (hr.field Try.underlying56 2 (ty := 9) 2 1 rfl (by kernel_rfl)).string Try.underlying9
    obtain ⟨most, e3, s3⟩ := (hr.field Try.underlying56 3 (ty := 3) 3 1 rfl (by kernel_rfl)).int Try.underlying3
    simp at e0 e1 e2 e3
    subst e0 e1 e2 e3
    exact walk A0 n0 c0 l lo hi most W hd0 hb0 hp0 s1 s2 (wf_i64 s3)

set_option maxRecDepth 100000 in
theorem lifted (os : Os) (started : os.Started) (H : Type) (enc : TypeId × Value → H) :
    ReturnsInHanded {} Try.checked os 10 .any (Rows.tableMostSpec.pre6 enc Try.prog Try.f10 Rows.tableMostRow.domain false) (Rows.tableMostSpec.post enc Try.prog Try.f10 false true false false) :=
  framed 1 Try.func10 (by rw [Try.params10]; rfl) rfl (by kernel_rfl) (by kernel_rfl) (by kernel_rfl)
    (fun H ds h => by match ds, h with | [d0], _ => exact ⟨rfl, rfl, rfl⟩)
    opened os started H enc
    (ChangeSpec.witness6 (enc := enc) (C := Try.checked) false ⟨#[], #[.agg #[.slice none 0 0, .string ByteArray.empty, .string ByteArray.empty, .int .i64 0]], []⟩ 8 (by kernel_rfl) (by kernel_rfl) (by kernel_rfl) (by kernel_rfl))

theorem over : Rows.tableMostRow.holds Try.pinned (OpenSpec.ofChange Rows.tableMostSpec) :=
  OpenClaim.holds_of_wide 10 Try.f10 rfl rfl rfl rfl rfl rfl rfl ⟨rfl, rfl, rfl, rfl, rfl⟩ rfl rfl rfl rfl rfl (by kernel_rfl) Try.func10 (by kernel_rfl)
    (of_decide_eq_true (by kernel_rfl)) (by unfold Func.isWrapper; first | (rw [if_pos (by decide +kernel)]; kernel_rfl) | (rw [if_neg (by decide +kernel)]; exact ⟨rfl, rfl⟩))
    (fun os started H enc _ => lifted os started H enc)

theorem proved : Rows.TableMostSaid := over
end Go.Proofs.Ytfgnlnolgjapnaa.tableMost
