/- For every row, key and values: of two puts of a key the last one counts; a put of what is there changes nothing. No condition. -/
import Derived.Test.YtfgnlnolgjapnaaPairIn
import Derived.Test.YtfgnlnolgjapnaaTableMath
namespace Go.Proofs.Ytfgnlnolgjapnaa.tableTwice
set_option maxRecDepth 100000
open Go.ChangeShapes Go.WideShapes Go.ChangeAt Go.RowKit Prm
set_option linter.unusedVariables false

set_option maxHeartbeats 4000000 in
theorem walk_none (A : Option Addr) (n c : Nat) (l : List Pr) (key a b : ByteArray) (w : World) (hd : In_ pairK w A n c l) (hb : n * 32 ≤ 140737488351232) (hp : ∀ p ∈ l, PrIn p) (h0 : key.size ≤ 140737488351232) (h1 : a.size ≤ 140737488351232) (h2 : b.size ≤ 140737488351232) (hf : (find key l).2 = false) :
    Calls Try.prog 9 #[.agg #[.slice A n c, .string key, .string a, .string b]] w fun e w' => e = .returned (.bool true) ∧ Q w w' := by
  have HD := Lib.hid hd
  have HM := Lib.hid hd.max
  have HL := Lib.hid hd.len
  have F1 := Lib.hid (fun W (h : In_ pairK W A n c l) => find_any key A n c l W h.lst HM.out)
  have P1 := Lib.hid (fun W (h : In_ pairK W A n c l) => put_any key a A n c l W h (by omega))
  have P3 := Lib.hid (fun W (h : In_ pairK W A n c l) => put_any key b A n c l W h (by omega))
  have hl1 : (put l ⟨key, a⟩).length ≤ n + 1 := by have := put_len l ⟨key, a⟩; have := HL.out; omega
  have hl2 : (put l ⟨key, b⟩).length ≤ n + 1 := by have := put_len l ⟨key, b⟩; have := HL.out; omega
  have L1 := Lib.hid (show (put l ⟨key, a⟩).length * 32 ≤ 140737488355328 by omega)
  have L2 := Lib.hid (show (put l ⟨key, b⟩).length ≤ maxLen by unfold maxLen; omega)
  have L3 := Lib.hid (show ((put l ⟨key, a⟩).length + 1) * 32 ≤ 140737488355328 by omega)
  have E1 := Lib.hid (put_put l (p := ⟨key, a⟩) (p' := ⟨key, b⟩) rfl)
  generalize put l ⟨key, a⟩ = r1 at P1 L1 L3 E1 hl1
  generalize put l ⟨key, b⟩ = r2 at P3 L2 E1 hl2
  have P2 := Lib.hid (fun W A c (h : In_ pairK W A r1.length c r1) => put_any key b A r1.length c r1 W h L3.out)
  rw [E1.out] at P2
  generalize find key l = fr at F1 hf
  obtain ⟨fs, fb⟩ := fr
  simp only at hf
  subst hf
  clear hd hp h0 h1 h2 E1 hl1 hl2
  go_enter Try.func9, Try.ntmps9
  go_wp2_with fail
  refine (tshown_any _).mono ?_
  rintro e w1 ⟨rfl, q1⟩
  have Q1 := Lib.hid (((Q.refl w).alloc _).trans q1)
  clear q1
  go_wp2_with fail
  refine (P1.out _ (HD.out.q Q1.out)).mono ?_
  rintro e w2 ⟨A2, c2, rfl, o2, q2⟩
  have Q2 := Lib.hid (Q1.out.trans q2)
  have O2 := Lib.hid o2
  have q2' := Lib.hid q2
  clear q2 o2
  go_wp2_with fail
  refine (P2.out _ A2 c2 (O2.out.in_ L1.out)).mono ?_
  rintro e w3 ⟨A3, c3, rfl, o3, q3⟩
  have Q3 := Lib.hid (Q2.out.trans q3)
  have O3 := Lib.hid o3
  have q3' := Lib.hid q3
  clear q3 o3
  go_wp2_with fail
  refine (P3.out _ (HD.out.q Q3.out)).mono ?_
  rintro e w4 ⟨A4, c4, rfl, o4, q4⟩
  have Q4 := Lib.hid (Q3.out.trans q4)
  have O4 := Lib.hid o4
  have q4' := Lib.hid q4
  clear q4 o4
  go_wp2_with fail
  refine (refSame_any A3 A4 (r2.length) c3 (r2.length) c4 (r2) (r2) _ (O3.out.lst.q q4'.out) (O4.out.lst) (L2.out) (L2.out)).mono ?_
  rw [show decide (r2 = r2) = true from decide_eq_true rfl]
  rintro e w5 ⟨rfl, q5⟩
  have Q5 := Lib.hid (Q4.out.trans q5)
  clear q5
  go_wp2_with fail
  refine (F1.out _ (HD.out.q Q5.out)).mono ?_
  rintro e w6 ⟨rfl, q6⟩
  have Q6 := Lib.hid (Q5.out.trans q6)
  clear q6
  go_wp2
  all_goals go_ret
  all_goals exact ⟨by first | rfl | simp, Q6.out⟩

set_option maxHeartbeats 4000000 in
theorem walk_there (A : Option Addr) (n c : Nat) (l : List Pr) (key a b : ByteArray) (w : World) (hd : In_ pairK w A n c l) (hb : n * 32 ≤ 140737488351232) (hp : ∀ p ∈ l, PrIn p) (h0 : key.size ≤ 140737488351232) (h1 : a.size ≤ 140737488351232) (h2 : b.size ≤ 140737488351232) (hf : (find key l).2 = true) :
    Calls Try.prog 9 #[.agg #[.slice A n c, .string key, .string a, .string b]] w fun e w' => e = .returned (.bool true) ∧ Q w w' := by
  have HD := Lib.hid hd
  have HM := Lib.hid hd.max
  have HL := Lib.hid hd.len
  have F1 := Lib.hid (fun W (h : In_ pairK W A n c l) => find_any key A n c l W h.lst HM.out)
  have P1 := Lib.hid (fun W (h : In_ pairK W A n c l) => put_any key a A n c l W h (by omega))
  have P3 := Lib.hid (fun W (h : In_ pairK W A n c l) => put_any key b A n c l W h (by omega))
  have hl1 : (put l ⟨key, a⟩).length ≤ n + 1 := by have := put_len l ⟨key, a⟩; have := HL.out; omega
  have hl2 : (put l ⟨key, b⟩).length ≤ n + 1 := by have := put_len l ⟨key, b⟩; have := HL.out; omega
  have L1 := Lib.hid (show (put l ⟨key, a⟩).length * 32 ≤ 140737488355328 by omega)
  have L2 := Lib.hid (show (put l ⟨key, b⟩).length ≤ maxLen by unfold maxLen; omega)
  have L3 := Lib.hid (show ((put l ⟨key, a⟩).length + 1) * 32 ≤ 140737488355328 by omega)
  have E1 := Lib.hid (put_put l (p := ⟨key, a⟩) (p' := ⟨key, b⟩) rfl)
  generalize put l ⟨key, a⟩ = r1 at P1 L1 L3 E1 hl1
  generalize put l ⟨key, b⟩ = r2 at P3 L2 E1 hl2
  have P2 := Lib.hid (fun W A c (h : In_ pairK W A r1.length c r1) => put_any key b A r1.length c r1 W h L3.out)
  rw [E1.out] at P2
  have E2 := Lib.hid (put_there (l := l) (k := key) (v := (find key l).1) (by rw [← hf]))
  generalize find key l = fr at F1 hf E2
  obtain ⟨fs, fb⟩ := fr
  simp only at hf E2
  subst hf
  have P4 := Lib.hid (fun W (h : In_ pairK W A n c l) => put_any key fs A n c l W h (by omega))
  rw [E2.out] at P4
  have LL := Lib.hid (show l.length ≤ maxLen by rw [HL.out]; exact HM.out)
  clear E2
  clear hd hp h0 h1 h2 E1 hl1 hl2
  go_enter Try.func9, Try.ntmps9
  go_wp2_with fail
  refine (tshown_any _).mono ?_
  rintro e w1 ⟨rfl, q1⟩
  have Q1 := Lib.hid (((Q.refl w).alloc _).trans q1)
  clear q1
  go_wp2_with fail
  refine (P1.out _ (HD.out.q Q1.out)).mono ?_
  rintro e w2 ⟨A2, c2, rfl, o2, q2⟩
  have Q2 := Lib.hid (Q1.out.trans q2)
  have O2 := Lib.hid o2
  have q2' := Lib.hid q2
  clear q2 o2
  go_wp2_with fail
  refine (P2.out _ A2 c2 (O2.out.in_ L1.out)).mono ?_
  rintro e w3 ⟨A3, c3, rfl, o3, q3⟩
  have Q3 := Lib.hid (Q2.out.trans q3)
  have O3 := Lib.hid o3
  have q3' := Lib.hid q3
  clear q3 o3
  go_wp2_with fail
  refine (P3.out _ (HD.out.q Q3.out)).mono ?_
  rintro e w4 ⟨A4, c4, rfl, o4, q4⟩
  have Q4 := Lib.hid (Q3.out.trans q4)
  have O4 := Lib.hid o4
  have q4' := Lib.hid q4
  clear q4 o4
  go_wp2_with fail
  refine (refSame_any A3 A4 (r2.length) c3 (r2.length) c4 (r2) (r2) _ (O3.out.lst.q q4'.out) (O4.out.lst) (L2.out) (L2.out)).mono ?_
  rw [show decide (r2 = r2) = true from decide_eq_true rfl]
  rintro e w5 ⟨rfl, q5⟩
  have Q5 := Lib.hid (Q4.out.trans q5)
  clear q5
  go_wp2_with fail
  refine (F1.out _ (HD.out.q Q5.out)).mono ?_
  rintro e w6 ⟨rfl, q6⟩
  have Q6 := Lib.hid (Q5.out.trans q6)
  clear q6
  go_wp2_with fail
  refine (P4.out _ (HD.out.q Q6.out)).mono ?_
  rintro e w7 ⟨A7, c7, rfl, o7, q7⟩
  have Q7 := Lib.hid (Q6.out.trans q7)
  have O7 := Lib.hid o7
  have q7' := Lib.hid q7
  clear q7 o7
  go_wp2_with fail
  refine (refSame_any A7 A l.length c7 n c l l _ O7.out.lst (HD.out.q Q7.out).lst LL.out HM.out).mono ?_
  rw [show decide (l = l) = true from decide_eq_true rfl]
  rintro e w8 ⟨rfl, q8⟩
  have Q8 := Lib.hid (Q7.out.trans q8)
  clear q8
  go_wp2
  all_goals go_ret
  all_goals exact ⟨by first | rfl | simp, Q8.out⟩

set_option maxHeartbeats 4000000 in
theorem walk (A : Option Addr) (n c : Nat) (l : List Pr) (key a b : ByteArray) (w : World) (hd : In_ pairK w A n c l) (hb : n * 32 ≤ 140737488351232) (hp : ∀ p ∈ l, PrIn p) (h0 : key.size ≤ 140737488351232) (h1 : a.size ≤ 140737488351232) (h2 : b.size ≤ 140737488351232) :
    Calls Try.prog 9 #[.agg #[.slice A n c, .string key, .string a, .string b]] w fun e w' => e = .returned (.bool true) ∧ Q w w' := by
  cases hf : (find key l).2 with
  | false => exact walk_none A n c l key a b w hd hb hp h0 h1 h2 hf
  | true => exact walk_there A n c l key a b w hd hb hp h0 h1 h2 hf

theorem opened (W : World) (args : Array Value) (hn : args.size = 1) (h : ∀ (j : Nat) t v, Try.f9.params[j]? = some t → args[j]? = some v → RdV W t v) :
    Calls Try.prog 9 args W fun e W' => e = .returned (.bool true) ∧ Q W W' := by
  obtain ⟨v, rfl⟩ := args1 hn
  rw [Try.params9] at h
  obtain ⟨cs, rfl, hr⟩ := (h 0 53 v rfl rfl).struct Try.underlying53
  obtain ⟨hl, _⟩ := hr.struct Try.underlying53
  rw [show Try.prog.cellsOf 53 = 4 by kernel_rfl] at hl
  match cs, hl with
  | [x0, x1, x2, x3], _ =>
    obtain ⟨A0, n0, c0, l, e0, hd0, hb0, hp0⟩ := open_pairs (hr.field Try.underlying53 0 (ty := 22) 0 1 rfl (by kernel_rfl))
    obtain ⟨key, e1, s1⟩ := (hr.field Try.underlying53 1 (ty := 9) 1 1 rfl (by kernel_rfl)).string Try.underlying9
    obtain ⟨a, e2, s2⟩ := (hr.field Try.underlying53 2 (ty := 9) 2 1 rfl (by kernel_rfl)).string Try.underlying9
    obtain ⟨b, e3, s3⟩ := (hr.field Try.underlying53 3 (ty := 9) 3 1 rfl (by kernel_rfl)).string Try.underlying9
    simp at e0 e1 e2 e3
    subst e0 e1 e2 e3
    exact walk A0 n0 c0 l key a b W hd0 hb0 hp0 s1 s2 s3

set_option maxRecDepth 100000 in
theorem lifted (os : Os) (started : os.Started) (H : Type) (enc : TypeId × Value → H) :
    ReturnsInHanded {} Try.checked os 9 .any (Rows.tableTwiceSpec.pre6 enc Try.prog Try.f9 Rows.tableTwiceRow.domain false) (Rows.tableTwiceSpec.post enc Try.prog Try.f9 false true false false) :=
  framed 1 Try.func9 (by rw [Try.params9]; rfl) rfl (by kernel_rfl) (by kernel_rfl) (by kernel_rfl)
    (fun H ds h => by match ds, h with | [d0], _ => exact ⟨rfl, rfl, rfl⟩)
    opened os started H enc
    (ChangeSpec.witness6 (enc := enc) (C := Try.checked) false ⟨#[], #[.agg #[.slice none 0 0, .string ByteArray.empty, .string ByteArray.empty, .string ByteArray.empty]], []⟩ 8 (by kernel_rfl) (by kernel_rfl) (by kernel_rfl) (by kernel_rfl))

theorem over : Rows.tableTwiceRow.holds Try.pinned (OpenSpec.ofChange Rows.tableTwiceSpec) :=
  OpenClaim.holds_of_wide 9 Try.f9 rfl rfl rfl rfl rfl rfl rfl ⟨rfl, rfl, rfl, rfl, rfl⟩ rfl rfl rfl rfl rfl (by kernel_rfl) Try.func9 (by kernel_rfl)
    (of_decide_eq_true (by kernel_rfl)) (by unfold Func.isWrapper; first | (rw [if_pos (by decide +kernel)]; kernel_rfl) | (rw [if_neg (by decide +kernel)]; exact ⟨rfl, rfl⟩))
    (fun os started H enc _ => lifted os started H enc)

theorem proved : Rows.TableTwiceSaid := over
end Go.Proofs.Ytfgnlnolgjapnaa.tableTwice
