/- For every two rows of writes, of 500 at most: what a merge makes of nothing is what the one, and then the other one, make of it. No condition. -/
import Derived.Test.YtodfdklcioafmaaA6
import Derived.Test.YtodfdklcioafmaaA7
import Derived.Test.YtodfdklcioafmaaA10
namespace Go.Proofs.Ytodfdklcioafmaa.runFolds
set_option maxRecDepth 100000
open Go.ChangeShapes Go.WideShapes Go.ChangeAt Go.RowKit Prm
set_option linter.unusedVariables false

set_option maxHeartbeats 8000000 in
set_option maxRecDepth 100000 in
theorem walk_one (A : Option Addr) (n c : Nat) (l : List Wr) (B : Option Addr) (m d : Nat) (l2 : List Wr) (w : World) (hd : In_ writeK w A n c l) (hb : n * 40 ≤ 140737488351232) (hp : ∀ p ∈ l, WrIn p) (hd2 : In_ writeK w B m d l2) (hb2 : m * 40 ≤ 140737488351232) (hp2 : ∀ p ∈ l2, WrIn p) (h1 : 500 < n) :
    Calls Try.prog 6 #[.slice A n c, .slice B m d] w fun e w' => e = .returned (.bool true) ∧ Q w w' := by
  have HD := Lib.hid hd
  have HD2 := Lib.hid hd2
  have HK := Lib.hid (wkeys_in hp)
  have HK2 := Lib.hid (wkeys_in hp2)
  have HL := Lib.hid hd.len
  have HL2 := Lib.hid hd2.len
  have h2 : (500 : Int) < (n : Int) := by omega
  clear hd hd2 hp hp2 hb hb2
  go_enter Try.func6, Try.ntmps6
  go_wp2_with fail
  refine (rshown_any _).mono ?_
  rintro e w1 ⟨rfl, q1⟩
  have Q1 := Lib.hid q1
  clear q1
  go_wp2
  go_ret
  exact ⟨rfl, Q1.out⟩
set_option maxHeartbeats 8000000 in
set_option maxRecDepth 100000 in
theorem walk_two (A : Option Addr) (n c : Nat) (l : List Wr) (B : Option Addr) (m d : Nat) (l2 : List Wr) (w : World) (hd : In_ writeK w A n c l) (hb : n * 40 ≤ 140737488351232) (hp : ∀ p ∈ l, WrIn p) (hd2 : In_ writeK w B m d l2) (hb2 : m * 40 ≤ 140737488351232) (hp2 : ∀ p ∈ l2, WrIn p) (h1 : n ≤ 500) (h3 : 500 < m) :
    Calls Try.prog 6 #[.slice A n c, .slice B m d] w fun e w' => e = .returned (.bool true) ∧ Q w w' := by
  have HD := Lib.hid hd
  have HD2 := Lib.hid hd2
  have HK := Lib.hid (wkeys_in hp)
  have HK2 := Lib.hid (wkeys_in hp2)
  have HL := Lib.hid hd.len
  have HL2 := Lib.hid hd2.len
  have h2 : (n : Int) ≤ 500 := by omega
  have h4 : (500 : Int) < (m : Int) := by omega
  clear hd hd2 hp hp2 hb hb2
  go_enter Try.func6, Try.ntmps6
  go_wp2_with fail
  refine (rshown_any _).mono ?_
  rintro e w1 ⟨rfl, q1⟩
  have Q1 := Lib.hid q1
  clear q1
  go_wp2
  go_ret
  exact ⟨rfl, Q1.out⟩
set_option maxHeartbeats 8000000 in
set_option maxRecDepth 100000 in
theorem walk_all (A : Option Addr) (n c : Nat) (l : List Wr) (B : Option Addr) (m d : Nat) (l2 : List Wr) (w : World) (hd : In_ writeK w A n c l) (hb : n * 40 ≤ 140737488351232) (hp : ∀ p ∈ l, WrIn p) (hd2 : In_ writeK w B m d l2) (hb2 : m * 40 ≤ 140737488351232) (hp2 : ∀ p ∈ l2, WrIn p) (h1 : n ≤ 500) (h3 : m ≤ 500) :
    Calls Try.prog 6 #[.slice A n c, .slice B m d] w fun e w' => e = .returned (.bool true) ∧ Q w w' := by
  have HD := Lib.hid hd
  have HD2 := Lib.hid hd2
  have HK := Lib.hid (wkeys_in hp)
  have HK2 := Lib.hid (wkeys_in hp2)
  have HL := Lib.hid hd.len
  have HL2 := Lib.hid hd2.len
  have h2 : (n : Int) ≤ 500 := by omega
  have h4 : (m : Int) ≤ 500 := by omega
  have HS := Lib.hid (show (n + m) * 40 ≤ 140737488355328 by omega)
  have HN := Lib.hid (show n ≤ 500 ∧ m ≤ 500 from ⟨by omega, by omega⟩)
  have HKK := Lib.hid (show WKeysIn (l ++ l2) from fun x hx => by
    rcases List.mem_append.1 hx with h | h
    · exact HK.out x h
    · exact HK2.out x h)
  have M1 := Lib.hid (fun W (h : In_ writeK W A n c l) (g : In_ writeK W B m d l2) => merge_any A B n c m d l l2 W h g HS.out HKK.out)
  have HM := Lib.hid (show (Mg.mrg (l ++ l2)).length ≤ 1000 by have := Mg.mrg_len (l ++ l2); rw [List.length_append, HL.out, HL2.out] at this; have := HN.out; omega)
  have HA := Lib.hid (show (apply [] l).length ≤ 500 by have := apply_len [] l; rw [HL.out] at this; have := HN.out; have e0 : ([] : List Pr).length = 0 := rfl; omega)
  have HB := Lib.hid (show (apply [] (l ++ l2)).length ≤ 1000 by have := apply_len [] (l ++ l2); rw [List.length_append, HL.out, HL2.out] at this; have := HN.out; have e0 : ([] : List Pr).length = 0 := rfl; omega)
  have F1 := Lib.hid (fun W A' c' (h : Lst writeK W A' (Mg.mrg (l ++ l2)).length (Mg.mrg (l ++ l2))) => fold_any A' (Mg.mrg (l ++ l2)).length c' (Mg.mrg (l ++ l2)) W h (by have := HM.out; omega))
  rw [Mg.apply_mrg] at F1
  have F2 := Lib.hid (fun W (h : In_ writeK W A n c l) => fold_any A n c l W h.lst (by have := HN.out; omega))
  have F3 := Lib.hid (fun W A' c' (h : In_ pairK W A' (apply [] l).length c' (apply [] l)) (g : In_ writeK W B m d l2) => refApply_any A' B (apply [] l).length c' m d (apply [] l) l2 W h g.lst (by have := HN.out; have := HA.out; omega) (apply_keys (fun p hp => by simp at hp) HK.out) HK2.out)
  rw [← Mg.apply_app] at F3
  generalize Mg.mrg (l ++ l2) = ms at M1 HM F1
  generalize apply [] l = ps at F2 F3 HA
  generalize apply [] (l ++ l2) = qs at F1 F3 HB
  clear hd hd2 hp hp2 hb hb2
  go_enter Try.func6, Try.ntmps6
  go_wp2_with fail
  refine (rshown_any _).mono ?_
  rintro e w1 ⟨rfl, q1⟩
  have Q1 := Lib.hid q1
  clear q1
  go_wp2_with fail
  refine (M1.out _ (HD.out.q Q1.out) (HD2.out.q Q1.out)).mono ?_
  rintro e w2 ⟨A2, c2, rfl, o2, q2⟩
  have O2 := Lib.hid o2
  have Q2 := Lib.hid (Q1.out.trans q2)
  clear o2 q2
  go_wp2_with fail
  refine (F1.out _ A2 c2 O2.out.lst).mono ?_
  rintro e w3 ⟨A3, c3, rfl, o3, q3⟩
  have O3 := Lib.hid o3
  have Q3 := Lib.hid (Q2.out.trans q3)
  clear o3 q3 O2
  go_wp2_with fail
  refine (F2.out _ (HD.out.q Q3.out)).mono ?_
  rintro e w4 ⟨A4, c4, rfl, o4, q4⟩
  have O3' := Lib.hid (O3.out.q q4)
  have I4 := Lib.hid (o4.in_ (by have := HA.out; show _ * 32 ≤ _; omega))
  have Q4 := Lib.hid (Q3.out.trans q4)
  clear o4 q4 O3
  go_wp2_with fail
  refine (F3.out _ A4 c4 I4.out (HD2.out.q Q4.out)).mono ?_
  rintro e w5 ⟨A5, c5, rfl, o5, q5⟩
  have O3 := Lib.hid (O3'.out.q q5)
  have O5 := Lib.hid o5
  have Q5 := Lib.hid (Q4.out.trans q5)
  clear o5 q5 O3'
  go_wp2_with fail
  refine (refSame_any A3 A5 qs.length c3 qs.length c5 qs qs _ O3.out.lst O5.out.lst (by have := HB.out; unfold maxLen; omega) (by have := HB.out; unfold maxLen; omega)).mono ?_
  rw [show decide (qs = qs) = true from decide_eq_true rfl]
  rintro e w7 ⟨rfl, q7⟩
  have Q7 := Lib.hid (Q5.out.trans q7)
  clear q7
  go_wp2
  all_goals go_ret
  all_goals exact ⟨by first | rfl | simp, Q7.out⟩

theorem walk (A : Option Addr) (n c : Nat) (l : List Wr) (B : Option Addr) (m d : Nat) (l2 : List Wr) (w : World) (hd : In_ writeK w A n c l) (hb : n * 40 ≤ 140737488351232) (hp : ∀ p ∈ l, WrIn p) (hd2 : In_ writeK w B m d l2) (hb2 : m * 40 ≤ 140737488351232) (hp2 : ∀ p ∈ l2, WrIn p) :
    Calls Try.prog 6 #[.slice A n c, .slice B m d] w fun e w' => e = .returned (.bool true) ∧ Q w w' := by
  by_cases h1 : 500 < n
  · exact walk_one A n c l B m d l2 w hd hb hp hd2 hb2 hp2 h1
  · by_cases h3 : 500 < m
    · exact walk_two A n c l B m d l2 w hd hb hp hd2 hb2 hp2 (by omega) h3
    · exact walk_all A n c l B m d l2 w hd hb hp hd2 hb2 hp2 (by omega) (by omega)
theorem opened (W : World) (args : Array Value) (hn : args.size = 2) (h : ∀ (j : Nat) t v, Try.f6.params[j]? = some t → args[j]? = some v → RdV W t v) :
    Calls Try.prog 6 args W fun e W' => e = .returned (.bool true) ∧ Q W W' := by
  obtain ⟨v0, v1, rfl⟩ := args2 hn
  rw [Try.params6] at h
  obtain ⟨A0, n0, c0, e0, r0⟩ := (h 0 39 v0 rfl rfl).slice Try.underlying39
  obtain ⟨B0, m0, d0, older, f0, hd0, hb0, hp0⟩ := open_writes r0
  simp only [List.cons.injEq, Value.slice.injEq, and_true] at f0
  obtain ⟨rfl, rfl, rfl⟩ := f0
  obtain ⟨A1, n1, c1, e1, r1⟩ := (h 1 39 v1 rfl rfl).slice Try.underlying39
  obtain ⟨B1, m1, d1, newer, f1, hd1, hb1, hp1⟩ := open_writes r1
  simp only [List.cons.injEq, Value.slice.injEq, and_true] at f1
  obtain ⟨rfl, rfl, rfl⟩ := f1
  subst e0 e1
  exact walk A0 n0 c0 older A1 n1 c1 newer W hd0 hb0 hp0 hd1 hb1 hp1

set_option maxRecDepth 100000 in
theorem lifted (os : Os) (started : os.Started) (H : Type) (enc : TypeId × Value → H) :
    ReturnsInHanded {} Try.checked os 6 .any (Rows.runFoldsSpec.pre6 enc Try.prog Try.f6 Rows.runFoldsRow.domain false) (Rows.runFoldsSpec.post enc Try.prog Try.f6 false true false false) :=
  framed 2 Try.func6 (by rw [Try.params6]; rfl) rfl (by kernel_rfl) (by kernel_rfl) (by kernel_rfl)
    (fun H ds h => by match ds, h with | [d0, d1], _ => exact ⟨rfl, rfl, rfl⟩)
    opened os started H enc
    (ChangeSpec.witness6 (enc := enc) (C := Try.checked) false ⟨#[], #[.slice none 0 0, .slice none 0 0], []⟩ 8 (by kernel_rfl) (by kernel_rfl) (by kernel_rfl) (by kernel_rfl))

theorem over : Rows.runFoldsRow.holds Try.pinned (OpenSpec.ofChange Rows.runFoldsSpec) :=
  OpenClaim.holds_of_wide 6 Try.f6 rfl rfl rfl rfl rfl rfl rfl ⟨rfl, rfl, rfl, rfl, rfl⟩ rfl rfl rfl rfl rfl (by kernel_rfl) Try.func6 (by kernel_rfl)
    (of_decide_eq_true (by kernel_rfl)) (by unfold Func.isWrapper; first | (rw [if_pos (by decide +kernel)]; kernel_rfl) | (rw [if_neg (by decide +kernel)]; exact ⟨rfl, rfl⟩))
    (fun os started H enc _ => lifted os started H enc)

theorem proved : Rows.RunFoldsSaid := over
end Go.Proofs.Ytodfdklcioafmaa.runFolds
