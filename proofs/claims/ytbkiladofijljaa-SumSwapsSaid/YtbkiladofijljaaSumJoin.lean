/- Contracts of package sum's Join and of the document's own. -/
import Derived.Test.YtbkiladofijljaaSumWalks
namespace Go.Proofs.Ytbkiladofijljaa
open Go.RowKit

set_option linter.unusedVariables false
theorem mask16 (v : Int) (h0 : 0 ≤ v) (h1 : v < 4294967296) : IntKind.u64.wrap (bits BinOp.and IntKind.u32 v 65535) = v % 65536 := by
  have e : bits BinOp.and IntKind.u32 v 65535 = v % 65536 := by
    have := bits_mask .u32 32 (by decide) (fun n p q => by rw [IntKind.wrap_u32]; omega) 16 (by decide) v h0 h1
    simpa using this
  rw [e]; exact IntWalk.u64_in _ (by omega)

set_option maxHeartbeats 400000 in
theorem parts_any (v : Int) (w : World) (h0 : 0 ≤ v) (h1 : v < 4294967296) :
    Calls Try.prog 31 #[.int .u32 v] w fun e w' => e = .returned (.agg #[.int .u64 (v % 65536), .int .u64 (v / 65536)]) ∧ Q w w' := by
  have hm := mask16 v h0 h1
  go_enter Try.func31, Try.ntmps31
  go_wp2
  exact bodyPost_ret (v := .agg #[.int .u64 (v % 65536), .int .u64 (v / 65536)]) (by simp [results, Try.results31, go_sem]) rfl ⟨rfl, (Q.refl _).alloc _⟩

set_option maxHeartbeats 400000 in
theorem right_yes (a b : Int) (w : World) (h0 : 0 ≤ a) (h1 : a < 65521) (h2 : 0 ≤ b) (h3 : b < 65521) :
    Calls Try.prog 32 #[.agg #[.int .u64 a, .int .u64 b]] w fun e w' => e = .returned (.bool true) ∧ w.alloc (.cells #[.int .u64 a, .int .u64 b] 44) = w' := by
  go_enter Try.func32, Try.ntmps32
  go_wp2
  go_ret
  exact ⟨rfl, rfl⟩

set_option maxHeartbeats 400000 in
theorem right_no (a b : Int) (w : World) (h0 : 0 ≤ a) (h1 : a < 65536) (h2 : 0 ≤ b) (h3 : b < 65536) (h : 65521 ≤ a ∨ 65521 ≤ b) :
    Calls Try.prog 32 #[.agg #[.int .u64 a, .int .u64 b]] w fun e w' => e = .returned (.bool false) ∧ w.alloc (.cells #[.int .u64 a, .int .u64 b] 44) = w' := by
  by_cases h4 : 65521 ≤ a
  · clear h
    go_enter Try.func32, Try.ntmps32
    go_wp2
    go_ret
    exact ⟨rfl, rfl⟩
  · have h5 : a < 65521 := by omega
    have h6 : 65521 ≤ b := by omega
    have h7 : decide (b < 65521) = false := by simp; omega
    clear h h4
    go_enter Try.func32, Try.ntmps32
    go_wp2
    go_ret
    exact ⟨rfl, rfl⟩

def jlo (a b : Int) : Int := (a % 65536 + b % 65536 + 65520) % 65521
def jhi (a b n : Int) : Int := (a / 65536 + b / 65536 + n % 65521 * (a % 65536 + 65520)) % 65521
def jval (a b n : Int) : Int := jhi a b n * 65536 + jlo a b

theorem jval_ref (a b n : Int) : 65536 * ((a / 65536 + b / 65536 + n % 65521 * ((a % 65536 + 65520) % 65521)) % 65521) + (a % 65536 + b % 65536 + 65520) % 65521 = jval a b n := by
  have e : (a / 65536 + b / 65536 + n % 65521 * ((a % 65536 + 65520) % 65521)) % 65521 = jhi a b n := by
    unfold jhi
    have q : (a % 65536 + 65520) % 65521 = (a % 65536 + 65520) - 65521 * ((a % 65536 + 65520) / 65521) := by omega
    rw [q]
    generalize (a % 65536 + 65520) / 65521 = u
    generalize n % 65521 = m
    generalize a % 65536 = x
    generalize a / 65536 = y
    generalize b / 65536 = z
    exact Sm.mod_of (-m * u) (by grind)
  rw [e]; unfold jval jlo; omega

theorem jval_ours (a b n : Int) : (a / 65536 + b / 65536 + n % 65521 * (a % 65536 + 65521 - 1)) % 65521 * 65536 + (a % 65536 + 65521 - 1 + b % 65536) % 65521 = jval a b n := by
  have e : a % 65536 + 65521 - 1 = a % 65536 + 65520 := by omega
  rw [e]; unfold jval jhi jlo; omega

set_option maxHeartbeats 400000 in
theorem refJoin_yes (a b n : Int) (w : World) (h0 : 0 ≤ a) (h1 : a < 4294967296) (h2 : 0 ≤ b) (h3 : b < 4294967296) (h4 : 0 ≤ n) (h5 : n ≤ 9223372036854775807)
    (g1 : a % 65536 < 65521) (g2 : a / 65536 < 65521) (g3 : b % 65536 < 65521) (g4 : b / 65536 < 65521) :
    Calls Try.prog 20 #[.int .u32 a, .int .u32 b, .int .i64 n] w fun e w' => e = .returned (.tuple #[.int .u32 (jval a b n), .int .i64 0]) ∧ Q w w' := by
  have m0 : 0 ≤ n % 65521 * ((a % 65536 + 65520) % 65521) := Int.mul_nonneg (by omega) (by omega)
  have m1 : n % 65521 * ((a % 65536 + 65520) % 65521) ≤ 65520 * 65520 := Int.mul_le_mul (by omega) (by omega) (by omega) (by omega)
  go_enter Try.func20, Try.ntmps20
  go_wp2
  go_ret2
  exact ⟨by rw [← jval_ref]; rfl, Q.refl _⟩

set_option maxHeartbeats 400000 in
theorem refJoin_no (a b n : Int) (w : World) (h0 : 0 ≤ a) (h1 : a < 4294967296) (h2 : 0 ≤ b) (h3 : b < 4294967296) (h4 : -9223372036854775808 ≤ n) (h5 : n ≤ 9223372036854775807)
    (g : n < 0 ∨ 65521 ≤ a % 65536 ∨ 65521 ≤ a / 65536 ∨ 65521 ≤ b % 65536 ∨ 65521 ≤ b / 65536) :
    Calls Try.prog 20 #[.int .u32 a, .int .u32 b, .int .i64 n] w fun e w' => e = .returned (.tuple #[.int .u32 0, .int .i64 1]) ∧ Q w w' := by
  have G := Lib.hid g
  clear g
  by_cases c0 : n < 0
  · go_enter Try.func20, Try.ntmps20
    go_wp2
    all_goals (go_ret2; exact ⟨rfl, Q.refl _⟩)
  have c0' : 0 ≤ n := by omega
  clear c0
  by_cases c1 : 65520 < a % 65536
  · go_enter Try.func20, Try.ntmps20
    go_wp2
    all_goals (go_ret2; exact ⟨rfl, Q.refl _⟩)
  have c1' : a % 65536 ≤ 65520 := by omega
  clear c1
  by_cases c2 : 65520 < a / 65536
  · go_enter Try.func20, Try.ntmps20
    go_wp2
    all_goals (go_ret2; exact ⟨rfl, Q.refl _⟩)
  have c2' : a / 65536 ≤ 65520 := by omega
  clear c2
  by_cases c3 : 65520 < b % 65536
  · go_enter Try.func20, Try.ntmps20
    go_wp2
    all_goals (go_ret2; exact ⟨rfl, Q.refl _⟩)
  have c3' : b % 65536 ≤ 65520 := by omega
  clear c3
  have c4 : 65520 < b / 65536 := by have := G.out; omega
  go_enter Try.func20, Try.ntmps20
  go_wp2
  all_goals (go_ret2; exact ⟨rfl, Q.refl _⟩)

set_option maxHeartbeats 400000 in
theorem join_yes (a b n : Int) (w : World) (h0 : 0 ≤ a) (h1 : a < 4294967296) (h2 : 0 ≤ b) (h3 : b < 4294967296) (h4 : 0 ≤ n) (h5 : n ≤ 9223372036854775807)
    (g1 : a % 65536 < 65521) (g2 : a / 65536 < 65521) (g3 : b % 65536 < 65521) (g4 : b / 65536 < 65521) :
    Calls Try.prog 19 #[.int .u32 a, .int .u32 b, .int .i64 n] w fun e w' => e = .returned (.tuple #[.int .u32 (jval a b n), .int .i64 0]) ∧ Q w w' := by
  go_enter Try.func19, Try.ntmps19
  go_wp2_with fail
  refine (parts_any _ _ (by omega) (by omega)).mono ?_
  rintro e w1 ⟨rfl, q1⟩
  go_wp2_with fail
  refine (parts_any _ _ (by omega) (by omega)).mono ?_
  rintro e w2 ⟨rfl, q2⟩
  go_wp2_with fail
  refine (right_yes _ _ _ (by omega) (by omega) (by omega) (by omega)).mono ?_
  rintro e w3 ⟨rfl, rfl⟩
  go_wp2_with fail
  refine (right_yes _ _ _ (by omega) (by omega) (by omega) (by omega)).mono ?_
  rintro e w4 ⟨rfl, rfl⟩
  have m0 : 0 ≤ n % 65521 * (a % 65536 + 65521 - 1) := Int.mul_nonneg (by omega) (by omega)
  have m1 : n % 65521 * (a % 65536 + 65521 - 1) ≤ 65520 * 131041 := Int.mul_le_mul (by omega) (by omega) (by omega) (by omega)
  go_wp2_with fail
  refine (whole_any _ _ _ (by omega) (by omega) (by omega) (by omega)).mono ?_
  rintro e w5 ⟨rfl, q5⟩
  go_wp2_with fail
  go_ret2
  exact ⟨by rw [← jval_ours]; rfl, q1.trans (q2.trans (((((Q.refl _).alloc _).alloc _).alloc _).alloc _ |>.trans q5))⟩

set_option maxHeartbeats 400000 in
theorem join_no (a b n : Int) (w : World) (h0 : 0 ≤ a) (h1 : a < 4294967296) (h2 : 0 ≤ b) (h3 : b < 4294967296) (h4 : -9223372036854775808 ≤ n) (h5 : n ≤ 9223372036854775807)
    (g : n < 0 ∨ 65521 ≤ a % 65536 ∨ 65521 ≤ a / 65536 ∨ 65521 ≤ b % 65536 ∨ 65521 ≤ b / 65536) :
    Calls Try.prog 19 #[.int .u32 a, .int .u32 b, .int .i64 n] w fun e w' => e = .returned (.tuple #[.int .u32 0, .int .i64 1]) ∧ Q w w' := by
  have G := Lib.hid g
  clear g
  by_cases c0 : n < 0
  · go_enter Try.func19, Try.ntmps19
    go_wp2_with fail
    refine (parts_any _ _ (by omega) (by omega)).mono ?_
    rintro e w1 ⟨rfl, q1⟩
    go_wp2_with fail
    refine (parts_any _ _ (by omega) (by omega)).mono ?_
    rintro e w2 ⟨rfl, q2⟩
    go_wp2_with fail
    go_ret2
    exact ⟨rfl, q1.trans (q2.trans (((Q.refl _).alloc _).alloc _))⟩
  have c0' : 0 ≤ n := by omega
  have d0 : decide (n < 0) = false := by simp; omega
  clear c0
  by_cases c1 : 65521 ≤ a % 65536 ∨ 65521 ≤ a / 65536
  · have C := Lib.hid c1
    clear c1
    go_enter Try.func19, Try.ntmps19
    go_wp2_with fail
    refine (parts_any _ _ (by omega) (by omega)).mono ?_
    rintro e w1 ⟨rfl, q1⟩
    go_wp2_with fail
    refine (parts_any _ _ (by omega) (by omega)).mono ?_
    rintro e w2 ⟨rfl, q2⟩
    go_wp2_with fail
    refine (right_no _ _ _ (by omega) (by omega) (by omega) (by omega) C.out).mono ?_
    rintro e w3 ⟨rfl, rfl⟩
    go_wp2_with fail
    go_ret2
    exact ⟨rfl, q1.trans (q2.trans ((((Q.refl _).alloc _).alloc _).alloc _))⟩
  have c2 : 65521 ≤ b % 65536 ∨ 65521 ≤ b / 65536 := by have := G.out; omega
  have c3 : a % 65536 < 65521 := by omega
  have c4 : a / 65536 < 65521 := by omega
  have C := Lib.hid c2
  clear c1 c2
  go_enter Try.func19, Try.ntmps19
  go_wp2_with fail
  refine (parts_any _ _ (by omega) (by omega)).mono ?_
  rintro e w1 ⟨rfl, q1⟩
  go_wp2_with fail
  refine (parts_any _ _ (by omega) (by omega)).mono ?_
  rintro e w2 ⟨rfl, q2⟩
  go_wp2_with fail
  refine (right_yes _ _ _ (by omega) (by omega) (by omega) (by omega)).mono ?_
  rintro e w3 ⟨rfl, rfl⟩
  go_wp2_with fail
  refine (right_no _ _ _ (by omega) (by omega) (by omega) (by omega) C.out).mono ?_
  rintro e w4 ⟨rfl, rfl⟩
  go_wp2_with fail
  go_ret2
  exact ⟨rfl, q1.trans (q2.trans (((((Q.refl _).alloc _).alloc _).alloc _).alloc _))⟩
end Go.Proofs.Ytbkiladofijljaa
