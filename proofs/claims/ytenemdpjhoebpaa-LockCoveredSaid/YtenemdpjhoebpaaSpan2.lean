/- Contracts: span.Key, Overlap, Clash, Covers. -/
import Derived.Test.YtenemdpjhoebpaaSpan
import Derived.Test.YtenemdpjhoebpaaLess
namespace Go.Proofs.Ytenemdpjhoebpaa
set_option maxRecDepth 100000
open Go.RowKit Prm Sm
set_option linter.unusedVariables false
set_option linter.unusedSimpArgs false

theorem rkey_any (m : Int) (k : ByteArray) (w : World) (hk : k.size ≤ 140737488351232) :
    Calls Try.prog 30 #[.int .i64 m, .string k] w fun e w' => e = .returned (wnV (key m k)) ∧ Q w w' := by
  have h1 : (⟨#[0]⟩ : ByteArray).size = 1 := rfl
  have h2 : k.size + (⟨#[0]⟩ : ByteArray).size ≤ 9223372036854775807 := by omega
  have h3 : k.size + 1 ≤ 9223372036854775807 := by omega
  unfold wnV Sm.key
  go_enter Try.func30, Try.ntmps30
  go_wp2
  all_goals refine bodyPost_ret (v := .agg #[.int .i64 m, .string k, .string (k ++ ⟨#[0]⟩)]) (by simp [results, Try.results30, go_sem]) rfl ⟨rfl, ?_⟩
  all_goals repeat (first | exact Q.refl _ | refine Q.setCell ?_ (by first | (simp; done) | (simp; omega)) _ | refine Q.alloc ?_ _)

theorem sover_any (a b : Wn) (w : World) :
    Calls Try.prog 59 #[wnV a, wnV b] w fun e w' => e = .returned (.bool (over a b)) ∧ Q w w' := by
  have P := Lib.hid (fun W => spart_any a b W)
  have B := Lib.hid (fun W => ssome_any (Sm.part a b) W)
  unfold Sm.over
  generalize some1 (Sm.part a b) = r at B
  generalize Sm.part a b = p at P B
  obtain ⟨m, lo, hi⟩ := a
  obtain ⟨n, bo, bi⟩ := b
  obtain ⟨k, po, pi⟩ := p
  unfold wnV at *
  go_enter Try.func59, Try.ntmps59
  go_wp2_with fail
  refine (P.out _).mono ?_
  rintro e w1 ⟨rfl, q1⟩
  go_wp2_with fail
  refine (B.out _).mono ?_
  rintro e w2 ⟨rfl, q2⟩
  go_wp2
  go_ret
  exact ⟨rfl, ((((Q.refl w).alloc _).alloc _).trans q1).trans q2⟩

theorem sclash_any (a b : Wn) (w : World) :
    Calls Try.prog 37 #[wnV a, wnV b] w fun e w' => e = .returned (.bool (clash a b)) ∧ Q w w' := by
  have P := Lib.hid (fun W => sover_any a b W)
  unfold clash
  generalize over a b = r at P
  obtain ⟨m, lo, hi⟩ := a
  obtain ⟨n, bo, bi⟩ := b
  unfold wnV at *
  by_cases h1 : m = 2
  · subst h1
    rw [show xs ⟨2, lo, hi⟩ ⟨n, bo, bi⟩ = true from rfl, Bool.true_and]
    go_enter Try.func37, Try.ntmps37
    go_wp2_with fail
    refine (P.out _).mono ?_
    rintro e w1 ⟨rfl, q1⟩
    go_wp2
    go_ret
    exact ⟨by first | rfl | simp, (((Q.refl w).alloc _).alloc _).trans q1⟩
  · have e1 : (m == 2) = false := by simpa using h1
    by_cases h2 : n = 2
    · subst h2
      rw [show xs ⟨m, lo, hi⟩ ⟨2, bo, bi⟩ = true by unfold xs; simp, Bool.true_and]
      clear h1
      go_enter Try.func37, Try.ntmps37
      go_wp2_with fail
      refine (P.out _).mono ?_
      rintro e w1 ⟨rfl, q1⟩
      go_wp2
      go_ret
      exact ⟨by first | rfl | simp, (((Q.refl w).alloc _).alloc _).trans q1⟩
    · have e2 : (n == 2) = false := by simpa using h2
      rw [show xs ⟨m, lo, hi⟩ ⟨n, bo, bi⟩ = false by unfold xs; simp [h1, h2], Bool.false_and]
      clear h1 h2
      go_enter Try.func37, Try.ntmps37
      go_wp2
      go_ret
      exact ⟨by first | rfl | simp, ((Q.refl w).alloc _).alloc _⟩
end Go.Proofs.Ytenemdpjhoebpaa
