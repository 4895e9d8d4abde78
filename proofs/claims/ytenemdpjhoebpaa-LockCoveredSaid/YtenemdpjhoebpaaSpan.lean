/- Contracts: span's functions. -/
import Derived.Test.YtenemdpjhoebpaaSpanMath
import Derived.Test.YtenemdpjhoebpaaMem
import Derived.Laws.Cover1
import Derived.Deep.RegionHeld3
namespace Go.Proofs.Ytenemdpjhoebpaa
set_option maxRecDepth 100000
open Go.RowKit Prm Sm
set_option linter.unusedVariables false
set_option linter.unusedSimpArgs false

def wnV (w : Wn) : Value := .agg #[.int .i64 w.mode, .string w.lo, .string w.hi]
@[go_sem high] theorem run_max_strs {P : Program} (w : World) (ts : Array TypeId) (t : TypeId) (x y : ByteArray) :
    (Builtin.max_ ts t #[.string x, .string y]).run P w = .ok (.string (mx x y)) w := by
  have e : (if Op.bytesLess x.toList y.toList = false then x else y) = mx x y := by
    rw [lt_data]; unfold mx
    cases lt x y <;> rfl
  simp only [Builtin.max_, List.foldlM, Builtin.max2, Op.stringOp]
  simp [asBool, e]

/-- a span in a box. -/
def Wx (w : World) (b : Nat) (x : Wn) : Prop := w.cell? ⟨b, 0, none⟩ = some (.int .i64 x.mode) ∧ w.cell? ⟨b, 1, none⟩ = some (.string x.lo) ∧ w.cell? ⟨b, 2, none⟩ = some (.string x.hi)
theorem Wx.q {w w' : World} {b : Nat} {x : Wn} (h : Wx w b x) (q : Q w w') : Wx w' b x := ⟨box_ q h.1, box_ q h.2.1, box_ q h.2.2⟩

theorem sbelow_any (k hi : ByteArray) (w : World) :
    Calls Try.prog 70 #[.string k, .string hi] w fun e w' => e = .returned (.bool (bel k hi)) ∧ w = w' := by
  by_cases h2 : hi = ⟨#[]⟩
  · subst h2
    rw [bel_empty]
    go_enter Try.func70, Try.ntmps70
    go_wp2
    go_ret
    exact ⟨rfl, rfl⟩
  · obtain ⟨n1, n2, n3⟩ := no_empty h2
    have e2 := lt_data k hi
    rw [show bel k hi = lt k hi by simp [bel, h2]]
    clear h2
    go_enter Try.func70, Try.ntmps70
    go_wp2
    go_ret
    exact ⟨by first | rfl | simp, rfl⟩

theorem sin_any (x : Wn) (k : ByteArray) (w : World) :
    Calls Try.prog 65 #[wnV x, .string k] w fun e w' => e = .returned (.bool (inS x k)) ∧ Q w w' := by
  obtain ⟨m, lo, hi⟩ := x
  have e1 := lt_data k lo
  have B := Lib.hid (fun W => sbelow_any k hi W)
  cases h1 : lt k lo with
  | true =>
    rw [show inS ⟨m, lo, hi⟩ k = false by simp [inS, h1]]
    rw [h1] at e1
    clear h1
    unfold wnV
    go_enter Try.func65, Try.ntmps65
    go_wp2
    go_ret
    exact ⟨rfl, (Q.refl w).alloc _⟩
  | false =>
    rw [show inS ⟨m, lo, hi⟩ k = bel k hi by simp [inS, h1]]
    rw [h1] at e1
    clear h1
    generalize bel k hi = r at B
    unfold wnV
    go_enter Try.func65, Try.ntmps65
    go_wp2_with fail
    refine (B.out _).mono ?_
    rintro e w1 ⟨rfl, rfl⟩
    go_wp2
    go_ret
    exact ⟨by first | rfl | simp, (Q.refl w).alloc _⟩

theorem ssome_any (x : Wn) (w : World) :
    Calls Try.prog 55 #[wnV x] w fun e w' => e = .returned (.bool (some1 x)) ∧ Q w w' := by
  have B := Lib.hid (fun W => sin_any x x.lo W)
  unfold some1
  generalize inS x x.lo = r at B
  obtain ⟨m, lo, hi⟩ := x
  unfold wnV at *
  go_enter Try.func55, Try.ntmps55
  go_wp2_with fail
  refine (B.out _).mono ?_
  rintro e w1 ⟨rfl, q1⟩
  go_wp2
  go_ret
  exact ⟨rfl, ((Q.refl w).alloc _).trans q1⟩

theorem smay_any (x : Wn) (w : World) :
    Calls Try.prog 32 #[wnV x] w fun e w' => e = .returned (.bool (may x)) ∧ Q w w' := by
  have B := Lib.hid (fun W => ssome_any x W)
  unfold may
  generalize some1 x = r at B
  obtain ⟨m, lo, hi⟩ := x
  unfold wnV at *
  by_cases h1 : m = 1
  · subst h1
    rw [show ok ⟨1, lo, hi⟩ = true from rfl, Bool.true_and]
    go_enter Try.func32, Try.ntmps32
    go_wp2_with fail
    refine (B.out _).mono ?_
    rintro e w1 ⟨rfl, q1⟩
    go_wp2
    go_ret
    exact ⟨by first | rfl | simp, ((Q.refl w).alloc _).trans q1⟩
  · by_cases h2 : m = 2
    · subst h2
      rw [show ok ⟨2, lo, hi⟩ = true from rfl, Bool.true_and]
      go_enter Try.func32, Try.ntmps32
      go_wp2_with fail
      refine (B.out _).mono ?_
      rintro e w1 ⟨rfl, q1⟩
      go_wp2
      go_ret
      exact ⟨by first | rfl | simp, ((Q.refl w).alloc _).trans q1⟩
    · rw [show ok ⟨m, lo, hi⟩ = false by unfold ok; simp [h1, h2], Bool.false_and]
      have e1 : (m == 1) = false := by simpa using h1
      have e2 : (m == 2) = false := by simpa using h2
      clear h1 h2
      go_enter Try.func32, Try.ntmps32
      go_wp2
      go_ret
      exact ⟨by first | rfl | simp, (Q.refl w).alloc _⟩

set_option maxHeartbeats 1000000 in
theorem spart_any (a b : Wn) (w : World) :
    Calls Try.prog 66 #[wnV a, wnV b] w fun e w' => e = .returned (wnV (Sm.part a b)) ∧ Q w w' := by
  have B := Lib.hid (fun W => sbelow_any a.hi b.hi W)
  by_cases h1 : a.hi = ⟨#[]⟩
  · rw [show Sm.part a b = ⟨b.mode, mx a.lo b.lo, b.hi⟩ by unfold Sm.part Sm.cut; simp [h1]]
    obtain ⟨m, lo, hi⟩ := a
    obtain ⟨n, bo, bi⟩ := b
    simp only at h1
    subst h1
    unfold wnV
    go_enter Try.func66, Try.ntmps66
    go_wp2
    refine bodyPost_ret (v := .agg #[.int .i64 n, .string (mx lo bo), .string bi]) (by simp [results, Try.results66, go_sem]) rfl ⟨rfl, ?_⟩
    repeat (first | exact Q.refl _ | refine Q.setCell ?_ (by first | (simp; done) | (simp; omega)) _ | refine Q.alloc ?_ _)
  · obtain ⟨n1, n2, n3⟩ := no_empty h1
    cases h2 : bel a.hi b.hi with
    | true =>
      rw [show Sm.part a b = ⟨b.mode, mx a.lo b.lo, a.hi⟩ by unfold Sm.part Sm.cut; simp [h1, h2]]
      rw [h2] at B
      obtain ⟨m, lo, hi⟩ := a
      obtain ⟨n, bo, bi⟩ := b
      clear h1 h2
      simp only at n1 n2 n3 B
      unfold wnV
      go_enter Try.func66, Try.ntmps66
      go_wp2_with fail
      refine (B.out _).mono ?_
      rintro e w1 ⟨rfl, rfl⟩
      go_wp2
      refine bodyPost_ret (v := .agg #[.int .i64 n, .string (mx lo bo), .string hi]) (by simp [results, Try.results66, go_sem]) rfl ⟨rfl, ?_⟩
      repeat (first | exact Q.refl _ | refine Q.setCell ?_ (by first | (simp; done) | (simp; omega)) _ | refine Q.alloc ?_ _)
    | false =>
      rw [show Sm.part a b = ⟨b.mode, mx a.lo b.lo, b.hi⟩ by unfold Sm.part Sm.cut; simp [h1, h2]]
      rw [h2] at B
      obtain ⟨m, lo, hi⟩ := a
      obtain ⟨n, bo, bi⟩ := b
      clear h1 h2
      simp only at n1 n2 n3 B
      unfold wnV
      go_enter Try.func66, Try.ntmps66
      go_wp2_with fail
      refine (B.out _).mono ?_
      rintro e w1 ⟨rfl, rfl⟩
      go_wp2
      refine bodyPost_ret (v := .agg #[.int .i64 n, .string (mx lo bo), .string bi]) (by simp [results, Try.results66, go_sem]) rfl ⟨rfl, ?_⟩
      repeat (first | exact Q.refl _ | refine Q.setCell ?_ (by first | (simp; done) | (simp; omega)) _ | refine Q.alloc ?_ _)
end Go.Proofs.Ytenemdpjhoebpaa
