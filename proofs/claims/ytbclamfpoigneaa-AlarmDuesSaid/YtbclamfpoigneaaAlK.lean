/- Alarms as a kind of elements; alarms compared. -/
import Derived.Test.YtbclamfpoigneaaKindIn
import Derived.Test.YtbclamfpoigneaaInts
import Derived.Test.YtbclamfpoigneaaBx2
import Derived.Test.YtbclamfpoigneaaAlarmMath
import Derived.Test.YtbclamfpoigneaaBulk
import Derived.BigQuiet
namespace Go.Proofs.Ytbclamfpoigneaa
set_option maxRecDepth 100000
open Go.ChangeShapes Go.WideShapes Go.RowKit
set_option linter.unusedVariables false
set_option linter.unusedSimpArgs false
namespace Am

abbrev alV (a : Al) : Value := .agg #[.int .u64 (a.at_ : Int), .int .i64 a.id]
def alK : Kind Al where
  T := 25
  S := 22
  k := 2
  bs := 16
  z := .agg #[.int .u64 0, .int .i64 0]
  row := fun a => [.int .u64 (a.at_ : Int), .int .i64 a.id]
  pos := by omega
  bpos := by omega
  len := fun _ => rfl
  one := fun _ u hu => by simp at hu; rcases hu with rfl | rfl <;> rfl
  und := Try.underlying22
  info := by kernel_rfl
  zc := rfl
theorem load_al {w : World} {A : Option Addr} {n : Nat} {l : List Al} (h : Lst alK w A n l) {k : Nat} (hk : k < n) (hl : k < l.length) :
    ∃ ad, A = some ad ∧ ad.block < w.heap.size ∧ w.cell? (ad.add (k * 2)) = some (.int .u64 ((l[k]).at_ : Int)) ∧ w.cell? ⟨(ad.add (k * 2)).block, (ad.add (k * 2)).off + 1, none⟩ = some (.int .i64 (l[k]).id) := by
  obtain ⟨ad, e, hb, hc⟩ := h.load hk hl
  have h0 := hc 0 _ rfl
  have h1 := hc 1 _ rfl
  rw [show (ad.add (k * alK.k)).add 0 = ad.add (k * alK.k) from rfl] at h0
  exact ⟨ad, e, hb, h0, h1⟩
theorem open_al {w : World} {cs : List Value} (h : Rd w 25 cs) : ∃ a : Al, cs = [.int .u64 (a.at_ : Int), .int .i64 a.id] ∧ (a.at_ < 18446744073709551616 ∧ -9223372036854775808 ≤ a.id ∧ a.id ≤ 9223372036854775807) := by
  obtain ⟨hl, _⟩ := h.struct Try.underlying25
  rw [show Try.prog.cellsOf 25 = 2 by kernel_rfl] at hl
  match cs, hl with
  | [x0, x1], _ =>
    obtain ⟨u, e0, s0⟩ := (h.field Try.underlying25 0 (ty := 23) 0 1 rfl (by kernel_rfl)).int Try.underlying23
    obtain ⟨i, e1, s1⟩ := (h.field Try.underlying25 1 (ty := 3) 1 1 rfl (by kernel_rfl)).int Try.underlying3
    simp at e0 e1
    subst e0 e1
    have b1 := wf_i64 s1
    simp only [Lit.wf, Bool.and_eq_true, decide_eq_true_eq] at s0
    have m1 : IntKind.u64.min = 0 := by decide
    have m2 : IntKind.u64.max = 18446744073709551615 := by decide
    obtain ⟨n, rfl⟩ : ∃ n : Nat, u = (n : Int) := ⟨u.toNat, by omega⟩
    exact ⟨⟨n, i⟩, rfl, by show n < _; omega, b1⟩
abbrev AlIn (a : Al) : Prop := a.at_ < 18446744073709551616 ∧ -9223372036854775808 ≤ a.id ∧ a.id ≤ 9223372036854775807
theorem open_als {w : World} {cs : List Value} (h : Rd w 22 cs) : ∃ A n c l, cs = [.slice A n c] ∧ In_ alK w A n c l ∧ n * 16 ≤ 140737488351232 ∧ ∀ a ∈ l, AlIn a :=
  open_kind alK AlIn (fun cs hr => open_al hr) (by kernel_rfl) (by kernel_rfl) h
theorem u64_nat {x : Int} (h : (Lit.int .u64 x).wf = true) : ∃ n : Nat, x = (n : Int) := by
  simp only [Lit.wf, Bool.and_eq_true, decide_eq_true_eq] at h
  have m1 : IntKind.u64.min = 0 := by decide
  exact ⟨x.toNat, by omega⟩
/-- a list that may be handed on. -/
def RetI {α : Type} (K : Kind α) (w : World) (l : List α) (e : Ending) (w' : World) : Prop := ∃ A c, e = .returned (.slice A l.length c) ∧ In_ K w' A l.length c l ∧ Q w w'

theorem al_eq (a b : Al) : decide (a = b) = (decide (a.at_ = b.at_) && decide (a.id = b.id)) := by
  obtain ⟨x, y⟩ := a
  obtain ⟨u, v⟩ := b
  rw [Bool.eq_iff_iff]
  simp
@[go_sem high] theorem run_eql_al (w : World) (x u y v : Int) :
    (binOp .eql 25 (.agg #[.int .u64 x, .int .i64 y]) (.agg #[.int .u64 u, .int .i64 v])).run Try.prog w = .ok (.bool (decide (x = u) && decide (y = v))) w := by
  rw [run_eql_struct, show (10000 : Nat) = 9999 + 1 from rfl, run_equalIn_agg _ _ _ _ _ (by kernel_rfl) (by kernel_rfl)]
  simp only [Program.fieldsOf, Try.underlying25]
  have f0 : Try.prog.underlying 23 = some (.int .u64) := by kernel_rfl
  have f1 : Try.prog.underlying 3 = some (.int .i64) := by kernel_rfl
  simp [Op.eqFields, go_sem, run_equalIn_int (h := f0), run_equalIn_int (h := f1)]
  by_cases h0 : x = u <;> by_cases h1 : y = v <;> simp [h0, h1]
@[go_sem high] theorem run_neq_al (w : World) (x u y v : Int) :
    (binOp .neq 25 (.agg #[.int .u64 x, .int .i64 y]) (.agg #[.int .u64 u, .int .i64 v])).run Try.prog w = .ok (.bool (!(decide (x = u) && decide (y = v)))) w := by
  rw [run_neq_struct, show (10000 : Nat) = 9999 + 1 from rfl, run_equalIn_agg _ _ _ _ _ (by kernel_rfl) (by kernel_rfl)]
  simp only [Program.fieldsOf, Try.underlying25]
  have f0 : Try.prog.underlying 23 = some (.int .u64) := by kernel_rfl
  have f1 : Try.prog.underlying 3 = some (.int .i64) := by kernel_rfl
  simp [Op.eqFields, go_sem, run_equalIn_int (h := f0), run_equalIn_int (h := f1)]
  by_cases h0 : x = u <;> by_cases h1 : y = v <;> simp [h0, h1]
end Am
end Go.Proofs.Ytbclamfpoigneaa
