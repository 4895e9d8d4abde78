/- What comes in: spans, holds, claims, locks. -/
import Derived.Test.YtenemdpjhoebpaaLockRef
import Derived.Test.YtenemdpjhoebpaaKindIn
import Derived.Test.YtenemdpjhoebpaaWantIn
namespace Go.Proofs.Ytenemdpjhoebpaa
set_option maxRecDepth 100000
open Go.ChangeShapes Go.WideShapes Go.RowKit Prm Lm Sm
set_option linter.unusedVariables false
set_option linter.unusedSimpArgs false

def I64 (x : Int) : Prop := -9223372036854775808 ≤ x ∧ x ≤ 9223372036854775807
def WnIn (x : Wn) : Prop := x.lo.size ≤ 140737488351232 ∧ x.hi.size ≤ 140737488351232
def HoIn (h : Ho) : Prop := I64 h.txn ∧ WnIn h.w
def ClIn (h : Cl) : Prop := I64 h.txn ∧ WnIn h.w ∧ h.til ≤ 18446744073709551615
def LoIn (l : Lo) : Prop := (∀ h ∈ l.held, HoIn h) ∧ ∀ h ∈ l.queue, ClIn h
theorem wf_u64 {x : Int} (h : (Lit.int .u64 x).wf = true) : 0 ≤ x ∧ x ≤ 18446744073709551615 := by
  simp only [Lit.wf, Bool.and_eq_true, decide_eq_true_eq] at h
  have e1 : IntKind.u64.min = 0 := by decide
  have e2 : IntKind.u64.max = 18446744073709551615 := by decide
  omega
theorem open_hold {w : World} {cs : List Value} (h : Rd w 52 cs) : ∃ p : Ho, cs = holdK.row p ∧ HoIn p := by
  obtain ⟨hl, hf⟩ := h.struct Try.underlying52
  rw [show Try.prog.cellsOf 52 = 4 by kernel_rfl] at hl
  match cs, hl with
  | [a, b, c, d], _ =>
    obtain ⟨t, e0, r0⟩ := (h.field Try.underlying52 0 (ty := 3) 0 1 rfl (by kernel_rfl)).int Try.underlying3
    obtain ⟨x, e1, x0, x1, x2, x3⟩ := open_want (h.field Try.underlying52 1 (ty := 27) 1 3 rfl (by kernel_rfl))
    simp at e0 e1
    obtain ⟨e1, e2, e3⟩ := e1
    subst e0 e1 e2 e3
    exact ⟨⟨t, x⟩, rfl, wf_i64 r0, x0, x1⟩
theorem open_claim {w : World} {cs : List Value} (h : Rd w 55 cs) : ∃ p : Cl, cs = claimK.row p ∧ ClIn p := by
  obtain ⟨hl, hf⟩ := h.struct Try.underlying55
  rw [show Try.prog.cellsOf 55 = 5 by kernel_rfl] at hl
  match cs, hl with
  | [a, b, c, d, g], _ =>
    obtain ⟨t, e0, r0⟩ := (h.field Try.underlying55 0 (ty := 3) 0 1 rfl (by kernel_rfl)).int Try.underlying3
    obtain ⟨x, e1, x0, x1, x2, x3⟩ := open_want (h.field Try.underlying55 1 (ty := 27) 1 3 rfl (by kernel_rfl))
    obtain ⟨u, e4, r4⟩ := (h.field Try.underlying55 2 (ty := 28) 4 1 rfl (by kernel_rfl)).int Try.underlying28
    simp at e0 e1 e4
    obtain ⟨e1, e2, e3⟩ := e1
    subst e0 e1 e2 e3 e4
    obtain ⟨u0, u1⟩ := wf_u64 r4
    refine ⟨⟨t, x, u.toNat⟩, ?_, wf_i64 r0, ⟨x0, x1⟩, by show u.toNat ≤ _; omega⟩
    show _ = [Value.int .i64 t, .int .i64 x.mode, .string x.lo, .string x.hi, .int .u64 (u.toNat : Int)]
    rw [Int.toNat_of_nonneg u0]
theorem open_holds {w : World} {cs : List Value} (h : Rd w 22 cs) : ∃ A n c l, cs = [.slice A n c] ∧ In_ holdK w A n c l ∧ n * 48 ≤ 140737488351232 ∧ ∀ p ∈ l, HoIn p :=
  open_kind holdK HoIn (fun cs hc => open_hold hc) (by kernel_rfl) (by kernel_rfl) h
theorem open_claims {w : World} {cs : List Value} (h : Rd w 23 cs) : ∃ A n c l, cs = [.slice A n c] ∧ In_ claimK w A n c l ∧ n * 56 ≤ 140737488351232 ∧ ∀ p ∈ l, ClIn p :=
  open_kind claimK ClIn (fun cs hc => open_claim hc) (by kernel_rfl) (by kernel_rfl) h
/-- locks as they come in. -/
structure LIn (w : World) (A : Option Addr) (n c : Nat) (B : Option Addr) (m d : Nat) (l : Lo) : Prop where
  held : In_ holdK w A n c l.held
  queue : In_ claimK w B m d l.queue
  inn : LoIn l
theorem LIn.q {w w' : World} {A B : Option Addr} {n c m d : Nat} {l : Lo} (h : LIn w A n c B m d l) (q : Q w w') : LIn w' A n c B m d l := ⟨h.held.q q, h.queue.q q, h.inn⟩
theorem open_locks {w : World} {cs : List Value} (h : Rd w 25 cs) : ∃ A n c B m d l, cs = [.slice A n c, .slice B m d] ∧ LIn w A n c B m d l := by
  obtain ⟨hl, hf⟩ := h.struct Try.underlying25
  rw [show Try.prog.cellsOf 25 = 2 by kernel_rfl] at hl
  match cs, hl with
  | [a, b], _ =>
    obtain ⟨A, n, c, l, e0, i0, b0, p0⟩ := open_holds (h.field Try.underlying25 0 (ty := 22) 0 1 rfl (by kernel_rfl))
    obtain ⟨B, m, d, t, e1, i1, b1, p1⟩ := open_claims (h.field Try.underlying25 1 (ty := 23) 1 1 rfl (by kernel_rfl))
    simp at e0 e1
    subst e0 e1
    exact ⟨A, n, c, B, m, d, ⟨l, t⟩, rfl, i0, i1, p0, p1⟩
end Go.Proofs.Ytenemdpjhoebpaa
