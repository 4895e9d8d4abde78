/- What comes in: spans. -/
import Derived.Test.YtjbjkmbipdbejaaSpanShown
import Derived.Test.YtjbjkmbipdbejaaFlat
namespace Go.Proofs.Ytjbjkmbipdbejaa
set_option maxRecDepth 100000
open Go.ChangeShapes Go.WideShapes Go.RowKit Prm Sm
set_option linter.unusedVariables false
set_option linter.unusedSimpArgs false

theorem open_want {w : World} {cs : List Value} (h : Rd w 23 cs) : ∃ x : Wn, cs = [.int .i64 x.mode, .string x.lo, .string x.hi] ∧ x.lo.size ≤ 140737488351232 ∧ x.hi.size ≤ 140737488351232 ∧ -9223372036854775808 ≤ x.mode ∧ x.mode ≤ 9223372036854775807 := by
  obtain ⟨hl, hf⟩ := h.struct Try.underlying23
  rw [show Try.prog.cellsOf 23 = 3 by kernel_rfl] at hl
  match cs, hl with
  | [a, b, x], _ =>
    obtain ⟨k, e0, r0⟩ := (h.field Try.underlying23 0 (ty := 3) 0 1 rfl (by kernel_rfl)).int Try.underlying3
    obtain ⟨lo, e1, r1⟩ := (h.field Try.underlying23 1 (ty := 9) 1 1 rfl (by kernel_rfl)).string Try.underlying9
    obtain ⟨hi, e2, r2⟩ := (h.field Try.underlying23 2 (ty := 9) 2 1 rfl (by kernel_rfl)).string Try.underlying9
    simp at e0 e1 e2
    subst e0 e1 e2
    exact ⟨⟨k, lo, hi⟩, rfl, r1, r2, (wf_i64 r0).1, (wf_i64 r0).2⟩
theorem wns {x : Wn} (h1 : x.lo.size ≤ 140737488351232) (h2 : x.hi.size ≤ 140737488351232) : WnS x := ⟨by unfold maxLen; omega, by unfold maxLen; omega⟩

theorem wn_box1 (w : World) (a : Wn) :
    Wx (w.alloc (.cells #[.int .i64 a.mode, .string a.lo, .string a.hi] 23)) w.heap.size a ∧ Q w (w.alloc (.cells #[.int .i64 a.mode, .string a.lo, .string a.hi] 23)) := by
  have h1 := (Bx.new w [.int .i64 a.mode, .string a.lo, .string a.hi] 23).get3.1
  exact ⟨⟨h1.1, h1.2.1, h1.2.2⟩, (Q.refl w).alloc _⟩
theorem wn_box2 (w : World) (a b : Wn) :
    Wx ((w.alloc (.cells #[.int .i64 a.mode, .string a.lo, .string a.hi] 23)).alloc (.cells #[.int .i64 b.mode, .string b.lo, .string b.hi] 23)) w.heap.size a ∧
    Wx ((w.alloc (.cells #[.int .i64 a.mode, .string a.lo, .string a.hi] 23)).alloc (.cells #[.int .i64 b.mode, .string b.lo, .string b.hi] 23)) (w.heap.size + 1) b ∧
    Q w ((w.alloc (.cells #[.int .i64 a.mode, .string a.lo, .string a.hi] 23)).alloc (.cells #[.int .i64 b.mode, .string b.lo, .string b.hi] 23)) := wn_boxes w a.mode a.lo a.hi b.mode b.lo b.hi
theorem wn_box3 (w : World) (a b c : Wn) :
    Wx (((w.alloc (.cells #[.int .i64 a.mode, .string a.lo, .string a.hi] 23)).alloc (.cells #[.int .i64 b.mode, .string b.lo, .string b.hi] 23)).alloc (.cells #[.int .i64 c.mode, .string c.lo, .string c.hi] 23)) w.heap.size a ∧
    Wx (((w.alloc (.cells #[.int .i64 a.mode, .string a.lo, .string a.hi] 23)).alloc (.cells #[.int .i64 b.mode, .string b.lo, .string b.hi] 23)).alloc (.cells #[.int .i64 c.mode, .string c.lo, .string c.hi] 23)) (w.heap.size + 1) b ∧
    Wx (((w.alloc (.cells #[.int .i64 a.mode, .string a.lo, .string a.hi] 23)).alloc (.cells #[.int .i64 b.mode, .string b.lo, .string b.hi] 23)).alloc (.cells #[.int .i64 c.mode, .string c.lo, .string c.hi] 23)) (w.heap.size + 1 + 1) c ∧
    Q w (((w.alloc (.cells #[.int .i64 a.mode, .string a.lo, .string a.hi] 23)).alloc (.cells #[.int .i64 b.mode, .string b.lo, .string b.hi] 23)).alloc (.cells #[.int .i64 c.mode, .string c.lo, .string c.hi] 23)) := by
  obtain ⟨h1, h2, h3⟩ := wn_box2 w a b
  have q := (Q.refl ((w.alloc (.cells #[.int .i64 a.mode, .string a.lo, .string a.hi] 23)).alloc (.cells #[.int .i64 b.mode, .string b.lo, .string b.hi] 23))).alloc (.cells #[.int .i64 c.mode, .string c.lo, .string c.hi] 23)
  have h4 := (wn_box1 ((w.alloc (.cells #[.int .i64 a.mode, .string a.lo, .string a.hi] 23)).alloc (.cells #[.int .i64 b.mode, .string b.lo, .string b.hi] 23)) c).1
  rw [show ((w.alloc (.cells #[.int .i64 a.mode, .string a.lo, .string a.hi] 23)).alloc (.cells #[.int .i64 b.mode, .string b.lo, .string b.hi] 23)).heap.size = w.heap.size + 1 + 1 by simp] at h4
  exact ⟨h1.q q, h2.q q, h4, h3.trans q⟩
theorem bnot {b : Bool} (h : ¬ b = false) : b = true := by cases b <;> simp_all
theorem beq_rr (r : Bool) : (r == r) = true := by cases r <;> rfl
end Go.Proofs.Ytjbjkmbipdbejaa
