/- What comes in: buffers, lists of texts that are small; buffers compared. -/
import Derived.Test.YthcdcjidoacalaaFrmShown
import Derived.Test.YthcdcjidoacalaaFrmRefFeed
import Derived.Test.YthcdcjidoacalaaBulk
import Derived.Test.YthcdcjidoacalaaInts
namespace Go.Proofs.Ythcdcjidoacalaa
set_option maxRecDepth 100000
open Go.ChangeShapes Go.WideShapes Go.RowKit
set_option linter.unusedVariables false
set_option linter.unusedSimpArgs false

theorem small_texts {w : World} {A : Option Addr} {n c : Nat} {l : List (List UInt8)} (h : In_ textK w A n c l) (hu : ∀ a, A = some a → RdU w 30 [.slice (some a) n c]) : ∀ r ∈ l, r.length ≤ 1048576 := by
  intro r hr
  obtain ⟨k, hk, rfl⟩ := List.getElem_of_mem hr
  have hn := h.len
  obtain ⟨ad, rfl, hb, hc⟩ := load_text h.lst (k := k) (by omega) hk
  obtain ⟨_, hi⟩ := (hu ad rfl).slice Try.underlying30
  obtain ⟨cs', hcs, hrd⟩ := hi k (by have := h.le; omega)
  rw [show Try.prog.cellsOf 9 = 1 by kernel_rfl, Nat.mul_one] at hcs
  have e : cs' = [.string (tx l[k])] := by
    simp [World.cells?, show (ad.add k).add 0 = ad.add k from rfl, hc] at hcs
    exact hcs.symm
  subst e
  have := hrd.string Try.underlying9
  rw [tx_size] at this
  exact this
theorem open_nums {w : World} {cs : List Value} (h : Rd w 39 cs) : ∃ A n c l, cs = [.slice A n c] ∧ In_ numK w A n c l ∧ n * 8 ≤ 140737488351232 ∧ ∀ x ∈ l, (Lit.int .i64 x).wf = true :=
  open_kind numK (fun x => (Lit.int .i64 x).wf = true) (fun cs hr => by
    obtain ⟨x, rfl, hx⟩ := hr.int Try.underlying3
    exact ⟨x, rfl, hx⟩) (by kernel_rfl) (by kernel_rfl) h
namespace Fm
theorem open_buf {w : World} {cs : List Value} (h : Rd w 23 cs) : ∃ (b : Bf), cs = [.string (tx b.rest), .bool b.bad] ∧ b.rest.length ≤ 140737488351232 := by
  obtain ⟨hl, _⟩ := h.struct Try.underlying23
  rw [show Try.prog.cellsOf 23 = 2 by kernel_rfl] at hl
  match cs, hl with
  | [x0, x1], _ =>
    obtain ⟨r, e0, s0⟩ := (h.field Try.underlying23 0 (ty := 9) 0 1 rfl (by kernel_rfl)).string Try.underlying9
    obtain ⟨p, e1⟩ := (h.field Try.underlying23 1 (ty := 4) 1 1 rfl (by kernel_rfl)).bool Try.underlying4
    simp at e0 e1
    subst e0 e1
    exact ⟨⟨r.data.toList, p⟩, by rw [tx_list], by rw [size_list]; exact s0⟩
theorem small_buf {w : World} {b : Bf} (h : RdU w 23 [.string (tx b.rest), .bool b.bad]) : b.rest.length ≤ 1048576 := by
  have := (h.field Try.underlying23 0 (ty := 9) 0 1 rfl (by kernel_rfl))
  have := RdU.string (s := tx b.rest) this Try.underlying9
  rw [tx_size] at this
  exact this
@[go_sem high] theorem run_eql_bf (w : World) (x : ByteArray) (p : Bool) :
    (binOp .eql 23 (.agg #[.string x, .bool p]) (.agg #[.string x, .bool p])).run Try.prog w = .ok (.bool true) w := by
  rw [run_eql_struct, show (10000 : Nat) = 9999 + 1 from rfl, run_equalIn_agg _ _ _ _ _ (by kernel_rfl) (by kernel_rfl)]
  simp only [Program.fieldsOf, Try.underlying23]
  have f0 : Try.prog.underlying 4 = some .bool := by kernel_rfl
  have f1 : Try.prog.underlying 9 = some .string := by kernel_rfl
  simp [Op.eqFields, go_sem, run_equalIn_string (h := f1)]
end Fm
end Go.Proofs.Ythcdcjidoacalaa
