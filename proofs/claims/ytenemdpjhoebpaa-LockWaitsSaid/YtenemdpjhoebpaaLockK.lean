/- Holds and claims in memory. -/
import Derived.Test.YtenemdpjhoebpaaLockMath
import Derived.Test.YtenemdpjhoebpaaInts
import Derived.Test.YtenemdpjhoebpaaBx2
import Derived.Laws.StructEq
namespace Go.Proofs.Ytenemdpjhoebpaa
set_option maxRecDepth 100000
open Go.RowKit Prm Lm
set_option linter.unusedVariables false
set_option linter.unusedSimpArgs false

abbrev hoV (h : Ho) : Value := .agg #[.int .i64 h.txn, .int .i64 h.w.mode, .string h.w.lo, .string h.w.hi]
def holdK : Kind Ho where
  T := 52
  S := 22
  k := 4
  bs := 48
  z := .agg #[.int .i64 0, .int .i64 0, .string ⟨#[]⟩, .string ⟨#[]⟩]
  row := fun h => [.int .i64 h.txn, .int .i64 h.w.mode, .string h.w.lo, .string h.w.hi]
  pos := by omega
  bpos := by omega
  len := fun _ => rfl
  one := fun _ u hu => by simp at hu; rcases hu with rfl | rfl | rfl | rfl <;> rfl
  und := Try.underlying22
  info := by kernel_rfl
  zc := rfl
theorem load_hold {w : World} {A : Option Addr} {n : Nat} {l : List Ho} (h : Lst holdK w A n l) {k : Nat} (hk : k < n) (hl : k < l.length) :
    ∃ ad, A = some ad ∧ ad.block < w.heap.size ∧ w.cell? (ad.add (k * 4)) = some (.int .i64 l[k].txn) ∧ w.cell? ⟨(ad.add (k * 4)).block, (ad.add (k * 4)).off + 1, none⟩ = some (.int .i64 l[k].w.mode) ∧ w.cell? ⟨(ad.add (k * 4)).block, (ad.add (k * 4)).off + 2, none⟩ = some (.string l[k].w.lo) ∧ w.cell? ⟨(ad.add (k * 4)).block, (ad.add (k * 4)).off + 3, none⟩ = some (.string l[k].w.hi) := by
  obtain ⟨ad, e, hb, hc⟩ := h.load hk hl
  exact ⟨ad, e, hb, hc 0 _ rfl, hc 1 _ rfl, hc 2 _ rfl, hc 3 _ rfl⟩
theorem lit_hold (w : World) (x : Ho) : Lst holdK (w.alloc (.cells #[.int .i64 x.txn, .int .i64 x.w.mode, .string x.w.lo, .string x.w.hi] 52)) (some ⟨w.heap.size, 0, none⟩) 1 [x] :=
  (OwnK.lit1 holdK w w.heap.size (Nat.le_refl _) x).lst
abbrev clV (h : Cl) : Value := .agg #[.int .i64 h.txn, .int .i64 h.w.mode, .string h.w.lo, .string h.w.hi, .int .u64 (h.til : Int)]
def claimK : Kind Cl where
  T := 55
  S := 23
  k := 5
  bs := 56
  z := .agg #[.int .i64 0, .int .i64 0, .string ⟨#[]⟩, .string ⟨#[]⟩, .int .u64 0]
  row := fun h => [.int .i64 h.txn, .int .i64 h.w.mode, .string h.w.lo, .string h.w.hi, .int .u64 (h.til : Int)]
  pos := by omega
  bpos := by omega
  len := fun _ => rfl
  one := fun _ u hu => by simp at hu; rcases hu with rfl | rfl | rfl | rfl | rfl <;> rfl
  und := Try.underlying23
  info := by kernel_rfl
  zc := rfl
theorem load_claim {w : World} {A : Option Addr} {n : Nat} {l : List Cl} (h : Lst claimK w A n l) {k : Nat} (hk : k < n) (hl : k < l.length) :
    ∃ ad, A = some ad ∧ ad.block < w.heap.size ∧ w.cell? (ad.add (k * 5)) = some (.int .i64 l[k].txn) ∧ w.cell? ⟨(ad.add (k * 5)).block, (ad.add (k * 5)).off + 1, none⟩ = some (.int .i64 l[k].w.mode) ∧ w.cell? ⟨(ad.add (k * 5)).block, (ad.add (k * 5)).off + 2, none⟩ = some (.string l[k].w.lo) ∧ w.cell? ⟨(ad.add (k * 5)).block, (ad.add (k * 5)).off + 3, none⟩ = some (.string l[k].w.hi) ∧ w.cell? ⟨(ad.add (k * 5)).block, (ad.add (k * 5)).off + 4, none⟩ = some (.int .u64 (l[k].til : Int)) := by
  obtain ⟨ad, e, hb, hc⟩ := h.load hk hl
  exact ⟨ad, e, hb, hc 0 _ rfl, hc 1 _ rfl, hc 2 _ rfl, hc 3 _ rfl, hc 4 _ rfl⟩
theorem lit_claim (w : World) (x : Cl) : Lst claimK (w.alloc (.cells #[.int .i64 x.txn, .int .i64 x.w.mode, .string x.w.lo, .string x.w.hi, .int .u64 (x.til : Int)] 55)) (some ⟨w.heap.size, 0, none⟩) 1 [x] :=
  (OwnK.lit1 claimK w w.heap.size (Nat.le_refl _) x).lst

theorem num_u64 (a b : Nat) : ((a : Int) == (b : Int)) = decide (a = b) := by
  by_cases h : a = b
  · subst h; simp
  · have : ¬ (a : Int) = b := fun e => h (by omega)
    simp [h, this]
theorem ho_eq (f g : Ho) : decide (f = g) = (decide (f.txn = g.txn) && (decide (f.w.mode = g.w.mode) && (decide (f.w.lo = g.w.lo) && decide (f.w.hi = g.w.hi)))) := by
  obtain ⟨a, m, lo, hi⟩ := f
  obtain ⟨b, n, bo, bi⟩ := g
  rw [Bool.eq_iff_iff]
  simp
theorem cl_eq (f g : Cl) : decide (f = g) = (decide (f.txn = g.txn) && (decide (f.w.mode = g.w.mode) && (decide (f.w.lo = g.w.lo) && (decide (f.w.hi = g.w.hi) && decide (f.til = g.til))))) := by
  obtain ⟨a, ⟨m, lo, hi⟩, t⟩ := f
  obtain ⟨b, ⟨n, bo, bi⟩, u⟩ := g
  rw [Bool.eq_iff_iff]
  simp [and_assoc]
theorem eqin_ho (W : World) (f g : Ho) : (Op.equalIn 10000 52 (hoV f) (hoV g)).run Try.prog W = .ok (decide (f = g)) W := by
  have f0 : Try.prog.underlying 3 = some (.int .i64) := by kernel_rfl
  have f1 : Try.prog.underlying 9 = some .string := by kernel_rfl
  skip
  rw [ho_eq, show (10000 : Nat) = 9998 + 1 + 1 from rfl, run_equalIn_agg _ _ _ _ _ (by kernel_rfl) (by kernel_rfl)]
  simp only [Program.fieldsOf, Try.underlying52]
  rw [← same_str, ← same_str]
  skip
  obtain ⟨a, ⟨m, lo, hi⟩⟩ := f
  obtain ⟨b, ⟨n, bo, bi⟩⟩ := g
  have hw := run_equalIn_agg (P := Try.prog) W 9997 27 #[.int .i64 m, .string lo, .string hi] #[.int .i64 n, .string bo, .string bi] (by kernel_rfl) (by kernel_rfl)
  simp only [Program.fieldsOf, Try.underlying27] at hw
  simp [Op.eqFields, go_sem, run_equalIn_int (h := f0), run_equalIn_string (h := f1)]
  by_cases h0 : a = b <;> by_cases h1 : m = n <;> by_cases h2 : lo.toList = bo.toList <;> by_cases h3 : hi.toList = bi.toList <;> simp [h0, h1, h2, h3]
theorem neq_ho (W : World) (f g : Ho) : (binOp .neq 52 (hoV f) (hoV g)).run Try.prog W = .ok (.bool (!decide (f = g))) W := by
  rw [run_neq_struct, eqin_ho]; rfl
theorem eqin_cl (W : World) (f g : Cl) : (Op.equalIn 10000 55 (clV f) (clV g)).run Try.prog W = .ok (decide (f = g)) W := by
  have f0 : Try.prog.underlying 3 = some (.int .i64) := by kernel_rfl
  have f1 : Try.prog.underlying 9 = some .string := by kernel_rfl
  have f2 : Try.prog.underlying 28 = some (.int .u64) := by kernel_rfl
  rw [cl_eq, show (10000 : Nat) = 9998 + 1 + 1 from rfl, run_equalIn_agg _ _ _ _ _ (by kernel_rfl) (by kernel_rfl)]
  simp only [Program.fieldsOf, Try.underlying55]
  rw [← same_str, ← same_str]
  rw [← num_u64]
  obtain ⟨a, ⟨m, lo, hi⟩, tf⟩ := f
  obtain ⟨b, ⟨n, bo, bi⟩, tg⟩ := g
  have hw := run_equalIn_agg (P := Try.prog) W 9997 27 #[.int .i64 m, .string lo, .string hi] #[.int .i64 n, .string bo, .string bi] (by kernel_rfl) (by kernel_rfl)
  simp only [Program.fieldsOf, Try.underlying27] at hw
  simp [Op.eqFields, go_sem, run_equalIn_int (h := f0), run_equalIn_string (h := f1)]
  by_cases h0 : a = b <;> by_cases h1 : m = n <;> by_cases h2 : lo.toList = bo.toList <;> by_cases h3 : hi.toList = bi.toList <;> by_cases h4 : (tf : Int) = (tg : Int) <;> simp [h0, h1, h2, h3, h4]
theorem neq_cl (W : World) (f g : Cl) : (binOp .neq 55 (clV f) (clV g)).run Try.prog W = .ok (.bool (!decide (f = g))) W := by
  rw [run_neq_struct, eqin_cl]; rfl
end Go.Proofs.Ytenemdpjhoebpaa
