/- Base, PairMath, TableMath, SumMath, SumWalks, Bytes, DecMath, DecNum, SumShown, DecTakeMath, DecTake, DecTakeNum, SumOpen, RunMath, BatchMath, WalMath, Mem, ReqK, WireMath: merged. -/
import Derived.Test.YtdipikdebapmlaaDoorRows
import Derived.WalkKit
import Derived.WalkSpells
import Derived.WalkLawsBesides
import Derived.ProofKit
import Derived.OpenShut
import Derived.ShutString
import Derived.Lib.Hide
import Derived.Deep.QuietTactic
import Derived.BigQuiet
import Derived.Laws.BitsLemmas
import Derived.Laws.IdiomStrings
import Derived.Laws.OwnMore
import Derived.Laws.Rows
import Derived.Deep.MidRow
import Derived.Deep.AppendLies
import Derived.Deep.Fields
import Derived.OwnWalk
/- The words that all contracts share: 'Q w w'': behind the call all that was there is as it was. -/
namespace Go.Proofs.YtdipikdebapmlaaDoor
set_option maxRecDepth 100000
open Go.RowKit

def Q (w w' : World) : Prop := Below w.heap.size w w'
theorem Q.below {w w' : World} (h : Q w w') : Below w.heap.size w w' := h
theorem Q.refl (w : World) : Q w w := Below.refl _ _
theorem Q.trans {a b c : World} (h : Q a b) (k : Q b c) : Q a c := Below.trans h (Below.mono k h.below.size)
theorem Q.drew {a w : World} (h : Q a w) : Q a w.drew := Below.drew h
theorem Q.drewN {a w : World} (h : Q a w) (n : Nat) : Q a (w.drewN n) := ⟨h.below.os, h.below.tape, h.below.output, h.below.size, h.below.block⟩
theorem Q.alloc {a w : World} (h : Q a w) (o : Obj) : Q a (w.alloc o) := Below.alloc h h.below.size o
theorem Q.setCell {a w : World} (h : Q a w) {p : Addr} (hp : a.heap.size ≤ p.block) (u : Value) : Q a (w.setCell p u) := Below.setCell h hp u
theorem Q.set3 {a w : World} (h : Q a w) {b : Nat} (hb : a.heap.size ≤ b) (x y z : Value) : Q a (((w.setCell ⟨b, 0, none⟩ x).setCell ⟨b, 1, none⟩ y).setCell ⟨b, 2, none⟩ z) :=
  ((h.setCell (p := ⟨b, 0, none⟩) hb x).setCell (p := ⟨b, 1, none⟩) hb y).setCell (p := ⟨b, 2, none⟩) hb z
theorem Q.set4 {a w : World} (h : Q a w) {b : Nat} (hb : a.heap.size ≤ b) (x y z u : Value) : Q a ((((w.setCell ⟨b, 0, none⟩ x).setCell ⟨b, 1, none⟩ y).setCell ⟨b, 2, none⟩ z).setCell ⟨b, 3, none⟩ u) :=
  (h.set3 hb x y z).setCell (p := ⟨b, 3, none⟩) hb u
theorem Q.size {w w' : World} (h : Q w w') : w.heap.size ≤ w'.heap.size := h.below.size

theorem ret_int {k : IntKind} {a b : Int} (h : a = b) : Ending.returned (.int k a) = .returned (.int k b) := by rw [h]
theorem ret_bool {a b : Bool} (h : a = b) : Ending.returned (.bool a) = .returned (.bool b) := by rw [h]
end Go.Proofs.YtdipikdebapmlaaDoor

/- Pairs, writes and what writes make of pairs: plain mathematics. -/
namespace Go.Proofs.YtdipikdebapmlaaDoor.Prm
set_option maxRecDepth 100000
set_option linter.unusedVariables false

/-- the order of texts, by their bytes. -/
def lt (a b : ByteArray) : Bool := Op.bytesLess a.data.toList b.data.toList
theorem lt_data (a b : ByteArray) : Op.bytesLess a.toList b.toList = lt a b := by unfold lt; rw [ByteArray.toList_eq, ByteArray.toList_eq]
theorem less_eq : ∀ (x y : List UInt8), Op.bytesLess x y = decide (x < y)
  | [], y => by cases y <;> simp [Op.bytesLess]
  | a :: x, [] => by simp [Op.bytesLess]
  | a :: x, b :: y => by
    simp only [Op.bytesLess, less_eq x y, List.cons_lt_cons_iff, Bool.decide_or, Bool.decide_and]
    rfl
theorem lt_iff (a b : ByteArray) : lt a b = true ↔ a.data.toList < b.data.toList := by unfold lt; rw [less_eq]; simp
theorem lt_irrefl (a : ByteArray) : lt a a = false := by
  cases h : lt a a with
  | false => rfl
  | true => exact absurd ((lt_iff a a).1 h) (List.lt_irrefl _)
theorem lt_trans {a b c : ByteArray} (h : lt a b = true) (k : lt b c = true) : lt a c = true := (lt_iff a c).2 (List.lt_trans ((lt_iff a b).1 h) ((lt_iff b c).1 k))
theorem lt_asymm {a b : ByteArray} (h : lt a b = true) : lt b a = false := by
  cases k : lt b a with
  | false => rfl
  | true => have := lt_trans h k; rw [lt_irrefl] at this; cases this
theorem lt_tri {a b : ByteArray} (h : a ≠ b) (k : lt a b = false) : lt b a = true := by
  rcases Std.lt_trichotomy (α := List UInt8) a.data.toList b.data.toList with h1 | h1 | h1
  · rw [(lt_iff a b).2 h1] at k; cases k
  · exact absurd (ByteArray.ext (Array.ext' h1)) h
  · exact (lt_iff b a).2 h1
structure Pr where
  key : ByteArray
  val : ByteArray
deriving DecidableEq
structure Wr where
  key : ByteArray
  val : ByteArray
  del : Bool
deriving DecidableEq

/-- the place of the first one, or -1. -/
def idx {α : Type} (p : α → Bool) (l : List α) (i : Nat) : Int :=
  match l with
  | [] => -1
  | a :: l => if p a then i else idx p l (i + 1)
theorem idx_drop {α : Type} (p : α → Bool) (l : List α) {k : Nat} (hk : k < l.length) : idx p (l.drop k) k = if p l[k] then (k : Int) else idx p (l.drop (k + 1)) (k + 1) := by
  rw [List.drop_eq_getElem_cons hk]; rfl
theorem idx_end {α : Type} (p : α → Bool) (l : List α) {k : Nat} (hk : l.length ≤ k) : idx p (l.drop k) k = -1 := by rw [List.drop_of_length_le hk]; rfl
theorem idx_cases {α : Type} (p : α → Bool) : ∀ (l : List α) (i : Nat), (idx p l i = -1 ∧ ∀ a ∈ l, p a = false) ∨ ∃ k, ∃ h : k < l.length, idx p l i = ((i + k : Nat) : Int) ∧ p l[k] = true ∧ ∀ j, ∀ hj : j < l.length, j < k → p l[j] = false
  | [], i => .inl ⟨rfl, by simp⟩
  | a :: l, i => by
    by_cases h : p a = true
    · exact .inr ⟨0, by simp, by simp [idx, h], by simpa using h, fun j _ hj => by omega⟩
    · have h' : p a = false := by simpa using h
      rcases idx_cases p l (i + 1) with ⟨e, hall⟩ | ⟨k, hk, e, hp, hfirst⟩
      · refine .inl ⟨by simp [idx, h', e], fun b hb => ?_⟩
        rcases List.mem_cons.1 hb with rfl | hb
        · exact h'
        · exact hall b hb
      · refine .inr ⟨k + 1, by simpa using hk, by simp only [idx, h', e]; simp; omega, by simpa using hp, fun j hj hjk => ?_⟩
        cases j with
        | zero => simpa using h'
        | succ j => simpa using hfirst j (by simpa using hj) (by omega)

def hasK (k : ByteArray) (p : Pr) : Bool := decide (p.key = k)
/-- a key's value. -/
def find (k : ByteArray) : List Pr → ByteArray × Bool
  | [] => (⟨#[]⟩, false)
  | p :: l => if hasK k p then (p.val, true) else find k l
/-- a pair that is put: in the place of the first one of its key; else ahead of the first one above it. -/
def ins (p : Pr) : List Pr → List Pr
  | [] => [p]
  | q :: l => if lt p.key q.key then p :: q :: l else q :: ins p l
def setF (p : Pr) : List Pr → List Pr
  | [] => []
  | q :: l => if hasK p.key q then p :: l else q :: setF p l
def put (l : List Pr) (p : Pr) : List Pr := if (find p.key l).2 then setF p l else ins p l
def drop (l : List Pr) (k : ByteArray) : List Pr := l.filter fun q => !hasK k q
def act (l : List Pr) (w : Wr) : List Pr := if w.del then drop l w.key else put l ⟨w.key, w.val⟩
def apply (l : List Pr) (ws : List Wr) : List Pr := ws.foldl act l
def btw (lo hi : ByteArray) (k : ByteArray) : Bool := !lt k lo && (decide (hi = ⟨#[]⟩) || lt k hi)
def range (l : List Pr) (lo hi : ByteArray) (most : Int) : List Pr := (l.filter fun p => btw lo hi p.key).take most.toNat
def right : List Pr → Bool
  | [] => true
  | p :: l => (match l with | [] => true | q :: _ => lt p.key q.key) && right l

end Go.Proofs.YtdipikdebapmlaaDoor.Prm

/- Pairs: what the laws say of them, plain mathematics. -/
namespace Go.Proofs.YtdipikdebapmlaaDoor.Prm
set_option maxRecDepth 100000
set_option linter.unusedVariables false

end Go.Proofs.YtdipikdebapmlaaDoor.Prm

/- Plain mathematics of Adler-32: nothing of the program. -/
namespace Go.Proofs.YtdipikdebapmlaaDoor.Sm
set_option maxRecDepth 100000

def step (p : Int × Int) (c : UInt8) : Int × Int := ((p.1 + (c.toNat : Int)) % 65521, (p.2 + (p.1 + (c.toNat : Int))) % 65521)
def adF (p : Int × Int) (l : List UInt8) : Int × Int := l.foldl step p
def ad (l : List UInt8) : Int × Int := adF (1, 0) l
def lo (l : List UInt8) : Int := (ad l).1
def hi (l : List UInt8) : Int := (ad l).2
def adler (l : List UInt8) : Int := hi l * 65536 + lo l

/-- the sum of the bytes, and the sum of the sums. -/
def S : List UInt8 → Int
  | [] => 0
  | c :: l => (c.toNat : Int) + S l
def T : List UInt8 → Int
  | [] => 0
  | c :: l => ((l.length : Int) + 1) * (c.toNat : Int) + T l

theorem mod_of {x y : Int} (k : Int) (h : x = y + 65521 * k) : x % 65521 = y % 65521 := by
  rw [h]; exact Int.add_mul_emod_self_left _ _ _

theorem adF_closed (l : List UInt8) : ∀ a b : Int, 0 ≤ a → a < 65521 → 0 ≤ b → b < 65521 →
    (adF (a, b) l).1 = (a + S l) % 65521 ∧ (adF (a, b) l).2 = (b + (l.length : Int) * a + T l) % 65521 := by
  induction l with
  | nil => intro a b h0 h1 h2 h3; simp only [adF, List.foldl, S, T, List.length]; omega
  | cons c l ih =>
    intro a b h0 h1 h2 h3
    have e : adF (a, b) (c :: l) = adF ((a + (c.toNat : Int)) % 65521, (b + (a + (c.toNat : Int))) % 65521) l := rfl
    obtain ⟨i1, i2⟩ := ih ((a + (c.toNat : Int)) % 65521) ((b + (a + (c.toNat : Int))) % 65521) (by omega) (by omega) (by omega) (by omega)
    rw [e, i1, i2]
    refine ⟨by simp only [S]; omega, ?_⟩
    simp only [T, List.length_cons]
    have q1 : (a + (c.toNat : Int)) % 65521 = (a + (c.toNat : Int)) - 65521 * ((a + (c.toNat : Int)) / 65521) := by omega
    have q2 : (b + (a + (c.toNat : Int))) % 65521 = (b + (a + (c.toNat : Int))) - 65521 * ((b + (a + (c.toNat : Int))) / 65521) := by omega
    rw [q1, q2]
    generalize (a + (c.toNat : Int)) / 65521 = u
    generalize (b + (a + (c.toNat : Int))) / 65521 = v
    refine mod_of (-v - (l.length : Int) * u) ?_
    push_cast
    generalize (l.length : Int) = n
    generalize (c.toNat : Int) = d
    grind

theorem lo_eq (l : List UInt8) : lo l = (1 + S l) % 65521 := (adF_closed l 1 0 (by omega) (by omega) (by omega) (by omega)).1
theorem hi_eq (l : List UInt8) : hi l = ((l.length : Int) + T l) % 65521 := by
  have h := (adF_closed l 1 0 (by omega) (by omega) (by omega) (by omega)).2
  unfold hi ad; rw [h]; congr 1; omega
theorem lo_range (l : List UInt8) : 0 ≤ lo l ∧ lo l < 65521 := by rw [lo_eq]; omega
theorem hi_range (l : List UInt8) : 0 ≤ hi l ∧ hi l < 65521 := by rw [hi_eq]; omega
theorem adler_lo (l : List UInt8) : adler l % 65536 = lo l := by
  have := lo_range l; have := hi_range l; unfold adler; omega
theorem S_append (a b : List UInt8) : S (a ++ b) = S a + S b := by
  induction a with
  | nil => simp [S]
  | cons c l ih => simp only [List.cons_append, S, ih]; omega
/-- one byte changed. -/
theorem tells (x y : List UInt8) (c d : UInt8) (h : c ≠ d) : adler (x ++ d :: y) ≠ adler (x ++ c :: y) := by
  intro e
  have e1 : lo (x ++ d :: y) = lo (x ++ c :: y) := by rw [← adler_lo, e, adler_lo]
  rw [lo_eq, lo_eq, S_append, S_append] at e1
  simp only [S] at e1
  have hc := c.toNat_lt
  have hd := d.toNat_lt
  have hn : c.toNat ≠ d.toNat := fun k => h (UInt8.toNat_inj.1 k)
  omega

end Go.Proofs.YtdipikdebapmlaaDoor.Sm

/- Contracts of package sum's Of and of the document's own. -/
namespace Go.Proofs.YtdipikdebapmlaaDoor
set_option maxRecDepth 100000
open Go.RowKit

end Go.Proofs.YtdipikdebapmlaaDoor

/- Strings and bytes in memory. -/
namespace Go.Proofs.YtdipikdebapmlaaDoor
set_option maxRecDepth 100000
open Go.RowKit
set_option linter.unusedVariables false

theorem Blk.cell_new (w : World) (cs : Array Value) (t : TypeId) (i : Nat) : (w.alloc (.cells cs t)).cell? ⟨w.heap.size, i, none⟩ = cs[i]? :=
  cell_of_row (w.alloc (.cells cs t)) w.heap.size i cs t (0, 0) (heap_alloc_new w _)

theorem conv_row (W : World) (b o n cap : Nat) (l : List UInt8) (hn : l.length = n) (hc : ∀ k (h : k < l.length), W.cell? ⟨b, o + k, none⟩ = some (.int .u8 (l[k].toNat : Int))) :
    (convert 77 9 (.slice (some ⟨b, o, none⟩) n cap)).run Tryd.prog W = .ok (.string ⟨l.toArray⟩) W := by
  subst hn
  refine run_convert_bytes_back W 77 9 5 ⟨b, o, none⟩ cap l Tryd.underlying77 Tryd.underlying5 Tryd.underlying9 (fun j hj => ?_)
  have e : (⟨b, o, none⟩ : Addr).add j = ⟨b, o + j, none⟩ := by
    unfold Addr.add
    by_cases hz : j = 0
    · subst hz; rfl
    · rw [if_neg hz]
  rw [e]; exact hc j hj

theorem app_list (l : List UInt8) (s : ByteArray) : (⟨l.toArray⟩ : ByteArray) ++ s = ⟨(l ++ s.data.toList).toArray⟩ := by
  apply ByteArray.ext
  rw [ByteArray.data_append]
  simp
theorem app_lists (l m : List UInt8) : (⟨l.toArray⟩ : ByteArray) ++ ⟨m.toArray⟩ = ⟨(l ++ m).toArray⟩ := by rw [app_list]
theorem ret_str {a b : ByteArray} (h : a = b) : Ending.returned (.string a) = .returned (.string b) := by rw [h]
theorem str_eq {a b : ByteArray} (h : a = b) : Value.string a = .string b := by rw [h]

theorem size_list (s : ByteArray) : s.data.toList.length = s.size := by simp

end Go.Proofs.YtdipikdebapmlaaDoor

/- Plain mathematics of package dec: numbers and texts as bytes. Nothing of the program. -/
namespace Go.Proofs.YtdipikdebapmlaaDoor.Dm
set_option maxRecDepth 100000

def digit (n : Nat) : UInt8 := UInt8.ofNat (48 + n)
def dg (v : Nat) : List UInt8 := if v < 10 then [digit v] else dg (v / 10) ++ [digit (v % 10)]
def dgz (v : Nat) : List UInt8 := if v = 0 then [] else dg v
/-- a number's bytes. -/
def num (v : Nat) : List UInt8 := dg v ++ [59]

theorem digit_toNat (n : Nat) (h : n < 10) : (digit n).toNat = 48 + n := by
  unfold digit; simp only [UInt8.toNat_ofNat']; omega
theorem dg_split (v : Nat) : dg v = dgz (v / 10) ++ [digit (v % 10)] := by
  rw [dg]
  by_cases h : v < 10
  · rw [if_pos h]; unfold dgz; rw [if_pos (by omega)]
    rw [show v % 10 = v from by omega]; rfl
  · rw [if_neg h]; unfold dgz; rw [if_neg (by omega)]
theorem dgz_pos (v : Nat) (h : v ≠ 0) : dgz v = dg v := by unfold dgz; rw [if_neg h]
theorem dgz_zero : dgz 0 = [] := rfl
theorem dg_ne (v : Nat) : dg v ≠ [] := by rw [dg_split]; simp
def isD (c : UInt8) : Bool := 48 ≤ c.toNat && c.toNat ≤ 57
def dv (c : UInt8) : Nat := c.toNat - 48
/-- what figures tell. -/
def val (l : List UInt8) : Nat := l.foldl (fun v c => 10 * v + dv c) 0

theorem val_snoc (l : List UInt8) (c : UInt8) : val (l ++ [c]) = 10 * val l + dv c := by simp [val]
theorem dv_digit (n : Nat) (h : n < 10) : dv (digit n) = n := by unfold dv; rw [digit_toNat n h]; omega
theorem isD_digit (n : Nat) (h : n < 10) : isD (digit n) = true := by unfold isD; rw [digit_toNat n h]; simp; omega
theorem isD_iff (c : UInt8) : isD c = true ↔ 48 ≤ c.toNat ∧ c.toNat ≤ 57 := by simp [isD]

theorem val_dg (v : Nat) : val (dg v) = v := by
  induction v using Nat.strongRecOn with
  | _ v ih =>
    rw [dg]
    by_cases h : v < 10
    · rw [if_pos h]; simp [val, dv_digit v h]
    · rw [if_neg h, val_snoc, ih (v / 10) (by omega), dv_digit _ (by omega)]; omega
theorem all_dg (v : Nat) : ∀ c ∈ dg v, isD c = true := by
  induction v using Nat.strongRecOn with
  | _ v ih =>
    rw [dg]
    by_cases h : v < 10
    · rw [if_pos h]; intro c hc; simp at hc; subst hc; exact isD_digit v h
    · rw [if_neg h]; intro c hc
      rcases List.mem_append.1 hc with hc | hc
      · exact ih (v / 10) (by omega) c hc
      · simp at hc; subst hc; exact isD_digit _ (by omega)
/-- no leading nought but of 0 itself. -/
theorem head_dg (v : Nat) (h : 10 ≤ v) : ∀ c r, dg v = c :: r → c.toNat ≠ 48 := by
  induction v using Nat.strongRecOn with
  | _ v ih =>
    intro c r e
    rw [dg, if_neg (by omega)] at e
    by_cases h2 : v / 10 < 10
    · rw [dg, if_pos h2] at e
      simp at e
      rw [← e.1, digit_toNat _ h2]; omega
    · obtain ⟨c', r', e'⟩ : ∃ c' r', dg (v / 10) = c' :: r' := by
        cases hd : dg (v / 10) with
        | nil => exact absurd hd (dg_ne _)
        | cons a b => exact ⟨a, b, rfl⟩
      rw [e'] at e
      simp at e
      rw [← e.1]
      exact ih (v / 10) (by omega) (by omega) c' r' e'

theorem dg_length_lt (j : Nat) : ∀ v, v < 10 ^ j → 1 ≤ j → (dg v).length ≤ j := by
  induction j with
  | zero => intro v h h1; omega
  | succ j ih =>
    intro v h _
    rw [dg]
    by_cases h2 : v < 10
    · rw [if_pos h2]; simp
    · rw [if_neg h2]
      rw [Nat.pow_succ] at h
      have hj : 1 ≤ j := by
        rcases Nat.eq_zero_or_pos j with e | e
        · subst e; simp at h; omega
        · exact e
      have := ih (v / 10) (by omega) hj
      simp; omega
theorem num_length (v : Nat) (h : v < 18446744073709551616) : (num v).length ≤ 21 := by
  have := dg_length_lt 20 v (by omega) (by omega)
  unfold num; simp; omega
end Go.Proofs.YtdipikdebapmlaaDoor.Dm

/- Contracts of package dec's Num and of the document's own. -/
namespace Go.Proofs.YtdipikdebapmlaaDoor
set_option maxRecDepth 100000
open Go.RowKit
set_option linter.unusedVariables false

theorem slice21 (W : World) (b j : Nat) (h0 : 1 ≤ j) (h1 : j ≤ 20) :
    (Instr.sliceAt 103 (.pointer (some ⟨b, 0, none⟩)) (some (.int .i64 ((j : Int) - 1))) none none).run Tryd.prog W = .ok (.slice (some ⟨b, j - 1, none⟩) (22 - j) (22 - j)) W := by
  have hl : Tryd.prog.arrayLen 103 = 21 := by kernel_rfl
  have he : Tryd.prog.elem 103 = 5 := by kernel_rfl
  have hs : (sizeOf 5).run Tryd.prog W = .ok 1 W := by kernel_rfl
  rw [run_sliceAt_array_l W 103 _ (by rw [hl, he]; exact Tryd.underlying103) .i64 _ (by omega) (by rw [hl]; omega), he, hs, hl]
  have e : ((j : Int) - 1).toNat = j - 1 := by omega
  simp only [Result.andThen, slicedAt, e]
  rw [if_neg (by omega), show 21 - (j - 1) = 22 - j from by omega]
  unfold Addr.add
  by_cases hz : (j - 1) * 1 = 0
  · rw [if_pos hz, show j - 1 = 0 from by omega]
  · rw [if_neg hz]; simp

/-- the row behind a store of one figure more. -/
theorem row_more (cs : Array Value) (j m : Nat) (t : List UInt8) (h1 : 1 ≤ j) (h2 : j ≤ 20) (h3 : cs.size = 21) (h4 : t.length = 21 - j)
    (h8 : ∀ k (h : k < t.length), cs[j + k]? = some (.int .u8 (t[k].toNat : Int))) :
    ∀ k (h : k < (Dm.digit (m % 10) :: t).length), (cs.setIfInBounds (j - 1) (.int .u8 (48 + (m : Int) % 10)))[j - 1 + k]? = some (.int .u8 ((Dm.digit (m % 10) :: t)[k].toNat : Int)) := by
  intro k h
  cases k with
  | zero =>
    have e : ((Dm.digit (m % 10)).toNat : Int) = 48 + (m : Int) % 10 := by rw [Dm.digit_toNat _ (by omega)]; omega
    simp only [Nat.add_zero, List.getElem_cons_zero, e]
    rw [Array.getElem?_setIfInBounds_self_of_lt (by omega)]
  | succ k =>
    simp only [List.getElem_cons_succ]
    rw [Array.getElem?_setIfInBounds_ne (by omega), ← h8 k (by simpa using h)]
    congr 1; omega

set_option maxHeartbeats 400000 in
theorem num_nat (v : Nat) (w : World) (h0 : v < 18446744073709551616) :
    Calls Tryd.prog 41 #[.int .u64 v] w fun e w' => e = .returned (.string ⟨(Dm.num v).toArray⟩) ∧ Q w w' := by
  go_enter Tryd.func41, Tryd.ntmps41
  go_wp2
  go_loopw [0, 4] (fun u i wr => ∃ (m j : Nat) (t : List UInt8) (cs : Array Value), u = .int .u64 m ∧ i = .int .i64 j ∧ w.alloc (.cells cs 103) = wr ∧ 1 ≤ j ∧ j ≤ 20 ∧ cs.size = 21 ∧ t.length = 21 - j ∧ m < 10 ^ j ∧ m < 18446744073709551616 ∧ Dm.num v = Dm.dg m ++ t ∧ ∀ k (h : k < t.length), cs[j + k]? = some (.int .u8 (t[k].toNat : Int))) (fun u _ _ => (intOf u).toNat)
  case atStart => exact ⟨v, 20, [59], _, rfl, rfl, rfl, by omega, by omega, rfl, rfl, by omega, h0, rfl, by intro k h; simp at h; subst h; rfl⟩
  case round =>
    obtain ⟨m, j, t, cs, rfl, rfl, rfl, h1, h2, h3, h4, h5, h6, h7, h8⟩ := hrel
    have hr := row_more cs j m t h1 h2 h3 h4 h8
    obtain ⟨x, hx⟩ : ∃ x, cs[j - 1]? = some x := ⟨_, Array.getElem?_eq_getElem (by omega)⟩
    have hsl := fun W : World => slice21 W w.heap.size j h1 h2
    have hsp := Dm.dg_split m
    have H3 := Lib.hid h3
    have H4 := Lib.hid h4
    have H5 := Lib.hid h5
    have H7 := Lib.hid h7
    have HR := Lib.hid hr
    have HS := Lib.hid hsp
    clear h3 h4 h5 h7 h8 hr hsp
    by_cases hz : m / 10 = 0
    · have hb : ((m : Int) / 10 == 0) = true := by simp; omega
      have hcv := conv_row (w.alloc (.cells (cs.setIfInBounds (j - 1) (.int .u8 (48 + (m : Int) % 10))) 103)) w.heap.size (j - 1) (22 - j) (22 - j) (Dm.digit (m % 10) :: t) (by simp [H4.out]; omega) (by
        intro k h
        rw [← HR.out k h]
        exact Blk.cell_new _ _ _ _)
      have hfin : Dm.num v = Dm.digit (m % 10) :: t := by rw [H7.out, HS.out, hz]; simp [Dm.dgz_zero]
      rw [← hfin] at hcv
      have HF := Lib.hid hfin
      have HZ := Lib.hid hz
      clear hfin hz
      go_wp2
      go_ret
      exact ⟨rfl, (Q.refl _).alloc _⟩
    · have hb : ((m : Int) / 10 == 0) = false := by simp; omega
      have HZ := Lib.hid hz
      clear hz
      go_wp2
      have h5 := H5.out
      have hz := HZ.out
      obtain ⟨j, rfl⟩ : ∃ j', j = j' + 1 := ⟨j - 1, by omega⟩
      rw [Nat.pow_succ] at h5
      have hj : 1 ≤ j := by
        rcases Nat.eq_zero_or_pos j with e | e
        · subst e; simp at h5; omega
        · exact e
      go_roundw
      case rel => exact ⟨m / 10, j, Dm.digit (m % 10) :: t, _, by go_num, by go_num, rfl, hj, by omega, by simpa using H3.out, by simp [H4.out]; omega, by omega, by omega, by rw [H7.out, HS.out, Dm.dgz_pos _ hz]; simp, HR.out⟩
      case measure => simp [intOf]; omega

theorem conv_one (W : World) (m : Nat) : (convert 77 9 (.slice (some ⟨W.heap.size, 0, none⟩) 1 1)).run Tryd.prog (W.alloc (.cells #[.int .u8 (48 + (m : Int) % 10)] 5)) = .ok (.string ⟨[Dm.digit (m % 10)].toArray⟩) (W.alloc (.cells #[.int .u8 (48 + (m : Int) % 10)] 5)) := by
  refine conv_row _ _ _ _ _ [Dm.digit (m % 10)] rfl (fun k h => ?_)
  have hk : k = 0 := by simpa using h
  subst hk
  have e : ((Dm.digit (m % 10)).toNat : Int) = 48 + (m : Int) % 10 := by rw [Dm.digit_toNat _ (by omega)]; omega
  rw [Nat.add_zero, Blk.cell_new]
  simp only [List.getElem_cons_zero, e]
  rfl

set_option maxHeartbeats 400000 in
theorem refNum_nat (v : Nat) (w : World) (h0 : v < 18446744073709551616) :
    Calls Tryd.prog 44 #[.int .u64 v] w fun e w' => e = .returned (.string ⟨(Dm.num v).toArray⟩) ∧ Q w w' := by
  have hcv := conv_one
  go_enter Tryd.func44, Tryd.ntmps44
  go_wp2
  go_loopw [0, 3] (fun u s wr => ∃ (m : Nat) (t : List UInt8), u = .int .u64 m ∧ s = .string ⟨t.toArray⟩ ∧ Q w wr ∧ m < 18446744073709551616 ∧ Dm.num v = Dm.dgz m ++ t) (fun u _ _ => (intOf u).toNat)
  case atStart => exact ⟨v / 10, [Dm.digit (v % 10), 59], by go_num, rfl, (Q.refl _).alloc _, by omega, by unfold Dm.num; rw [Dm.dg_split]; simp⟩
  case round =>
    obtain ⟨m, t, rfl, rfl, hq, h1, h2⟩ := hrel
    have hsp := Dm.dg_split m
    have hl : t.length ≤ 21 := by
      have a := Dm.num_length v h0
      rw [h2, List.length_append] at a; omega
    have HS := Lib.hid hsp
    have H2 := Lib.hid h2
    clear hsp h2
    by_cases hz : 0 < m
    · go_wp2
      go_roundw
      case rel => exact ⟨m / 10, Dm.digit (m % 10) :: t, by go_num, str_eq (app_lists _ _), hq.alloc _, by omega, by rw [H2.out, Dm.dgz_pos _ (by omega), HS.out]; simp⟩
      case measure => simp [intOf]; omega
    · have e : m = 0 := by omega
      subst e
      have hf : Dm.num v = t := by rw [H2.out]; rfl
      have HF := Lib.hid hf
      clear hf
      go_wp2
      go_ret
      exact ⟨by rw [HF.out]; rfl, hq⟩

/-- as the walks ask for them. -/
theorem num_any (a : Int) (w : World) (h0 : 0 ≤ a) (h1 : a < 18446744073709551616) :
    Calls Tryd.prog 41 #[.int .u64 a] w fun e w' => e = .returned (.string ⟨(Dm.num a.toNat).toArray⟩) ∧ Q w w' := by
  obtain ⟨n, rfl⟩ := Int.eq_ofNat_of_zero_le h0
  exact num_nat n w (by omega)
theorem refNum_any (a : Int) (w : World) (h0 : 0 ≤ a) (h1 : a < 18446744073709551616) :
    Calls Tryd.prog 44 #[.int .u64 a] w fun e w' => e = .returned (.string ⟨(Dm.num a.toNat).toArray⟩) ∧ Q w w' := by
  obtain ⟨n, rfl⟩ := Int.eq_ofNat_of_zero_le h0
  exact refNum_nat n w (by omega)

set_option maxHeartbeats 400000 in
theorem text_any (s : ByteArray) (w : World) (hs : s.size ≤ 4611686018427387904) :
    Calls Tryd.prog 43 #[.string s] w fun e w' => e = .returned (.string ⟨(Dm.num s.size ++ s.data.toList).toArray⟩) ∧ Q w w' := by
  have hn := Dm.num_length s.size (by omega)
  go_enter Tryd.func43, Tryd.ntmps43
  go_wp2_with fail
  refine (num_any _ _ (by omega) (by omega)).mono ?_
  rintro e w1 ⟨rfl, q1⟩
  go_wp2_with fail
  go_ret
  exact ⟨ret_str (app_list _ _), q1⟩

set_option maxHeartbeats 400000 in
theorem refText_any (s : ByteArray) (w : World) (hs : s.size ≤ 4611686018427387904) :
    Calls Tryd.prog 45 #[.string s] w fun e w' => e = .returned (.string ⟨(Dm.num s.size ++ s.data.toList).toArray⟩) ∧ Q w w' := by
  have hn := Dm.num_length s.size (by omega)
  go_enter Tryd.func45, Tryd.ntmps45
  go_wp2_with fail
  refine (refNum_any _ _ (by omega) (by omega)).mono ?_
  rintro e w1 ⟨rfl, q1⟩
  go_wp2_with fail
  go_ret
  exact ⟨ret_str (app_list _ _), q1⟩
end Go.Proofs.YtdipikdebapmlaaDoor

/- Contracts of Seal, the document's own, and the examples. -/
namespace Go.Proofs.YtdipikdebapmlaaDoor
set_option maxRecDepth 100000
open Go.RowKit
set_option linter.unusedVariables false

/-- a text with its sum. -/
def sld (l : List UInt8) : List UInt8 := Dm.num l.length ++ l ++ Dm.num (Sm.adler l).toNat
end Go.Proofs.YtdipikdebapmlaaDoor

/- Plain mathematics of package dec: what is taken. Nothing of the program. -/
namespace Go.Proofs.YtdipikdebapmlaaDoor.Dm
set_option maxRecDepth 100000

/-! ### Taking a number -/
def maxU : Nat := 18446744073709551615
/-- the figures at the beginning of a text, and what stands behind them. -/
def figs (l : List UInt8) : List UInt8 := l.takeWhile isD
def rest (l : List UInt8) : List UInt8 := l.dropWhile isD
/-- figures that no number's bytes begin with. -/
def bad (l : List UInt8) : Bool := (decide (1 < (figs l).length) && l.head? == some 48) || decide (maxU < val (figs l))
/-- what is taken: the number, what stands behind it, and the errno. -/
def tnum (l : List UInt8) : Nat × List UInt8 × Nat :=
  if bad l = true then (0, [], 3)
  else if rest l = [] then (0, [], 2)
  else if (rest l).head? ≠ some 59 ∨ figs l = [] then (0, [], 3)
  else (val (figs l), (rest l).tail, 0)

theorem figs_rest (l : List UInt8) : figs l ++ rest l = l := List.takeWhile_append_dropWhile
theorem figs_len (l : List UInt8) : (figs l).length ≤ l.length := by
  have := congrArg List.length (figs_rest l)
  rw [List.length_append] at this; omega
theorem rest_eq (l : List UInt8) : rest l = l.drop (figs l).length := by
  have h := List.drop_left (l₁ := figs l) (l₂ := rest l)
  rw [figs_rest] at h; exact h.symm
theorem figs_eq (l : List UInt8) : figs l = l.take (figs l).length := by
  have h := List.take_left (l₁ := figs l) (l₂ := rest l)
  rw [figs_rest] at h; exact h.symm
theorem figs_all (l : List UInt8) : ∀ c ∈ figs l, isD c = true := List.all_eq_true.1 List.all_takeWhile

/-- how far the figures go: n of them, and then the end or another byte. -/
theorem figs_of (l : List UInt8) (n : Nat) (h1 : n ≤ l.length) (h2 : ∀ i (h : i < n), isD (l[i]'(by omega)) = true) (h3 : n = l.length ∨ ∃ h : n < l.length, isD l[n] = false) :
    figs l = l.take n := by
  induction l generalizing n with
  | nil => simp [figs]
  | cons c l ih =>
    cases n with
    | zero =>
      rcases h3 with h3 | ⟨_, h3⟩
      · simp at h3
      · simp at h3; simp [figs, h3]
    | succ n =>
      have hc : isD c = true := h2 0 (by omega)
      have := ih n (by simpa using h1) (fun i h => by have := h2 (i + 1) (by omega); simpa using this) (by
        rcases h3 with h3 | ⟨a, h3⟩
        · left; simpa using h3
        · right; exact ⟨by simpa using a, by simpa using h3⟩)
      unfold figs at this ⊢
      rw [List.takeWhile_cons, if_pos hc, this]; simp

theorem val_foldl (l : List UInt8) : ∀ a : Nat, l.foldl (fun v c => 10 * v + dv c) a = a * 10 ^ l.length + val l := by
  induction l with
  | nil => intro a; simp [val]
  | cons c l ih =>
    intro a
    simp only [List.foldl_cons, val, List.length_cons]
    rw [ih, ih (10 * 0 + dv c), Nat.pow_succ]
    grind
theorem val_append (a b : List UInt8) : val (a ++ b) = val a * 10 ^ b.length + val b := by
  show (a ++ b).foldl _ 0 = _
  rw [List.foldl_append, val_foldl]; rfl
theorem val_le_append (a b : List UInt8) : val a ≤ val (a ++ b) := by
  rw [val_append]
  have h1 : 1 ≤ 10 ^ b.length := Nat.pow_pos (by omega)
  have h2 : val a * 1 ≤ val a * 10 ^ b.length := Nat.mul_le_mul_left _ h1
  omega
theorem val_cons (c : UInt8) (l : List UInt8) : val (c :: l) = dv c * 10 ^ l.length + val l := by
  show l.foldl _ (10 * 0 + dv c) = _
  rw [val_foldl]; simp
/-- figures that don't begin with nought, and are more than twenty, tell a number that is too great. -/
theorem val_big (l : List UInt8) (c : UInt8) (r : List UInt8) (e : l = c :: r) (hc : isD c = true) (h0 : c.toNat ≠ 48) (hl : 20 < l.length) : maxU < val l := by
  subst e
  rw [val_cons]
  have h1 : 1 ≤ dv c := by rw [isD_iff] at hc; unfold dv; omega
  have h2 : 10 ^ 20 ≤ 10 ^ r.length := Nat.pow_le_pow_right (by omega) (by simp at hl; omega)
  have h3 : 1 * 10 ^ r.length ≤ dv c * 10 ^ r.length := Nat.mul_le_mul_right _ h1
  unfold maxU
  omega

/-! ### Taking a text -/
def ttext (l : List UInt8) (most : Int) : List UInt8 × List UInt8 × Nat :=
  if (tnum l).2.2 ≠ 0 then ([], [], (tnum l).2.2)
  else if most < 0 ∨ most < ((tnum l).1 : Int) then ([], [], 4)
  else if (tnum l).2.1.length < (tnum l).1 then ([], [], 2)
  else ((tnum l).2.1.take (tnum l).1, (tnum l).2.1.drop (tnum l).1, 0)

theorem tnum_len (l : List UInt8) : (tnum l).2.1.length ≤ l.length := by
  have h := congrArg List.length (figs_rest l)
  rw [List.length_append] at h
  unfold tnum
  split
  · simp
  · split
    · simp
    · split
      · simp
      · simp; omega
theorem tnum_le (l : List UInt8) : (tnum l).1 ≤ maxU := by
  unfold tnum
  split
  · simp
  · rename_i hb
    split
    · simp
    · split
      · simp
      · simp only [bad, Bool.or_eq_true, Bool.and_eq_true, decide_eq_true_eq, not_or] at hb
        simp only; omega
theorem tnum_err (l : List UInt8) : (tnum l).2.2 = 0 ∨ (tnum l).2.2 = 2 ∨ (tnum l).2.2 = 3 := by
  unfold tnum
  split
  · simp
  · split
    · simp
    · split <;> simp

/-! ### What was written is taken -/
theorem figs_num (v : Nat) (r : List UInt8) : figs (num v ++ r) = dg v ∧ rest (num v ++ r) = 59 :: r := by
  have h59 : isD 59 = false := by decide
  have e : num v ++ r = dg v ++ 59 :: r := by simp [num]
  have h1 : figs (num v ++ r) = dg v := by
    rw [e]; unfold figs
    rw [List.takeWhile_append_of_pos (all_dg v)]
    simp [h59]
  refine ⟨h1, ?_⟩
  rw [rest_eq, h1, e]; simp
theorem head_num (v : Nat) (h : 1 < (dg v).length) : ∀ r, (dg v ++ r).head? ≠ some 48 := by
  intro r
  have hv : 10 ≤ v := by
    rcases Nat.lt_or_ge v 10 with a | a
    · rw [dg, if_pos a] at h; simp at h
    · exact a
  cases hd : dg v with
  | nil => exact absurd hd (dg_ne v)
  | cons c t =>
    have := head_dg v hv c t hd
    simp
    intro e; subst e; exact this (by decide)
theorem tnum_num (v : Nat) (r : List UInt8) (hv : v ≤ maxU) : tnum (num v ++ r) = (v, r, 0) := by
  obtain ⟨h1, h2⟩ := figs_num v r
  have hb : bad (num v ++ r) = false := by
    unfold bad
    rw [h1, val_dg]
    by_cases hl : 1 < (dg v).length
    · have := head_num v hl (59 :: r)
      rw [show num v ++ r = dg v ++ 59 :: r from by simp [num], beq_eq_false_iff_ne.2 this]
      simp; omega
    · rw [decide_eq_false hl]; simp; omega
  unfold tnum
  rw [hb, h1, h2, val_dg]
  simp [dg_ne v]
theorem ttext_text (s r : List UInt8) (most : Int) (h : s.length ≤ maxU) (hm : (s.length : Int) ≤ most) : ttext (num s.length ++ (s ++ r)) most = (s, r, 0) := by
  unfold ttext
  rw [tnum_num _ _ h]
  simp only [List.length_append]
  rw [if_neg (by simp), if_neg (by omega), if_neg (by omega)]
  simp
/-- figures that stand there are among the figures. -/
theorem figs_ge (l : List UInt8) (m : Nat) (h1 : m ≤ l.length) (h2 : ∀ i (h : i < m), isD (l[i]'(by omega)) = true) : ∃ t, figs l = l.take m ++ t := by
  have hall : ∀ c ∈ l.take m, isD c = true := by
    intro c hc
    obtain ⟨i, hi, rfl⟩ := List.mem_iff_getElem.1 hc
    rw [List.length_take] at hi
    rw [List.getElem_take]
    exact h2 i (by omega)
  refine ⟨(l.drop m).takeWhile isD, ?_⟩
  unfold figs
  conv => lhs; rw [← List.take_append_drop m l]
  rw [List.takeWhile_append_of_pos hall]
theorem bad_zero (l : List UInt8) (k : Nat) (h0 : 0 < k) (h1 : k < l.length) (h2 : ∀ i (h : i < k + 1), isD (l[i]'(by omega)) = true) (h3 : l.head? = some 48) : bad l = true := by
  obtain ⟨t, ht⟩ := figs_ge l (k + 1) h1 h2
  have hl : 1 < (figs l).length := by rw [ht, List.length_append, List.length_take]; omega
  unfold bad; rw [decide_eq_true hl, h3]; rfl
theorem bad_big (l : List UInt8) (k : Nat) (h1 : k < l.length) (h2 : ∀ i (h : i < k + 1), isD (l[i]'(by omega)) = true) (h3 : maxU < val (l.take (k + 1))) : bad l = true := by
  obtain ⟨t, ht⟩ := figs_ge l (k + 1) h1 h2
  have hv : maxU < val (figs l) := by rw [ht]; exact Nat.lt_of_lt_of_le h3 (val_le_append _ _)
  unfold bad; rw [decide_eq_true hv, Bool.or_true]
theorem bad_not (l : List UInt8) (k : Nat) (e : figs l = l.take k) (hk : k ≤ l.length) (h1 : 1 < k → l.head? ≠ some 48) (h2 : val (l.take k) ≤ maxU) : bad l = false := by
  unfold bad
  rw [e, decide_eq_false (show ¬ maxU < val (l.take k) by omega), Bool.or_false, List.length_take, Nat.min_eq_left hk]
  by_cases h : 1 < k
  · rw [beq_eq_false_iff_ne.2 (h1 h), Bool.and_false]
  · rw [decide_eq_false h, Bool.false_and]
end Go.Proofs.YtdipikdebapmlaaDoor.Dm

/- Contracts of package dec's TakeNum, TakeText and of the document's own. -/
namespace Go.Proofs.YtdipikdebapmlaaDoor
set_option maxRecDepth 100000
open Go.RowKit
set_option linter.unusedVariables false

theorem take_snoc' (s : ByteArray) (k : Nat) (h : k < s.size) : s.data.toList.take (k + 1) = s.data.toList.take k ++ [s[k]] := by
  rw [List.take_succ_eq_append_getElem (by simpa using h)]; rfl
theorem get_list (s : ByteArray) (k : Nat) (h : k < s.data.toList.length) : s.data.toList[k] = s[k]'(by rw [← size_list]; exact h) := rfl
theorem head_list (s : ByteArray) (h : 0 < s.size) : s.data.toList.head? = some s[0] := by
  rw [List.head?_eq_getElem?, List.getElem?_eq_getElem (by rw [size_list]; exact h)]; rfl

def figV (l : List UInt8) : Value := if Dm.bad l = true then .tuple #[.int .u64 0, .int .i64 0, .bool false] else .tuple #[.int .u64 (Dm.val (Dm.figs l)), .int .i64 ((Dm.figs l).length : Int), .bool true]

theorem figV_end (l : List UInt8) (k : Nat) (hk : k ≤ l.length) (hd : ∀ i (h : i < k) (h' : i < l.length), Dm.isD l[i] = true) (h3 : k = l.length ∨ ∃ h : k < l.length, Dm.isD l[k] = false)
    (hv : Dm.val (l.take k) ≤ Dm.maxU) (hz : 1 < k → l.head? ≠ some 48) : figV l = .tuple #[.int .u64 (Dm.val (l.take k)), .int .i64 (k : Int), .bool true] := by
  have e := Dm.figs_of l k hk (fun i h => hd i h (by omega)) h3
  have hb := Dm.bad_not l k e hk hz hv
  unfold figV
  rw [hb, e, if_neg (by simp), List.length_take, Nat.min_eq_left hk]
theorem figV_bad (l : List UInt8) (h : Dm.bad l = true) : figV l = .tuple #[.int .u64 0, .int .i64 0, .bool false] := by unfold figV; rw [if_pos h]

set_option maxHeartbeats 400000 in
theorem figures_any (s : ByteArray) (w : World) (hs : s.size ≤ maxLen) :
    Calls Tryd.prog 84 #[.string s] w fun e w' => e = .returned (figV s.data.toList) ∧ w = w' := by
  unfold maxLen at hs
  go_enter Tryd.func84, Tryd.ntmps84
  go_wp2
  go_step3
  go_wp2
  go_step3
  go_wp2
  go_loop [2, 3] (fun v n => ∃ k : Nat, k ≤ s.size ∧ n = .int .i64 k ∧ v = .int .u64 (Dm.val (s.data.toList.take k)) ∧ Dm.val (s.data.toList.take k) ≤ Dm.maxU ∧ (∀ i (h : i < k) (h' : i < s.data.toList.length), Dm.isD s.data.toList[i] = true) ∧ (1 < k → s.data.toList.head? ≠ some 48)) (fun _ n => s.size - (intOf n).toNat)
  case atStart => exact ⟨0, Nat.zero_le _, rfl, rfl, Nat.zero_le _, fun i h => absurd h (by omega), fun h => absurd h (by omega)⟩
  case round =>
    obtain ⟨k, hk, rfl, rfl, hv, hd, hz⟩ := hrel
    have HD := Lib.hid hd
    have HZ := Lib.hid hz
    clear hd hz
    have hv' : Dm.val (s.data.toList.take k) ≤ 18446744073709551615 := hv
    by_cases hlt : k < s.size
    · have hts := take_snoc' s k hlt
      have e1 := Dm.val_snoc (s.data.toList.take k) s[k]
      rw [← hts] at e1
      have H1 := Lib.hid e1
      clear e1 hts hv
      generalize hA : Dm.val (s.data.toList.take k) = A at *
      have HA := Lib.hid hA
      clear hA
      have hkl : k < s.data.toList.length := by rw [size_list]; exact hlt
      by_cases c0 : s[k].toNat < 48
      · have hfin := figV_end s.data.toList k (by omega) HD.out (.inr ⟨hkl, by rw [get_list]; unfold Dm.isD; rw [decide_eq_false (show ¬ 48 ≤ s[k].toNat by omega)]; rfl⟩) (by rw [HA.out]; exact hv') HZ.out
        rw [HA.out] at hfin
        have HF := Lib.hid hfin
        clear hfin
        go_wp2
        rw [HF.out]
        go_ret3
        exact ⟨rfl, rfl⟩
      have c0' : 48 ≤ s[k].toNat := by omega
      clear c0
      by_cases c1 : 57 < s[k].toNat
      · have hfin := figV_end s.data.toList k (by omega) HD.out (.inr ⟨hkl, by rw [get_list]; unfold Dm.isD; rw [decide_eq_false (show ¬ s[k].toNat ≤ 57 by omega), Bool.and_false]⟩) (by rw [HA.out]; exact hv') HZ.out
        rw [HA.out] at hfin
        have HF := Lib.hid hfin
        clear hfin
        go_wp2
        rw [HF.out]
        go_ret3
        exact ⟨rfl, rfl⟩
      have c1' : s[k].toNat ≤ 57 := by omega
      clear c1
      have hd' : ∀ i (h : i < k + 1) (h' : i < s.data.toList.length), Dm.isD s.data.toList[i] = true := by
        intro i h h'
        rcases Nat.lt_or_ge i k with a | a
        · exact HD.out i a h'
        · obtain rfl : i = k := by omega
          rw [get_list, Dm.isD_iff]; omega
      have HD' := Lib.hid hd'
      clear hd'
      by_cases c2 : 0 < k ∧ s[0].toNat = 48
      · obtain ⟨c2, c3⟩ := c2
        have hfin := figV_bad s.data.toList (Dm.bad_zero s.data.toList k c2 hkl (fun i h => HD'.out i h (by omega)) (by rw [head_list s (by omega)]; congr 1; exact UInt8.toNat_inj.1 c3))
        have HF := Lib.hid hfin
        have hb : ((s[0].toNat : Int) == 48) = true := by simp; omega
        clear hfin c3
        go_wp2
        (try rw [Exit.noGoto_ret])
        go_ret3
        exact ⟨by rw [HF.out]; rfl, rfl⟩
      have hdv : Dm.dv s[k] = s[k].toNat - 48 := rfl
      have HDV := Lib.hid hdv
      clear hdv
      have C2 := Lib.hid c2
      clear c2
      by_cases c4 : 18446744073709551615 < 10 * A + (s[k].toNat - 48)
      · have hfin := figV_bad s.data.toList (Dm.bad_big s.data.toList k hkl (fun i h => HD'.out i h (by omega)) (by rw [H1.out, HDV.out]; exact c4))
        have HF := Lib.hid hfin
        clear hfin
        have c4' : (18446744073709551615 - ((s[k].toNat : Int) - 48)) / 10 < (A : Int) := by omega
        clear c4
        by_cases c5 : k = 0
        · subst c5
          go_wp2
          (try rw [Exit.noGoto_ret])
          go_ret3
          exact ⟨by rw [HF.out]; rfl, rfl⟩
        · have c5' : 0 < k := by omega
          have hb : ((s[0].toNat : Int) == 48) = false := by
            have := C2.out
            simp; omega
          clear c5
          go_wp2
          (try rw [Exit.noGoto_ret])
          go_ret3
          exact ⟨by rw [HF.out]; rfl, rfl⟩
      have c4' : (A : Int) ≤ (18446744073709551615 - ((s[k].toNat : Int) - 48)) / 10 := by omega
      have c6 : (A : Int) * 10 + ((s[k].toNat : Int) - 48) ≤ 18446744073709551615 := by omega
      have hnew : ((10 * A + (s[k].toNat - 48) : Nat) : Int) = (A : Int) * 10 + ((s[k].toNat : Int) - 48) := by omega
      have HN := Lib.hid hnew
      have C4 := Lib.hid c4
      clear c4 hnew
      by_cases c5 : k = 0
      · subst c5
        go_wp2
        go_round
        case rel => exact ⟨0 + 1, by omega, by go_num, by rw [H1.out, HDV.out, HN.out], by rw [H1.out, HDV.out]; have := C4.out; unfold Dm.maxU; omega, HD'.out, fun h => absurd h (by omega)⟩
        case measure => simp [intOf]; omega
      · have c5' : 0 < k := by omega
        have hb : ((s[0].toNat : Int) == 48) = false := by
          have := C2.out
          simp; omega
        clear c5
        have hh : 1 < k + 1 → s.data.toList.head? ≠ some 48 := by
          intro _ e
          rw [head_list s (by omega)] at e
          injection e with e
          have := C2.out
          rw [e] at this
          exact this ⟨c5', by decide⟩
        have HH := Lib.hid hh
        clear hh
        go_wp2
        go_round
        case rel => exact ⟨k + 1, by omega, by go_num, by rw [H1.out, HDV.out, HN.out], by rw [H1.out, HDV.out]; have := C4.out; unfold Dm.maxU; omega, HD'.out, HH.out⟩
        case measure => simp [intOf]; omega
    · have hfin := figV_end s.data.toList k (by rw [size_list]; exact hk) HD.out (.inl (by rw [size_list]; omega)) hv HZ.out
      have HF := Lib.hid hfin
      clear hfin
      generalize Dm.val (s.data.toList.take k) = A at *
      go_wp2
      rw [HF.out]
      go_ret3
      exact ⟨rfl, rfl⟩
end Go.Proofs.YtdipikdebapmlaaDoor

/- Contracts of package dec's TakeNum, above, TakeText. -/
namespace Go.Proofs.YtdipikdebapmlaaDoor
set_option maxRecDepth 100000
open Go.RowKit
set_option linter.unusedVariables false

theorem extract_list (s : ByteArray) (a b : Nat) : s.extract a b = ⟨((s.data.toList.take b).drop a).toArray⟩ := by
  apply ByteArray.ext
  rw [ByteArray.data_extract]
  apply Array.ext'
  simp [List.extract_eq_take_drop, List.drop_take]

def tnR (r : Nat × List UInt8 × Nat) : Value := .tuple #[.int .u64 (r.1 : Int), .string ⟨r.2.1.toArray⟩, .int .i64 (r.2.2 : Int)]

set_option maxHeartbeats 400000 in
theorem takeNum_any (s : ByteArray) (w : World) (hs : s.size ≤ maxLen) :
    Calls Tryd.prog 78 #[.string s] w fun e w' => e = .returned (tnR (Dm.tnum s.data.toList)) ∧ Q w w' := by
  by_cases hb : Dm.bad s.data.toList = true
  · have hf := figV_bad _ hb
    have ht : Dm.tnum s.data.toList = (0, [], 3) := by unfold Dm.tnum; rw [if_pos hb]
    have HF := Lib.hid hf
    have HT := Lib.hid ht
    clear hf ht hb
    go_enter Tryd.func78, Tryd.ntmps78
    go_wp2_with fail
    refine (figures_any _ _ hs).mono ?_
    rintro e w1 ⟨rfl, rfl⟩
    rw [HF.out]
    go_wp2_with fail
    go_ret3
    exact ⟨by rw [HT.out]; rfl, Q.refl _⟩
  have hf : figV s.data.toList = .tuple #[.int .u64 (Dm.val (Dm.figs s.data.toList)), .int .i64 ((Dm.figs s.data.toList).length : Int), .bool true] := by unfold figV; rw [if_neg hb]
  have hle : (Dm.figs s.data.toList).length ≤ s.size := by have := Dm.figs_len s.data.toList; rw [size_list] at this; exact this
  have hrest := Dm.rest_eq s.data.toList
  have htn : Dm.tnum s.data.toList = if Dm.rest s.data.toList = [] then (0, [], 2) else if (Dm.rest s.data.toList).head? ≠ some 59 ∨ Dm.figs s.data.toList = [] then (0, [], 3) else (Dm.val (Dm.figs s.data.toList), (Dm.rest s.data.toList).tail, 0) := by
    unfold Dm.tnum; rw [if_neg hb]
  have HF := Lib.hid hf
  have HR := Lib.hid hrest
  have HT := Lib.hid htn
  have hnil : Dm.figs s.data.toList = [] ↔ (Dm.figs s.data.toList).length = 0 := List.length_eq_zero_iff.symm
  have HNIL := Lib.hid hnil
  have hval : Dm.val (Dm.figs s.data.toList) ≤ 18446744073709551615 := by
    have : Dm.bad s.data.toList = false := by simpa using hb
    unfold Dm.bad at this
    simp only [Bool.or_eq_false_iff, decide_eq_false_iff_not] at this
    have h2 := this.2
    unfold Dm.maxU at h2; omega
  clear hf hrest htn hb hnil
  generalize hN : (Dm.figs s.data.toList).length = n at *
  generalize hV : Dm.val (Dm.figs s.data.toList) = v at *
  unfold maxLen at hs
  by_cases c0 : n = s.size
  · have ht : Dm.tnum s.data.toList = (0, [], 2) := by
      rw [HT.out, if_pos (by rw [HR.out]; exact List.drop_of_length_le (by rw [size_list]; omega))]
    have HT2 := Lib.hid ht
    have hbeq : ((n : Int) == (s.size : Int)) = true := by simp; omega
    clear hN hV c0 ht
    go_enter Tryd.func78, Tryd.ntmps78
    go_wp2_with fail
    refine (figures_any _ _ (by unfold maxLen; omega)).mono ?_
    rintro e w1 ⟨rfl, rfl⟩
    rw [HF.out]
    go_wp2_with fail
    go_ret3
    exact ⟨by rw [HT2.out]; rfl, Q.refl _⟩
  have hlt : n < s.size := by omega
  have hbeq : ((n : Int) == (s.size : Int)) = false := by simp; omega
  have hrs : Dm.rest s.data.toList = s[n] :: s.data.toList.drop (n + 1) := by
    rw [HR.out, List.drop_eq_getElem_cons (by rw [size_list]; exact hlt)]; rfl
  have HRS := Lib.hid hrs
  clear hN hV c0 hrs
  by_cases c1 : s[n].toNat = 59
  · have h59 : s[n] = 59 := UInt8.toNat_inj.1 (by rw [c1]; rfl)
    have hne : ((s[n].toNat : Int) != 59) = false := by simp; omega
    clear c1
    by_cases c2 : n = 0
    · have ht : Dm.tnum s.data.toList = (0, [], 3) := by
        rw [HT.out, HRS.out, if_neg (by simp), if_pos (.inr (HNIL.out.2 c2))]
      have HT2 := Lib.hid ht
      have h0 : ((n : Int) == 0) = true := by simp; omega
      clear ht c2 h59
      go_enter Tryd.func78, Tryd.ntmps78
      go_wp2_with fail
      refine (figures_any _ _ (by unfold maxLen; omega)).mono ?_
      rintro e w1 ⟨rfl, rfl⟩
      rw [HF.out]
      go_wp2_with fail
      go_ret3
      exact ⟨by rw [HT2.out]; rfl, Q.refl _⟩
    · have ht : Dm.tnum s.data.toList = (v, s.data.toList.drop (n + 1), 0) := by
        rw [HT.out, HRS.out, if_neg (by simp), if_neg (by rw [h59]; simp; exact fun e => c2 (HNIL.out.1 e))]; rfl
      have HT2 := Lib.hid ht
      have h0 : ((n : Int) == 0) = false := by simp; omega
      have he := extract_list s (n + 1) s.size
      rw [List.take_of_length_le (by rw [size_list]; omega)] at he
      have HE := Lib.hid he
      have e1 : IntKind.i64.wrap ((n : Int) + 1) = (n : Int) + 1 := IntWalk.i64_in _ (by omega)
      have e2 : 0 ≤ (n : Int) + 1 := by omega
      have e3 : ((n : Int) + 1).toNat = n + 1 := by omega
      have e4 : (n : Int) + 1 ≤ (s.size : Int) := by omega
      clear ht c2 h59 he
      go_enter Tryd.func78, Tryd.ntmps78
      go_wp2_with fail
      refine (figures_any _ _ (by unfold maxLen; omega)).mono ?_
      rintro e w1 ⟨rfl, rfl⟩
      rw [HF.out]
      go_wp2_with fail
      go_quiet (fail)
      go_wp2_with fail
      go_ret3
      refine ⟨?_, (Q.refl _).drewN _⟩
      rw [HT2.out]; unfold tnR
      simp only [← HE.out]; rfl
  · have h59 : s[n] ≠ 59 := fun e => c1 (by rw [e]; rfl)
    have ht : Dm.tnum s.data.toList = (0, [], 3) := by
      rw [HT.out, HRS.out, if_neg (by simp), if_pos (.inl (by simpa using h59))]
    have hne : ((s[n].toNat : Int) != 59) = true := by simp; omega
    have HT2 := Lib.hid ht
    clear ht c1 h59
    go_enter Tryd.func78, Tryd.ntmps78
    go_wp2_with fail
    refine (figures_any _ _ (by unfold maxLen; omega)).mono ?_
    rintro e w1 ⟨rfl, rfl⟩
    rw [HF.out]
    go_wp2_with fail
    go_ret3
    exact ⟨by rw [HT2.out]; rfl, Q.refl _⟩

set_option maxHeartbeats 400000 in
theorem above_yes (v b : Int) (w : World) (h0 : 0 ≤ v) (h1 : v ≤ 18446744073709551615) (h2 : -9223372036854775808 ≤ b) (h3 : b ≤ 9223372036854775807) (h : b < 0 ∨ b < v) :
    Calls Tryd.prog 85 #[.int .u64 v, .int .i64 b] w fun e w' => e = .returned (.bool true) ∧ w = w' := by
  by_cases c : b < 0
  · have d : decide (b < 0) = true := by simpa using c
    clear h
    go_enter Tryd.func85, Tryd.ntmps85
    go_wp2
    go_ret
    exact ⟨rfl, rfl⟩
  · have c' : 0 ≤ b := by omega
    have d : decide (b < 0) = false := by simpa using c'
    have e : b < v := by omega
    have d2 : decide (b < v) = true := by simpa using e
    clear h c
    go_enter Tryd.func85, Tryd.ntmps85
    go_wp2
    go_ret
    exact ⟨rfl, rfl⟩
set_option maxHeartbeats 400000 in
theorem above_no (v b : Int) (w : World) (h0 : 0 ≤ v) (h1 : v ≤ 18446744073709551615) (h2 : 0 ≤ b) (h3 : b ≤ 9223372036854775807) (h : v ≤ b) :
    Calls Tryd.prog 85 #[.int .u64 v, .int .i64 b] w fun e w' => e = .returned (.bool false) ∧ w = w' := by
  have d : decide (b < 0) = false := by simpa using h2
  have d2 : decide (b < v) = false := by simpa using h
  go_enter Tryd.func85, Tryd.ntmps85
  go_wp2
  go_ret
  exact ⟨rfl, rfl⟩

def ttR (r : List UInt8 × List UInt8 × Nat) : Value := .tuple #[.string ⟨r.1.toArray⟩, .string ⟨r.2.1.toArray⟩, .int .i64 (r.2.2 : Int)]

set_option maxHeartbeats 400000 in
theorem takeText_any (s : ByteArray) (most : Int) (w : World) (hs : s.size ≤ maxLen) (hm0 : -9223372036854775808 ≤ most) (hm1 : most ≤ 9223372036854775807) :
    Calls Tryd.prog 79 #[.string s, .int .i64 most] w fun e w' => e = .returned (ttR (Dm.ttext s.data.toList most)) ∧ Q w w' := by
  have hlen := Dm.tnum_len s.data.toList
  have hle := Dm.tnum_le s.data.toList
  have hcall := takeNum_any s w hs
  have htx : Dm.ttext s.data.toList most = if (Dm.tnum s.data.toList).2.2 ≠ 0 then ([], [], (Dm.tnum s.data.toList).2.2) else if most < 0 ∨ most < ((Dm.tnum s.data.toList).1 : Int) then ([], [], 4) else if (Dm.tnum s.data.toList).2.1.length < (Dm.tnum s.data.toList).1 then ([], [], 2)
    else ((Dm.tnum s.data.toList).2.1.take (Dm.tnum s.data.toList).1, (Dm.tnum s.data.toList).2.1.drop (Dm.tnum s.data.toList).1, 0) := rfl
  have herr := Dm.tnum_err s.data.toList
  generalize Dm.tnum s.data.toList = x at *
  obtain ⟨n, r, er⟩ := x
  obtain ⟨R, hR⟩ : ∃ R : ByteArray, R = ⟨r.toArray⟩ := ⟨_, rfl⟩
  have hsz : R.size = r.length := by rw [hR]; show r.toArray.size = _; simp
  have hl : R.data.toList = r := by rw [hR]
  unfold tnR at hcall
  simp only at hlen hle hcall htx herr
  rw [← hR] at hcall
  have hRle : R.size ≤ s.size := by rw [hsz]; rw [size_list] at hlen; exact hlen
  unfold maxLen at hs
  unfold Dm.maxU at hle
  have HC := Lib.hid hcall
  have HT := Lib.hid htx
  have HSZ := Lib.hid hsz
  have HL := Lib.hid hl
  clear hcall htx hsz hl hR hlen
  by_cases c0 : er = 0
  · subst c0
    clear herr
    by_cases c1 : most < 0 ∨ most < (n : Int)
    · have ht : Dm.ttext s.data.toList most = ([], [], 4) := by rw [HT.out, if_neg (by simp), if_pos c1]
      have HT2 := Lib.hid ht
      have C1 := Lib.hid c1
      clear ht c1
      go_enter Tryd.func79, Tryd.ntmps79
      go_wp2_with fail
      refine HC.out.mono ?_
      rintro e w1 ⟨rfl, q1⟩
      go_wp2_with fail
      refine (above_yes _ _ _ (by omega) (by omega) hm0 hm1 C1.out).mono ?_
      rintro e w2 ⟨rfl, rfl⟩
      go_wp2_with fail
      go_ret3
      exact ⟨by rw [HT2.out]; rfl, q1⟩
    have c1' : 0 ≤ most := by omega
    have c1'' : (n : Int) ≤ most := by omega
    by_cases c2 : R.size < n
    · have ht : Dm.ttext s.data.toList most = ([], [], 2) := by rw [HT.out, if_neg (by simp), if_neg c1, if_pos (by rw [← HSZ.out]; exact c2)]
      have HT2 := Lib.hid ht
      clear ht c1
      go_enter Tryd.func79, Tryd.ntmps79
      go_wp2_with fail
      refine HC.out.mono ?_
      rintro e w1 ⟨rfl, q1⟩
      go_wp2_with fail
      refine (above_no _ _ _ (by omega) (by omega) c1' hm1 c1'').mono ?_
      rintro e w2 ⟨rfl, rfl⟩
      go_wp2_with fail
      refine (above_yes _ _ _ (by omega) (by omega) (by omega) (by omega) (by omega)).mono ?_
      rintro e w2 ⟨rfl, rfl⟩
      go_wp2_with fail
      go_ret3
      exact ⟨by rw [HT2.out]; rfl, q1⟩
    have c2' : n ≤ R.size := by omega
    have ht : Dm.ttext s.data.toList most = (r.take n, r.drop n, 0) := by rw [HT.out, if_neg (by simp), if_neg c1, if_neg (by rw [← HSZ.out]; exact c2)]
    have he1 := extract_list R 0 n
    have he2 := extract_list R n R.size
    rw [List.take_of_length_le (by rw [size_list]; omega), HL.out] at he2
    rw [HL.out, List.drop_zero] at he1
    have HT2 := Lib.hid ht
    have HE1 := Lib.hid he1
    have HE2 := Lib.hid he2
    have e4 : (n : Int) ≤ (R.size : Int) := by omega
    clear ht c1 c2 he1 he2
    go_enter Tryd.func79, Tryd.ntmps79
    go_wp2_with fail
    refine HC.out.mono ?_
    rintro e w1 ⟨rfl, q1⟩
    go_wp2_with fail
    refine (above_no _ _ _ (by omega) (by omega) c1' hm1 c1'').mono ?_
    rintro e w2 ⟨rfl, rfl⟩
    go_wp2_with fail
    refine (above_no _ _ _ (by omega) (by omega) (by omega) (by omega) (by omega)).mono ?_
    rintro e w2 ⟨rfl, rfl⟩
    go_wp2_with fail
    go_quiet (fail)
    go_wp2_with fail
    go_ret3
    refine ⟨?_, q1.drewN _⟩
    rw [HT2.out]; unfold ttR
    simp only [← HE1.out, ← HE2.out]; rfl
  · have ht : Dm.ttext s.data.toList most = ([], [], er) := by rw [HT.out, if_pos c0]
    have HT2 := Lib.hid ht
    have hne : ((er : Int) != 0) = true := by simp; omega
    clear ht c0 herr
    go_enter Tryd.func79, Tryd.ntmps79
    go_wp2_with fail
    refine HC.out.mono ?_
    rintro e w1 ⟨rfl, q1⟩
    go_wp2_with fail
    go_ret3
    exact ⟨by rw [HT2.out]; rfl, q1⟩
end Go.Proofs.YtdipikdebapmlaaDoor

/- The contract of sum.Open. -/
namespace Go.Proofs.YtdipikdebapmlaaDoor
set_option maxRecDepth 100000
open Go.RowKit
set_option linter.unusedVariables false

def topen2 (s : List UInt8) (x : Nat × List UInt8 × Nat) : List UInt8 × List UInt8 × Nat :=
  if x.2.2 ≠ 0 then ([], [], x.2.2) else if (x.1 : Int) ≠ Sm.adler s then ([], [], 10) else (s, x.2.1, 0)
def topen1 (x : List UInt8 × List UInt8 × Nat) : List UInt8 × List UInt8 × Nat :=
  if x.2.2 ≠ 0 then ([], [], x.2.2) else topen2 x.1 (Dm.tnum x.2.1)
/-- what is opened: the text, what stands behind it, the errno. -/
def topen (l : List UInt8) (most : Int) : List UInt8 × List UInt8 × Nat := topen1 (Dm.ttext l most)

theorem ttext_len (l : List UInt8) (most : Int) : (Dm.ttext l most).1.length ≤ l.length ∧ (Dm.ttext l most).2.1.length ≤ l.length := by
  have h := Dm.tnum_len l
  unfold Dm.ttext
  split
  · simp
  · split
    · simp
    · split
      · simp
      · simp; omega
/-! ### What was sealed is opened -/
end Go.Proofs.YtdipikdebapmlaaDoor

/- The mathematics of package run: a row's bytes, and the row of bytes. -/
namespace Go.Proofs.YtdipikdebapmlaaDoor
set_option maxRecDepth 100000
open Prm
set_option linter.unusedVariables false
set_option linter.unusedSimpArgs false
namespace Rn

def big (p : Pr) : Bool := decide (65536 < p.key.size) || decide (65536 < p.val.size)
def may (l : List Pr) : Bool := right l && !l.any big
def ptx (s : ByteArray) : List UInt8 := Dm.num s.data.toList.length ++ s.data.toList
def one (p : Pr) : List UInt8 := ptx p.key ++ ptx p.val
def flat : List Pr → List UInt8
  | [] => []
  | p :: l => one p ++ flat l
def body (l : List Pr) : List UInt8 := Dm.num l.length ++ flat l
def bytes (l : List Pr) : List UInt8 := sld (body l)
/-- n pairs, taken off r, behind those of acc. -/
def tkp : Nat → List UInt8 → List Pr → List Pr × List UInt8 × Nat
  | 0, r, acc => (acc, r, 0)
  | n + 1, r, acc =>
    if (Dm.ttext r 65536).2.2 ≠ 0 then (acc, [], (Dm.ttext r 65536).2.2)
    else if (Dm.ttext (Dm.ttext r 65536).2.1 65536).2.2 ≠ 0 then (acc, [], (Dm.ttext (Dm.ttext r 65536).2.1 65536).2.2)
    else tkp n (Dm.ttext (Dm.ttext r 65536).2.1 65536).2.1 (acc ++ [⟨⟨(Dm.ttext r 65536).1.toArray⟩, ⟨(Dm.ttext (Dm.ttext r 65536).2.1 65536).1.toArray⟩⟩])
def tkps (s : List UInt8) : List Pr × List UInt8 × Nat :=
  if (Dm.tnum s).2.2 ≠ 0 then ([], [], (Dm.tnum s).2.2) else tkp (Dm.tnum s).1 (Dm.tnum s).2.1 []
def tk2 (x : List Pr × List UInt8 × Nat) : List Pr × Nat := if x.2.2 ≠ 0 ∨ x.2.1 ≠ [] ∨ may x.1 = false then ([], 3) else (x.1, 0)
def tk1 (x : List UInt8 × List UInt8 × Nat) : List Pr × Nat := if x.2.2 ≠ 0 ∨ x.2.1 ≠ [] then ([], 3) else tk2 (tkps x.1)
/-- the row of bytes, and the errno. -/
def take (s : List UInt8) (most : Int) : List Pr × Nat := tk1 (topen s most)

theorem size_data (s : ByteArray) : s.data.toList.length = s.size := by simp
theorem mk_data (s : ByteArray) : (⟨s.data.toList.toArray⟩ : ByteArray) = s := by simp

end Rn
end Go.Proofs.YtdipikdebapmlaaDoor

/- The mathematics of package batch: which batches may be, their bytes, the batch of bytes, what a batch makes of a state, a state as pairs. -/
namespace Go.Proofs.YtdipikdebapmlaaDoor
set_option maxRecDepth 100000
open Prm
set_option linter.unusedVariables false
set_option linter.unusedSimpArgs false
namespace Bm

structure Bt where
  kind : Int
  tok : ByteArray
  ws : List Wr
deriving DecidableEq
structure Sta where
  data : List Pr
  toks : List Pr
deriving DecidableEq

def wrong (w : Wr) : Bool := decide (w.key.size < 1) || decide (32 < w.key.size) || decide ((if w.del then 0 else 64) < w.val.size)
def keys (l : List Wr) : List Pr := l.map fun w => ⟨w.key, ⟨#[]⟩⟩
def rise (l : List Wr) : Bool := right (keys l)
def may (b : Bt) : Bool :=
  if b.tok.size < 1 ∨ 16 < b.tok.size then false
  else if b.kind = 1 then decide (b.ws.length ≤ 24) && rise b.ws && !b.ws.any wrong
  else if b.kind = 2 then decide (b.ws.length = 0)
  else false

theorem wrong_not {w : Wr} (h : wrong w = false) : 1 ≤ w.key.size ∧ w.key.size ≤ 32 ∧ w.val.size ≤ 64 ∧ (w.del = true → w.val.size = 0) := by
  unfold wrong at h
  simp only [Bool.or_eq_false_iff, decide_eq_false_iff_not] at h
  obtain ⟨⟨a, b⟩, c⟩ := h
  refine ⟨by omega, by omega, ?_, fun hd => ?_⟩
  · split at c <;> omega
  · rw [if_pos hd] at c; omega

/-- bytes. -/
def del (w : Wr) : Nat := if w.del then 1 else 0
def one (w : Wr) : List UInt8 := Dm.num (del w) ++ Rn.ptx w.key ++ Rn.ptx w.val
def flat : List Wr → List UInt8
  | [] => []
  | w :: l => one w ++ flat l
def head (b : Bt) : List UInt8 := Dm.num b.kind.toNat ++ Rn.ptx b.tok ++ Dm.num b.ws.length
def bytes (b : Bt) : List UInt8 := head b ++ flat b.ws
theorem ptx_len (s : ByteArray) (h : s.size ≤ 1000) : (Rn.ptx s).length ≤ 21 + s.size := by
  unfold Rn.ptx
  rw [List.length_append, Rn.size_data]
  have := Dm.num_length s.size (by omega)
  omega
theorem one_len (w : Wr) (h : wrong w = false) : (one w).length ≤ 159 := by
  obtain ⟨a, b, c, _⟩ := wrong_not h
  have h1 := ptx_len w.key (by omega)
  have h2 := ptx_len w.val (by omega)
  have h3 := Dm.num_length (del w) (by unfold del; split <;> omega)
  unfold one
  rw [List.length_append, List.length_append]
  omega
theorem flat_len : ∀ (l : List Wr), (∀ w ∈ l, wrong w = false) → (flat l).length ≤ l.length * 159
  | [], _ => by simp [flat]
  | w :: l, h => by
    have h1 := one_len w (h w (by simp))
    have h2 := flat_len l fun q hq => h q (by simp [hq])
    simp only [flat, List.length_append, List.length_cons, Nat.add_mul]
    omega
/-- what is taken: a number, a text, a write, writes, a batch; what is left, and whether all was right. -/
abbrev Hs := List UInt8 × Bool
def tkN (most : Nat) (x : Hs) : Nat × Hs := if (Dm.tnum x.1).2.2 ≠ 0 ∨ most < (Dm.tnum x.1).1 then (0, (Dm.tnum x.1).2.1, false) else ((Dm.tnum x.1).1, (Dm.tnum x.1).2.1, x.2)
def tkT (most : Int) (x : Hs) : List UInt8 × Hs := ((Dm.ttext x.1 most).1, (Dm.ttext x.1 most).2.1, x.2 && decide ((Dm.ttext x.1 most).2.2 = 0))
def tkW (x : Hs) : Wr × Hs :=
  (⟨⟨(tkT 32 (tkN 1 x).2).1.toArray⟩, ⟨(tkT 64 (tkT 32 (tkN 1 x).2).2).1.toArray⟩, decide ((tkN 1 x).1 = 1)⟩, (tkT 64 (tkT 32 (tkN 1 x).2).2).2)
def tkWs : Nat → List Wr → Hs → List Wr × Hs
  | 0, acc, x => (acc, x)
  | n + 1, acc, x => tkWs n (acc ++ [(tkW x).1]) (tkW x).2
def tkH (x : Hs) : Nat × List UInt8 × Nat × Hs := ((tkN 2 x).1, (tkT 16 (tkN 2 x).2).1, (tkN 24 (tkT 16 (tkN 2 x).2).2).1, (tkN 24 (tkT 16 (tkN 2 x).2).2).2)
def tkB (x : Hs) : Bt × Hs :=
  (⟨((tkH x).1 : Nat), ⟨(tkH x).2.1.toArray⟩, (tkWs (tkH x).2.2.1 [] (tkH x).2.2.2).1⟩, (tkWs (tkH x).2.2.1 [] (tkH x).2.2.2).2)
def fin (x : Bt × Hs) : Bt × Nat := if x.2.2 = true ∧ x.2.1 = [] ∧ may x.1 = true then (x.1, 0) else (⟨0, ⟨#[]⟩, []⟩, 3)
/-- the batch of bytes, and the errno. -/
def take (s : List UInt8) : Bt × Nat := fin (tkB (s, true))

/-- bytes behind all make no odds. -/
theorem figs_more (l m : List UInt8) (h : Dm.rest l ≠ []) : Dm.figs (l ++ m) = Dm.figs l ∧ Dm.rest (l ++ m) = Dm.rest l ++ m := by
  have h1 := Dm.figs_rest l
  have hd : ∃ c r, Dm.rest l = c :: r ∧ Dm.isD c = false := by
    cases hr : Dm.rest l with
    | nil => exact absurd hr h
    | cons c r =>
      refine ⟨c, r, rfl, ?_⟩
      have := List.head?_dropWhile_not Dm.isD l
      unfold Dm.rest at hr
      rw [hr] at this
      simpa using this
  obtain ⟨c, r, hr, hc⟩ := hd
  have e : l ++ m = Dm.figs l ++ (c :: (r ++ m)) := by rw [← List.cons_append, ← hr, ← List.append_assoc, h1]
  have e1 : Dm.figs (l ++ m) = Dm.figs l := by
    rw [e]; show List.takeWhile _ _ = _
    rw [List.takeWhile_append_of_pos (Dm.figs_all l), List.takeWhile_cons, hc]; simp
  refine ⟨e1, ?_⟩
  have h2 := Dm.figs_rest (l ++ m)
  rw [e1, e] at h2
  have := List.append_cancel_left h2
  rw [← e] at this
  rw [this, hr]; rfl
theorem head_app {l m : List UInt8} (h : l ≠ []) : (l ++ m).head? = l.head? := by
  cases l with
  | nil => exact absurd rfl h
  | cons a l => rfl
theorem tnum_more (l m : List UInt8) (h : (Dm.tnum l).2.2 = 0) : Dm.tnum (l ++ m) = ((Dm.tnum l).1, (Dm.tnum l).2.1 ++ m, 0) := by
  unfold Dm.tnum at h ⊢
  by_cases h1 : Dm.bad l = true
  · rw [if_pos h1] at h; simp at h
  · rw [if_neg h1] at h ⊢
    by_cases h2 : Dm.rest l = []
    · rw [if_pos h2] at h; simp at h
    · rw [if_neg h2] at h ⊢
      by_cases h3 : (Dm.rest l).head? ≠ some 59 ∨ Dm.figs l = []
      · rw [if_pos h3] at h; simp at h
      · rw [if_neg h3]
        obtain ⟨e1, e2⟩ := figs_more l m h2
        have hl : l ≠ [] := by rintro rfl; exact h2 rfl
        have eb : Dm.bad (l ++ m) = Dm.bad l := by
          unfold Dm.bad
          rw [e1, head_app hl]
        rw [eb, if_neg h1, e1, e2, if_neg (by simp [h2]), if_neg]
        · rw [List.tail_append_of_ne_nil h2]
        · rw [head_app h2]; exact h3
theorem ttext_more (l m : List UInt8) (most : Int) (h : (Dm.ttext l most).2.2 = 0) : Dm.ttext (l ++ m) most = ((Dm.ttext l most).1, (Dm.ttext l most).2.1 ++ m, 0) := by
  unfold Dm.ttext at h ⊢
  by_cases h1 : (Dm.tnum l).2.2 ≠ 0
  · rw [if_pos h1] at h; exact absurd h h1
  · have h1' : (Dm.tnum l).2.2 = 0 := by simpa using h1
    have e := tnum_more l m h1'
    rw [if_neg h1] at h ⊢
    rw [e]
    simp only [ne_eq, not_true_eq_false, if_false] at h ⊢
    split at h
    · simp at h
    · rename_i h2
      split at h
      · simp at h
      · rename_i h3
        rw [if_neg h2, if_neg (by rw [List.length_append]; omega), if_neg h2, if_neg h3]
        simp only [List.take_append_of_le_length (Nat.le_of_not_lt h3), List.drop_append_of_le_length (Nat.le_of_not_lt h3)]
/-- what a batch makes of a state. -/
def word (k : Int) : ByteArray := if k = 1 then ⟨#[99]⟩ else ⟨#[103]⟩
/-- a state as pairs, and the state of pairs. -/
def mk1 (m : UInt8) (p : Pr) : Pr := ⟨⟨([m] ++ p.key.data.toList).toArray⟩, p.val⟩
def marked (m : UInt8) (l : List Pr) : List Pr := l.map (mk1 m)
def pairs (s : Sta) : List Pr := marked 100 s.data ++ marked 116 s.toks
def isM (m : UInt8) (k : ByteArray) : Bool := decide (k.data.toList.head? = some m)
def cut (k : ByteArray) : ByteArray := ⟨k.data.toList.tail.toArray⟩
def cg (v : ByteArray) : Bool := decide (v = ⟨#[99]⟩) || decide (v = ⟨#[103]⟩)
def step (s : Sta) (p : Pr) : Option Sta :=
  if isM 100 p.key = true ∧ s.toks = [] then some ⟨s.data ++ [⟨cut p.key, p.val⟩], s.toks⟩
  else if isM 116 p.key = true ∧ cg p.val = true then some ⟨s.data, s.toks ++ [⟨cut p.key, p.val⟩]⟩
  else none
end Bm
end Go.Proofs.YtdipikdebapmlaaDoor

/- Records in bytes, in plain mathematics: what is opened is what was sealed; what is scanned; a segment's name. -/
namespace Go.Proofs.YtdipikdebapmlaaDoor
set_option maxRecDepth 100000
set_option linter.unusedVariables false

namespace Dm
theorem digit_dv (c : UInt8) (h : isD c = true) : digit (dv c) = c := by
  rw [isD_iff] at h
  unfold digit dv
  rw [show 48 + (c.toNat - 48) = c.toNat by omega]
  exact UInt8.ofNat_toNat
theorem val_pos (c : UInt8) (l : List UInt8) (hc : isD c = true) (h0 : c.toNat ≠ 48) : 0 < val (c :: l) := by
  rw [val_cons]
  have h1 : 1 ≤ dv c := by rw [isD_iff] at hc; unfold dv; omega
  have h2 : 0 < 10 ^ l.length := Nat.pow_pos (by omega)
  have := Nat.mul_pos h1 h2
  omega
/-- figures without a leading nought are their number's. -/
theorem dg_val : ∀ (n : Nat) (l : List UInt8), l.length = n → l ≠ [] → (∀ c ∈ l, isD c = true) → (1 < l.length → l.head? ≠ some 48) → dg (val l) = l
  | 0, l, hl, hne, _, _ => absurd (List.length_eq_zero_iff.1 hl) hne
  | n + 1, l, hl, hne, hd, hh => by
    obtain ⟨a, c, rfl⟩ : ∃ a c, l = a ++ [c] := ⟨l.dropLast, l.getLast hne, (List.dropLast_concat_getLast hne).symm⟩
    have hc : isD c = true := hd c (by simp)
    have hdc : dv c < 10 := by rw [isD_iff] at hc; unfold dv; omega
    rw [val_snoc, dg_split, show (10 * val a + dv c) / 10 = val a by omega, show (10 * val a + dv c) % 10 = dv c by omega, digit_dv c hc]
    congr 1
    cases a with
    | nil => rfl
    | cons x r =>
      have hh' := hh (by simp)
      have hx : x ≠ 48 := by simpa using hh'
      have hx' : x.toNat ≠ 48 := fun e => hx (UInt8.toNat_inj.1 e)
      have hp := val_pos x r (hd x (by simp)) hx'
      rw [dgz_pos _ (by omega)]
      exact dg_val n (x :: r) (by simp at hl ⊢; omega) (by simp) (fun d h => hd d (List.mem_append_left _ h)) (fun _ => by simpa using hx)

theorem tnum_inv {l r : List UInt8} {v : Nat} (h : tnum l = (v, r, 0)) : l = num v ++ r ∧ v ≤ maxU := by
  unfold tnum at h
  split at h
  · simp at h
  rename_i hb
  split at h
  · simp at h
  rename_i hr
  split at h
  · simp at h
  rename_i hf
  simp only [Prod.mk.injEq, and_true] at h
  obtain ⟨h1, h2⟩ := h
  simp only [not_or, Decidable.not_not, ne_eq] at hf
  obtain ⟨hf1, hf2⟩ := hf
  simp only [bad, Bool.or_eq_true, Bool.and_eq_true, decide_eq_true_eq, not_or, not_and, beq_iff_eq] at hb
  obtain ⟨hb1, hb2⟩ := hb
  have e : figs l ++ rest l = l := figs_rest l
  have er : rest l = 59 :: r := by
    cases hq : rest l with
    | nil => exact absurd hq hr
    | cons x t =>
      rw [hq] at hf1 h2
      simp only [List.head?_cons, Option.some.injEq] at hf1
      simp only [List.tail_cons] at h2
      rw [hf1, h2]
  have ed : dg v = figs l := by
    rw [← h1]
    refine dg_val _ (figs l) rfl hf2 (figs_all l) fun hl => ?_
    have hh := hb1 hl
    intro hq
    refine hh ?_
    cases hfl : figs l with
    | nil => exact absurd hfl hf2
    | cons x t =>
      rw [hfl] at hq e
      rw [← e]
      simpa using hq
  refine ⟨?_, by omega⟩
  rw [← e, er, num, ed]; simp

theorem ttext_inv {l s r : List UInt8} {most : Int} (h : ttext l most = (s, r, 0)) : l = num s.length ++ (s ++ r) ∧ s.length ≤ maxU ∧ (s.length : Int) ≤ most := by
  unfold ttext at h
  split at h
  · rename_i h0
    simp only [Prod.mk.injEq] at h
    exact absurd h.2.2 h0
  rename_i h0
  split at h
  · simp at h
  rename_i h1
  split at h
  · simp at h
  rename_i h2
  simp only [Prod.mk.injEq, and_true] at h
  obtain ⟨e1, e2⟩ := h
  have h3 : (tnum l).2.2 = 0 := by simpa using h0
  have ht : tnum l = ((tnum l).1, (tnum l).2.1, 0) := by rw [← h3]
  obtain ⟨i1, i2⟩ := tnum_inv ht
  have hl : s.length = (tnum l).1 := by rw [← e1, List.length_take]; omega
  refine ⟨?_, by omega, by omega⟩
  rw [hl, ← e1, ← e2, List.take_append_drop]; exact i1
end Dm

/-! ### Scanning -/
def scnF : Nat → List UInt8 → List (List UInt8) × List UInt8
  | 0, l => ([], l)
  | n + 1, l => if (topen l 2048).2.2 = 0 then ((topen l 2048).1 :: (scnF n (topen l 2048).2.1).1, (scnF n (topen l 2048).2.1).2) else ([], l)
/-- the records at the beginning of bytes, and what stands behind them. -/
def scn (l : List UInt8) : List (List UInt8) × List UInt8 := scnF l.length l
def flat (rs : List (List UInt8)) : List UInt8 := (rs.map sld).flatten
/-- how many bytes were scanned. -/
def used (l : List UInt8) : Nat := l.length - (scn l).2.length
/-! ### Names -/
def segOk (seg : Int) : Prop := 1 ≤ seg ∧ seg ≤ 1000000
instance (seg : Int) : Decidable (segOk seg) := by unfold segOk; infer_instance
end Go.Proofs.YtdipikdebapmlaaDoor

/- Memory: addresses, what a slice holds, cells that are as they were; strings that are the same. -/
namespace Go.Proofs.YtdipikdebapmlaaDoor
set_option maxRecDepth 100000
open Go.RowKit
set_option linter.unusedVariables false

theorem addr_add (a : Addr) (i j : Nat) : (a.add i).add j = a.add (i + j) := by
  unfold Addr.add
  by_cases hi : i = 0 <;> by_cases hj : j = 0 <;> simp [hi, hj, Nat.add_assoc]
theorem addr_block (a : Addr) (i : Nat) : (a.add i).block = a.block := by
  unfold Addr.add; split <;> rfl

/-- The slice '.slice A n c' holds the cells xs (k of them each element), below block B. -/
def Holds (w : World) (B k : Nat) (A : Option Addr) (n : Nat) (xs : List Value) : Prop :=
  xs.length = n * k ∧ ∀ j u, xs[j]? = some u → ∃ ad, A = some ad ∧ ad.block < B ∧ w.cell? (ad.add j) = some u

theorem Holds.carry {w w' : World} {B B' k : Nat} {A : Option Addr} {n : Nat} {xs : List Value} (h : Holds w B k A n xs) (hB : B ≤ B') (hc : ∀ p : Addr, p.block < B → w'.cell? p = w.cell? p) : Holds w' B' k A n xs :=
  ⟨h.1, fun j u hu => by
    obtain ⟨ad, e, hb, hx⟩ := h.2 j u hu
    exact ⟨ad, e, by omega, (hc _ (by rw [addr_block]; exact hb)).trans hx⟩⟩
theorem Holds.q {w w' : World} {k : Nat} {A : Option Addr} {n : Nat} {xs : List Value} (h : Holds w w.heap.size k A n xs) (hq : Q w w') : Holds w' w'.heap.size k A n xs :=
  h.carry hq.size fun _ hp => hq.below.cell hp
theorem Holds.none_ (w : World) (B k : Nat) (A : Option Addr) : Holds w B k A 0 [] := ⟨by simp, fun j u h => by simp at h⟩

theorem same_str (a b : ByteArray) : (a.toList == b.toList) = decide (a = b) := by
  by_cases h : a = b
  · subst h; simp
  · have : ¬ a.toList = b.toList := fun e => h (by
      have e1 : a.data.toList = b.data.toList := by simpa [ByteArray.toList_eq] using e
      exact ByteArray.ext (Array.ext' e1))
    simp [h, this]

theorem str_inj (a b : ByteArray) : (a.toList = b.toList) = (a = b) := by
  refine propext ⟨fun h => ?_, fun h => by rw [h]⟩
  have e := same_str a b
  rw [h] at e
  simpa using e

theorem box_ {W w1 : World} (q : Q W w1) {p : Addr} {v : Value} (h : W.cell? p = some v) : w1.cell? p = some v := (q.below.cell (block_lt_of_cell h)).trans h
end Go.Proofs.YtdipikdebapmlaaDoor

/- Requests as values: eleven cells, flat. -/
namespace Go.Proofs.YtdipikdebapmlaaDoor
set_option maxRecDepth 100000
open Go.RowKit
set_option linter.unusedVariables false
set_option linter.unusedSimpArgs false
namespace Wi

structure Op where
  kind : Int
  key : ByteArray
  val : ByteArray
  lo : ByteArray
  hi : ByteArray
  most : Int
deriving DecidableEq
def op0 : Op := ⟨0, ⟨#[]⟩, ⟨#[]⟩, ⟨#[]⟩, ⟨#[]⟩, 0⟩
structure Rq where
  kind : Int
  epoch : Int
  sess : Int
  seq : Int
  tok : ByteArray
  op : Op
deriving DecidableEq
def rq0 : Rq := ⟨0, 0, 0, 0, ⟨#[]⟩, op0⟩
abbrev rqL (q : Rq) : List Value := [.int .i64 q.kind, .int .i64 q.epoch, .int .i64 q.sess, .int .i64 q.seq, .string q.tok, .int .i64 q.op.kind, .string q.op.key, .string q.op.val, .string q.op.lo, .string q.op.hi, .int .i64 q.op.most]
abbrev rqV (q : Rq) : Value := .agg (rqL q).toArray
end Wi
end Go.Proofs.YtdipikdebapmlaaDoor

/- The mathematics of package wire: which requests and replies may be, their bytes, and what bytes are. -/
namespace Go.Proofs.YtdipikdebapmlaaDoor
set_option maxRecDepth 100000
open Prm
set_option linter.unusedVariables false
set_option linter.unusedSimpArgs false
namespace Wi

structure Rp where
  epoch : Int
  sess : Int
  seq : Int
  err : Int
  val : ByteArray
  found : Bool
  over : Bool
  rows : List Pr
deriving DecidableEq
def rp0 : Rp := ⟨0, 0, 0, 0, ⟨#[]⟩, false, false, []⟩

def small (n : Int) : Bool := decide (0 ≤ n) && decide (n ≤ 1073741824)
theorem small_iff {n : Int} : small n = true ↔ 0 ≤ n ∧ n ≤ 1073741824 := by unfold small; simp
def mayOp (o : Op) : Bool := decide (1 ≤ o.kind) && decide (o.kind ≤ 6) && decide (o.key.size ≤ 32) && decide (o.lo.size ≤ 32) && decide (o.hi.size ≤ 32) && decide (o.val.size ≤ 64)
theorem mayOp_iff {o : Op} : mayOp o = true ↔ 1 ≤ o.kind ∧ o.kind ≤ 6 ∧ o.key.size ≤ 32 ∧ o.lo.size ≤ 32 ∧ o.hi.size ≤ 32 ∧ o.val.size ≤ 64 := by
  unfold mayOp; simp only [Bool.and_eq_true, decide_eq_true_eq, and_assoc]
/-- may a request be? -/
def may (q : Rq) : Bool :=
  if q.kind < 1 ∨ 6 < q.kind ∨ ¬(small q.epoch = true ∧ small q.sess = true) ∨ ¬(small q.seq = true ∧ small q.op.most = true) ∨ 16 < q.tok.size then false
  else if q.kind ≠ 4 ∧ q.kind ≠ 6 ∧ 0 < q.tok.size then false
  else if q.kind ≠ 5 then decide (q.op = op0)
  else mayOp q.op
structure May (q : Rq) : Prop where
  k1 : 1 ≤ q.kind
  k2 : q.kind ≤ 6
  e : small q.epoch = true
  s : small q.sess = true
  n : small q.seq = true
  m : small q.op.most = true
  t : q.tok.size ≤ 16
  o : q.kind ≠ 5 → q.op = op0
  o5 : q.kind = 5 → mayOp q.op = true
theorem may_of {q : Rq} (h : may q = true) : May q := by
  unfold may at h
  split at h
  · cases h
  rename_i h1
  simp only [not_or, Decidable.not_not] at h1
  obtain ⟨a, b, c, d, e⟩ := h1
  split at h
  · cases h
  split at h
  · rename_i h5
    exact ⟨by omega, by omega, c.1, c.2, d.1, d.2, by omega, fun _ => by simpa using h, fun e5 => absurd e5 h5⟩
  · rename_i h5
    exact ⟨by omega, by omega, c.1, c.2, d.1, d.2, by omega, fun n => absurd n h5, fun _ => h⟩

/-! ### Bytes -/
def num (n : Int) : List UInt8 := Dm.num n.toNat
abbrev ptx (s : ByteArray) : List UInt8 := Rn.ptx s
def headQ (q : Rq) (r : List UInt8) : List UInt8 := num q.kind ++ (num q.epoch ++ (num q.sess ++ (num q.seq ++ (ptx q.tok ++ r))))
def opB (o : Op) (r : List UInt8) : List UInt8 := num o.kind ++ (ptx o.key ++ (ptx o.val ++ (ptx o.lo ++ (ptx o.hi ++ (num o.most ++ r)))))
/-- a request's bytes, and what stands behind. -/
def reqR (q : Rq) (r : List UInt8) : List UInt8 := headQ q (if q.kind = 5 then opB q.op r else r)
def req (q : Rq) : List UInt8 := reqR q []
def reqM (q : Rq) : List UInt8 × Int := if may q = true then (req q, 0) else ([], 1)
theorem reqR_app (q : Rq) (r m : List UInt8) : reqR q (r ++ m) = reqR q r ++ m := by
  unfold reqR headQ opB
  split <;> simp only [List.append_assoc]
theorem reqR_eq (q : Rq) (r : List UInt8) : reqR q r = req q ++ r := by
  have := reqR_app q [] r
  rwa [List.nil_append] at this

/-! ### What is taken -/
structure Pt where
  n : Nat
  t : List UInt8
  rest : List UInt8
  is : Bool
deriving DecidableEq
def pz : Pt := ⟨0, [], [], false⟩
def p0 (s : List UInt8) : Pt := ⟨0, [], s, true⟩
def tkn (p : Pt) : Pt := if p.is = false ∨ (Dm.tnum p.rest).2.2 ≠ 0 ∨ 1073741824 < (Dm.tnum p.rest).1 then pz else ⟨(Dm.tnum p.rest).1, [], (Dm.tnum p.rest).2.1, true⟩
def tkt (m : Int) (p : Pt) : Pt := if p.is = false ∨ (Dm.ttext p.rest m).2.2 ≠ 0 then pz else ⟨0, (Dm.ttext p.rest m).1, (Dm.ttext p.rest m).2.1, true⟩
def app (p : Pt) (m : List UInt8) : Pt := ⟨p.n, p.t, p.rest ++ m, p.is⟩

theorem tkn_was {p : Pt} (h : (tkn p).is = true) : p.is = true := by
  unfold tkn at h
  split at h
  · cases h
  · rename_i h1; cases hp : p.is with
    | true => rfl
    | false => exact absurd (.inl hp) h1
theorem tkt_was {m : Int} {p : Pt} (h : (tkt m p).is = true) : p.is = true := by
  unfold tkt at h
  split at h
  · cases h
  · rename_i h1; cases hp : p.is with
    | true => rfl
    | false => exact absurd (.inl hp) h1
theorem tkt_no {m : Int} {p : Pt} (h : p.is = false) : tkt m p = pz := by unfold tkt; rw [if_pos (.inl h)]
theorem tkn_inv {p : Pt} (h : (tkn p).is = true) : p.rest = Dm.num (tkn p).n ++ (tkn p).rest ∧ (tkn p).n ≤ 1073741824 ∧ (tkn p).t = [] := by
  unfold tkn at h ⊢
  split at h
  · cases h
  · rename_i h1
    rw [if_neg h1]
    simp only [not_or, Decidable.not_not, ne_eq] at h1
    obtain ⟨_, h2, h3⟩ := h1
    have := Dm.tnum_inv (l := p.rest) (r := (Dm.tnum p.rest).2.1) (v := (Dm.tnum p.rest).1) (by rw [← h2])
    exact ⟨this.1, by simp only; omega, rfl⟩
theorem tkt_inv {m : Int} {p : Pt} (h : (tkt m p).is = true) : p.rest = Dm.num (tkt m p).t.length ++ ((tkt m p).t ++ (tkt m p).rest) ∧ ((tkt m p).t.length : Int) ≤ m ∧ (tkt m p).n = 0 := by
  unfold tkt at h ⊢
  split at h
  · cases h
  · rename_i h1
    rw [if_neg h1]
    simp only [not_or, Decidable.not_not, ne_eq] at h1
    obtain ⟨_, h2⟩ := h1
    have := Dm.ttext_inv (l := p.rest) (r := (Dm.ttext p.rest m).2.1) (s := (Dm.ttext p.rest m).1) (most := m) (by rw [← h2])
    exact ⟨this.1, this.2.2, rfl⟩
theorem tkn_num {a v : Nat} {b : List UInt8} (r : List UInt8) (h : v ≤ 1073741824) : tkn ⟨a, b, Dm.num v ++ r, true⟩ = ⟨v, [], r, true⟩ := by
  unfold tkn
  rw [Dm.tnum_num v r (by unfold Dm.maxU; omega)]
  rw [if_neg (by simp; omega)]
theorem tkn_numI {a : Nat} {b : List UInt8} {v : Int} (r : List UInt8) (h : small v = true) : tkn ⟨a, b, num v ++ r, true⟩ = ⟨v.toNat, [], r, true⟩ := by
  rw [small_iff] at h
  exact tkn_num r (by omega)
theorem tkt_ptx {a : Nat} {b : List UInt8} {s : ByteArray} {m : Int} (r : List UInt8) (h : (s.size : Int) ≤ m) (hm : m ≤ 1000) : tkt m ⟨a, b, ptx s ++ r, true⟩ = ⟨0, s.data.toList, r, true⟩ := by
  unfold tkt ptx Rn.ptx
  simp only [List.append_assoc]
  rw [Dm.ttext_text _ r m (by rw [Rn.size_data]; unfold Dm.maxU; omega) (by rw [Rn.size_data]; exact h)]
  simp
theorem tkn_more {p : Pt} (m : List UInt8) (h : (tkn p).is = true) : tkn (app p m) = app (tkn p) m := by
  have hp := tkn_was h
  unfold tkn at h ⊢
  split at h
  · cases h
  · rename_i h1
    rw [if_neg h1]
    simp only [not_or, Decidable.not_not, ne_eq] at h1
    have e := Bm.tnum_more p.rest m h1.2.1
    show (if (app p m).is = false ∨ (Dm.tnum (p.rest ++ m)).2.2 ≠ 0 ∨ 1073741824 < (Dm.tnum (p.rest ++ m)).1 then pz else _) = _
    rw [if_neg]
    · show (⟨(Dm.tnum (p.rest ++ m)).1, [], (Dm.tnum (p.rest ++ m)).2.1, true⟩ : Pt) = _
      rw [e]; rfl
    · rw [e]
      simp only [not_or, app, hp, ne_eq, not_true_eq_false, not_false_eq_true, true_and]
      exact ⟨by simp, h1.2.2⟩
theorem tkt_more {n : Int} {p : Pt} (m : List UInt8) (h : (tkt n p).is = true) : tkt n (app p m) = app (tkt n p) m := by
  have hp := tkt_was h
  unfold tkt at h ⊢
  split at h
  · cases h
  · rename_i h1
    rw [if_neg h1]
    simp only [not_or, Decidable.not_not, ne_eq] at h1
    have e := Bm.ttext_more p.rest m n h1.2
    show (if (app p m).is = false ∨ (Dm.ttext (p.rest ++ m) n).2.2 ≠ 0 then pz else (⟨0, (Dm.ttext (p.rest ++ m) n).1, (Dm.ttext (p.rest ++ m) n).2.1, true⟩ : Pt)) = _
    rw [e]
    rw [if_neg]
    · rfl
    · simp only [not_or, app, hp, ne_eq, not_true_eq_false, not_false_eq_true, and_true]
      simp

/-! ### Requests -/
def ba (l : List UInt8) : ByteArray := ⟨l.toArray⟩
theorem ba_size (l : List UInt8) : (ba l).size = l.length := by unfold ba; simp [ByteArray.size]
theorem ba_data (l : List UInt8) : (ba l).data.toList = l := by unfold ba; simp
theorem ba_of (s : ByteArray) : ba s.data.toList = s := Rn.mk_data s
theorem ptx_ba (l : List UInt8) : ptx (ba l) = Dm.num l.length ++ l := by unfold ptx Rn.ptx; rw [ba_data]
def q1 (s : List UInt8) : Pt := tkn (p0 s)
def q2 (s : List UInt8) : Pt := tkn (q1 s)
def q3 (s : List UInt8) : Pt := tkn (q2 s)
def q4 (s : List UInt8) : Pt := tkn (q3 s)
def q5 (s : List UInt8) : Pt := tkt 16 (q4 s)
def o1 (p : Pt) : Pt := tkn p
def o2 (p : Pt) : Pt := tkt 32 (o1 p)
def o3 (p : Pt) : Pt := tkt 64 (o2 p)
def o4 (p : Pt) : Pt := tkt 32 (o3 p)
def o5 (p : Pt) : Pt := tkt 32 (o4 p)
def o6 (p : Pt) : Pt := tkn (o5 p)
def opOf (p : Pt) : Op := ⟨((o1 p).n : Int), ba (o2 p).t, ba (o3 p).t, ba (o4 p).t, ba (o5 p).t, ((o6 p).n : Int)⟩
/-- the request that bytes begin with, and where it ends. -/
def qOf (s : List UInt8) : Rq := ⟨((q1 s).n : Int), ((q2 s).n : Int), ((q3 s).n : Int), ((q4 s).n : Int), ba (q5 s).t, if (q1 s).n = 5 then opOf (q5 s) else op0⟩
def lastQ (s : List UInt8) : Pt := if (q1 s).n = 5 then o6 (q5 s) else q5 s
def takeQ (s : List UInt8) : Rq × Int :=
  if 2048 < s.length then (rq0, 4) else if (lastQ s).is = false ∨ (lastQ s).rest ≠ [] ∨ may (qOf s) = false then (rq0, 3) else (qOf s, 0)

theorem ops_of {o : Op} (h : mayOp o = true) (hm : small o.most = true) (a : Nat) (b r : List UInt8) : opOf ⟨a, b, opB o r, true⟩ = o ∧ o6 ⟨a, b, opB o r, true⟩ = ⟨o.most.toNat, [], r, true⟩ := by
  obtain ⟨h1, h2, h3, h4, h5, h6⟩ := mayOp_iff.1 h
  have hk : small o.kind = true := small_iff.2 (by omega)
  have e1 : o1 ⟨a, b, opB o r, true⟩ = ⟨o.kind.toNat, [], ptx o.key ++ (ptx o.val ++ (ptx o.lo ++ (ptx o.hi ++ (num o.most ++ r)))), true⟩ := tkn_numI _ hk
  have e2 : o2 ⟨a, b, opB o r, true⟩ = ⟨0, o.key.data.toList, ptx o.val ++ (ptx o.lo ++ (ptx o.hi ++ (num o.most ++ r))), true⟩ := by unfold o2; rw [e1]; exact tkt_ptx _ (by omega) (by omega)
  have e3 : o3 ⟨a, b, opB o r, true⟩ = ⟨0, o.val.data.toList, ptx o.lo ++ (ptx o.hi ++ (num o.most ++ r)), true⟩ := by unfold o3; rw [e2]; exact tkt_ptx _ (by omega) (by omega)
  have e4 : o4 ⟨a, b, opB o r, true⟩ = ⟨0, o.lo.data.toList, ptx o.hi ++ (num o.most ++ r), true⟩ := by unfold o4; rw [e3]; exact tkt_ptx _ (by omega) (by omega)
  have e5 : o5 ⟨a, b, opB o r, true⟩ = ⟨0, o.hi.data.toList, num o.most ++ r, true⟩ := by unfold o5; rw [e4]; exact tkt_ptx _ (by omega) (by omega)
  have e6 : o6 ⟨a, b, opB o r, true⟩ = ⟨o.most.toNat, [], r, true⟩ := by unfold o6; rw [e5]; exact tkn_numI _ hm
  refine ⟨?_, e6⟩
  unfold opOf
  rw [e1, e2, e3, e4, e5, e6]
  simp only [ba_of]
  rw [small_iff] at hm
  have e7 : (o.kind.toNat : Int) = o.kind := by omega
  have e8 : (o.most.toNat : Int) = o.most := by omega
  rw [e7, e8]
theorem take_reqR {q : Rq} (h : May q) (r : List UInt8) : qOf (reqR q r) = q ∧ (lastQ (reqR q r)).is = true ∧ (lastQ (reqR q r)).rest = r := by
  have hk1 := h.k1
  have hk2 := h.k2
  have hk : small q.kind = true := small_iff.2 (by omega)
  generalize hR : (if q.kind = 5 then opB q.op r else r) = R
  have e1 : q1 (reqR q r) = ⟨q.kind.toNat, [], num q.epoch ++ (num q.sess ++ (num q.seq ++ (ptx q.tok ++ R))), true⟩ := by unfold reqR; rw [hR]; exact tkn_numI _ hk
  have e2 : q2 (reqR q r) = ⟨q.epoch.toNat, [], num q.sess ++ (num q.seq ++ (ptx q.tok ++ R)), true⟩ := by unfold q2; rw [e1]; exact tkn_numI _ h.e
  have e3 : q3 (reqR q r) = ⟨q.sess.toNat, [], num q.seq ++ (ptx q.tok ++ R), true⟩ := by unfold q3; rw [e2]; exact tkn_numI _ h.s
  have e4 : q4 (reqR q r) = ⟨q.seq.toNat, [], ptx q.tok ++ R, true⟩ := by unfold q4; rw [e3]; exact tkn_numI _ h.n
  have e5 : q5 (reqR q r) = ⟨0, q.tok.data.toList, R, true⟩ := by unfold q5; rw [e4]; exact tkt_ptx _ (by have := h.t; omega) (by omega)
  have h1 := small_iff.1 h.e
  have h2 := small_iff.1 h.s
  have h3 := small_iff.1 h.n
  have f1 : (q.kind.toNat : Int) = q.kind := by omega
  have f2 : (q.epoch.toNat : Int) = q.epoch := by omega
  have f3 : (q.sess.toNat : Int) = q.sess := by omega
  have f4 : (q.seq.toNat : Int) = q.seq := by omega
  by_cases hv : q.kind = 5
  · have hn : q.kind.toNat = 5 := by omega
    rw [if_pos hv] at hR
    obtain ⟨g1, g2⟩ := ops_of (h.o5 hv) h.m 0 q.tok.data.toList r
    rw [hR] at g1 g2
    refine ⟨?_, ?_⟩
    · unfold qOf
      rw [e1, e2, e3, e4, e5]
      simp only [ba_of]
      rw [if_pos hn, g1, f1, f2, f3, f4]
    · unfold lastQ
      rw [e1, e5]
      simp only
      rw [if_pos hn, g2]
      exact ⟨rfl, rfl⟩
  · have hn : ¬ q.kind.toNat = 5 := by omega
    rw [if_neg hv] at hR
    refine ⟨?_, ?_⟩
    · unfold qOf
      rw [e1, e2, e3, e4, e5]
      simp only [ba_of]
      rw [if_neg hn, f1, f2, f3, f4, ← h.o hv]
    · unfold lastQ
      rw [e1, e5]
      simp only
      rw [if_neg hn]
      exact ⟨rfl, hR.symm⟩
/-- what bytes are taken as is written as these bytes. -/
theorem opB_inv {p : Pt} (h : (o6 p).is = true) : p.rest = opB (opOf p) (o6 p).rest := by
  have h5 := tkn_was h
  have h4 := tkt_was h5
  have h3 := tkt_was h4
  have h2 := tkt_was h3
  have h1 := tkt_was h2
  obtain ⟨i1, _⟩ := tkn_inv (p := p) h1
  obtain ⟨i2, _⟩ := tkt_inv (p := o1 p) (m := 32) h2
  obtain ⟨i3, _⟩ := tkt_inv (p := o2 p) (m := 64) h3
  obtain ⟨i4, _⟩ := tkt_inv (p := o3 p) (m := 32) h4
  obtain ⟨i5, _⟩ := tkt_inv (p := o4 p) (m := 32) h5
  obtain ⟨i6, _⟩ := tkn_inv (p := o5 p) h
  unfold opB opOf
  simp only [ptx_ba, List.append_assoc]
  show p.rest = Dm.num (tkn p).n ++ (Dm.num (tkt 32 (o1 p)).t.length ++ ((tkt 32 (o1 p)).t ++ (Dm.num (tkt 64 (o2 p)).t.length ++ ((tkt 64 (o2 p)).t ++ (Dm.num (tkt 32 (o3 p)).t.length ++ ((tkt 32 (o3 p)).t ++ (Dm.num (tkt 32 (o4 p)).t.length ++ ((tkt 32 (o4 p)).t ++ (Dm.num (tkn (o5 p)).n ++ (tkn (o5 p)).rest)))))))))
  rw [← i6]
  show p.rest = Dm.num (tkn p).n ++ (Dm.num (tkt 32 (o1 p)).t.length ++ ((tkt 32 (o1 p)).t ++ (Dm.num (tkt 64 (o2 p)).t.length ++ ((tkt 64 (o2 p)).t ++ (Dm.num (tkt 32 (o3 p)).t.length ++ ((tkt 32 (o3 p)).t ++ (Dm.num (tkt 32 (o4 p)).t.length ++ ((tkt 32 (o4 p)).t ++ (tkt 32 (o4 p)).rest))))))))
  rw [← i5]
  show p.rest = Dm.num (tkn p).n ++ (Dm.num (tkt 32 (o1 p)).t.length ++ ((tkt 32 (o1 p)).t ++ (Dm.num (tkt 64 (o2 p)).t.length ++ ((tkt 64 (o2 p)).t ++ (Dm.num (tkt 32 (o3 p)).t.length ++ ((tkt 32 (o3 p)).t ++ (tkt 32 (o3 p)).rest))))))
  rw [← i4]
  show p.rest = Dm.num (tkn p).n ++ (Dm.num (tkt 32 (o1 p)).t.length ++ ((tkt 32 (o1 p)).t ++ (Dm.num (tkt 64 (o2 p)).t.length ++ ((tkt 64 (o2 p)).t ++ (tkt 64 (o2 p)).rest))))
  rw [← i3]
  show p.rest = Dm.num (tkn p).n ++ (Dm.num (tkt 32 (o1 p)).t.length ++ ((tkt 32 (o1 p)).t ++ (tkt 32 (o1 p)).rest))
  rw [← i2]
  exact i1
theorem headQ_inv {s : List UInt8} (h : (q5 s).is = true) (o : Op) : s = headQ ⟨((q1 s).n : Int), ((q2 s).n : Int), ((q3 s).n : Int), ((q4 s).n : Int), ba (q5 s).t, o⟩ (q5 s).rest := by
  have h4 := tkt_was h
  have h3 := tkn_was h4
  have h2 := tkn_was h3
  have h1 := tkn_was h2
  obtain ⟨i1, _⟩ := tkn_inv (p := p0 s) h1
  obtain ⟨i2, _⟩ := tkn_inv (p := q1 s) h2
  obtain ⟨i3, _⟩ := tkn_inv (p := q2 s) h3
  obtain ⟨i4, _⟩ := tkn_inv (p := q3 s) h4
  obtain ⟨i5, _⟩ := tkt_inv (p := q4 s) (m := 16) h
  unfold headQ
  simp only [ptx_ba, List.append_assoc]
  show s = Dm.num (tkn (p0 s)).n ++ (Dm.num (tkn (q1 s)).n ++ (Dm.num (tkn (q2 s)).n ++ (Dm.num (tkn (q3 s)).n ++ (Dm.num (tkt 16 (q4 s)).t.length ++ ((tkt 16 (q4 s)).t ++ (tkt 16 (q4 s)).rest)))))
  rw [← i5]
  show s = Dm.num (tkn (p0 s)).n ++ (Dm.num (tkn (q1 s)).n ++ (Dm.num (tkn (q2 s)).n ++ (Dm.num (tkn (q3 s)).n ++ (tkn (q3 s)).rest)))
  rw [← i4]
  show s = Dm.num (tkn (p0 s)).n ++ (Dm.num (tkn (q1 s)).n ++ (Dm.num (tkn (q2 s)).n ++ (tkn (q2 s)).rest))
  rw [← i3]
  show s = Dm.num (tkn (p0 s)).n ++ (Dm.num (tkn (q1 s)).n ++ (tkn (q1 s)).rest)
  rw [← i2]
  exact i1
theorem lastQ_was {s : List UInt8} (h : (lastQ s).is = true) : (q5 s).is = true := by
  unfold lastQ at h
  split at h
  · exact tkn_was (tkt_was (tkt_was (tkt_was (tkt_was (tkn_was h)))))
  · exact h
theorem reqR_inv {s : List UInt8} (h : (lastQ s).is = true) : s = reqR (qOf s) (lastQ s).rest := by
  have h5 := lastQ_was h
  have e := headQ_inv h5 (if (q1 s).n = 5 then opOf (q5 s) else op0)
  unfold reqR
  unfold lastQ at h ⊢
  show s = headQ (qOf s) (if ((q1 s).n : Int) = 5 then opB (if (q1 s).n = 5 then opOf (q5 s) else op0) (if (q1 s).n = 5 then o6 (q5 s) else q5 s).rest else (if (q1 s).n = 5 then o6 (q5 s) else q5 s).rest)
  by_cases hv : (q1 s).n = 5
  · rw [if_pos hv] at h
    rw [if_pos (by omega), if_pos hv, if_pos hv, ← opB_inv h]
    exact e
  · rw [if_neg (by omega), if_neg hv]
    exact e
theorem takeQ_req {q : Rq} (h : may q = true) (hl : (req q).length ≤ 2048) : takeQ (req q) = (q, 0) := by
  obtain ⟨a, b, c⟩ := take_reqR (may_of h) []
  unfold takeQ
  rw [if_neg (by omega)]
  unfold req
  rw [a, b, c, if_neg]
  simp [h]
theorem takeQ_ok {s : List UInt8} (h : (takeQ s).2 = 0) : may (takeQ s).1 = true ∧ req (takeQ s).1 = s := by
  unfold takeQ at h ⊢
  split at h
  · simp at h
  rename_i h1
  split at h
  · simp at h
  rename_i h2
  rw [if_neg h1, if_neg h2]
  simp only [not_or, Bool.not_eq_false, Decidable.not_not, ne_eq] at h2
  obtain ⟨a, b, c⟩ := h2
  refine ⟨c, ?_⟩
  have := reqR_inv a
  rw [b] at this
  exact this.symm
theorem takeQ_err (s : List UInt8) : (takeQ s).2 = 0 ∨ takeQ s = (rq0, 3) ∨ takeQ s = (rq0, 4) := by
  unfold takeQ
  split
  · exact .inr (.inr rfl)
  · split
    · exact .inr (.inl rfl)
    · exact .inl rfl
theorem takeQ_more {q : Rq} (c : UInt8) (h : may q = true) (hl : (req q).length < 2048) : takeQ (req q ++ [c]) = (rq0, 3) := by
  obtain ⟨a, b, e⟩ := take_reqR (may_of h) [c]
  unfold takeQ
  rw [if_neg (by simp; omega), ← reqR_eq, a, b, e, if_pos]
  right; left; simp
theorem app_more {p : Pt} (m : List UInt8) (h : (o6 p).is = true) : opOf (app p m) = opOf p ∧ o6 (app p m) = app (o6 p) m := by
  have h5 := tkn_was h
  have h4 := tkt_was h5
  have h3 := tkt_was h4
  have h2 := tkt_was h3
  have h1 := tkt_was h2
  have e1 : o1 (app p m) = app (o1 p) m := tkn_more m h1
  have e2 : o2 (app p m) = app (o2 p) m := by unfold o2; rw [e1]; exact tkt_more m h2
  have e3 : o3 (app p m) = app (o3 p) m := by unfold o3; rw [e2]; exact tkt_more m h3
  have e4 : o4 (app p m) = app (o4 p) m := by unfold o4; rw [e3]; exact tkt_more m h4
  have e5 : o5 (app p m) = app (o5 p) m := by unfold o5; rw [e4]; exact tkt_more m h5
  have e6 : o6 (app p m) = app (o6 p) m := by unfold o6; rw [e5]; exact tkn_more m h
  exact ⟨by unfold opOf; rw [e1, e2, e3, e4, e5, e6]; rfl, e6⟩
theorem lastQ_more {s : List UInt8} (m : List UInt8) (h : (lastQ s).is = true) : qOf (s ++ m) = qOf s ∧ lastQ (s ++ m) = app (lastQ s) m := by
  have h5 := lastQ_was h
  have h4 := tkt_was h5
  have h3 := tkn_was h4
  have h2 := tkn_was h3
  have h1 := tkn_was h2
  have e1 : q1 (s ++ m) = app (q1 s) m := tkn_more (p := p0 s) m h1
  have e2 : q2 (s ++ m) = app (q2 s) m := by unfold q2; rw [e1]; exact tkn_more m h2
  have e3 : q3 (s ++ m) = app (q3 s) m := by unfold q3; rw [e2]; exact tkn_more m h3
  have e4 : q4 (s ++ m) = app (q4 s) m := by unfold q4; rw [e3]; exact tkn_more m h4
  have e5 : q5 (s ++ m) = app (q5 s) m := by unfold q5; rw [e4]; exact tkt_more m h5
  have en : (app (q1 s) m).n = (q1 s).n := rfl
  unfold lastQ at h
  by_cases hv : (q1 s).n = 5
  · rw [if_pos hv] at h
    obtain ⟨f1, f2⟩ := app_more m h
    constructor
    · unfold qOf
      rw [e1, e2, e3, e4, e5, en, if_pos hv, if_pos hv, f1]; rfl
    · unfold lastQ
      rw [e1, e5, en, if_pos hv, if_pos hv, f2]
  · constructor
    · unfold qOf
      rw [e1, e2, e3, e4, e5, en, if_neg hv, if_neg hv]; rfl
    · unfold lastQ
      rw [e1, e5, en, if_neg hv, if_neg hv]
theorem takeQ_cut {q : Rq} (h : may q = true) (hl : (req q).length ≤ 2048) {k : Nat} (hk : k < (req q).length) : takeQ ((req q).take k) = (rq0, 3) := by
  unfold takeQ
  rw [if_neg (by rw [List.length_take]; omega), if_pos]
  by_cases h1 : (lastQ ((req q).take k)).is = false
  · exact .inl h1
  by_cases h2 : (lastQ ((req q).take k)).rest ≠ []
  · exact .inr (.inl h2)
  exfalso
  simp only [Bool.not_eq_false] at h1
  simp only [ne_eq, Decidable.not_not] at h2
  obtain ⟨_, e⟩ := lastQ_more ((req q).drop k) h1
  rw [List.take_append_drop] at e
  obtain ⟨_, _, c⟩ := take_reqR (may_of h) []
  have c2 : (lastQ (req q)).rest = [] := c
  rw [e] at c2
  have c3 : (lastQ ((req q).take k)).rest ++ (req q).drop k = [] := c2
  rw [h2, List.nil_append] at c3
  have := congrArg List.length c3
  simp at this
  omega
theorem req_inj {a b : Rq} (ha : may a = true) (hb : may b = true) : req a = req b ↔ a = b := by
  constructor
  · intro h
    have h1 := (take_reqR (may_of ha) []).1
    have h2 := (take_reqR (may_of hb) []).1
    have h3 : reqR a [] = reqR b [] := h
    rw [h3, h2] at h1
    exact h1.symm
  · intro h; rw [h]
theorem num_len {n : Int} (h : small n = true) : (num n).length ≤ 21 := by
  rw [small_iff] at h
  exact Dm.num_length _ (by omega)
theorem ptx_len {s : ByteArray} (h : s.size ≤ 99) : (ptx s).length ≤ 3 + s.size := by
  unfold ptx Rn.ptx Dm.num
  have h1 := Dm.dg_length_lt 2 s.data.toList.length (by rw [Rn.size_data]; omega) (by omega)
  simp only [List.length_append, List.length_cons, List.length_nil]
  rw [Rn.size_data] at h1 ⊢
  omega
theorem num_pos (n : Int) : 0 < (num n).length := by unfold num Dm.num; simp
theorem req_len {q : Rq} (h : may q = true) : 0 < (req q).length ∧ (req q).length ≤ 1000 := by
  have H := may_of h
  have h1 := num_len H.e
  have h2 := num_len H.s
  have h3 := num_len H.n
  have h4 := num_len H.m
  have h0 : (num q.kind).length ≤ 21 := num_len (small_iff.2 (by have := H.k1; have := H.k2; omega))
  have h5 := ptx_len (s := q.tok) (by have := H.t; omega)
  have h6 := H.t
  have hp := num_pos q.kind
  unfold req reqR headQ
  split
  · rename_i hv
    obtain ⟨g1, g2, g3, g4, g5, g6⟩ := mayOp_iff.1 (H.o5 hv)
    have l0 : (num q.op.kind).length ≤ 21 := num_len (small_iff.2 (by omega))
    have l1 := ptx_len (s := q.op.key) (by omega)
    have l2 := ptx_len (s := q.op.val) (by omega)
    have l3 := ptx_len (s := q.op.lo) (by omega)
    have l4 := ptx_len (s := q.op.hi) (by omega)
    unfold opB
    simp only [List.length_append, List.length_nil]
    omega
  · simp only [List.length_append, List.length_nil]
    omega

/-! ### Replies -/
def rowOk (p : Pr) : Bool := decide (p.key.size ≤ 32) && decide (p.val.size ≤ 64)
def mayP (p : Rp) : Bool :=
  if ¬(small p.epoch = true ∧ small p.sess = true) ∨ ¬(small p.seq = true ∧ right p.rows = true) ∨ p.err < 0 ∨ 16 < p.err ∨ 64 < p.val.size ∨ 16 < p.rows.length then false else p.rows.all rowOk
structure MayP (p : Rp) : Prop where
  e : small p.epoch = true
  s : small p.sess = true
  n : small p.seq = true
  r : right p.rows = true
  e0 : 0 ≤ p.err
  e1 : p.err ≤ 16
  v : p.val.size ≤ 64
  m : p.rows.length ≤ 16
  ok : ∀ x ∈ p.rows, x.key.size ≤ 32 ∧ x.val.size ≤ 64
theorem mayP_of {p : Rp} (h : mayP p = true) : MayP p := by
  unfold mayP at h
  split at h
  · cases h
  rename_i h1
  simp only [not_or, Decidable.not_not] at h1
  obtain ⟨a, b, c, d, e, f⟩ := h1
  refine ⟨a.1, a.2, b.1, b.2, by omega, by omega, by omega, by omega, fun x hx => ?_⟩
  have := List.all_eq_true.1 h x hx
  unfold rowOk at this
  simpa using this
def fl (b : Bool) : Nat := if b then 1 else 0
def rowsB : List Pr → List UInt8 → List UInt8
  | [], r => r
  | x :: l, r => ptx x.key ++ (ptx x.val ++ rowsB l r)
def repR (p : Rp) (r : List UInt8) : List UInt8 := num p.epoch ++ (num p.sess ++ (num p.seq ++ (num p.err ++ (ptx p.val ++ (Dm.num (fl p.found) ++ (Dm.num (fl p.over) ++ (Dm.num p.rows.length ++ rowsB p.rows r)))))))
def rep (p : Rp) : List UInt8 := repR p []
def repM (p : Rp) : List UInt8 × Int := if mayP p = true then (rep p, 0) else ([], 1)
theorem rowsB_app : ∀ (l : List Pr) (r m : List UInt8), rowsB l (r ++ m) = rowsB l r ++ m
  | [], _, _ => rfl
  | x :: l, r, m => by simp only [rowsB, List.append_assoc]; rw [rowsB_app l r m]
theorem rowsB_snoc : ∀ (l : List Pr) (x : Pr) (r : List UInt8), rowsB (l ++ [x]) r = rowsB l (ptx x.key ++ (ptx x.val ++ r))
  | [], _, _ => rfl
  | y :: l, x, r => by simp only [List.cons_append, rowsB]; rw [rowsB_snoc l x r]
theorem repR_eq (p : Rp) (r : List UInt8) : repR p r = rep p ++ r := by
  unfold rep repR
  have := rowsB_app p.rows [] r
  rw [List.nil_append] at this
  rw [this]
  simp only [List.append_assoc]
def r1 (s : List UInt8) : Pt := tkn (p0 s)
def r2 (s : List UInt8) : Pt := tkn (r1 s)
def r3 (s : List UInt8) : Pt := tkn (r2 s)
def r4 (s : List UInt8) : Pt := tkn (r3 s)
def r5 (s : List UInt8) : Pt := tkt 64 (r4 s)
def r6 (s : List UInt8) : Pt := tkn (r5 s)
def r7 (s : List UInt8) : Pt := tkn (r6 s)
def r8 (s : List UInt8) : Pt := tkn (r7 s)
def tk1 (p : Pt) : Pr × Pt := (⟨ba (tkt 32 p).t, ba (tkt 64 (tkt 32 p)).t⟩, tkt 64 (tkt 32 p))
def tkR : Nat → List Pr → Pt → List Pr × Pt
  | 0, acc, p => (acc, p)
  | n + 1, acc, p => tkR n (acc ++ [(tk1 p).1]) (tk1 p).2
def rOf (s : List UInt8) : Rp := ⟨((r1 s).n : Int), ((r2 s).n : Int), ((r3 s).n : Int), ((r4 s).n : Int), ba (r5 s).t, decide ((r6 s).n = 1), decide ((r7 s).n = 1), (tkR (r8 s).n [] (r8 s)).1⟩
def lastR (s : List UInt8) : Pt := (tkR (r8 s).n [] (r8 s)).2
def takeP (s : List UInt8) : Rp × Int :=
  if (r8 s).is = false ∨ 1 < (r6 s).n ∨ 1 < (r7 s).n ∨ 16 < (r8 s).n ∨ 16 < (r4 s).n then (rp0, 3)
  else if (lastR s).is = false ∨ (lastR s).rest ≠ [] ∨ mayP (rOf s) = false then (rp0, 3) else (rOf s, 0)

theorem tkR_was : ∀ (n : Nat) (acc : List Pr) {p : Pt}, (tkR n acc p).2.is = true → p.is = true
  | 0, _, _, h => h
  | n + 1, acc, p, h => tkt_was (tkt_was (tkR_was n _ h))
theorem tkR_rows : ∀ (l acc : List Pr) (a : Nat) (b r : List UInt8), (∀ x ∈ l, x.key.size ≤ 32 ∧ x.val.size ≤ 64) → (tkR l.length acc ⟨a, b, rowsB l r, true⟩).1 = acc ++ l ∧ (tkR l.length acc ⟨a, b, rowsB l r, true⟩).2.is = true ∧ (tkR l.length acc ⟨a, b, rowsB l r, true⟩).2.rest = r
  | [], acc, a, b, r, _ => by simp [tkR, rowsB]
  | x :: l, acc, a, b, r, h => by
    obtain ⟨h1, h2⟩ := h x (by simp)
    have e1 : tkt 32 ⟨a, b, rowsB (x :: l) r, true⟩ = ⟨0, x.key.data.toList, ptx x.val ++ rowsB l r, true⟩ := tkt_ptx _ (by omega) (by omega)
    have e2 : tkt 64 ⟨0, x.key.data.toList, ptx x.val ++ rowsB l r, true⟩ = ⟨0, x.val.data.toList, rowsB l r, true⟩ := tkt_ptx _ (by omega) (by omega)
    rw [List.length_cons]
    have ih := tkR_rows l (acc ++ [x]) 0 x.val.data.toList r (fun y hy => h y (by simp [hy]))
    have e3 : tk1 ⟨a, b, rowsB (x :: l) r, true⟩ = (x, ⟨0, x.val.data.toList, rowsB l r, true⟩) := by
      unfold tk1
      rw [e1, e2]
      simp only [ba_of]
    unfold tkR
    rw [e3]
    simp only
    rw [List.append_assoc] at ih
    exact ih
theorem tkR_more : ∀ (n : Nat) (acc : List Pr) {p : Pt} (m : List UInt8), (tkR n acc p).2.is = true → tkR n acc (app p m) = ((tkR n acc p).1, app (tkR n acc p).2 m)
  | 0, _, _, _, _ => rfl
  | n + 1, acc, p, m, h => by
    have h2 : (tkt 64 (tkt 32 p)).is = true := tkR_was n _ h
    have h1 := tkt_was h2
    have e1 := tkt_more m h1
    have e2 : tkt 64 (tkt 32 (app p m)) = app (tkt 64 (tkt 32 p)) m := by rw [e1]; exact tkt_more m h2
    have e3 : tk1 (app p m) = ((tk1 p).1, app (tk1 p).2 m) := by
      unfold tk1
      rw [e2, e1]; rfl
    show tkR n (acc ++ [(tk1 (app p m)).1]) (tk1 (app p m)).2 = _
    rw [e3]
    exact tkR_more n _ m h
theorem fl_le (b : Bool) : fl b ≤ 1 := by unfold fl; split <;> omega
theorem fl_is (b : Bool) : decide (fl b = 1) = b := by cases b <;> rfl
structure Heads (p : Rp) (s r : List UInt8) : Prop where
  e1 : (r1 s).n = p.epoch.toNat
  e2 : (r2 s).n = p.sess.toNat
  e3 : (r3 s).n = p.seq.toNat
  e4 : (r4 s).n = p.err.toNat
  e5 : (r5 s).t = p.val.data.toList
  e6 : (r6 s).n = fl p.found
  e7 : (r7 s).n = fl p.over
  e8 : r8 s = ⟨p.rows.length, [], rowsB p.rows r, true⟩
theorem heads {p : Rp} (h : MayP p) (r : List UInt8) : Heads p (repR p r) r := by
  have he := h.e0
  have he1 := h.e1
  have hm := h.m
  have hf := fl_le p.found
  have ho := fl_le p.over
  have hv := h.v
  have hk : small p.err = true := small_iff.2 (by omega)
  have e1 : r1 (repR p r) = ⟨p.epoch.toNat, [], num p.sess ++ (num p.seq ++ (num p.err ++ (ptx p.val ++ (Dm.num (fl p.found) ++ (Dm.num (fl p.over) ++ (Dm.num p.rows.length ++ rowsB p.rows r)))))), true⟩ := tkn_numI _ h.e
  have e2 : r2 (repR p r) = ⟨p.sess.toNat, [], num p.seq ++ (num p.err ++ (ptx p.val ++ (Dm.num (fl p.found) ++ (Dm.num (fl p.over) ++ (Dm.num p.rows.length ++ rowsB p.rows r))))), true⟩ := by unfold r2; rw [e1]; exact tkn_numI _ h.s
  have e3 : r3 (repR p r) = ⟨p.seq.toNat, [], num p.err ++ (ptx p.val ++ (Dm.num (fl p.found) ++ (Dm.num (fl p.over) ++ (Dm.num p.rows.length ++ rowsB p.rows r)))), true⟩ := by unfold r3; rw [e2]; exact tkn_numI _ h.n
  have e4 : r4 (repR p r) = ⟨p.err.toNat, [], ptx p.val ++ (Dm.num (fl p.found) ++ (Dm.num (fl p.over) ++ (Dm.num p.rows.length ++ rowsB p.rows r))), true⟩ := by unfold r4; rw [e3]; exact tkn_numI _ hk
  have e5 : r5 (repR p r) = ⟨0, p.val.data.toList, Dm.num (fl p.found) ++ (Dm.num (fl p.over) ++ (Dm.num p.rows.length ++ rowsB p.rows r)), true⟩ := by unfold r5; rw [e4]; exact tkt_ptx _ (by omega) (by omega)
  have e6 : r6 (repR p r) = ⟨fl p.found, [], Dm.num (fl p.over) ++ (Dm.num p.rows.length ++ rowsB p.rows r), true⟩ := by unfold r6; rw [e5]; exact tkn_num _ (by omega)
  have e7 : r7 (repR p r) = ⟨fl p.over, [], Dm.num p.rows.length ++ rowsB p.rows r, true⟩ := by unfold r7; rw [e6]; exact tkn_num _ (by omega)
  have e8 : r8 (repR p r) = ⟨p.rows.length, [], rowsB p.rows r, true⟩ := by unfold r8; rw [e7]; exact tkn_num _ (by omega)
  exact ⟨by rw [e1], by rw [e2], by rw [e3], by rw [e4], by rw [e5], by rw [e6], by rw [e7], e8⟩
theorem take_repR {p : Rp} (h : MayP p) (r : List UInt8) : rOf (repR p r) = p ∧ (lastR (repR p r)).is = true ∧ (lastR (repR p r)).rest = r := by
  have H := heads h r
  have h1 := small_iff.1 h.e
  have h2 := small_iff.1 h.s
  have h3 := small_iff.1 h.n
  have he := h.e0
  have f1 : (p.epoch.toNat : Int) = p.epoch := by omega
  have f2 : (p.sess.toNat : Int) = p.sess := by omega
  have f3 : (p.seq.toNat : Int) = p.seq := by omega
  have f4 : (p.err.toNat : Int) = p.err := by omega
  obtain ⟨g1, g2, g3⟩ := tkR_rows p.rows [] p.rows.length [] r h.ok
  refine ⟨?_, ?_⟩
  · unfold rOf
    rw [H.e1, H.e2, H.e3, H.e4, H.e5, H.e6, H.e7, H.e8]
    simp only
    rw [g1, f1, f2, f3, f4, ba_of, fl_is, fl_is]
    rfl
  · unfold lastR
    rw [H.e8]
    exact ⟨g2, g3⟩
theorem takeP_rep {p : Rp} (h : mayP p = true) : takeP (rep p) = (p, 0) := by
  have hm := mayP_of h
  have H := heads hm []
  obtain ⟨a, b, c⟩ := take_repR hm []
  have hf := fl_le p.found
  have ho := fl_le p.over
  have h1 := hm.m
  have h2 := hm.e1
  unfold takeP rep
  rw [a, b, c, H.e4, H.e6, H.e7, H.e8, if_neg, if_neg]
  · simp [h]
  · simp only [not_or]
    exact ⟨by simp, by omega, by omega, by omega, by omega⟩
theorem takeP_more {p : Rp} (c : UInt8) (h : mayP p = true) : takeP (rep p ++ [c]) = (rp0, 3) := by
  obtain ⟨a, b, e⟩ := take_repR (mayP_of h) [c]
  rw [← repR_eq]
  unfold takeP
  split
  · rfl
  · rw [a, b, e, if_pos]
    right; left; simp
theorem lastR_was {s : List UInt8} (h : (lastR s).is = true) : (r8 s).is = true := tkR_was _ _ h
theorem lastR_more {s : List UInt8} (m : List UInt8) (h : (lastR s).is = true) : lastR (s ++ m) = app (lastR s) m := by
  have h8 := lastR_was h
  have h7 := tkn_was h8
  have h6 := tkn_was h7
  have h5 := tkn_was h6
  have h4 := tkt_was h5
  have h3 := tkn_was h4
  have h2 := tkn_was h3
  have h1 := tkn_was h2
  have e1 : r1 (s ++ m) = app (r1 s) m := tkn_more (p := p0 s) m h1
  have e2 : r2 (s ++ m) = app (r2 s) m := by unfold r2; rw [e1]; exact tkn_more m h2
  have e3 : r3 (s ++ m) = app (r3 s) m := by unfold r3; rw [e2]; exact tkn_more m h3
  have e4 : r4 (s ++ m) = app (r4 s) m := by unfold r4; rw [e3]; exact tkn_more m h4
  have e5 : r5 (s ++ m) = app (r5 s) m := by unfold r5; rw [e4]; exact tkt_more m h5
  have e6 : r6 (s ++ m) = app (r6 s) m := by unfold r6; rw [e5]; exact tkn_more m h6
  have e7 : r7 (s ++ m) = app (r7 s) m := by unfold r7; rw [e6]; exact tkn_more m h7
  have e8 : r8 (s ++ m) = app (r8 s) m := by unfold r8; rw [e7]; exact tkn_more m h8
  unfold lastR at h ⊢
  rw [e8]
  have en : (app (r8 s) m).n = (r8 s).n := rfl
  rw [en, tkR_more _ _ m h]
theorem takeP_cut {p : Rp} (h : mayP p = true) {k : Nat} (hk : k < (rep p).length) : takeP ((rep p).take k) = (rp0, 3) := by
  unfold takeP
  split
  · rfl
  rw [if_pos]
  by_cases h1 : (lastR ((rep p).take k)).is = false
  · exact .inl h1
  by_cases h2 : (lastR ((rep p).take k)).rest ≠ []
  · exact .inr (.inl h2)
  exfalso
  simp only [Bool.not_eq_false] at h1
  simp only [ne_eq, Decidable.not_not] at h2
  have e := lastR_more ((rep p).drop k) h1
  rw [List.take_append_drop] at e
  obtain ⟨_, _, c⟩ := take_repR (mayP_of h) []
  have c2 : (lastR (rep p)).rest = [] := c
  rw [e] at c2
  have c3 : (lastR ((rep p).take k)).rest ++ (rep p).drop k = [] := c2
  rw [h2, List.nil_append] at c3
  have := congrArg List.length c3
  simp at this
  omega
theorem rowsB_len : ∀ (l : List Pr), (∀ x ∈ l, x.key.size ≤ 32 ∧ x.val.size ≤ 64) → (rowsB l []).length ≤ l.length * 102
  | [], _ => by simp [rowsB]
  | x :: l, h => by
    obtain ⟨h1, h2⟩ := h x (by simp)
    have a := ptx_len (s := x.key) (by omega)
    have b := ptx_len (s := x.val) (by omega)
    have ih := rowsB_len l fun y hy => h y (by simp [hy])
    simp only [rowsB, List.length_append, List.length_cons, Nat.add_mul]
    omega
theorem rep_len {p : Rp} (h : mayP p = true) : 0 < (rep p).length ∧ (rep p).length ≤ 2048 := by
  have H := mayP_of h
  have h1 := num_len H.e
  have h2 := num_len H.s
  have h3 := num_len H.n
  have h4 : (num p.err).length ≤ 21 := num_len (small_iff.2 (by have := H.e0; have := H.e1; omega))
  have h5 := ptx_len (s := p.val) (by have := H.v; omega)
  have h6 := H.v
  have h7 := Dm.num_length (fl p.found) (by have := fl_le p.found; omega)
  have h8 := Dm.num_length (fl p.over) (by have := fl_le p.over; omega)
  have h9 := Dm.num_length p.rows.length (by have := H.m; omega)
  have hr := rowsB_len p.rows H.ok
  have hm := H.m
  have hp := num_pos p.epoch
  unfold rep repR
  simp only [List.length_append]
  omega
end Wi
end Go.Proofs.YtdipikdebapmlaaDoor
