/- Base, PairMath, TableMath, SumMath, SumWalks, Bytes, DecMath, DecNum, SumShown, DecTakeMath, DecTake, DecTakeNum, SumOpen, RunMath, BatchMath, WalMath, Mem, ReqK, WireMath, WiOwnM, OwnRows, Kind, Ints, Pair, KindRow, App, PairIns, PairDel, Table, Table2, Table3, Box, WiFun, DecRef, DecRefText, Bx2, WiPart, WiMay, Less, TableRef, TableRef2, WiMayP: merged. -/
import Derived.Test.YtdipikdebapmlaaRows
import Derived.WalkKit
import Derived.WalkSpells
import Derived.WalkLawsBesides
import Derived.ProofKit
import Derived.OpenShut
import Derived.ShutString
import Derived.Lib.Hide
import Derived.Deep.QuietTactic
import Derived.BigQuiet
import Derived.Laws.BitsLemmas
import Derived.Laws.IdiomStrings
import Derived.Laws.OwnMore
import Derived.Laws.Rows
import Derived.Deep.MidRow
import Derived.Deep.AppendLies
import Derived.Deep.Fields
import Derived.OwnWalk
import Derived.Laws.IdiomCopy
import Derived.Deep.Upon
import Derived.Lib.LazyBuf
import Derived.Maps.AppendAt
import Derived.Laws.AppendOwnNone
import Derived.Lib.AppendZerosOnto
import Derived.Deep.RegionLaw
import Derived.Lib.Overlaps
import Derived.Laws.Externs
import Derived.Deep.DeepCutAuto
import Derived.Laws.StructEq
/- The words that all contracts share: 'Q w w'': behind the call all that was there is as it was. -/
namespace Go.Proofs.Ytdipikdebapmlaa
set_option maxRecDepth 100000
open Go.RowKit

def Q (w w' : World) : Prop := Below w.heap.size w w'
theorem Q.below {w w' : World} (h : Q w w') : Below w.heap.size w w' := h
theorem Q.refl (w : World) : Q w w := Below.refl _ _
theorem Q.trans {a b c : World} (h : Q a b) (k : Q b c) : Q a c := Below.trans h (Below.mono k h.below.size)
theorem Q.drew {a w : World} (h : Q a w) : Q a w.drew := Below.drew h
theorem Q.drewN {a w : World} (h : Q a w) (n : Nat) : Q a (w.drewN n) := ⟨h.below.os, h.below.tape, h.below.output, h.below.size, h.below.block⟩
theorem Q.alloc {a w : World} (h : Q a w) (o : Obj) : Q a (w.alloc o) := Below.alloc h h.below.size o
theorem Q.setCell {a w : World} (h : Q a w) {p : Addr} (hp : a.heap.size ≤ p.block) (u : Value) : Q a (w.setCell p u) := Below.setCell h hp u
theorem Q.size {w w' : World} (h : Q w w') : w.heap.size ≤ w'.heap.size := h.below.size

theorem ret_int {k : IntKind} {a b : Int} (h : a = b) : Ending.returned (.int k a) = .returned (.int k b) := by rw [h]
theorem ret_bool {a b : Bool} (h : a = b) : Ending.returned (.bool a) = .returned (.bool b) := by rw [h]
end Go.Proofs.Ytdipikdebapmlaa

/- Pairs, writes and what writes make of pairs: plain mathematics. -/
namespace Go.Proofs.Ytdipikdebapmlaa.Prm
set_option maxRecDepth 100000
set_option linter.unusedVariables false

/-- the order of texts, by their bytes. -/
def lt (a b : ByteArray) : Bool := Op.bytesLess a.data.toList b.data.toList
theorem lt_data (a b : ByteArray) : Op.bytesLess a.toList b.toList = lt a b := by unfold lt; rw [ByteArray.toList_eq, ByteArray.toList_eq]
theorem less_eq : ∀ (x y : List UInt8), Op.bytesLess x y = decide (x < y)
  | [], y => by cases y <;> simp [Op.bytesLess]
  | a :: x, [] => by simp [Op.bytesLess]
  | a :: x, b :: y => by
    simp only [Op.bytesLess, less_eq x y, List.cons_lt_cons_iff, Bool.decide_or, Bool.decide_and]
    rfl
theorem lt_iff (a b : ByteArray) : lt a b = true ↔ a.data.toList < b.data.toList := by unfold lt; rw [less_eq]; simp
theorem lt_irrefl (a : ByteArray) : lt a a = false := by
  cases h : lt a a with
  | false => rfl
  | true => exact absurd ((lt_iff a a).1 h) (List.lt_irrefl _)
theorem lt_trans {a b c : ByteArray} (h : lt a b = true) (k : lt b c = true) : lt a c = true := (lt_iff a c).2 (List.lt_trans ((lt_iff a b).1 h) ((lt_iff b c).1 k))
theorem lt_asymm {a b : ByteArray} (h : lt a b = true) : lt b a = false := by
  cases k : lt b a with
  | false => rfl
  | true => have := lt_trans h k; rw [lt_irrefl] at this; cases this
theorem lt_tri {a b : ByteArray} (h : a ≠ b) (k : lt a b = false) : lt b a = true := by
  rcases Std.lt_trichotomy (α := List UInt8) a.data.toList b.data.toList with h1 | h1 | h1
  · rw [(lt_iff a b).2 h1] at k; cases k
  · exact absurd (ByteArray.ext (Array.ext' h1)) h
  · exact (lt_iff b a).2 h1
structure Pr where
  key : ByteArray
  val : ByteArray
deriving DecidableEq
structure Wr where
  key : ByteArray
  val : ByteArray
  del : Bool
deriving DecidableEq

/-- the place of the first one, or -1. -/
def idx {α : Type} (p : α → Bool) (l : List α) (i : Nat) : Int :=
  match l with
  | [] => -1
  | a :: l => if p a then i else idx p l (i + 1)
theorem idx_drop {α : Type} (p : α → Bool) (l : List α) {k : Nat} (hk : k < l.length) : idx p (l.drop k) k = if p l[k] then (k : Int) else idx p (l.drop (k + 1)) (k + 1) := by
  rw [List.drop_eq_getElem_cons hk]; rfl
theorem idx_end {α : Type} (p : α → Bool) (l : List α) {k : Nat} (hk : l.length ≤ k) : idx p (l.drop k) k = -1 := by rw [List.drop_of_length_le hk]; rfl
theorem idx_cases {α : Type} (p : α → Bool) : ∀ (l : List α) (i : Nat), (idx p l i = -1 ∧ ∀ a ∈ l, p a = false) ∨ ∃ k, ∃ h : k < l.length, idx p l i = ((i + k : Nat) : Int) ∧ p l[k] = true ∧ ∀ j, ∀ hj : j < l.length, j < k → p l[j] = false
  | [], i => .inl ⟨rfl, by simp⟩
  | a :: l, i => by
    by_cases h : p a = true
    · exact .inr ⟨0, by simp, by simp [idx, h], by simpa using h, fun j _ hj => by omega⟩
    · have h' : p a = false := by simpa using h
      rcases idx_cases p l (i + 1) with ⟨e, hall⟩ | ⟨k, hk, e, hp, hfirst⟩
      · refine .inl ⟨by simp [idx, h', e], fun b hb => ?_⟩
        rcases List.mem_cons.1 hb with rfl | hb
        · exact h'
        · exact hall b hb
      · refine .inr ⟨k + 1, by simpa using hk, by simp only [idx, h', e]; simp; omega, by simpa using hp, fun j hj hjk => ?_⟩
        cases j with
        | zero => simpa using h'
        | succ j => simpa using hfirst j (by simpa using hj) (by omega)

def hasK (k : ByteArray) (p : Pr) : Bool := decide (p.key = k)
/-- a key's value. -/
def find (k : ByteArray) : List Pr → ByteArray × Bool
  | [] => (⟨#[]⟩, false)
  | p :: l => if hasK k p then (p.val, true) else find k l
/-- a pair that is put: in the place of the first one of its key; else ahead of the first one above it. -/
def ins (p : Pr) : List Pr → List Pr
  | [] => [p]
  | q :: l => if lt p.key q.key then p :: q :: l else q :: ins p l
def setF (p : Pr) : List Pr → List Pr
  | [] => []
  | q :: l => if hasK p.key q then p :: l else q :: setF p l
def put (l : List Pr) (p : Pr) : List Pr := if (find p.key l).2 then setF p l else ins p l
def drop (l : List Pr) (k : ByteArray) : List Pr := l.filter fun q => !hasK k q
def act (l : List Pr) (w : Wr) : List Pr := if w.del then drop l w.key else put l ⟨w.key, w.val⟩
def apply (l : List Pr) (ws : List Wr) : List Pr := ws.foldl act l
def right : List Pr → Bool
  | [] => true
  | p :: l => (match l with | [] => true | q :: _ => lt p.key q.key) && right l

end Go.Proofs.Ytdipikdebapmlaa.Prm

/- Pairs: what the laws say of them, plain mathematics. -/
namespace Go.Proofs.Ytdipikdebapmlaa.Prm
set_option maxRecDepth 100000
set_option linter.unusedVariables false

end Go.Proofs.Ytdipikdebapmlaa.Prm

/- Plain mathematics of Adler-32: nothing of the program. -/
namespace Go.Proofs.Ytdipikdebapmlaa.Sm
set_option maxRecDepth 100000

def step (p : Int × Int) (c : UInt8) : Int × Int := ((p.1 + (c.toNat : Int)) % 65521, (p.2 + (p.1 + (c.toNat : Int))) % 65521)
def adF (p : Int × Int) (l : List UInt8) : Int × Int := l.foldl step p
def ad (l : List UInt8) : Int × Int := adF (1, 0) l
def lo (l : List UInt8) : Int := (ad l).1
def hi (l : List UInt8) : Int := (ad l).2
def adler (l : List UInt8) : Int := hi l * 65536 + lo l

/-- the sum of the bytes, and the sum of the sums. -/
def S : List UInt8 → Int
  | [] => 0
  | c :: l => (c.toNat : Int) + S l
def T : List UInt8 → Int
  | [] => 0
  | c :: l => ((l.length : Int) + 1) * (c.toNat : Int) + T l

theorem mod_of {x y : Int} (k : Int) (h : x = y + 65521 * k) : x % 65521 = y % 65521 := by
  rw [h]; exact Int.add_mul_emod_self_left _ _ _

theorem adF_closed (l : List UInt8) : ∀ a b : Int, 0 ≤ a → a < 65521 → 0 ≤ b → b < 65521 →
    (adF (a, b) l).1 = (a + S l) % 65521 ∧ (adF (a, b) l).2 = (b + (l.length : Int) * a + T l) % 65521 := by
  induction l with
  | nil => intro a b h0 h1 h2 h3; simp only [adF, List.foldl, S, T, List.length]; omega
  | cons c l ih =>
    intro a b h0 h1 h2 h3
    have e : adF (a, b) (c :: l) = adF ((a + (c.toNat : Int)) % 65521, (b + (a + (c.toNat : Int))) % 65521) l := rfl
    obtain ⟨i1, i2⟩ := ih ((a + (c.toNat : Int)) % 65521) ((b + (a + (c.toNat : Int))) % 65521) (by omega) (by omega) (by omega) (by omega)
    rw [e, i1, i2]
    refine ⟨by simp only [S]; omega, ?_⟩
    simp only [T, List.length_cons]
    have q1 : (a + (c.toNat : Int)) % 65521 = (a + (c.toNat : Int)) - 65521 * ((a + (c.toNat : Int)) / 65521) := by omega
    have q2 : (b + (a + (c.toNat : Int))) % 65521 = (b + (a + (c.toNat : Int))) - 65521 * ((b + (a + (c.toNat : Int))) / 65521) := by omega
    rw [q1, q2]
    generalize (a + (c.toNat : Int)) / 65521 = u
    generalize (b + (a + (c.toNat : Int))) / 65521 = v
    refine mod_of (-v - (l.length : Int) * u) ?_
    push_cast
    generalize (l.length : Int) = n
    generalize (c.toNat : Int) = d
    grind

theorem lo_eq (l : List UInt8) : lo l = (1 + S l) % 65521 := (adF_closed l 1 0 (by omega) (by omega) (by omega) (by omega)).1
theorem hi_eq (l : List UInt8) : hi l = ((l.length : Int) + T l) % 65521 := by
  have h := (adF_closed l 1 0 (by omega) (by omega) (by omega) (by omega)).2
  unfold hi ad; rw [h]; congr 1; omega
theorem lo_range (l : List UInt8) : 0 ≤ lo l ∧ lo l < 65521 := by rw [lo_eq]; omega
theorem hi_range (l : List UInt8) : 0 ≤ hi l ∧ hi l < 65521 := by rw [hi_eq]; omega
theorem adler_lo (l : List UInt8) : adler l % 65536 = lo l := by
  have := lo_range l; have := hi_range l; unfold adler; omega
theorem S_append (a b : List UInt8) : S (a ++ b) = S a + S b := by
  induction a with
  | nil => simp [S]
  | cons c l ih => simp only [List.cons_append, S, ih]; omega
/-- one byte changed. -/
theorem tells (x y : List UInt8) (c d : UInt8) (h : c ≠ d) : adler (x ++ d :: y) ≠ adler (x ++ c :: y) := by
  intro e
  have e1 : lo (x ++ d :: y) = lo (x ++ c :: y) := by rw [← adler_lo, e, adler_lo]
  rw [lo_eq, lo_eq, S_append, S_append] at e1
  simp only [S] at e1
  have hc := c.toNat_lt
  have hd := d.toNat_lt
  have hn : c.toNat ≠ d.toNat := fun k => h (UInt8.toNat_inj.1 k)
  omega

end Go.Proofs.Ytdipikdebapmlaa.Sm

/- Contracts of package sum's Of and of the document's own. -/
namespace Go.Proofs.Ytdipikdebapmlaa
set_option maxRecDepth 100000
open Go.RowKit

end Go.Proofs.Ytdipikdebapmlaa

/- Strings and bytes in memory. -/
namespace Go.Proofs.Ytdipikdebapmlaa
set_option maxRecDepth 100000
open Go.RowKit
set_option linter.unusedVariables false

theorem Blk.cell_new (w : World) (cs : Array Value) (t : TypeId) (i : Nat) : (w.alloc (.cells cs t)).cell? ⟨w.heap.size, i, none⟩ = cs[i]? :=
  cell_of_row (w.alloc (.cells cs t)) w.heap.size i cs t (0, 0) (heap_alloc_new w _)

theorem conv_row (W : World) (b o n cap : Nat) (l : List UInt8) (hn : l.length = n) (hc : ∀ k (h : k < l.length), W.cell? ⟨b, o + k, none⟩ = some (.int .u8 (l[k].toNat : Int))) :
    (convert 45 9 (.slice (some ⟨b, o, none⟩) n cap)).run Try.prog W = .ok (.string ⟨l.toArray⟩) W := by
  subst hn
  refine run_convert_bytes_back W 45 9 5 ⟨b, o, none⟩ cap l Try.underlying45 Try.underlying5 Try.underlying9 (fun j hj => ?_)
  have e : (⟨b, o, none⟩ : Addr).add j = ⟨b, o + j, none⟩ := by
    unfold Addr.add
    by_cases hz : j = 0
    · subst hz; rfl
    · rw [if_neg hz]
  rw [e]; exact hc j hj

theorem app_list (l : List UInt8) (s : ByteArray) : (⟨l.toArray⟩ : ByteArray) ++ s = ⟨(l ++ s.data.toList).toArray⟩ := by
  apply ByteArray.ext
  rw [ByteArray.data_append]
  simp
theorem ret_str {a b : ByteArray} (h : a = b) : Ending.returned (.string a) = .returned (.string b) := by rw [h]
end Go.Proofs.Ytdipikdebapmlaa

/- Plain mathematics of package dec: numbers and texts as bytes. Nothing of the program. -/
namespace Go.Proofs.Ytdipikdebapmlaa.Dm
set_option maxRecDepth 100000

def digit (n : Nat) : UInt8 := UInt8.ofNat (48 + n)
def dg (v : Nat) : List UInt8 := if v < 10 then [digit v] else dg (v / 10) ++ [digit (v % 10)]
def dgz (v : Nat) : List UInt8 := if v = 0 then [] else dg v
/-- a number's bytes. -/
def num (v : Nat) : List UInt8 := dg v ++ [59]

theorem digit_toNat (n : Nat) (h : n < 10) : (digit n).toNat = 48 + n := by
  unfold digit; simp only [UInt8.toNat_ofNat']; omega
theorem dg_split (v : Nat) : dg v = dgz (v / 10) ++ [digit (v % 10)] := by
  rw [dg]
  by_cases h : v < 10
  · rw [if_pos h]; unfold dgz; rw [if_pos (by omega)]
    rw [show v % 10 = v from by omega]; rfl
  · rw [if_neg h]; unfold dgz; rw [if_neg (by omega)]
theorem dgz_pos (v : Nat) (h : v ≠ 0) : dgz v = dg v := by unfold dgz; rw [if_neg h]
theorem dgz_zero : dgz 0 = [] := rfl
def isD (c : UInt8) : Bool := 48 ≤ c.toNat && c.toNat ≤ 57
def dv (c : UInt8) : Nat := c.toNat - 48
/-- what figures tell. -/
def val (l : List UInt8) : Nat := l.foldl (fun v c => 10 * v + dv c) 0

theorem dg_length_lt (j : Nat) : ∀ v, v < 10 ^ j → 1 ≤ j → (dg v).length ≤ j := by
  induction j with
  | zero => intro v h h1; omega
  | succ j ih =>
    intro v h _
    rw [dg]
    by_cases h2 : v < 10
    · rw [if_pos h2]; simp
    · rw [if_neg h2]
      rw [Nat.pow_succ] at h
      have hj : 1 ≤ j := by
        rcases Nat.eq_zero_or_pos j with e | e
        · subst e; simp at h; omega
        · exact e
      have := ih (v / 10) (by omega) hj
      simp; omega
theorem num_length (v : Nat) (h : v < 18446744073709551616) : (num v).length ≤ 21 := by
  have := dg_length_lt 20 v (by omega) (by omega)
  unfold num; simp; omega
end Go.Proofs.Ytdipikdebapmlaa.Dm

/- Contracts of package dec's Num and of the document's own. -/
namespace Go.Proofs.Ytdipikdebapmlaa
set_option maxRecDepth 100000
open Go.RowKit
set_option linter.unusedVariables false

theorem slice21 (W : World) (b j : Nat) (h0 : 1 ≤ j) (h1 : j ≤ 20) :
    (Instr.sliceAt 61 (.pointer (some ⟨b, 0, none⟩)) (some (.int .i64 ((j : Int) - 1))) none none).run Try.prog W = .ok (.slice (some ⟨b, j - 1, none⟩) (22 - j) (22 - j)) W := by
  have hl : Try.prog.arrayLen 61 = 21 := by kernel_rfl
  have he : Try.prog.elem 61 = 5 := by kernel_rfl
  have hs : (sizeOf 5).run Try.prog W = .ok 1 W := by kernel_rfl
  rw [run_sliceAt_array_l W 61 _ (by rw [hl, he]; exact Try.underlying61) .i64 _ (by omega) (by rw [hl]; omega), he, hs, hl]
  have e : ((j : Int) - 1).toNat = j - 1 := by omega
  simp only [Result.andThen, slicedAt, e]
  rw [if_neg (by omega), show 21 - (j - 1) = 22 - j from by omega]
  unfold Addr.add
  by_cases hz : (j - 1) * 1 = 0
  · rw [if_pos hz, show j - 1 = 0 from by omega]
  · rw [if_neg hz]; simp

/-- the row behind a store of one figure more. -/
theorem row_more (cs : Array Value) (j m : Nat) (t : List UInt8) (h1 : 1 ≤ j) (h2 : j ≤ 20) (h3 : cs.size = 21) (h4 : t.length = 21 - j)
    (h8 : ∀ k (h : k < t.length), cs[j + k]? = some (.int .u8 (t[k].toNat : Int))) :
    ∀ k (h : k < (Dm.digit (m % 10) :: t).length), (cs.setIfInBounds (j - 1) (.int .u8 (48 + (m : Int) % 10)))[j - 1 + k]? = some (.int .u8 ((Dm.digit (m % 10) :: t)[k].toNat : Int)) := by
  intro k h
  cases k with
  | zero =>
    have e : ((Dm.digit (m % 10)).toNat : Int) = 48 + (m : Int) % 10 := by rw [Dm.digit_toNat _ (by omega)]; omega
    simp only [Nat.add_zero, List.getElem_cons_zero, e]
    rw [Array.getElem?_setIfInBounds_self_of_lt (by omega)]
  | succ k =>
    simp only [List.getElem_cons_succ]
    rw [Array.getElem?_setIfInBounds_ne (by omega), ← h8 k (by simpa using h)]
    congr 1; omega

set_option maxHeartbeats 400000 in
theorem num_nat (v : Nat) (w : World) (h0 : v < 18446744073709551616) :
    Calls Try.prog 16 #[.int .u64 v] w fun e w' => e = .returned (.string ⟨(Dm.num v).toArray⟩) ∧ Q w w' := by
  go_enter Try.func16, Try.ntmps16
  go_wp2
  go_loopw [0, 4] (fun u i wr => ∃ (m j : Nat) (t : List UInt8) (cs : Array Value), u = .int .u64 m ∧ i = .int .i64 j ∧ w.alloc (.cells cs 61) = wr ∧ 1 ≤ j ∧ j ≤ 20 ∧ cs.size = 21 ∧ t.length = 21 - j ∧ m < 10 ^ j ∧ m < 18446744073709551616 ∧ Dm.num v = Dm.dg m ++ t ∧ ∀ k (h : k < t.length), cs[j + k]? = some (.int .u8 (t[k].toNat : Int))) (fun u _ _ => (intOf u).toNat)
  case atStart => exact ⟨v, 20, [59], _, rfl, rfl, rfl, by omega, by omega, rfl, rfl, by omega, h0, rfl, by intro k h; simp at h; subst h; rfl⟩
  case round =>
    obtain ⟨m, j, t, cs, rfl, rfl, rfl, h1, h2, h3, h4, h5, h6, h7, h8⟩ := hrel
    have hr := row_more cs j m t h1 h2 h3 h4 h8
    obtain ⟨x, hx⟩ : ∃ x, cs[j - 1]? = some x := ⟨_, Array.getElem?_eq_getElem (by omega)⟩
    have hsl := fun W : World => slice21 W w.heap.size j h1 h2
    have hsp := Dm.dg_split m
    have H3 := Lib.hid h3
    have H4 := Lib.hid h4
    have H5 := Lib.hid h5
    have H7 := Lib.hid h7
    have HR := Lib.hid hr
    have HS := Lib.hid hsp
    clear h3 h4 h5 h7 h8 hr hsp
    by_cases hz : m / 10 = 0
    · have hb : ((m : Int) / 10 == 0) = true := by simp; omega
      have hcv := conv_row (w.alloc (.cells (cs.setIfInBounds (j - 1) (.int .u8 (48 + (m : Int) % 10))) 61)) w.heap.size (j - 1) (22 - j) (22 - j) (Dm.digit (m % 10) :: t) (by simp [H4.out]; omega) (by
        intro k h
        rw [← HR.out k h]
        exact Blk.cell_new _ _ _ _)
      have hfin : Dm.num v = Dm.digit (m % 10) :: t := by rw [H7.out, HS.out, hz]; simp [Dm.dgz_zero]
      rw [← hfin] at hcv
      have HF := Lib.hid hfin
      have HZ := Lib.hid hz
      clear hfin hz
      go_wp2
      go_ret
      exact ⟨rfl, (Q.refl _).alloc _⟩
    · have hb : ((m : Int) / 10 == 0) = false := by simp; omega
      have HZ := Lib.hid hz
      clear hz
      go_wp2
      have h5 := H5.out
      have hz := HZ.out
      obtain ⟨j, rfl⟩ : ∃ j', j = j' + 1 := ⟨j - 1, by omega⟩
      rw [Nat.pow_succ] at h5
      have hj : 1 ≤ j := by
        rcases Nat.eq_zero_or_pos j with e | e
        · subst e; simp at h5; omega
        · exact e
      go_roundw
      case rel => exact ⟨m / 10, j, Dm.digit (m % 10) :: t, _, by go_num, by go_num, rfl, hj, by omega, by simpa using H3.out, by simp [H4.out]; omega, by omega, by omega, by rw [H7.out, HS.out, Dm.dgz_pos _ hz]; simp, HR.out⟩
      case measure => simp [intOf]; omega

/-- as the walks ask for them. -/
theorem num_any (a : Int) (w : World) (h0 : 0 ≤ a) (h1 : a < 18446744073709551616) :
    Calls Try.prog 16 #[.int .u64 a] w fun e w' => e = .returned (.string ⟨(Dm.num a.toNat).toArray⟩) ∧ Q w w' := by
  obtain ⟨n, rfl⟩ := Int.eq_ofNat_of_zero_le h0
  exact num_nat n w (by omega)
set_option maxHeartbeats 400000 in
theorem text_any (s : ByteArray) (w : World) (hs : s.size ≤ 4611686018427387904) :
    Calls Try.prog 18 #[.string s] w fun e w' => e = .returned (.string ⟨(Dm.num s.size ++ s.data.toList).toArray⟩) ∧ Q w w' := by
  have hn := Dm.num_length s.size (by omega)
  go_enter Try.func18, Try.ntmps18
  go_wp2_with fail
  refine (num_any _ _ (by omega) (by omega)).mono ?_
  rintro e w1 ⟨rfl, q1⟩
  go_wp2_with fail
  go_ret
  exact ⟨ret_str (app_list _ _), q1⟩

end Go.Proofs.Ytdipikdebapmlaa

/- Contracts of Seal, the document's own, and the examples. -/
namespace Go.Proofs.Ytdipikdebapmlaa
set_option maxRecDepth 100000
open Go.RowKit
set_option linter.unusedVariables false

/-- a text with its sum. -/
def sld (l : List UInt8) : List UInt8 := Dm.num l.length ++ l ++ Dm.num (Sm.adler l).toNat
end Go.Proofs.Ytdipikdebapmlaa

/- Plain mathematics of package dec: what is taken. Nothing of the program. -/
namespace Go.Proofs.Ytdipikdebapmlaa.Dm
set_option maxRecDepth 100000

/-! ### Taking a number -/
def maxU : Nat := 18446744073709551615
/-- the figures at the beginning of a text, and what stands behind them. -/
def figs (l : List UInt8) : List UInt8 := l.takeWhile isD
def rest (l : List UInt8) : List UInt8 := l.dropWhile isD
/-- figures that no number's bytes begin with. -/
def bad (l : List UInt8) : Bool := (decide (1 < (figs l).length) && l.head? == some 48) || decide (maxU < val (figs l))
/-- what is taken: the number, what stands behind it, and the errno. -/
def tnum (l : List UInt8) : Nat × List UInt8 × Nat :=
  if bad l = true then (0, [], 3)
  else if rest l = [] then (0, [], 2)
  else if (rest l).head? ≠ some 59 ∨ figs l = [] then (0, [], 3)
  else (val (figs l), (rest l).tail, 0)

/-! ### Taking a text -/
def ttext (l : List UInt8) (most : Int) : List UInt8 × List UInt8 × Nat :=
  if (tnum l).2.2 ≠ 0 then ([], [], (tnum l).2.2)
  else if most < 0 ∨ most < ((tnum l).1 : Int) then ([], [], 4)
  else if (tnum l).2.1.length < (tnum l).1 then ([], [], 2)
  else ((tnum l).2.1.take (tnum l).1, (tnum l).2.1.drop (tnum l).1, 0)

/-! ### What was written is taken -/
end Go.Proofs.Ytdipikdebapmlaa.Dm

/- Contracts of package dec's TakeNum, TakeText and of the document's own. -/
namespace Go.Proofs.Ytdipikdebapmlaa
set_option maxRecDepth 100000
open Go.RowKit
set_option linter.unusedVariables false

end Go.Proofs.Ytdipikdebapmlaa

/- Contracts of package dec's TakeNum, above, TakeText. -/
namespace Go.Proofs.Ytdipikdebapmlaa
set_option maxRecDepth 100000
open Go.RowKit
set_option linter.unusedVariables false

end Go.Proofs.Ytdipikdebapmlaa

/- The contract of sum.Open. -/
namespace Go.Proofs.Ytdipikdebapmlaa
set_option maxRecDepth 100000
open Go.RowKit
set_option linter.unusedVariables false

def topen2 (s : List UInt8) (x : Nat × List UInt8 × Nat) : List UInt8 × List UInt8 × Nat :=
  if x.2.2 ≠ 0 then ([], [], x.2.2) else if (x.1 : Int) ≠ Sm.adler s then ([], [], 10) else (s, x.2.1, 0)
def topen1 (x : List UInt8 × List UInt8 × Nat) : List UInt8 × List UInt8 × Nat :=
  if x.2.2 ≠ 0 then ([], [], x.2.2) else topen2 x.1 (Dm.tnum x.2.1)
/-- what is opened: the text, what stands behind it, the errno. -/
def topen (l : List UInt8) (most : Int) : List UInt8 × List UInt8 × Nat := topen1 (Dm.ttext l most)

/-! ### What was sealed is opened -/
end Go.Proofs.Ytdipikdebapmlaa

/- The mathematics of package run: a row's bytes, and the row of bytes. -/
namespace Go.Proofs.Ytdipikdebapmlaa
set_option maxRecDepth 100000
open Prm
set_option linter.unusedVariables false
set_option linter.unusedSimpArgs false
namespace Rn

def big (p : Pr) : Bool := decide (65536 < p.key.size) || decide (65536 < p.val.size)
def may (l : List Pr) : Bool := right l && !l.any big
def ptx (s : ByteArray) : List UInt8 := Dm.num s.data.toList.length ++ s.data.toList
def one (p : Pr) : List UInt8 := ptx p.key ++ ptx p.val
def flat : List Pr → List UInt8
  | [] => []
  | p :: l => one p ++ flat l
def body (l : List Pr) : List UInt8 := Dm.num l.length ++ flat l
def bytes (l : List Pr) : List UInt8 := sld (body l)
/-- n pairs, taken off r, behind those of acc. -/
def tkp : Nat → List UInt8 → List Pr → List Pr × List UInt8 × Nat
  | 0, r, acc => (acc, r, 0)
  | n + 1, r, acc =>
    if (Dm.ttext r 65536).2.2 ≠ 0 then (acc, [], (Dm.ttext r 65536).2.2)
    else if (Dm.ttext (Dm.ttext r 65536).2.1 65536).2.2 ≠ 0 then (acc, [], (Dm.ttext (Dm.ttext r 65536).2.1 65536).2.2)
    else tkp n (Dm.ttext (Dm.ttext r 65536).2.1 65536).2.1 (acc ++ [⟨⟨(Dm.ttext r 65536).1.toArray⟩, ⟨(Dm.ttext (Dm.ttext r 65536).2.1 65536).1.toArray⟩⟩])
def tkps (s : List UInt8) : List Pr × List UInt8 × Nat :=
  if (Dm.tnum s).2.2 ≠ 0 then ([], [], (Dm.tnum s).2.2) else tkp (Dm.tnum s).1 (Dm.tnum s).2.1 []
def tk2 (x : List Pr × List UInt8 × Nat) : List Pr × Nat := if x.2.2 ≠ 0 ∨ x.2.1 ≠ [] ∨ may x.1 = false then ([], 3) else (x.1, 0)
def tk1 (x : List UInt8 × List UInt8 × Nat) : List Pr × Nat := if x.2.2 ≠ 0 ∨ x.2.1 ≠ [] then ([], 3) else tk2 (tkps x.1)
/-- the row of bytes, and the errno. -/
def take (s : List UInt8) (most : Int) : List Pr × Nat := tk1 (topen s most)

theorem size_data (s : ByteArray) : s.data.toList.length = s.size := by simp
end Rn
end Go.Proofs.Ytdipikdebapmlaa

/- The mathematics of package batch: which batches may be, their bytes, the batch of bytes, what a batch makes of a state, a state as pairs. -/
namespace Go.Proofs.Ytdipikdebapmlaa
set_option maxRecDepth 100000
open Prm
set_option linter.unusedVariables false
set_option linter.unusedSimpArgs false
namespace Bm

structure Bt where
  kind : Int
  tok : ByteArray
  ws : List Wr
deriving DecidableEq
structure Sta where
  data : List Pr
  toks : List Pr
deriving DecidableEq

def wrong (w : Wr) : Bool := decide (w.key.size < 1) || decide (32 < w.key.size) || decide ((if w.del then 0 else 64) < w.val.size)
def keys (l : List Wr) : List Pr := l.map fun w => ⟨w.key, ⟨#[]⟩⟩
def rise (l : List Wr) : Bool := right (keys l)
def may (b : Bt) : Bool :=
  if b.tok.size < 1 ∨ 16 < b.tok.size then false
  else if b.kind = 1 then decide (b.ws.length ≤ 24) && rise b.ws && !b.ws.any wrong
  else if b.kind = 2 then decide (b.ws.length = 0)
  else false

theorem wrong_not {w : Wr} (h : wrong w = false) : 1 ≤ w.key.size ∧ w.key.size ≤ 32 ∧ w.val.size ≤ 64 ∧ (w.del = true → w.val.size = 0) := by
  unfold wrong at h
  simp only [Bool.or_eq_false_iff, decide_eq_false_iff_not] at h
  obtain ⟨⟨a, b⟩, c⟩ := h
  refine ⟨by omega, by omega, ?_, fun hd => ?_⟩
  · split at c <;> omega
  · rw [if_pos hd] at c; omega

/-- bytes. -/
def del (w : Wr) : Nat := if w.del then 1 else 0
def one (w : Wr) : List UInt8 := Dm.num (del w) ++ Rn.ptx w.key ++ Rn.ptx w.val
def flat : List Wr → List UInt8
  | [] => []
  | w :: l => one w ++ flat l
def head (b : Bt) : List UInt8 := Dm.num b.kind.toNat ++ Rn.ptx b.tok ++ Dm.num b.ws.length
def bytes (b : Bt) : List UInt8 := head b ++ flat b.ws
theorem ptx_len (s : ByteArray) (h : s.size ≤ 1000) : (Rn.ptx s).length ≤ 21 + s.size := by
  unfold Rn.ptx
  rw [List.length_append, Rn.size_data]
  have := Dm.num_length s.size (by omega)
  omega
theorem one_len (w : Wr) (h : wrong w = false) : (one w).length ≤ 159 := by
  obtain ⟨a, b, c, _⟩ := wrong_not h
  have h1 := ptx_len w.key (by omega)
  have h2 := ptx_len w.val (by omega)
  have h3 := Dm.num_length (del w) (by unfold del; split <;> omega)
  unfold one
  rw [List.length_append, List.length_append]
  omega
theorem flat_len : ∀ (l : List Wr), (∀ w ∈ l, wrong w = false) → (flat l).length ≤ l.length * 159
  | [], _ => by simp [flat]
  | w :: l, h => by
    have h1 := one_len w (h w (by simp))
    have h2 := flat_len l fun q hq => h q (by simp [hq])
    simp only [flat, List.length_append, List.length_cons, Nat.add_mul]
    omega
/-- what is taken: a number, a text, a write, writes, a batch; what is left, and whether all was right. -/
abbrev Hs := List UInt8 × Bool
def tkN (most : Nat) (x : Hs) : Nat × Hs := if (Dm.tnum x.1).2.2 ≠ 0 ∨ most < (Dm.tnum x.1).1 then (0, (Dm.tnum x.1).2.1, false) else ((Dm.tnum x.1).1, (Dm.tnum x.1).2.1, x.2)
def tkT (most : Int) (x : Hs) : List UInt8 × Hs := ((Dm.ttext x.1 most).1, (Dm.ttext x.1 most).2.1, x.2 && decide ((Dm.ttext x.1 most).2.2 = 0))
def tkW (x : Hs) : Wr × Hs :=
  (⟨⟨(tkT 32 (tkN 1 x).2).1.toArray⟩, ⟨(tkT 64 (tkT 32 (tkN 1 x).2).2).1.toArray⟩, decide ((tkN 1 x).1 = 1)⟩, (tkT 64 (tkT 32 (tkN 1 x).2).2).2)
def tkWs : Nat → List Wr → Hs → List Wr × Hs
  | 0, acc, x => (acc, x)
  | n + 1, acc, x => tkWs n (acc ++ [(tkW x).1]) (tkW x).2
def tkH (x : Hs) : Nat × List UInt8 × Nat × Hs := ((tkN 2 x).1, (tkT 16 (tkN 2 x).2).1, (tkN 24 (tkT 16 (tkN 2 x).2).2).1, (tkN 24 (tkT 16 (tkN 2 x).2).2).2)
def tkB (x : Hs) : Bt × Hs :=
  (⟨((tkH x).1 : Nat), ⟨(tkH x).2.1.toArray⟩, (tkWs (tkH x).2.2.1 [] (tkH x).2.2.2).1⟩, (tkWs (tkH x).2.2.1 [] (tkH x).2.2.2).2)
def fin (x : Bt × Hs) : Bt × Nat := if x.2.2 = true ∧ x.2.1 = [] ∧ may x.1 = true then (x.1, 0) else (⟨0, ⟨#[]⟩, []⟩, 3)
/-- the batch of bytes, and the errno. -/
def take (s : List UInt8) : Bt × Nat := fin (tkB (s, true))

/-- what a batch makes of a state. -/
def word (k : Int) : ByteArray := if k = 1 then ⟨#[99]⟩ else ⟨#[103]⟩
/-- a state as pairs, and the state of pairs. -/
def mk1 (m : UInt8) (p : Pr) : Pr := ⟨⟨([m] ++ p.key.data.toList).toArray⟩, p.val⟩
def marked (m : UInt8) (l : List Pr) : List Pr := l.map (mk1 m)
def pairs (s : Sta) : List Pr := marked 100 s.data ++ marked 116 s.toks
def isM (m : UInt8) (k : ByteArray) : Bool := decide (k.data.toList.head? = some m)
def cut (k : ByteArray) : ByteArray := ⟨k.data.toList.tail.toArray⟩
def cg (v : ByteArray) : Bool := decide (v = ⟨#[99]⟩) || decide (v = ⟨#[103]⟩)
def step (s : Sta) (p : Pr) : Option Sta :=
  if isM 100 p.key = true ∧ s.toks = [] then some ⟨s.data ++ [⟨cut p.key, p.val⟩], s.toks⟩
  else if isM 116 p.key = true ∧ cg p.val = true then some ⟨s.data, s.toks ++ [⟨cut p.key, p.val⟩]⟩
  else none
end Bm
end Go.Proofs.Ytdipikdebapmlaa

/- Records in bytes, in plain mathematics: what is opened is what was sealed; what is scanned; a segment's name. -/
namespace Go.Proofs.Ytdipikdebapmlaa
set_option maxRecDepth 100000
set_option linter.unusedVariables false

namespace Dm
end Dm

/-! ### Scanning -/
def scnF : Nat → List UInt8 → List (List UInt8) × List UInt8
  | 0, l => ([], l)
  | n + 1, l => if (topen l 2048).2.2 = 0 then ((topen l 2048).1 :: (scnF n (topen l 2048).2.1).1, (scnF n (topen l 2048).2.1).2) else ([], l)
/-- the records at the beginning of bytes, and what stands behind them. -/
def scn (l : List UInt8) : List (List UInt8) × List UInt8 := scnF l.length l
def flat (rs : List (List UInt8)) : List UInt8 := (rs.map sld).flatten
/-- how many bytes were scanned. -/
def used (l : List UInt8) : Nat := l.length - (scn l).2.length
/-! ### Names -/
def segOk (seg : Int) : Prop := 1 ≤ seg ∧ seg ≤ 1000000
instance (seg : Int) : Decidable (segOk seg) := by unfold segOk; infer_instance
end Go.Proofs.Ytdipikdebapmlaa

/- Memory: addresses, what a slice holds, cells that are as they were; strings that are the same. -/
namespace Go.Proofs.Ytdipikdebapmlaa
set_option maxRecDepth 100000
open Go.RowKit
set_option linter.unusedVariables false

theorem addr_add (a : Addr) (i j : Nat) : (a.add i).add j = a.add (i + j) := by
  unfold Addr.add
  by_cases hi : i = 0 <;> by_cases hj : j = 0 <;> simp [hi, hj, Nat.add_assoc]
theorem addr_block (a : Addr) (i : Nat) : (a.add i).block = a.block := by
  unfold Addr.add; split <;> rfl

/-- The slice '.slice A n c' holds the cells xs (k of them each element), below block B. -/
def Holds (w : World) (B k : Nat) (A : Option Addr) (n : Nat) (xs : List Value) : Prop :=
  xs.length = n * k ∧ ∀ j u, xs[j]? = some u → ∃ ad, A = some ad ∧ ad.block < B ∧ w.cell? (ad.add j) = some u

theorem Holds.carry {w w' : World} {B B' k : Nat} {A : Option Addr} {n : Nat} {xs : List Value} (h : Holds w B k A n xs) (hB : B ≤ B') (hc : ∀ p : Addr, p.block < B → w'.cell? p = w.cell? p) : Holds w' B' k A n xs :=
  ⟨h.1, fun j u hu => by
    obtain ⟨ad, e, hb, hx⟩ := h.2 j u hu
    exact ⟨ad, e, by omega, (hc _ (by rw [addr_block]; exact hb)).trans hx⟩⟩
theorem Holds.q {w w' : World} {k : Nat} {A : Option Addr} {n : Nat} {xs : List Value} (h : Holds w w.heap.size k A n xs) (hq : Q w w') : Holds w' w'.heap.size k A n xs :=
  h.carry hq.size fun _ hp => hq.below.cell hp
theorem Holds.none_ (w : World) (B k : Nat) (A : Option Addr) : Holds w B k A 0 [] := ⟨by simp, fun j u h => by simp at h⟩

theorem same_str (a b : ByteArray) : (a.toList == b.toList) = decide (a = b) := by
  by_cases h : a = b
  · subst h; simp
  · have : ¬ a.toList = b.toList := fun e => h (by
      have e1 : a.data.toList = b.data.toList := by simpa [ByteArray.toList_eq] using e
      exact ByteArray.ext (Array.ext' e1))
    simp [h, this]

theorem box_ {W w1 : World} (q : Q W w1) {p : Addr} {v : Value} (h : W.cell? p = some v) : w1.cell? p = some v := (q.below.cell (block_lt_of_cell h)).trans h
end Go.Proofs.Ytdipikdebapmlaa

/- Requests as values: eleven cells, flat. -/
namespace Go.Proofs.Ytdipikdebapmlaa
set_option maxRecDepth 100000
open Go.RowKit
set_option linter.unusedVariables false
set_option linter.unusedSimpArgs false
namespace Wi

structure Op where
  kind : Int
  key : ByteArray
  val : ByteArray
  lo : ByteArray
  hi : ByteArray
  most : Int
deriving DecidableEq
def op0 : Op := ⟨0, ⟨#[]⟩, ⟨#[]⟩, ⟨#[]⟩, ⟨#[]⟩, 0⟩
structure Rq where
  kind : Int
  epoch : Int
  sess : Int
  seq : Int
  tok : ByteArray
  op : Op
deriving DecidableEq
abbrev rqL (q : Rq) : List Value := [.int .i64 q.kind, .int .i64 q.epoch, .int .i64 q.sess, .int .i64 q.seq, .string q.tok, .int .i64 q.op.kind, .string q.op.key, .string q.op.val, .string q.op.lo, .string q.op.hi, .int .i64 q.op.most]
abbrev rqV (q : Rq) : Value := .agg (rqL q).toArray
end Wi
end Go.Proofs.Ytdipikdebapmlaa

/- The mathematics of package wire: which requests and replies may be, their bytes, and what bytes are. -/
namespace Go.Proofs.Ytdipikdebapmlaa
set_option maxRecDepth 100000
open Prm
set_option linter.unusedVariables false
set_option linter.unusedSimpArgs false
namespace Wi

structure Rp where
  epoch : Int
  sess : Int
  seq : Int
  err : Int
  val : ByteArray
  found : Bool
  over : Bool
  rows : List Pr
deriving DecidableEq
def small (n : Int) : Bool := decide (0 ≤ n) && decide (n ≤ 1073741824)
theorem small_iff {n : Int} : small n = true ↔ 0 ≤ n ∧ n ≤ 1073741824 := by unfold small; simp
def mayOp (o : Op) : Bool := decide (1 ≤ o.kind) && decide (o.kind ≤ 6) && decide (o.key.size ≤ 32) && decide (o.lo.size ≤ 32) && decide (o.hi.size ≤ 32) && decide (o.val.size ≤ 64)
theorem mayOp_iff {o : Op} : mayOp o = true ↔ 1 ≤ o.kind ∧ o.kind ≤ 6 ∧ o.key.size ≤ 32 ∧ o.lo.size ≤ 32 ∧ o.hi.size ≤ 32 ∧ o.val.size ≤ 64 := by
  unfold mayOp; simp only [Bool.and_eq_true, decide_eq_true_eq, and_assoc]
/-- may a request be? -/
def may (q : Rq) : Bool :=
  if q.kind < 1 ∨ 6 < q.kind ∨ ¬(small q.epoch = true ∧ small q.sess = true) ∨ ¬(small q.seq = true ∧ small q.op.most = true) ∨ 16 < q.tok.size then false
  else if q.kind ≠ 4 ∧ q.kind ≠ 6 ∧ 0 < q.tok.size then false
  else if q.kind ≠ 5 then decide (q.op = op0)
  else mayOp q.op
structure May (q : Rq) : Prop where
  k1 : 1 ≤ q.kind
  k2 : q.kind ≤ 6
  e : small q.epoch = true
  s : small q.sess = true
  n : small q.seq = true
  m : small q.op.most = true
  t : q.tok.size ≤ 16
  o : q.kind ≠ 5 → q.op = op0
  o5 : q.kind = 5 → mayOp q.op = true
theorem may_of {q : Rq} (h : may q = true) : May q := by
  unfold may at h
  split at h
  · cases h
  rename_i h1
  simp only [not_or, Decidable.not_not] at h1
  obtain ⟨a, b, c, d, e⟩ := h1
  split at h
  · cases h
  split at h
  · rename_i h5
    exact ⟨by omega, by omega, c.1, c.2, d.1, d.2, by omega, fun _ => by simpa using h, fun e5 => absurd e5 h5⟩
  · rename_i h5
    exact ⟨by omega, by omega, c.1, c.2, d.1, d.2, by omega, fun n => absurd n h5, fun _ => h⟩

/-! ### Bytes -/
def num (n : Int) : List UInt8 := Dm.num n.toNat
abbrev ptx (s : ByteArray) : List UInt8 := Rn.ptx s
def headQ (q : Rq) (r : List UInt8) : List UInt8 := num q.kind ++ (num q.epoch ++ (num q.sess ++ (num q.seq ++ (ptx q.tok ++ r))))
def opB (o : Op) (r : List UInt8) : List UInt8 := num o.kind ++ (ptx o.key ++ (ptx o.val ++ (ptx o.lo ++ (ptx o.hi ++ (num o.most ++ r)))))
/-- a request's bytes, and what stands behind. -/
def reqR (q : Rq) (r : List UInt8) : List UInt8 := headQ q (if q.kind = 5 then opB q.op r else r)
def req (q : Rq) : List UInt8 := reqR q []
def reqM (q : Rq) : List UInt8 × Int := if may q = true then (req q, 0) else ([], 1)
/-! ### What is taken -/
structure Pt where
  n : Nat
  t : List UInt8
  rest : List UInt8
  is : Bool
deriving DecidableEq
def pz : Pt := ⟨0, [], [], false⟩
def p0 (s : List UInt8) : Pt := ⟨0, [], s, true⟩
def tkn (p : Pt) : Pt := if p.is = false ∨ (Dm.tnum p.rest).2.2 ≠ 0 ∨ 1073741824 < (Dm.tnum p.rest).1 then pz else ⟨(Dm.tnum p.rest).1, [], (Dm.tnum p.rest).2.1, true⟩
def tkt (m : Int) (p : Pt) : Pt := if p.is = false ∨ (Dm.ttext p.rest m).2.2 ≠ 0 then pz else ⟨0, (Dm.ttext p.rest m).1, (Dm.ttext p.rest m).2.1, true⟩
/-! ### Requests -/
def ba (l : List UInt8) : ByteArray := ⟨l.toArray⟩
theorem ba_size (l : List UInt8) : (ba l).size = l.length := by unfold ba; simp [ByteArray.size]
theorem ba_data (l : List UInt8) : (ba l).data.toList = l := by unfold ba; simp
def q1 (s : List UInt8) : Pt := tkn (p0 s)
def q2 (s : List UInt8) : Pt := tkn (q1 s)
def q3 (s : List UInt8) : Pt := tkn (q2 s)
def q4 (s : List UInt8) : Pt := tkn (q3 s)
def q5 (s : List UInt8) : Pt := tkt 16 (q4 s)
def o1 (p : Pt) : Pt := tkn p
def o2 (p : Pt) : Pt := tkt 32 (o1 p)
def o3 (p : Pt) : Pt := tkt 64 (o2 p)
def o4 (p : Pt) : Pt := tkt 32 (o3 p)
def o5 (p : Pt) : Pt := tkt 32 (o4 p)
theorem num_len {n : Int} (h : small n = true) : (num n).length ≤ 21 := by
  rw [small_iff] at h
  exact Dm.num_length _ (by omega)
theorem ptx_len {s : ByteArray} (h : s.size ≤ 99) : (ptx s).length ≤ 3 + s.size := by
  unfold ptx Rn.ptx Dm.num
  have h1 := Dm.dg_length_lt 2 s.data.toList.length (by rw [Rn.size_data]; omega) (by omega)
  simp only [List.length_append, List.length_cons, List.length_nil]
  rw [Rn.size_data] at h1 ⊢
  omega
theorem num_pos (n : Int) : 0 < (num n).length := by unfold num Dm.num; simp
theorem req_len {q : Rq} (h : may q = true) : 0 < (req q).length ∧ (req q).length ≤ 1000 := by
  have H := may_of h
  have h1 := num_len H.e
  have h2 := num_len H.s
  have h3 := num_len H.n
  have h4 := num_len H.m
  have h0 : (num q.kind).length ≤ 21 := num_len (small_iff.2 (by have := H.k1; have := H.k2; omega))
  have h5 := ptx_len (s := q.tok) (by have := H.t; omega)
  have h6 := H.t
  have hp := num_pos q.kind
  unfold req reqR headQ
  split
  · rename_i hv
    obtain ⟨g1, g2, g3, g4, g5, g6⟩ := mayOp_iff.1 (H.o5 hv)
    have l0 : (num q.op.kind).length ≤ 21 := num_len (small_iff.2 (by omega))
    have l1 := ptx_len (s := q.op.key) (by omega)
    have l2 := ptx_len (s := q.op.val) (by omega)
    have l3 := ptx_len (s := q.op.lo) (by omega)
    have l4 := ptx_len (s := q.op.hi) (by omega)
    unfold opB
    simp only [List.length_append, List.length_nil]
    omega
  · simp only [List.length_append, List.length_nil]
    omega

/-! ### Replies -/
def rowOk (p : Pr) : Bool := decide (p.key.size ≤ 32) && decide (p.val.size ≤ 64)
def mayP (p : Rp) : Bool :=
  if ¬(small p.epoch = true ∧ small p.sess = true) ∨ ¬(small p.seq = true ∧ right p.rows = true) ∨ p.err < 0 ∨ 16 < p.err ∨ 64 < p.val.size ∨ 16 < p.rows.length then false else p.rows.all rowOk
structure MayP (p : Rp) : Prop where
  e : small p.epoch = true
  s : small p.sess = true
  n : small p.seq = true
  r : right p.rows = true
  e0 : 0 ≤ p.err
  e1 : p.err ≤ 16
  v : p.val.size ≤ 64
  m : p.rows.length ≤ 16
  ok : ∀ x ∈ p.rows, x.key.size ≤ 32 ∧ x.val.size ≤ 64
theorem mayP_of {p : Rp} (h : mayP p = true) : MayP p := by
  unfold mayP at h
  split at h
  · cases h
  rename_i h1
  simp only [not_or, Decidable.not_not] at h1
  obtain ⟨a, b, c, d, e, f⟩ := h1
  refine ⟨a.1, a.2, b.1, b.2, by omega, by omega, by omega, by omega, fun x hx => ?_⟩
  have := List.all_eq_true.1 h x hx
  unfold rowOk at this
  simpa using this
def fl (b : Bool) : Nat := if b then 1 else 0
def rowsB : List Pr → List UInt8 → List UInt8
  | [], r => r
  | x :: l, r => ptx x.key ++ (ptx x.val ++ rowsB l r)
def repR (p : Rp) (r : List UInt8) : List UInt8 := num p.epoch ++ (num p.sess ++ (num p.seq ++ (num p.err ++ (ptx p.val ++ (Dm.num (fl p.found) ++ (Dm.num (fl p.over) ++ (Dm.num p.rows.length ++ rowsB p.rows r)))))))
def rep (p : Rp) : List UInt8 := repR p []
def repM (p : Rp) : List UInt8 × Int := if mayP p = true then (rep p, 0) else ([], 1)
theorem rowsB_app : ∀ (l : List Pr) (r m : List UInt8), rowsB l (r ++ m) = rowsB l r ++ m
  | [], _, _ => rfl
  | x :: l, r, m => by simp only [rowsB, List.append_assoc]; rw [rowsB_app l r m]
theorem rowsB_snoc : ∀ (l : List Pr) (x : Pr) (r : List UInt8), rowsB (l ++ [x]) r = rowsB l (ptx x.key ++ (ptx x.val ++ r))
  | [], _, _ => rfl
  | y :: l, x, r => by simp only [List.cons_append, rowsB]; rw [rowsB_snoc l x r]
def r1 (s : List UInt8) : Pt := tkn (p0 s)
def r2 (s : List UInt8) : Pt := tkn (r1 s)
def r3 (s : List UInt8) : Pt := tkn (r2 s)
def r4 (s : List UInt8) : Pt := tkn (r3 s)
def r5 (s : List UInt8) : Pt := tkt 64 (r4 s)
def tk1 (p : Pt) : Pr × Pt := (⟨ba (tkt 32 p).t, ba (tkt 64 (tkt 32 p)).t⟩, tkt 64 (tkt 32 p))
theorem fl_le (b : Bool) : fl b ≤ 1 := by unfold fl; split <;> omega
theorem rowsB_len : ∀ (l : List Pr), (∀ x ∈ l, x.key.size ≤ 32 ∧ x.val.size ≤ 64) → (rowsB l []).length ≤ l.length * 102
  | [], _ => by simp [rowsB]
  | x :: l, h => by
    obtain ⟨h1, h2⟩ := h x (by simp)
    have a := ptx_len (s := x.key) (by omega)
    have b := ptx_len (s := x.val) (by omega)
    have ih := rowsB_len l fun y hy => h y (by simp [hy])
    simp only [rowsB, List.length_append, List.length_cons, Nat.add_mul]
    omega
theorem rep_len {p : Rp} (h : mayP p = true) : 0 < (rep p).length ∧ (rep p).length ≤ 2048 := by
  have H := mayP_of h
  have h1 := num_len H.e
  have h2 := num_len H.s
  have h3 := num_len H.n
  have h4 : (num p.err).length ≤ 21 := num_len (small_iff.2 (by have := H.e0; have := H.e1; omega))
  have h5 := ptx_len (s := p.val) (by have := H.v; omega)
  have h6 := H.v
  have h7 := Dm.num_length (fl p.found) (by have := fl_le p.found; omega)
  have h8 := Dm.num_length (fl p.over) (by have := fl_le p.over; omega)
  have h9 := Dm.num_length p.rows.length (by have := H.m; omega)
  have hr := rowsB_len p.rows H.ok
  have hm := H.m
  have hp := num_pos p.epoch
  unfold rep repR
  simp only [List.length_append]
  omega
end Wi
end Go.Proofs.Ytdipikdebapmlaa

/- The mathematics of package wire's own taking (its hand): field by field, each with its bound; the same as the document's. -/
namespace Go.Proofs.Ytdipikdebapmlaa
set_option maxRecDepth 100000
open Prm
set_option linter.unusedVariables false
set_option linter.unusedSimpArgs false
namespace Wi

/-- the next number, which may not be above a bound. -/
def tkm (m : Nat) (p : Pt) : Pt := if p.is = false ∨ (Dm.tnum p.rest).2.2 ≠ 0 ∨ m < (Dm.tnum p.rest).1 then pz else ⟨(Dm.tnum p.rest).1, [], (Dm.tnum p.rest).2.1, true⟩
/-! ### Requests -/
def h1 (s : List UInt8) : Pt := tkm 6 (p0 s)
def h2 (s : List UInt8) : Pt := tkm 1073741824 (h1 s)
def h3 (s : List UInt8) : Pt := tkm 1073741824 (h2 s)
def h4 (s : List UInt8) : Pt := tkm 1073741824 (h3 s)
def h5 (s : List UInt8) : Pt := tkt 16 (h4 s)
def g1 (p : Pt) : Pt := tkm 6 p
def g2 (p : Pt) : Pt := tkt 32 (g1 p)
def g3 (p : Pt) : Pt := tkt 64 (g2 p)
def g4 (p : Pt) : Pt := tkt 32 (g3 p)
def g5 (p : Pt) : Pt := tkt 32 (g4 p)
def g6 (p : Pt) : Pt := tkm 1073741824 (g5 p)
/-! ### Replies -/
def s4 (s : List UInt8) : Pt := tkm 16 (r3 s)
end Wi
end Go.Proofs.Ytdipikdebapmlaa

/- Rows of the call's own, whatever their elements: many cells written at once, a row cut short. -/
namespace Go.Proofs.Ytdipikdebapmlaa
set_option maxRecDepth 100000
open Go.RowKit
set_option linter.unusedVariables false

end Go.Proofs.Ytdipikdebapmlaa

/- Kinds of elements that lie flat in memory: lists of them as they come in ('Lst', 'In_'), lists of the call's own ('OwnK'), append to these. -/
namespace Go.Proofs.Ytdipikdebapmlaa
set_option maxRecDepth 100000
open Go.RowKit
set_option linter.unusedVariables false

structure Kind (α : Type) where
  T : TypeId
  S : TypeId
  k : Nat
  bs : Nat
  z : Value
  row : α → List Value
  pos : 0 < k
  bpos : 0 < bs
  len : ∀ a, (row a).length = k
  one : ∀ a, ∀ u ∈ row a, u.oneCell' = true
  und : Try.prog.underlying S = some (.slice T)
  info : (Try.prog.info? T).map (fun i => (i.zero, i.size, i.bytes)) = some (some z, k, bs)
  zc : z.cells.size = k

variable {α : Type}

def Kind.rows (K : Kind α) : List α → List Value
  | [] => []
  | a :: l => K.row a ++ K.rows l

theorem Kind.rows_len (K : Kind α) (l : List α) : (K.rows l).length = l.length * K.k := by
  induction l with
  | nil => simp [Kind.rows]
  | cons a l ih => simp only [Kind.rows, List.length_append, ih, List.length_cons, K.len, Nat.add_mul]; omega
theorem Kind.rows_at (K : Kind α) (l : List α) (k : Nat) (h : k < l.length) (j : Nat) (hj : j < K.k) : (K.rows l)[k * K.k + j]? = (K.row l[k])[j]? := by
  induction l generalizing k with
  | nil => simp at h
  | cons a l ih =>
    cases k with
    | zero =>
      simp only [Kind.rows, Nat.zero_mul, Nat.zero_add, List.getElem_cons_zero]
      exact List.getElem?_append_left (by rw [K.len]; exact hj)
    | succ k =>
      simp only [Kind.rows, List.getElem_cons_succ]
      rw [List.getElem?_append_right (by rw [K.len, Nat.add_mul]; omega), ← ih k (by simpa using h)]
      congr 1
      rw [K.len, Nat.add_mul]; omega
/-- The slice '.slice A n _' reads as l. -/
def Lst (K : Kind α) (w : World) (A : Option Addr) (n : Nat) (l : List α) : Prop := Holds w w.heap.size K.k A n (K.rows l)
theorem Lst.q {K : Kind α} {w w' : World} {A : Option Addr} {n : Nat} {l : List α} (h : Lst K w A n l) (hq : Q w w') : Lst K w' A n l := Holds.q h hq
theorem Lst.len {K : Kind α} {w : World} {A : Option Addr} {n : Nat} {l : List α} (h : Lst K w A n l) : l.length = n := by
  have := h.1; rw [K.rows_len] at this
  exact Nat.eq_of_mul_eq_mul_right K.pos this
theorem Lst.nil {K : Kind α} (w : World) (A : Option Addr) : Lst K w A 0 [] := Holds.none_ _ _ _ _

/-- What a load of the element in place k reads. -/
theorem Lst.load {K : Kind α} {w : World} {A : Option Addr} {n : Nat} {l : List α} (h : Lst K w A n l) {k : Nat} (hk : k < n) (hl : k < l.length) :
    ∃ ad, A = some ad ∧ ad.block < w.heap.size ∧ ∀ j v, (K.row l[k])[j]? = some v → w.cell? ((ad.add (k * K.k)).add j) = some v := by
  have h0 : ∀ j v, (K.row l[k])[j]? = some v → ∃ ad, A = some ad ∧ ad.block < w.heap.size ∧ w.cell? (ad.add (k * K.k + j)) = some v := fun j v hj =>
    h.2 (k * K.k + j) _ (by rw [K.rows_at l k hl j (by rw [← K.len l[k]]; exact (List.getElem?_eq_some_iff.1 hj).1)]; exact hj)
  obtain ⟨ad, rfl, hb, _⟩ := h0 0 _ (List.getElem?_eq_getElem (by rw [K.len]; exact K.pos))
  refine ⟨ad, rfl, hb, fun j v hj => ?_⟩
  obtain ⟨_, e, _, hc⟩ := h0 j v hj
  injection e with e
  subst e
  rw [addr_add]; exact hc

/-- a list as it comes in. -/
structure In_ (K : Kind α) (w : World) (A : Option Addr) (n c : Nat) (l : List α) : Prop where
  lst : Lst K w A n l
  nil : A = none → n = 0 ∧ c = 0
  le : n ≤ c
  cap : c ≤ maxLen
  few : n * K.bs ≤ 140737488355328
theorem In_.len {K : Kind α} {w : World} {A : Option Addr} {n c : Nat} {l : List α} (h : In_ K w A n c l) : l.length = n := h.lst.len
theorem In_.q {K : Kind α} {w w' : World} {A : Option Addr} {n c : Nat} {l : List α} (h : In_ K w A n c l) (hq : Q w w') : In_ K w' A n c l := ⟨h.lst.q hq, h.nil, h.le, h.cap, h.few⟩
theorem In_.max {K : Kind α} {w : World} {A : Option Addr} {n c : Nat} {l : List α} (h : In_ K w A n c l) : n ≤ maxLen := Nat.le_trans h.le h.cap
theorem In_.none_ (K : Kind α) (w : World) : In_ K w none 0 0 [] := ⟨Lst.nil w _, fun _ => ⟨rfl, rfl⟩, Nat.le_refl _, Nat.zero_le _, by simp⟩

section
variable {K : Kind α} {w w' : World} {base : Nat} {A : Option Addr} {n c : Nat} {l : List α}
end

end Go.Proofs.Ytdipikdebapmlaa

/- Integers as a kind of elements. -/
namespace Go.Proofs.Ytdipikdebapmlaa
set_option maxRecDepth 100000
open Go.RowKit
set_option linter.unusedVariables false
set_option linter.unusedSimpArgs false

def numK : Kind Int where
  T := 3
  S := 43
  k := 1
  bs := 8
  z := .int .i64 0
  row := fun r => [.int .i64 r]
  pos := by omega
  bpos := by omega
  len := fun _ => rfl
  one := fun _ u hu => by simp at hu; rcases hu with rfl; rfl
  und := Try.underlying43
  info := by kernel_rfl
  zc := rfl
theorem load_num {w : World} {A : Option Addr} {n : Nat} {l : List Int} (h : Lst numK w A n l) {k : Nat} (hk : k < n) (hl : k < l.length) :
    ∃ ad, A = some ad ∧ ad.block < w.heap.size ∧ w.cell? (ad.add k) = some (.int .i64 l[k]) := by
  obtain ⟨ad, e, hb, hc⟩ := h.load hk hl
  refine ⟨ad, e, hb, ?_⟩
  have := hc 0 _ rfl
  rwa [show k * numK.k = k from Nat.mul_one k] at this
end Go.Proofs.Ytdipikdebapmlaa

/- Pairs and writes in memory; contracts: the closures that find pairs, slices.IndexFunc, slices.Clone, table.Find, Between, Right, and the document's Less. -/
namespace Go.Proofs.Ytdipikdebapmlaa
set_option maxRecDepth 100000
open Go.RowKit Prm
set_option linter.unusedVariables false

abbrev Prm.Pr.v (p : Pr) : Value := .agg #[.string p.key, .string p.val]
abbrev Prm.Wr.v (w : Wr) : Value := .agg #[.string w.key, .string w.val, .bool w.del]
def pairK : Kind Pr where
  T := 41
  S := 27
  k := 2
  bs := 32
  z := .agg #[.string ⟨#[]⟩, .string ⟨#[]⟩]
  row := fun p => [.string p.key, .string p.val]
  pos := by omega
  bpos := by omega
  len := fun _ => rfl
  one := fun _ u hu => by simp at hu; rcases hu with rfl | rfl <;> rfl
  und := Try.underlying27
  info := by kernel_rfl
  zc := rfl
theorem load_pair {w : World} {A : Option Addr} {n : Nat} {l : List Pr} (h : Lst pairK w A n l) {k : Nat} (hk : k < n) (hl : k < l.length) :
    ∃ ad, A = some ad ∧ ad.block < w.heap.size ∧ w.cell? (ad.add (k * 2)) = some (.string l[k].key) ∧ w.cell? ⟨(ad.add (k * 2)).block, (ad.add (k * 2)).off + 1, none⟩ = some (.string l[k].val) := by
  obtain ⟨ad, e, hb, hc⟩ := h.load hk hl
  exact ⟨ad, e, hb, hc 0 _ rfl, hc 1 _ rfl⟩
/-- the walk's words for '>' and '>=' on texts. -/
theorem gtr_lt (a b : ByteArray) : (!(Op.bytesLess a.toList b.toList || a.toList == b.toList)) = lt b a := by
  rw [lt_data, same_str]
  by_cases h : a = b
  · subst h; simp [lt_irrefl]
  · cases k : lt a b with
    | true => simp [lt_asymm k]
    | false => simp [h, lt_tri h k]
theorem leq_lt (a b : ByteArray) : (Op.bytesLess a.toList b.toList || a.toList == b.toList) = !lt b a := by
  have := gtr_lt a b
  cases h : (Op.bytesLess a.toList b.toList || a.toList == b.toList) <;> rw [h] at this <;> simp at this <;> simp [this]

end Go.Proofs.Ytdipikdebapmlaa

/- Whole rows of a kind of elements: copy, clear, and an append of zero values, at elements of any size. -/
namespace Go.Proofs.Ytdipikdebapmlaa
set_option maxRecDepth 100000
open Go.RowKit
set_option linter.unusedVariables false

variable {α : Type}

section
variable {K : Kind α} {w w' : World} {base g n c : Nat} {l : List α} {xs : List Value}
end

end Go.Proofs.Ytdipikdebapmlaa

/- 'append(own, more...)' for rows of any kind of element: the source nil or not; only the own block has turned. -/
namespace Go.Proofs.Ytdipikdebapmlaa
set_option maxRecDepth 100000
open Go.RowKit
set_option linter.unusedVariables false

end Go.Proofs.Ytdipikdebapmlaa

/- Contracts: slices.Insert of one pair into a list of the call's own. -/
namespace Go.Proofs.Ytdipikdebapmlaa
set_option maxRecDepth 100000
open Go.RowKit Prm
set_option linter.unusedVariables false

end Go.Proofs.Ytdipikdebapmlaa

/- Contracts: slices.DeleteFunc by a key, at a list of the call's own. -/
namespace Go.Proofs.Ytdipikdebapmlaa
set_option maxRecDepth 100000
open Go.RowKit Prm
set_option linter.unusedVariables false

end Go.Proofs.Ytdipikdebapmlaa

/- Contracts: package table: what a deed does, Apply, Put, Drop, Range, Right. -/
namespace Go.Proofs.Ytdipikdebapmlaa
set_option maxRecDepth 100000
open Go.RowKit Prm
set_option linter.unusedVariables false
set_option linter.unusedSimpArgs false

end Go.Proofs.Ytdipikdebapmlaa

/- Contracts: table.Apply, Put, Drop, Range, Right. -/
namespace Go.Proofs.Ytdipikdebapmlaa
set_option maxRecDepth 100000
open Go.RowKit Prm
set_option linter.unusedVariables false
set_option linter.unusedSimpArgs false

end Go.Proofs.Ytdipikdebapmlaa

/- Contracts: table.Range, table.Right. -/
namespace Go.Proofs.Ytdipikdebapmlaa
set_option maxRecDepth 100000
open Go.RowKit Prm
set_option linter.unusedVariables false
set_option linter.unusedSimpArgs false

theorem right_cons (p q : Pr) (l : List Pr) : right (p :: q :: l) = (lt p.key q.key && right (q :: l)) := rfl
theorem right_all : ∀ {l : List Pr}, (∀ i, ∀ h : i + 1 < l.length, lt (l[i]'(by omega)).key l[i + 1].key = true) → right l = true
  | [], _ => rfl
  | [p], _ => rfl
  | p :: q :: l, h => by
    rw [right_cons, show lt p.key q.key = true from h 0 (by simp), Bool.true_and]
    exact right_all fun i hi => h (i + 1) (by simpa using hi)
theorem right_not : ∀ {l : List Pr} {i : Nat} (h : i + 1 < l.length), lt (l[i]'(by omega)).key l[i + 1].key = false → right l = false
  | p :: q :: l, 0, _, h => by rw [right_cons]; simp only [List.getElem_cons_zero, List.getElem_cons_succ] at h; rw [h]; rfl
  | p :: q :: l, i + 1, hi, h => by
    rw [right_cons, right_not (l := q :: l) (i := i) (by simpa using hi) h, Bool.and_false]

set_option maxHeartbeats 2000000 in
theorem right_any (A : Option Addr) (n c : Nat) (l : List Pr) (w : World) (hd : Lst pairK w A n l) (hmx : n ≤ maxLen) :
    Calls Try.prog 24 #[.slice A n c] w fun e w' => e = .returned (.bool (right l)) ∧ Q w w' := by
  have HD := Lib.hid hd
  have HL := Lib.hid hd.len
  unfold maxLen at hmx
  clear hd
  go_enter Try.func24, Try.ntmps24
  go_wp2
  go_loopw [3] (fun i wr => ∃ k : Nat, k ≤ n ∧ i = .int .i64 ((k : Int) + 1) ∧ Q w wr ∧ ∀ j, ∀ h : j + 1 < l.length, j < k → lt (l[j]'(by omega)).key l[j + 1].key = true) (fun i _ => n + 1 - (intOf i).toNat)
  case atStart => exact ⟨0, Nat.zero_le _, by go_num, Q.refl _, fun j _ h => by omega⟩
  case round =>
    obtain ⟨k, hk, rfl, q, hall⟩ := hrel
    have HA := Lib.hid hall
    have HQ := Lib.hid q
    clear hall q
    by_cases hlt : k + 1 < n
    · have hkl : k + 1 < l.length := by have := HL.out; omega
      have hkl0 : k < l.length := by omega
      obtain ⟨ad, rfl, hab, x0, x1⟩ := load_pair (HD.out.q HQ.out) (Nat.lt_of_succ_lt hlt) hkl0
      obtain ⟨ad', e, hab', y0, y1⟩ := load_pair (HD.out.q HQ.out) hlt hkl
      injection e with e
      subst e
      have e0 : (k : Int) + 1 - 1 = k := by omega
      have e1 : IntKind.i64.wrap ((k : Int) + 1 - 1) = k := by rw [IntKind.wrap_i64]; omega
      have e2 : ((k : Int) + 1).toNat = k + 1 := by omega
      have e3 : (k : Int) + 1 < (n : Int) := by omega
      have e4 : (k : Int) < (n : Int) := by omega
      have e5 : (0 : Int) ≤ (k : Int) + 1 := by omega
      by_cases hh : lt l[k].key l[k + 1].key = true
      · have hb := leq_lt l[k + 1].key l[k].key
        rw [hh] at hb
        have HN := Lib.hid (fun (j : Nat) (h : j + 1 < l.length) (hj : j < k + 1) => show lt (l[j]'(by omega)).key l[j + 1].key = true from by
          by_cases e : j < k
          · exact HA.out j h e
          · have e : j = k := by omega
            subst e
            exact hh)
        clear hh x1 y1
        generalize l[k].key = a at x0 hb
        generalize l[k + 1].key = b at y0 hb
        go_wp2
        go_quiet (fail)
        all_goals
          go_wp2
          go_roundw
          case rel => exact ⟨k + 1, by omega, by go_num, HQ.out.drewN _, HN.out⟩
          case measure => simp [intOf]; omega
      · have hh' : lt l[k].key l[k + 1].key = false := by simpa using hh
        have hb := leq_lt l[k + 1].key l[k].key
        rw [hh'] at hb
        have HE := Lib.hid (right_not hkl hh')
        clear hh hh' x1 y1
        generalize l[k].key = a at x0 hb
        generalize l[k + 1].key = b at y0 hb
        go_wp2
        go_quiet (fail)
        all_goals
          go_wp2
          go_ret
          exact ⟨by rw [HE.out]; rfl, HQ.out.drewN _⟩
    · have HE := Lib.hid (show right l = true from right_all fun i hi => HA.out i hi (by have := HL.out; omega))
      have e3 : ¬ ((k : Int) + 1 < (n : Int)) := by omega
      go_wp2
      go_ret
      exact ⟨by rw [HE.out]; rfl, HQ.out⟩
end Go.Proofs.Ytdipikdebapmlaa

/- Boxes: what lies in a block of three or four cells, and may be written (of any kind). -/
namespace Go.Proofs.Ytdipikdebapmlaa
set_option maxRecDepth 100000
open Go.RowKit
set_option linter.unusedVariables false

/-- the cells of block b hold these values, and may be written. -/
def Bx (w : World) (b : Nat) (vs : List Value) : Prop := ∀ j v, vs[j]? = some v → w.cell? ⟨b, j, none⟩ = some v ∧ w.frozen? ⟨b, j, none⟩ = false

theorem Bx.new (w : World) (cs : List Value) (t : TypeId) : Bx (w.alloc (.cells cs.toArray t)) w.heap.size cs := fun j v h => by
  have e := heap_alloc_new w (.cells cs.toArray t)
  exact ⟨(cell_of_row _ _ j _ t (0, 0) e).trans (by simpa using h), frozen_of_row _ _ j _ t e⟩
theorem Bx.lt {w : World} {b : Nat} {v : Value} {vs : List Value} (h : Bx w b (v :: vs)) : b < w.heap.size := block_lt_of_cell (h 0 v rfl).1
theorem Bx.below {w w' : World} {b B : Nat} {vs : List Value} (h : Bx w b vs) (hb : Below B w w') (hB : b < B) : Bx w' b vs := fun j v hj =>
  ⟨(hb.cell (p := ⟨b, j, none⟩) hB).trans (h j v hj).1, (hb.frozen (p := ⟨b, j, none⟩) hB).trans (h j v hj).2⟩
theorem Bx.q {w w' : World} {b : Nat} {vs : List Value} (h : Bx w b vs) (hq : Q w w') : Bx w' b vs := fun j v hj => by
  have hb : b < w.heap.size := block_lt_of_cell (h j v hj).1
  exact ⟨(hq.below.cell (p := ⟨b, j, none⟩) hb).trans (h j v hj).1, (hq.below.frozen (p := ⟨b, j, none⟩) hb).trans (h j v hj).2⟩
theorem Bx.alloc {w : World} {b : Nat} {vs : List Value} (h : Bx w b vs) (o : Obj) : Bx (w.alloc o) b vs := h.q ((Q.refl _).alloc o)
theorem Bx.drew {w : World} {b : Nat} {vs : List Value} (h : Bx w b vs) : Bx w.drew b vs := h
end Go.Proofs.Ytdipikdebapmlaa

/- Contracts: which numbers and keys may be: mayNums, mayKeys, with slices.ContainsFunc at their functions; long; mayRows. -/
namespace Go.Proofs.Ytdipikdebapmlaa
set_option maxRecDepth 100000
open Go.RowKit Prm
set_option linter.unusedVariables false
set_option linter.unusedSimpArgs false
namespace Wi

/-- texts as a kind of elements. -/
def strK : Kind ByteArray where
  T := 9
  S := 55
  k := 1
  bs := 16
  z := .string ⟨#[]⟩
  row := fun r => [.string r]
  pos := by omega
  bpos := by omega
  len := fun _ => rfl
  one := fun _ u hu => by simp at hu; rcases hu with rfl; rfl
  und := Try.underlying55
  info := by kernel_rfl
  zc := rfl
theorem load_str {w : World} {A : Option Addr} {n : Nat} {l : List ByteArray} (h : Lst strK w A n l) {k : Nat} (hk : k < n) (hl : k < l.length) :
    ∃ ad, A = some ad ∧ ad.block < w.heap.size ∧ w.cell? (ad.add k) = some (.string l[k]) := by
  obtain ⟨ad, e, hb, hc⟩ := h.load hk hl
  refine ⟨ad, e, hb, ?_⟩
  have := hc 0 _ rfl
  rwa [show k * strK.k = k from Nat.mul_one k] at this
theorem lst_lits (w : World) (l : List ByteArray) : Lst strK (w.alloc (.cells (strK.rows l).toArray 9)) (some ⟨w.heap.size, 0, none⟩) l.length l := by
  refine ⟨by rw [strK.rows_len], fun j u hu => ⟨_, rfl, by simp, ?_⟩⟩
  have e := heap_alloc_new w (.cells (strK.rows l).toArray 9)
  have := cell_of_row _ _ j _ _ (0, 0) e
  have ea : (⟨w.heap.size, 0, none⟩ : Addr).add j = ⟨w.heap.size, j, none⟩ := by unfold Addr.add; by_cases h : j = 0 <;> simp [h]
  rw [ea, this]
  simpa using hu
theorem lst_litn (w : World) (l : List Int) : Lst numK (w.alloc (.cells (numK.rows l).toArray 3)) (some ⟨w.heap.size, 0, none⟩) l.length l := by
  refine ⟨by rw [numK.rows_len], fun j u hu => ⟨_, rfl, by simp, ?_⟩⟩
  have e := heap_alloc_new w (.cells (numK.rows l).toArray 3)
  have := cell_of_row _ _ j _ _ (0, 0) e
  have ea : (⟨w.heap.size, 0, none⟩ : Addr).add j = ⟨w.heap.size, j, none⟩ := by unfold Addr.add; by_cases h : j = 0 <;> simp [h]
  rw [ea, this]
  simpa using hu

def big (n : Int) : Bool := !small n
def longK (s : ByteArray) : Bool := decide (32 < s.size)
def longP (p : Pr) : Bool := longK p.key || decide (64 < p.val.size)
theorem big_any (n : Int) (w : World) : Calls Try.prog 21 #[.int .i64 n] w fun e w' => e = .returned (.bool (big n)) ∧ Q w w' := by
  by_cases h0 : n < 0
  · have hb : big n = true := by unfold big small; simp; omega
    have HB := Lib.hid hb
    clear hb
    go_enter Try.func21, Try.ntmps21
    go_wp2
    go_ret
    exact ⟨ret_bool HB.out.symm, Q.refl _⟩
  · by_cases h1 : 1073741824 < n
    · have hb : big n = true := by unfold big small; simp; omega
      have HB := Lib.hid hb
      clear hb
      go_enter Try.func21, Try.ntmps21
      go_wp2
      go_ret
      exact ⟨ret_bool HB.out.symm, Q.refl _⟩
    · have hb : big n = false := by unfold big small; simp; omega
      have HB := Lib.hid hb
      clear hb
      go_enter Try.func21, Try.ntmps21
      go_wp2
      go_ret
      exact ⟨ret_bool HB.out.symm, Q.refl _⟩
theorem longK_any (s : ByteArray) (w : World) : Calls Try.prog 29 #[.string s] w fun e w' => e = .returned (.bool (longK s)) ∧ Q w w' := by
  by_cases h1 : 32 < s.size
  · have hi : (32 : Int) < (s.size : Int) := by omega
    have HB := Lib.hid (show longK s = true from decide_eq_true h1)
    go_enter Try.func29, Try.ntmps29
    go_wp2
    go_ret
    exact ⟨ret_bool HB.out.symm, Q.refl _⟩
  · have hi : ¬ (32 : Int) < (s.size : Int) := by omega
    have HB := Lib.hid (show longK s = false from decide_eq_false h1)
    go_enter Try.func29, Try.ntmps29
    go_wp2
    go_ret
    exact ⟨ret_bool HB.out.symm, Q.refl _⟩

set_option maxHeartbeats 1000000 in
theorem index_nums (A : Option Addr) (n c : Nat) (l : List Int) (w : World) (hf : Lst numK w A n l) (hn : n ≤ maxLen) :
    Calls Try.prog 27 #[.slice A n c, .func (.func 21) #[] #[]] w fun e w' => e = .returned (.int .i64 (idx big l 0)) ∧ Q w w' := by
  unfold maxLen at hn
  have HF := Lib.hid hf
  clear hf
  generalize hP : big = P
  have HP0 := Lib.hid hP
  clear hP
  go_enter Try.func27, Try.ntmps27
  go_wp2
  go_loopw [8] (fun i wr => ∃ k : Nat, k ≤ n ∧ i = .int .i64 k ∧ Q w wr ∧ idx P l 0 = idx P (l.drop k) k) (fun i _ => n - (intOf i).toNat)
  case atStart => exact ⟨0, Nat.zero_le _, rfl, Q.refl _, rfl⟩
  case round =>
    obtain ⟨k, hk, rfl, hq, hp⟩ := hrel
    have HP := Lib.hid hp
    clear hp
    by_cases hlt : k < n
    · have hlen := HF.out.len
      have hkl : k < l.length := by omega
      obtain ⟨ad, rfl, hb, c0⟩ := load_num (HF.out.q hq) hlt hkl
      clear hlen
      go_wp2_with fail
      refine (big_any l[k] _).mono ?_
      rintro e w1 ⟨rfl, q1⟩
      rw [HP0.out]
      by_cases hh : P l[k] = true
      · go_wp2
        go_ret
        exact ⟨ret_int (by rw [HP.out, idx_drop _ _ hkl, if_pos hh]), hq.trans q1⟩
      · have hd : P l[k] = false := by simpa using hh
        go_wp2
        go_roundw
        case rel => exact ⟨k + 1, by omega, by go_num, hq.trans q1, by rw [HP.out, idx_drop _ _ hkl, if_neg hh]⟩
        case measure => simp [intOf]; omega
    · have hlen := HF.out.len
      have HL := Lib.hid hlen
      clear hlen
      go_wp2
      go_ret
      exact ⟨ret_int (by rw [HP.out, idx_end _ _ (by have := HL.out; omega)]), hq⟩
theorem contains_nums (A : Option Addr) (n c : Nat) (l : List Int) (w : World) (hf : Lst numK w A n l) (hn : n ≤ maxLen) :
    Calls Try.prog 20 #[.slice A n c, .func (.func 21) #[] #[]] w fun e w' => e = .returned (.bool (l.any big)) ∧ Q w w' := by
  have K := Lib.hid (index_nums A n c l w hf hn)
  rcases idx_cases big l 0 with ⟨hp, hall⟩ | ⟨k, hk, hp, hkn, hfirst⟩
  · have hr : l.any big = false := by rw [List.any_eq_false]; intro x hx; simp [hall x hx]
    have HR := Lib.hid hr
    have HP := Lib.hid hp
    clear hr hp hall hf
    go_enter Try.func20, Try.ntmps20
    go_wp2_with fail
    refine K.out.mono ?_
    rintro e w1 ⟨rfl, q1⟩
    rw [HP.out]
    go_wp2
    go_ret
    exact ⟨ret_bool HR.out.symm, q1⟩
  · have hr : l.any big = true := List.any_eq_true.2 ⟨_, List.getElem_mem hk, hkn⟩
    have HR := Lib.hid hr
    have HP := Lib.hid (hp.trans (by simp : ((0 + k : Nat) : Int) = (k : Int)))
    clear hr hp hfirst hf hkn
    have h0 : (0 : Int) ≤ (k : Int) := by omega
    go_enter Try.func20, Try.ntmps20
    go_wp2_with fail
    refine K.out.mono ?_
    rintro e w1 ⟨rfl, q1⟩
    rw [HP.out]
    go_wp2
    go_ret
    exact ⟨ret_bool HR.out.symm, q1⟩
theorem nums_any (A : Option Addr) (n c : Nat) (l : List Int) (w : World) (hf : Lst numK w A n l) (hn : n ≤ maxLen) :
    Calls Try.prog 12 #[.slice A n c] w fun e w' => e = .returned (.bool (!l.any big)) ∧ Q w w' := by
  have K := Lib.hid (contains_nums A n c l w hf hn)
  generalize l.any big = r at K ⊢
  clear hf
  go_enter Try.func12, Try.ntmps12
  go_wp2_with fail
  refine K.out.mono ?_
  rintro e w1 ⟨rfl, q1⟩
  cases r
  · go_wp2
    go_ret
    exact ⟨rfl, q1⟩
  · go_wp2
    go_ret
    exact ⟨rfl, q1⟩
set_option maxHeartbeats 1000000 in
theorem index_keys (A : Option Addr) (n c : Nat) (l : List ByteArray) (w : World) (hf : Lst strK w A n l) (hn : n ≤ maxLen) :
    Calls Try.prog 32 #[.slice A n c, .func (.func 29) #[] #[]] w fun e w' => e = .returned (.int .i64 (idx longK l 0)) ∧ Q w w' := by
  unfold maxLen at hn
  have HF := Lib.hid hf
  clear hf
  generalize hP : longK = P
  have HP0 := Lib.hid hP
  clear hP
  go_enter Try.func32, Try.ntmps32
  go_wp2
  go_loopw [8] (fun i wr => ∃ k : Nat, k ≤ n ∧ i = .int .i64 k ∧ Q w wr ∧ idx P l 0 = idx P (l.drop k) k) (fun i _ => n - (intOf i).toNat)
  case atStart => exact ⟨0, Nat.zero_le _, rfl, Q.refl _, rfl⟩
  case round =>
    obtain ⟨k, hk, rfl, hq, hp⟩ := hrel
    have HP := Lib.hid hp
    clear hp
    by_cases hlt : k < n
    · have hlen := HF.out.len
      have hkl : k < l.length := by omega
      obtain ⟨ad, rfl, hb, c0⟩ := load_str (HF.out.q hq) hlt hkl
      clear hlen
      go_wp2_with fail
      refine (longK_any l[k] _).mono ?_
      rintro e w1 ⟨rfl, q1⟩
      rw [HP0.out]
      by_cases hh : P l[k] = true
      · go_wp2
        go_ret
        exact ⟨ret_int (by rw [HP.out, idx_drop _ _ hkl, if_pos hh]), hq.trans q1⟩
      · have hd : P l[k] = false := by simpa using hh
        go_wp2
        go_roundw
        case rel => exact ⟨k + 1, by omega, by go_num, hq.trans q1, by rw [HP.out, idx_drop _ _ hkl, if_neg hh]⟩
        case measure => simp [intOf]; omega
    · have hlen := HF.out.len
      have HL := Lib.hid hlen
      clear hlen
      go_wp2
      go_ret
      exact ⟨ret_int (by rw [HP.out, idx_end _ _ (by have := HL.out; omega)]), hq⟩
theorem contains_keys (A : Option Addr) (n c : Nat) (l : List ByteArray) (w : World) (hf : Lst strK w A n l) (hn : n ≤ maxLen) :
    Calls Try.prog 28 #[.slice A n c, .func (.func 29) #[] #[]] w fun e w' => e = .returned (.bool (l.any longK)) ∧ Q w w' := by
  have K := Lib.hid (index_keys A n c l w hf hn)
  rcases idx_cases longK l 0 with ⟨hp, hall⟩ | ⟨k, hk, hp, hkn, hfirst⟩
  · have hr : l.any longK = false := by rw [List.any_eq_false]; intro x hx; simp [hall x hx]
    have HR := Lib.hid hr
    have HP := Lib.hid hp
    clear hr hp hall hf
    go_enter Try.func28, Try.ntmps28
    go_wp2_with fail
    refine K.out.mono ?_
    rintro e w1 ⟨rfl, q1⟩
    rw [HP.out]
    go_wp2
    go_ret
    exact ⟨ret_bool HR.out.symm, q1⟩
  · have hr : l.any longK = true := List.any_eq_true.2 ⟨_, List.getElem_mem hk, hkn⟩
    have HR := Lib.hid hr
    have HP := Lib.hid (hp.trans (by simp : ((0 + k : Nat) : Int) = (k : Int)))
    clear hr hp hfirst hf hkn
    have h0 : (0 : Int) ≤ (k : Int) := by omega
    go_enter Try.func28, Try.ntmps28
    go_wp2_with fail
    refine K.out.mono ?_
    rintro e w1 ⟨rfl, q1⟩
    rw [HP.out]
    go_wp2
    go_ret
    exact ⟨ret_bool HR.out.symm, q1⟩
theorem keys_any (A : Option Addr) (n c : Nat) (l : List ByteArray) (w : World) (hf : Lst strK w A n l) (hn : n ≤ maxLen) :
    Calls Try.prog 22 #[.slice A n c] w fun e w' => e = .returned (.bool (!l.any longK)) ∧ Q w w' := by
  have K := Lib.hid (contains_keys A n c l w hf hn)
  generalize l.any longK = r at K ⊢
  clear hf
  go_enter Try.func22, Try.ntmps22
  go_wp2_with fail
  refine K.out.mono ?_
  rintro e w1 ⟨rfl, q1⟩
  cases r
  · go_wp2
    go_ret
    exact ⟨rfl, q1⟩
  · go_wp2
    go_ret
    exact ⟨rfl, q1⟩
theorem longP_any (p : Pr) (w : World) : Calls Try.prog 26 #[.agg #[.string p.key, .string p.val]] w fun e w' => e = .returned (.bool (longP p)) ∧ Q w w' := by
  obtain ⟨k, v⟩ := p
  have X := Lib.hid (Bx.new w [.string k, .string v] 41)
  have QF := Lib.hid ((Q.refl w).alloc (.cells #[.string k, .string v] 41))
  have HL : Hid (longP ⟨k, v⟩ = (longK k || decide (64 < v.size))) := Lib.hid rfl
  generalize longP ⟨k, v⟩ = res at HL ⊢
  have K := Lib.hid (fun W => keys_any (some ⟨W.heap.size, 0, none⟩) 1 1 [k] (W.alloc (.cells #[.string k] 9)) (lst_lits W [k]) (by unfold maxLen; omega))
  simp only [List.any_cons, List.any_nil, Bool.or_false] at K
  show Calls _ _ #[.agg #[.string k, .string v]] _ _
  cases hk : longK k with
  | true =>
    rw [hk] at K HL
    clear hk
    go_enter Try.func26, Try.ntmps26
    go_upto_region 1 with (fail)
    generalize w.alloc (.cells #[.string k, .string v] 41) = W0 at X QF ⊢
    generalize w.heap.size = b at X ⊢
    have x0 := (X.out 0 _ rfl).1
    go_wp2_with fail
    refine (K.out _).mono ?_
    rintro e w1 ⟨rfl, q1⟩
    have q2 := ((Q.refl W0).alloc (.cells #[.string k] 9)).trans q1
    have X1 := Lib.hid (X.out.q q2)
    have Q1 := Lib.hid (QF.out.trans q2)
    have x1 := (X1.out 1 _ rfl).1
    clear q1 q2 x0 X
    go_wp2
    go_ret
    exact ⟨ret_bool (by rw [HL.out]; first | rfl | (simp; omega)), Q1.out⟩
  | false =>
    rw [hk] at K HL
    clear hk
    by_cases hv : 64 < v.size
    · have hvi : (64 : Int) < (v.size : Int) := by omega
      rw [decide_eq_true hv] at HL
      go_enter Try.func26, Try.ntmps26
      go_upto_region 1 with (fail)
      generalize w.alloc (.cells #[.string k, .string v] 41) = W0 at X QF ⊢
      generalize w.heap.size = b at X ⊢
      have x0 := (X.out 0 _ rfl).1
      go_wp2_with fail
      refine (K.out _).mono ?_
      rintro e w1 ⟨rfl, q1⟩
      have q2 := ((Q.refl W0).alloc (.cells #[.string k] 9)).trans q1
      have X1 := Lib.hid (X.out.q q2)
      have Q1 := Lib.hid (QF.out.trans q2)
      have x1 := (X1.out 1 _ rfl).1
      clear q1 q2 x0 X
      go_wp2
      go_ret
      exact ⟨ret_bool (by rw [HL.out]; first | rfl | (simp; omega)), Q1.out⟩
    · have hvi : ¬ (64 : Int) < (v.size : Int) := by omega
      rw [decide_eq_false hv] at HL
      go_enter Try.func26, Try.ntmps26
      go_upto_region 1 with (fail)
      generalize w.alloc (.cells #[.string k, .string v] 41) = W0 at X QF ⊢
      generalize w.heap.size = b at X ⊢
      have x0 := (X.out 0 _ rfl).1
      go_wp2_with fail
      refine (K.out _).mono ?_
      rintro e w1 ⟨rfl, q1⟩
      have q2 := ((Q.refl W0).alloc (.cells #[.string k] 9)).trans q1
      have X1 := Lib.hid (X.out.q q2)
      have Q1 := Lib.hid (QF.out.trans q2)
      have x1 := (X1.out 1 _ rfl).1
      clear q1 q2 x0 X
      go_wp2
      go_ret
      exact ⟨ret_bool (by rw [HL.out]; first | rfl | (simp; omega)), Q1.out⟩
set_option maxHeartbeats 1000000 in
theorem index_rows (A : Option Addr) (n c : Nat) (l : List Pr) (w : World) (hf : Lst pairK w A n l) (hn : n ≤ maxLen) :
    Calls Try.prog 31 #[.slice A n c, .func (.func 26) #[] #[]] w fun e w' => e = .returned (.int .i64 (idx longP l 0)) ∧ Q w w' := by
  unfold maxLen at hn
  have HF := Lib.hid hf
  clear hf
  generalize hP : longP = P
  have HP0 := Lib.hid hP
  clear hP
  go_enter Try.func31, Try.ntmps31
  go_wp2
  go_loopw [8] (fun i wr => ∃ k : Nat, k ≤ n ∧ i = .int .i64 k ∧ Q w wr ∧ idx P l 0 = idx P (l.drop k) k) (fun i _ => n - (intOf i).toNat)
  case atStart => exact ⟨0, Nat.zero_le _, rfl, Q.refl _, rfl⟩
  case round =>
    obtain ⟨k, hk, rfl, hq, hp⟩ := hrel
    have HP := Lib.hid hp
    clear hp
    by_cases hlt : k < n
    · have hlen := HF.out.len
      have hkl : k < l.length := by omega
      obtain ⟨ad, rfl, hb, c0, c1⟩ := load_pair (HF.out.q hq) hlt hkl
      clear hlen
      go_wp2_with fail
      refine (longP_any l[k] _).mono ?_
      rintro e w1 ⟨rfl, q1⟩
      rw [HP0.out]
      by_cases hh : P l[k] = true
      · go_wp2
        go_ret
        exact ⟨ret_int (by rw [HP.out, idx_drop _ _ hkl, if_pos hh]), hq.trans q1⟩
      · have hd : P l[k] = false := by simpa using hh
        go_wp2
        go_roundw
        case rel => exact ⟨k + 1, by omega, by go_num, hq.trans q1, by rw [HP.out, idx_drop _ _ hkl, if_neg hh]⟩
        case measure => simp [intOf]; omega
    · have hlen := HF.out.len
      have HL := Lib.hid hlen
      clear hlen
      go_wp2
      go_ret
      exact ⟨ret_int (by rw [HP.out, idx_end _ _ (by have := HL.out; omega)]), hq⟩
theorem contains_rows (A : Option Addr) (n c : Nat) (l : List Pr) (w : World) (hf : Lst pairK w A n l) (hn : n ≤ maxLen) :
    Calls Try.prog 25 #[.slice A n c, .func (.func 26) #[] #[]] w fun e w' => e = .returned (.bool (l.any longP)) ∧ Q w w' := by
  have K := Lib.hid (index_rows A n c l w hf hn)
  rcases idx_cases longP l 0 with ⟨hp, hall⟩ | ⟨k, hk, hp, hkn, hfirst⟩
  · have hr : l.any longP = false := by rw [List.any_eq_false]; intro x hx; simp [hall x hx]
    have HR := Lib.hid hr
    have HP := Lib.hid hp
    clear hr hp hall hf
    go_enter Try.func25, Try.ntmps25
    go_wp2_with fail
    refine K.out.mono ?_
    rintro e w1 ⟨rfl, q1⟩
    rw [HP.out]
    go_wp2
    go_ret
    exact ⟨ret_bool HR.out.symm, q1⟩
  · have hr : l.any longP = true := List.any_eq_true.2 ⟨_, List.getElem_mem hk, hkn⟩
    have HR := Lib.hid hr
    have HP := Lib.hid (hp.trans (by simp : ((0 + k : Nat) : Int) = (k : Int)))
    clear hr hp hfirst hf hkn
    have h0 : (0 : Int) ≤ (k : Int) := by omega
    go_enter Try.func25, Try.ntmps25
    go_wp2_with fail
    refine K.out.mono ?_
    rintro e w1 ⟨rfl, q1⟩
    rw [HP.out]
    go_wp2
    go_ret
    exact ⟨ret_bool HR.out.symm, q1⟩
theorem rows_any (A : Option Addr) (n c : Nat) (l : List Pr) (w : World) (hf : Lst pairK w A n l) (hn : n ≤ maxLen) :
    Calls Try.prog 19 #[.slice A n c] w fun e w' => e = .returned (.bool (decide (l.length ≤ 16) && right l && !l.any longP)) ∧ Q w w' := by
  have K1 := Lib.hid (right_any A n c l w hf hn)
  have K2 := Lib.hid (fun W (q : Q w W) => contains_rows A n c l W (hf.q q) hn)
  have hlen := hf.len
  generalize hr : right l = r at K1 ⊢
  generalize l.any longP = p at K2 ⊢
  generalize l.length = m at hlen ⊢
  subst hlen
  clear hf hn hr
  by_cases hm : m ≤ 16
  · have hmi : (m : Int) ≤ 16 := by omega
    cases r with
    | false =>
      go_enter Try.func19, Try.ntmps19
      go_wp2_with fail
      refine K1.out.mono ?_
      rintro e w1 ⟨rfl, q1⟩
      go_wp2
      go_ret
      exact ⟨ret_bool (by simp), q1⟩
    | true =>
      cases p with
      | false =>
        go_enter Try.func19, Try.ntmps19
        go_wp2_with fail
        refine K1.out.mono ?_
        rintro e w1 ⟨rfl, q1⟩
        go_wp2_with fail
        refine (K2.out w1 q1).mono ?_
        rintro e w2 ⟨rfl, q2⟩
        go_wp2
        go_ret
        exact ⟨ret_bool (by simp [hm]), q1.trans q2⟩
      | true =>
        go_enter Try.func19, Try.ntmps19
        go_wp2_with fail
        refine K1.out.mono ?_
        rintro e w1 ⟨rfl, q1⟩
        go_wp2_with fail
        refine (K2.out w1 q1).mono ?_
        rintro e w2 ⟨rfl, q2⟩
        go_wp2
        go_ret
        exact ⟨ret_bool (by simp), q1.trans q2⟩
  · have hmi : ¬ (m : Int) ≤ 16 := by omega
    go_enter Try.func19, Try.ntmps19
    go_wp2
    go_ret
    exact ⟨ret_bool (by simp [hm]), Q.refl _⟩
end Wi
end Go.Proofs.Ytdipikdebapmlaa

/- Contracts of the document's own TakeNum, TakeText. -/
namespace Go.Proofs.Ytdipikdebapmlaa
set_option maxRecDepth 100000
open Go.RowKit
set_option linter.unusedVariables false

end Go.Proofs.Ytdipikdebapmlaa

/- The contract of the document's own TakeText. -/
namespace Go.Proofs.Ytdipikdebapmlaa
set_option maxRecDepth 100000
open Go.RowKit
set_option linter.unusedVariables false

end Go.Proofs.Ytdipikdebapmlaa

/- Boxes of two cells; a struct of two slices. -/
namespace Go.Proofs.Ytdipikdebapmlaa
set_option maxRecDepth 100000
open Go.RowKit
set_option linter.unusedVariables false

end Go.Proofs.Ytdipikdebapmlaa

/- Contracts: the document's small, takes, reads (chapter 16). -/
namespace Go.Proofs.Ytdipikdebapmlaa
set_option maxRecDepth 100000
open Go.RowKit
set_option linter.unusedVariables false
set_option linter.unusedSimpArgs false
namespace Wi

end Wi
end Go.Proofs.Ytdipikdebapmlaa

/- The contract of the document's MayReq (chapter 16). -/
namespace Go.Proofs.Ytdipikdebapmlaa
set_option maxRecDepth 100000
open Go.RowKit
set_option linter.unusedVariables false
set_option linter.unusedSimpArgs false
namespace Wi

@[go_sem high] theorem run_eql_op0 (w : World) (k m : Int) (a b c d : ByteArray) :
    (binOp .eql 23 (.agg #[.int .i64 k, .string a, .string b, .string c, .string d, .int .i64 m]) (.agg #[.int .i64 0, .string ⟨#[]⟩, .string ⟨#[]⟩, .string ⟨#[]⟩, .string ⟨#[]⟩, .int .i64 0])).run Try.prog w = .ok (.bool (decide ((⟨k, a, b, c, d, m⟩ : Op) = op0))) w := by
  rw [run_eql_struct, show (10000 : Nat) = 9999 + 1 from rfl, run_equalIn_agg _ _ _ _ _ (by kernel_rfl) (by kernel_rfl)]
  simp only [Program.fieldsOf, Try.underlying23]
  have f0 : Try.prog.underlying 3 = some (.int .i64) := by kernel_rfl
  have f1 : Try.prog.underlying 9 = some .string := by kernel_rfl
  have e : decide ((⟨k, a, b, c, d, m⟩ : Op) = op0) = (decide (k = 0) && (a.toList == (⟨#[]⟩ : ByteArray).toList) && (b.toList == (⟨#[]⟩ : ByteArray).toList) && (c.toList == (⟨#[]⟩ : ByteArray).toList) && (d.toList == (⟨#[]⟩ : ByteArray).toList) && decide (m = 0)) := by
    rw [same_str, same_str, same_str, same_str, Bool.eq_iff_iff]
    unfold op0
    simp only [Op.mk.injEq, Bool.and_eq_true, decide_eq_true_eq]
    constructor
    · rintro ⟨h1, h2, h3, h4, h5, h6⟩; exact ⟨⟨⟨⟨⟨h1, h2⟩, h3⟩, h4⟩, h5⟩, h6⟩
    · rintro ⟨⟨⟨⟨⟨h1, h2⟩, h3⟩, h4⟩, h5⟩, h6⟩; exact ⟨h1, h2, h3, h4, h5, h6⟩
  rw [e]
  simp [Op.eqFields, go_sem, run_equalIn_int (h := f0), run_equalIn_string (h := f1)]
  by_cases h0 : k = 0 <;> by_cases h5 : m = 0 <;> cases h1 : (a.toList == (⟨#[]⟩ : ByteArray).toList) <;> cases h2 : (b.toList == (⟨#[]⟩ : ByteArray).toList) <;> cases h3 : (c.toList == (⟨#[]⟩ : ByteArray).toList) <;> cases h4 : (d.toList == (⟨#[]⟩ : ByteArray).toList) <;> simp_all
end Wi
end Go.Proofs.Ytdipikdebapmlaa

/- Contract: the document's order of texts. -/
namespace Go.Proofs.Ytdipikdebapmlaa
set_option maxRecDepth 100000
open Go.RowKit Prm
set_option linter.unusedVariables false
set_option linter.unusedSimpArgs false

end Go.Proofs.Ytdipikdebapmlaa

/- Contracts: the document's answer for pairs: Same, Between, Right, Find, Drop, Range. -/
namespace Go.Proofs.Ytdipikdebapmlaa
set_option maxRecDepth 100000
open Go.RowKit Prm
set_option linter.unusedVariables false
set_option linter.unusedSimpArgs false

end Go.Proofs.Ytdipikdebapmlaa

/- Contracts: the document's answer for pairs: Right, Range, Put, Apply. -/
namespace Go.Proofs.Ytdipikdebapmlaa
set_option maxRecDepth 100000
open Go.RowKit Prm
set_option linter.unusedVariables false
set_option linter.unusedSimpArgs false

/-- the sizes of a list's keys. -/
def KeysIn (l : List Pr) : Prop := ∀ p ∈ l, p.key.size ≤ maxLen
end Go.Proofs.Ytdipikdebapmlaa

/- The contracts of the document's mayReply, flag (chapter 16). -/
namespace Go.Proofs.Ytdipikdebapmlaa
set_option maxRecDepth 100000
open Go.RowKit Prm
set_option linter.unusedVariables false
set_option linter.unusedSimpArgs false
namespace Wi

abbrev rpL (p : Rp) (A : Option Addr) (N c : Nat) : List Value := [.int .i64 p.epoch, .int .i64 p.sess, .int .i64 p.seq, .int .i64 p.err, .string p.val, .bool p.found, .slice A N c, .bool p.over]
abbrev rpV (p : Rp) (A : Option Addr) (N c : Nat) : Value := .agg (rpL p A N c).toArray
end Wi
end Go.Proofs.Ytdipikdebapmlaa
