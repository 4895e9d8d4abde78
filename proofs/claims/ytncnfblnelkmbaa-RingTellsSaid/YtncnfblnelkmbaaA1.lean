/- Base, PairMath, SpanMath, LockMath, Mem, OwnRows, Kind, Ints, Box, Bx2, LockK, Span, Less, Span2, Held, Span3, Pair, LockFind, LockMath2, SpanRef, SpanRef2: merged. -/
import Derived.Test.YtncnfblnelkmbaaRows
import Derived.WalkKit
import Derived.WalkSpells
import Derived.WalkLawsBesides
import Derived.ProofKit
import Derived.OpenShut
import Derived.ShutString
import Derived.Lib.Hide
import Derived.Deep.QuietTactic
import Derived.BigQuiet
import Derived.Laws.IdiomStrings
import Derived.Laws.OwnMore
import Derived.Laws.Rows
import Derived.Deep.MidRow
import Derived.Deep.AppendLies
import Derived.Deep.Fields
import Derived.OwnWalk
import Derived.Laws.IdiomCopy
import Derived.Deep.Upon
import Derived.Lib.LazyBuf
import Derived.Maps.AppendAt
import Derived.Laws.AppendOwnNone
import Derived.Laws.StructEq
import Derived.Laws.Cover1
import Derived.Deep.RegionHeld3
/- The words that all contracts share: 'Q w w'': behind the call all that was there is as it was. -/
namespace Go.Proofs.Ytncnfblnelkmbaa
set_option maxRecDepth 100000
open Go.RowKit

def Q (w w' : World) : Prop := Below w.heap.size w w'
theorem Q.below {w w' : World} (h : Q w w') : Below w.heap.size w w' := h
theorem Q.refl (w : World) : Q w w := Below.refl _ _
theorem Q.trans {a b c : World} (h : Q a b) (k : Q b c) : Q a c := Below.trans h (Below.mono k h.below.size)
theorem Q.drew {a w : World} (h : Q a w) : Q a w.drew := Below.drew h
theorem Q.drewN {a w : World} (h : Q a w) (n : Nat) : Q a (w.drewN n) := ⟨h.below.os, h.below.tape, h.below.output, h.below.size, h.below.block⟩
theorem Q.alloc {a w : World} (h : Q a w) (o : Obj) : Q a (w.alloc o) := Below.alloc h h.below.size o
theorem Q.setCell {a w : World} (h : Q a w) {p : Addr} (hp : a.heap.size ≤ p.block) (u : Value) : Q a (w.setCell p u) := Below.setCell h hp u
theorem Q.size {w w' : World} (h : Q w w') : w.heap.size ≤ w'.heap.size := h.below.size

theorem ret_bool {a b : Bool} (h : a = b) : Ending.returned (.bool a) = .returned (.bool b) := by rw [h]
end Go.Proofs.Ytncnfblnelkmbaa

/- Pairs, writes and what writes make of pairs: plain mathematics. -/
namespace Go.Proofs.Ytncnfblnelkmbaa.Prm
set_option maxRecDepth 100000
set_option linter.unusedVariables false

/-- the order of texts, by their bytes. -/
def lt (a b : ByteArray) : Bool := Op.bytesLess a.data.toList b.data.toList
theorem lt_data (a b : ByteArray) : Op.bytesLess a.toList b.toList = lt a b := by unfold lt; rw [ByteArray.toList_eq, ByteArray.toList_eq]
theorem less_eq : ∀ (x y : List UInt8), Op.bytesLess x y = decide (x < y)
  | [], y => by cases y <;> simp [Op.bytesLess]
  | a :: x, [] => by simp [Op.bytesLess]
  | a :: x, b :: y => by
    simp only [Op.bytesLess, less_eq x y, List.cons_lt_cons_iff, Bool.decide_or, Bool.decide_and]
    rfl
theorem lt_iff (a b : ByteArray) : lt a b = true ↔ a.data.toList < b.data.toList := by unfold lt; rw [less_eq]; simp
theorem lt_irrefl (a : ByteArray) : lt a a = false := by
  cases h : lt a a with
  | false => rfl
  | true => exact absurd ((lt_iff a a).1 h) (List.lt_irrefl _)
theorem lt_trans {a b c : ByteArray} (h : lt a b = true) (k : lt b c = true) : lt a c = true := (lt_iff a c).2 (List.lt_trans ((lt_iff a b).1 h) ((lt_iff b c).1 k))
theorem lt_asymm {a b : ByteArray} (h : lt a b = true) : lt b a = false := by
  cases k : lt b a with
  | false => rfl
  | true => have := lt_trans h k; rw [lt_irrefl] at this; cases this
theorem lt_tri {a b : ByteArray} (h : a ≠ b) (k : lt a b = false) : lt b a = true := by
  rcases Std.lt_trichotomy (α := List UInt8) a.data.toList b.data.toList with h1 | h1 | h1
  · rw [(lt_iff a b).2 h1] at k; cases k
  · exact absurd (ByteArray.ext (Array.ext' h1)) h
  · exact (lt_iff b a).2 h1
theorem ge_trans {a b c : ByteArray} (h : lt a b = false) (k : lt b c = false) : lt a c = false := by
  cases e : lt a c with
  | false => rfl
  | true =>
    by_cases hab : a = b
    · subst hab; rw [e] at k; cases k
    · have := lt_trans (lt_tri hab h) e; rw [this] at k; cases k

structure Pr where
  key : ByteArray
  val : ByteArray
deriving DecidableEq
structure Wr where
  key : ByteArray
  val : ByteArray
  del : Bool
deriving DecidableEq

def hasK (k : ByteArray) (p : Pr) : Bool := decide (p.key = k)
/-- a key's value. -/
def find (k : ByteArray) : List Pr → ByteArray × Bool
  | [] => (⟨#[]⟩, false)
  | p :: l => if hasK k p then (p.val, true) else find k l
/-- a pair that is put: in the place of the first one of its key; else ahead of the first one above it. -/
def ins (p : Pr) : List Pr → List Pr
  | [] => [p]
  | q :: l => if lt p.key q.key then p :: q :: l else q :: ins p l
def setF (p : Pr) : List Pr → List Pr
  | [] => []
  | q :: l => if hasK p.key q then p :: l else q :: setF p l
def put (l : List Pr) (p : Pr) : List Pr := if (find p.key l).2 then setF p l else ins p l
def drop (l : List Pr) (k : ByteArray) : List Pr := l.filter fun q => !hasK k q
def act (l : List Pr) (w : Wr) : List Pr := if w.del then drop l w.key else put l ⟨w.key, w.val⟩
def apply (l : List Pr) (ws : List Wr) : List Pr := ws.foldl act l
def btw (lo hi : ByteArray) (k : ByteArray) : Bool := !lt k lo && (decide (hi = ⟨#[]⟩) || lt k hi)
def range (l : List Pr) (lo hi : ByteArray) (most : Int) : List Pr := (l.filter fun p => btw lo hi p.key).take most.toNat
def right : List Pr → Bool
  | [] => true
  | p :: l => (match l with | [] => true | q :: _ => lt p.key q.key) && right l

theorem ins_len (p : Pr) (l : List Pr) : (ins p l).length = l.length + 1 := by
  induction l with
  | nil => rfl
  | cons q l ih => simp only [ins]; split <;> simp [ih]
end Go.Proofs.Ytncnfblnelkmbaa.Prm

/- Spans of keys: plain mathematics. -/
namespace Go.Proofs.Ytncnfblnelkmbaa.Sm
set_option maxRecDepth 100000
open Prm
set_option linter.unusedVariables false
set_option linter.unusedSimpArgs false

structure Wn where
  mode : Int
  lo : ByteArray
  hi : ByteArray
deriving DecidableEq

def bel (k hi : ByteArray) : Bool := decide (hi = ⟨#[]⟩) || lt k hi
def inS (w : Wn) (k : ByteArray) : Bool := !lt k w.lo && bel k w.hi
def some1 (w : Wn) : Bool := inS w w.lo
def mx (a b : ByteArray) : ByteArray := if lt a b then b else a
def cut (a b : Wn) : Bool := !decide (a.hi = ⟨#[]⟩) && bel a.hi b.hi
def part (a b : Wn) : Wn := ⟨b.mode, mx a.lo b.lo, if cut a b then a.hi else b.hi⟩
def over (a b : Wn) : Bool := some1 (part a b)
def xs (a b : Wn) : Bool := decide (a.mode = 2) || decide (b.mode = 2)
def clash (a b : Wn) : Bool := xs a b && over a b
def ok (w : Wn) : Bool := decide (w.mode = 1) || decide (w.mode = 2)
def may (w : Wn) : Bool := ok w && some1 w
def covers (a b : Wn) : Bool := (!decide (b.mode = 2) || decide (a.mode = 2)) && (may b && decide (part a b = b))
def key (m : Int) (k : ByteArray) : Wn := ⟨m, k, k ++ ⟨#[0]⟩⟩

-- the document's
def rmay (w : Wn) : Bool := bel w.lo w.hi && ok w
def rover (a b : Wn) : Bool := inS a (mx a.lo b.lo) && inS b (mx a.lo b.lo)
def rcovers (a b : Wn) : Bool := rmay b && (decide (a.mode = 2) || !decide (b.mode = 2)) && inS a b.lo && (decide (a.hi = ⟨#[]⟩) || (!decide (b.hi = ⟨#[]⟩) && !lt a.hi b.hi))

theorem le_lt {a b c : ByteArray} (h : lt b a = false) (k : lt b c = true) : lt a c = true := by
  by_cases e : a = b
  · subst e; exact k
  · exact lt_trans (lt_tri (fun x => e x.symm) h) k
theorem lt_le {a b c : ByteArray} (h : lt a b = true) (k : lt c b = false) : lt a c = true := by
  by_cases e : b = c
  · subst e; exact h
  · exact lt_trans h (lt_tri (fun x => e x.symm) k)
theorem mx_left (a b : ByteArray) : lt (mx a b) a = false := by
  unfold mx
  cases h : lt a b with
  | true => exact lt_asymm h
  | false => exact lt_irrefl a
theorem mx_right (a b : ByteArray) : lt (mx a b) b = false := by
  unfold mx
  cases h : lt a b with
  | true => exact lt_irrefl b
  | false => exact h
theorem mx_or (a b : ByteArray) : mx a b = a ∨ mx a b = b := by
  unfold mx; cases lt a b <;> simp
theorem mx_same {a b : ByteArray} (h : mx a b = b) : lt b a = false := h ▸ mx_left a b
theorem mx_le {a b : ByteArray} (h : lt b a = false) : mx a b = b := by
  unfold mx
  cases k : lt a b with
  | true => rfl
  | false =>
    by_cases e : a = b
    · simp [e]
    · have := lt_tri e k; rw [h] at this; cases this
theorem bel_empty (k : ByteArray) : bel k ⟨#[]⟩ = true := by simp [bel]
theorem bel_mono {a k hi : ByteArray} (h : lt k a = false) (hb : bel k hi = true) : bel a hi = true := by
  unfold bel at *
  by_cases e : hi = ⟨#[]⟩
  · simp [e]
  · simp only [e, decide_false, Bool.false_or] at hb ⊢
    exact le_lt h hb
theorem bel_min (k ah bh : ByteArray) : bel k (if (!decide (ah = ⟨#[]⟩) && bel ah bh) then ah else bh) = (bel k ah && bel k bh) := by
  by_cases ea : ah = ⟨#[]⟩
  · subst ea; simp [bel_empty]
  · simp only [ea, decide_false, Bool.not_false, Bool.true_and]
    cases h : bel ah bh with
    | true =>
      simp only [if_true]
      cases hk : bel k ah with
      | false => simp
      | true =>
        have hk' : lt k ah = true := by simpa [bel, ea] using hk
        have : bel k bh = true := bel_mono (k := ah) (a := k) (lt_asymm hk') h
        simp [this]
    | false =>
      simp only [Bool.false_eq_true, if_false]
      have hb : ¬ bh = ⟨#[]⟩ := fun e => by subst e; rw [bel_empty] at h; cases h
      have hl : lt ah bh = false := by simpa [bel, hb] using h
      cases hk : bel k bh with
      | false => simp
      | true =>
        have hk' : lt k bh = true := by simpa [bel, hb] using hk
        have : bel k ah = true := by unfold bel; rw [lt_le hk' hl]; simp
        simp [this]

theorem over_eq (a b : Wn) : over a b = rover a b := by
  unfold over some1 rover inS part cut
  simp only [bel_min, lt_irrefl, mx_left, mx_right, Bool.not_false, Bool.true_and]
theorem may_eq (w : Wn) : may w = rmay w := by
  unfold may rmay some1 inS
  rw [lt_irrefl]; simp [Bool.and_comm]
theorem inS_iff (w : Wn) (k : ByteArray) : inS w k = true ↔ lt k w.lo = false ∧ bel k w.hi = true := by
  unfold inS; simp
theorem over_iff (a b : Wn) : over a b = true ↔ ∃ k, inS a k = true ∧ inS b k = true := by
  rw [over_eq]
  constructor
  · intro h
    unfold rover at h
    rw [Bool.and_eq_true] at h
    exact ⟨_, h⟩
  · rintro ⟨k, h1, h2⟩
    rw [inS_iff] at h1 h2
    have hk : lt k (mx a.lo b.lo) = false := by
      rcases mx_or a.lo b.lo with e | e
      · rw [e]; exact h1.1
      · rw [e]; exact h2.1
    unfold rover
    rw [Bool.and_eq_true, inS_iff, inS_iff]
    refine ⟨⟨mx_left _ _, ?_⟩, mx_right _ _, ?_⟩
    · by_cases e : mx a.lo b.lo = k
      · rw [e]; exact h1.2
      · exact bel_mono (lt_asymm (lt_tri (fun x => e x.symm) hk)) h1.2
    · by_cases e : mx a.lo b.lo = k
      · rw [e]; exact h2.2
      · exact bel_mono (lt_asymm (lt_tri (fun x => e x.symm) hk)) h2.2
theorem over_comm (a b : Wn) : over a b = over b a := by
  rw [Bool.eq_iff_iff, over_iff, over_iff]
  exact ⟨fun ⟨k, h1, h2⟩ => ⟨k, h2, h1⟩, fun ⟨k, h1, h2⟩ => ⟨k, h2, h1⟩⟩
theorem clash_comm (a b : Wn) : clash a b = clash b a := by
  unfold clash xs; rw [over_comm a b, Bool.or_comm]

def hiLe (a b : Wn) : Prop := a.hi = ⟨#[]⟩ ∨ (b.hi ≠ ⟨#[]⟩ ∧ lt a.hi b.hi = false)
theorem cut_no {a b : Wn} : cut a b = false ↔ hiLe a b := by
  unfold cut hiLe bel
  by_cases ea : a.hi = ⟨#[]⟩ <;> by_cases eb : b.hi = ⟨#[]⟩ <;> simp [ea, eb]
theorem part_iff (a b : Wn) : part a b = b ↔ lt b.lo a.lo = false ∧ hiLe a b := by
  constructor
  · intro h
    have h1 : mx a.lo b.lo = b.lo := congrArg Wn.lo h
    have h2 : (if cut a b then a.hi else b.hi) = b.hi := congrArg Wn.hi h
    refine ⟨mx_same h1, ?_⟩
    cases hc : cut a b with
    | false => exact cut_no.1 hc
    | true =>
      rw [hc] at h2
      simp only [if_true] at h2
      unfold cut at hc
      rw [h2] at hc
      unfold bel at hc
      rw [lt_irrefl] at hc
      simp only [Bool.or_false] at hc
      revert hc
      cases decide (b.hi = ⟨#[]⟩) <;> intro hc <;> simp at hc
  · rintro ⟨h1, h2⟩
    unfold part
    rw [mx_le h1, cut_no.2 h2]
    rfl
theorem some1_iff (w : Wn) : some1 w = true ↔ bel w.lo w.hi = true := by unfold some1 inS; rw [lt_irrefl]; simp
theorem covers_iff (a b : Wn) : covers a b = true ↔ (b.mode = 2 → a.mode = 2) ∧ ok b = true ∧ bel b.lo b.hi = true ∧ lt b.lo a.lo = false ∧ hiLe a b := by
  unfold covers may
  by_cases h2 : b.mode = 2 <;> by_cases h3 : a.mode = 2 <;> simp [h2, h3, part_iff, some1_iff, and_assoc]
theorem covers_eq (a b : Wn) : covers a b = rcovers a b := by
  rw [Bool.eq_iff_iff, covers_iff]
  have hin : bel b.lo b.hi = true → hiLe a b → bel b.lo a.hi = true := fun h1 h2 => by
    rcases h2 with e | ⟨eb, h⟩
    · rw [e]; exact bel_empty _
    · have : lt b.lo b.hi = true := by simpa [bel, eb] using h1
      unfold bel; rw [lt_le this h]; simp
  have hhi : (decide (a.hi = ⟨#[]⟩) || (!decide (b.hi = ⟨#[]⟩) && !lt a.hi b.hi)) = true ↔ hiLe a b := by unfold hiLe; simp
  unfold rcovers rmay
  rw [Bool.and_eq_true, Bool.and_eq_true, Bool.and_eq_true, Bool.and_eq_true, hhi, inS_iff]
  have hm : (decide (a.mode = 2) || !decide (b.mode = 2)) = true ↔ (b.mode = 2 → a.mode = 2) := by
    by_cases h2 : b.mode = 2 <;> by_cases h3 : a.mode = 2 <;> simp [h2, h3]
  rw [hm]
  exact ⟨fun ⟨h1, h2, h3, h4, h5⟩ => ⟨⟨⟨⟨h3, h2⟩, h1⟩, h4, hin h3 h5⟩, h5⟩, fun ⟨⟨⟨⟨h3, h2⟩, h1⟩, h4, _⟩, h5⟩ => ⟨h1, h2, h3, h4, h5⟩⟩

-- keys
theorem parts (a b : Wn) (mid : ByteArray) (h0 : ¬ mid = ⟨#[]⟩) (hm : inS a mid = true) : over a b = (over ⟨a.mode, a.lo, mid⟩ b || over ⟨a.mode, mid, a.hi⟩ b) := by
  rw [Bool.eq_iff_iff, Bool.or_eq_true, over_iff, over_iff, over_iff]
  have hm' := (inS_iff a mid).1 hm
  constructor
  · rintro ⟨k, h1, h2⟩
    have h1' := (inS_iff a k).1 h1
    cases e : lt k mid with
    | true => exact .inl ⟨k, (inS_iff _ _).2 ⟨h1'.1, by simp [bel, e]⟩, h2⟩
    | false => exact .inr ⟨k, (inS_iff _ _).2 ⟨e, h1'.2⟩, h2⟩
  · rintro (⟨k, h1, h2⟩ | ⟨k, h1, h2⟩)
    · have h1' := (inS_iff _ _).1 h1
      refine ⟨k, (inS_iff _ _).2 ⟨h1'.1, bel_mono ?_ hm'.2⟩, h2⟩
      have : lt k mid = true := by simpa [bel, h0] using h1'.2
      exact lt_asymm this
    · have h1' := (inS_iff _ _).1 h1
      exact ⟨k, (inS_iff _ _).2 ⟨ge_trans h1'.1 hm'.1, h1'.2⟩, h2⟩
theorem no_empty {s : ByteArray} (h : ¬ s = ⟨#[]⟩) : s.toList ≠ [] ∧ s.toList.isEmpty = false ∧ (s.toList == []) = false := by
  have h1 : s.toList ≠ [] := fun e => h (by
    have e1 : s.data.toList = [] := by simpa [ByteArray.toList_eq] using e
    exact ByteArray.ext (Array.ext' e1))
  exact ⟨h1, by simpa using h1, by simpa using h1⟩
end Go.Proofs.Ytncnfblnelkmbaa.Sm

/- Locks: plain mathematics, as the document tells them. -/
namespace Go.Proofs.Ytncnfblnelkmbaa.Lm
set_option maxRecDepth 100000
set_option linter.unusedVariables false
set_option linter.unusedSimpArgs false

structure Ho where
  txn : Int
  w : Sm.Wn
deriving DecidableEq
structure Cl where
  txn : Int
  w : Sm.Wn
  til : Nat
deriving DecidableEq
structure Lo where
  held : List Ho
  queue : List Cl
deriving DecidableEq

/-- a number into a rising row, once. -/
def ins (n : Int) : List Int → List Int
  | [] => [n]
  | a :: l => if a = n then a :: l else if n < a then n :: a :: l else a :: ins n l
def gatH (txn : Int) (w : Sm.Wn) : List Ho → List Int → List Int
  | [], out => out
  | h :: l, out => gatH txn w l (if Sm.clash h.w w = true ∧ h.txn ≠ txn then ins h.txn out else out)
def gatQ (txn : Int) (w : Sm.Wn) : List Cl → List Int → List Int
  | [], out => out
  | h :: l, out => gatQ txn w l (if Sm.clash h.w w = true ∧ h.txn ≠ txn then ins h.txn out else out)
def blk (l : Lo) (txn : Int) (w : Sm.Wn) (n : Nat) : List Int := gatQ txn w (l.queue.take n) (gatH txn w l.held [])
def waits (l : Lo) (txn : Int) : Bool := l.queue.any fun c => decide (c.txn = txn)
def late (l : Lo) (now : Nat) : List Int := (l.queue.filter fun c => decide (c.til ≤ now)).map Cl.txn
def covered (l : Lo) (txn : Int) (w : Sm.Wn) : Bool := l.held.any fun h => Sm.covers h.w w && decide (h.txn = txn)
def ask (l : Lo) (txn : Int) (w : Sm.Wn) (til : Nat) : Lo × Int :=
  if txn < 1 ∨ Sm.may w = false then (l, 1)
  else if waits l txn = true then (l, 8)
  else if covered l txn w = true then (l, 0)
  else if blk l txn w l.queue.length = [] then (⟨l.held ++ [⟨txn, w⟩], l.queue⟩, 0)
  else if 16 ≤ l.queue.length then (l, 11)
  else (⟨l.held, l.queue ++ [⟨txn, w, til⟩]⟩, 12)
/-- the first claim from place i on behind whom nobody stands. -/
def pick (l : Lo) : Nat → Nat → Option Nat
  | 0, _ => none
  | n + 1, i => if h : i < l.queue.length then (if blk l l.queue[i].txn l.queue[i].w i = [] then some i else pick l n (i + 1)) else none
def first (l : Lo) : Option Nat := pick l l.queue.length 0
def give (l : Lo) (i : Nat) (c : Cl) : Lo := ⟨l.held ++ [⟨c.txn, c.w⟩], l.queue.eraseIdx i⟩
def settleN : Nat → Lo → List Int → Lo × List Int
  | 0, l, out => (l, out)
  | n + 1, l, out => match first l with
    | none => (l, out)
    | some i => if h : i < l.queue.length then settleN n (give l i l.queue[i]) (out ++ [l.queue[i].txn]) else (l, out)
def settle (l : Lo) : Lo × List Int := settleN l.queue.length l []
def keep (l : Lo) (txn : Int) : Lo := ⟨l.held.filter fun h => decide (h.txn ≠ txn), l.queue.filter fun c => decide (c.txn ≠ txn)⟩
def free (l : Lo) (txn : Int) : Lo × List Int := settle (keep l txn)

/-! ### Who stands in the way -/
theorem mem_ins {n x : Int} : ∀ {l : List Int}, x ∈ ins n l ↔ x = n ∨ x ∈ l
  | [] => by simp [ins]
  | a :: l => by
    unfold ins
    split
    · rename_i h; subst h; simp
    · split
      · simp
      · rw [List.mem_cons, List.mem_cons, mem_ins]
        constructor
        · rintro (h | h | h)
          · exact .inr (.inl h)
          · exact .inl h
          · exact .inr (.inr h)
        · rintro (h | h | h)
          · exact .inr (.inl h)
          · exact .inl h
          · exact .inr (.inr h)
theorem ins_rise {n : Int} : ∀ {l : List Int}, l.Pairwise (· < ·) → (ins n l).Pairwise (· < ·)
  | [], _ => by simp [ins]
  | a :: l, h => by
    unfold ins
    split
    · exact h
    · rename_i h1
      split
      · rename_i h2
        refine List.pairwise_cons.2 ⟨fun x hx => ?_, h⟩
        rcases List.mem_cons.1 hx with rfl | hx
        · exact h2
        · exact Int.lt_trans h2 ((List.pairwise_cons.1 h).1 x hx)
      · rename_i h2
        refine List.pairwise_cons.2 ⟨fun x hx => ?_, ins_rise (List.pairwise_cons.1 h).2⟩
        rcases mem_ins.1 hx with rfl | hx
        · omega
        · exact (List.pairwise_cons.1 h).1 x hx
theorem gatH_mem {txn : Int} {w : Sm.Wn} {x : Int} : ∀ {l : List Ho} {out : List Int}, x ∈ gatH txn w l out ↔ x ∈ out ∨ ∃ h ∈ l, Sm.clash h.w w = true ∧ h.txn ≠ txn ∧ h.txn = x
  | [], out => by simp [gatH]
  | h :: l, out => by
    unfold gatH
    rw [gatH_mem]
    by_cases hc : Sm.clash h.w w = true ∧ h.txn ≠ txn
    · rw [if_pos hc, mem_ins]
      constructor
      · rintro ((e | e) | ⟨a, ha, hb⟩)
        · exact .inr ⟨h, by simp, hc.1, hc.2, e.symm⟩
        · exact .inl e
        · exact .inr ⟨a, by simp [ha], hb⟩
      · rintro (e | ⟨a, ha, hb⟩)
        · exact .inl (.inr e)
        · rcases List.mem_cons.1 ha with rfl | ha
          · exact .inl (.inl hb.2.2.symm)
          · exact .inr ⟨a, ha, hb⟩
    · rw [if_neg hc]
      constructor
      · rintro (e | ⟨a, ha, hb⟩)
        · exact .inl e
        · exact .inr ⟨a, by simp [ha], hb⟩
      · rintro (e | ⟨a, ha, hb⟩)
        · exact .inl e
        · rcases List.mem_cons.1 ha with rfl | ha
          · exact absurd ⟨hb.1, hb.2.1⟩ hc
          · exact .inr ⟨a, ha, hb⟩
theorem gatQ_mem {txn : Int} {w : Sm.Wn} {x : Int} : ∀ {l : List Cl} {out : List Int}, x ∈ gatQ txn w l out ↔ x ∈ out ∨ ∃ h ∈ l, Sm.clash h.w w = true ∧ h.txn ≠ txn ∧ h.txn = x
  | [], out => by simp [gatQ]
  | h :: l, out => by
    unfold gatQ
    rw [gatQ_mem]
    by_cases hc : Sm.clash h.w w = true ∧ h.txn ≠ txn
    · rw [if_pos hc, mem_ins]
      constructor
      · rintro ((e | e) | ⟨a, ha, hb⟩)
        · exact .inr ⟨h, by simp, hc.1, hc.2, e.symm⟩
        · exact .inl e
        · exact .inr ⟨a, by simp [ha], hb⟩
      · rintro (e | ⟨a, ha, hb⟩)
        · exact .inl (.inr e)
        · rcases List.mem_cons.1 ha with rfl | ha
          · exact .inl (.inl hb.2.2.symm)
          · exact .inr ⟨a, ha, hb⟩
    · rw [if_neg hc]
      constructor
      · rintro (e | ⟨a, ha, hb⟩)
        · exact .inl e
        · exact .inr ⟨a, by simp [ha], hb⟩
      · rintro (e | ⟨a, ha, hb⟩)
        · exact .inl e
        · rcases List.mem_cons.1 ha with rfl | ha
          · exact absurd ⟨hb.1, hb.2.1⟩ hc
          · exact .inr ⟨a, ha, hb⟩
theorem gatH_rise {txn : Int} {w : Sm.Wn} : ∀ {l : List Ho} {out : List Int}, out.Pairwise (· < ·) → (gatH txn w l out).Pairwise (· < ·)
  | [], _, h => h
  | a :: l, out, h => by
    unfold gatH
    apply gatH_rise
    split
    · exact ins_rise h
    · exact h
theorem gatQ_rise {txn : Int} {w : Sm.Wn} : ∀ {l : List Cl} {out : List Int}, out.Pairwise (· < ·) → (gatQ txn w l out).Pairwise (· < ·)
  | [], _, h => h
  | a :: l, out, h => by
    unfold gatQ
    apply gatQ_rise
    split
    · exact ins_rise h
    · exact h
theorem blk_rise (l : Lo) (txn : Int) (w : Sm.Wn) (n : Nat) : (blk l txn w n).Pairwise (· < ·) := gatQ_rise (gatH_rise List.Pairwise.nil)
theorem blk_mem {l : Lo} {txn : Int} {w : Sm.Wn} {n : Nat} {x : Int} : x ∈ blk l txn w n ↔ (∃ h ∈ l.held, Sm.clash h.w w = true ∧ h.txn ≠ txn ∧ h.txn = x) ∨ ∃ h ∈ l.queue.take n, Sm.clash h.w w = true ∧ h.txn ≠ txn ∧ h.txn = x := by
  unfold blk
  rw [gatQ_mem, gatH_mem]
  simp
/-- two rising rows of the same numbers are one. -/
theorem rise_eq : ∀ {a b : List Int}, a.Pairwise (· < ·) → b.Pairwise (· < ·) → (∀ x, x ∈ a ↔ x ∈ b) → a = b
  | [], [], _, _, _ => rfl
  | [], y :: b, _, _, h => absurd ((h y).2 (by simp)) (by simp)
  | x :: a, [], _, _, h => absurd ((h x).1 (by simp)) (by simp)
  | x :: a, y :: b, ha, hb, h => by
    have ha2 := List.pairwise_cons.1 ha
    have hb2 := List.pairwise_cons.1 hb
    have hxy : x = y := by
      rcases List.mem_cons.1 ((h x).1 (by simp)) with e | e
      · exact e
      · rcases List.mem_cons.1 ((h y).2 (by simp)) with e2 | e2
        · exact e2.symm
        · have := hb2.1 x e
          have := ha2.1 y e2
          omega
    subst hxy
    rw [rise_eq ha2.2 hb2.2 fun z => ⟨fun hz => ?_, fun hz => ?_⟩]
    · rcases List.mem_cons.1 ((h z).1 (by simp [hz])) with e | e
      · have := ha2.1 z hz; omega
      · exact e
    · rcases List.mem_cons.1 ((h z).2 (by simp [hz])) with e | e
      · have := hb2.1 z hz; omega
      · exact e
theorem blk_nil {l : Lo} {txn : Int} {w : Sm.Wn} {n : Nat} : blk l txn w n = [] ↔ (∀ h ∈ l.held, Sm.clash h.w w = true → h.txn = txn) ∧ ∀ h ∈ l.queue.take n, Sm.clash h.w w = true → h.txn = txn := by
  rw [List.eq_nil_iff_forall_not_mem]
  constructor
  · intro h
    constructor
    · intro a ha hc
      by_cases e : a.txn = txn
      · exact e
      · exact absurd (blk_mem.2 (.inl ⟨a, ha, hc, e, rfl⟩)) (h a.txn)
    · intro a ha hc
      by_cases e : a.txn = txn
      · exact e
      · exact absurd (blk_mem.2 (.inr ⟨a, ha, hc, e, rfl⟩)) (h a.txn)
  · rintro ⟨h1, h2⟩ x hx
    rcases blk_mem.1 hx with ⟨a, ha, hc, hn, _⟩ | ⟨a, ha, hc, hn, _⟩
    · exact hn (h1 a ha hc)
    · exact hn (h2 a ha hc)

/-! ### Settled -/
theorem pick_some {l : Lo} : ∀ {n i k : Nat}, pick l n i = some k → ∃ h : k < l.queue.length, blk l l.queue[k].txn l.queue[k].w k = []
  | 0, i, k, h => by simp [pick] at h
  | n + 1, i, k, h => by
    unfold pick at h
    split at h
    · rename_i hi
      split at h
      · rename_i hb
        injection h with h
        subst h
        exact ⟨hi, hb⟩
      · exact pick_some h
    · cases h
/-- what stays, claim by claim that is given. -/
theorem settle_ind {P : Lo → List Int → Prop} (hs : ∀ l out i (hi : i < l.queue.length), blk l l.queue[i].txn l.queue[i].w i = [] → P l out → P (give l i l.queue[i]) (out ++ [l.queue[i].txn])) :
    ∀ (n : Nat) (l : Lo) (out : List Int), P l out → P (settleN n l out).1 (settleN n l out).2
  | 0, l, out, h => h
  | n + 1, l, out, h => by
    unfold settleN
    cases hf : first l with
    | none => exact h
    | some i =>
      obtain ⟨hi, hb⟩ := pick_some hf
      simp only [hi, dif_pos]
      exact settle_ind hs n _ _ (hs l out i hi hb h)

/-! ### What follows -/
theorem waits_no {l : Lo} {txn : Int} (h : waits l txn = false) : ∀ c ∈ l.queue, c.txn ≠ txn := by
  intro c hc e
  have := List.any_eq_false.1 h c hc
  simp [e] at this
/-- who was freed holds nothing, and waits for nothing; nobody else loses what they hold; who is told holds what they waited for. -/
theorem free_goes (l : Lo) (txn : Int) : (∃ m, (free l txn).1.held = (l.held.filter fun h => decide (h.txn ≠ txn)) ++ m ∧ m.map Ho.txn = (free l txn).2 ∧ ∀ h ∈ m, h.txn ≠ txn) ∧ waits (free l txn).1 txn = false := by
  have hp := settle_ind (P := fun k out => (∃ m, k.held = (l.held.filter fun h => decide (h.txn ≠ txn)) ++ m ∧ m.map Ho.txn = out ∧ ∀ h ∈ m, h.txn ≠ txn) ∧ ∀ c ∈ k.queue, c.txn ≠ txn)
    (fun k out i hi hb hp => by
      obtain ⟨⟨m, m1, m2, m3⟩, hq⟩ := hp
      refine ⟨⟨m ++ [⟨k.queue[i].txn, k.queue[i].w⟩], ?_, ?_, ?_⟩, fun c hc => hq c (List.mem_of_mem_eraseIdx hc)⟩
      · show k.held ++ _ = _
        rw [m1, List.append_assoc]
      · rw [List.map_append, m2]; rfl
      · intro h hh
        rcases List.mem_append.1 hh with hh | hh
        · exact m3 h hh
        · simp at hh; subst hh
          exact hq _ (List.getElem_mem hi))
    (keep l txn).queue.length (keep l txn) [] ⟨⟨[], by simp [keep], rfl, fun h hh => by simp at hh⟩, fun c hc => by
      have := List.mem_filter.1 hc
      simpa using this.2⟩
  refine ⟨hp.1, ?_⟩
  unfold waits
  rw [List.any_eq_false]
  intro c hc
  have := hp.2 c hc
  simpa using this
end Go.Proofs.Ytncnfblnelkmbaa.Lm

/- Memory: addresses, what a slice holds, cells that are as they were; strings that are the same. -/
namespace Go.Proofs.Ytncnfblnelkmbaa
set_option maxRecDepth 100000
open Go.RowKit
set_option linter.unusedVariables false

theorem addr_add (a : Addr) (i j : Nat) : (a.add i).add j = a.add (i + j) := by
  unfold Addr.add
  by_cases hi : i = 0 <;> by_cases hj : j = 0 <;> simp [hi, hj, Nat.add_assoc]
theorem addr_block (a : Addr) (i : Nat) : (a.add i).block = a.block := by
  unfold Addr.add; split <;> rfl

/-- The slice '.slice A n c' holds the cells xs (k of them each element), below block B. -/
def Holds (w : World) (B k : Nat) (A : Option Addr) (n : Nat) (xs : List Value) : Prop :=
  xs.length = n * k ∧ ∀ j u, xs[j]? = some u → ∃ ad, A = some ad ∧ ad.block < B ∧ w.cell? (ad.add j) = some u

theorem Holds.carry {w w' : World} {B B' k : Nat} {A : Option Addr} {n : Nat} {xs : List Value} (h : Holds w B k A n xs) (hB : B ≤ B') (hc : ∀ p : Addr, p.block < B → w'.cell? p = w.cell? p) : Holds w' B' k A n xs :=
  ⟨h.1, fun j u hu => by
    obtain ⟨ad, e, hb, hx⟩ := h.2 j u hu
    exact ⟨ad, e, by omega, (hc _ (by rw [addr_block]; exact hb)).trans hx⟩⟩
theorem Holds.q {w w' : World} {k : Nat} {A : Option Addr} {n : Nat} {xs : List Value} (h : Holds w w.heap.size k A n xs) (hq : Q w w') : Holds w' w'.heap.size k A n xs :=
  h.carry hq.size fun _ hp => hq.below.cell hp
theorem Holds.none_ (w : World) (B k : Nat) (A : Option Addr) : Holds w B k A 0 [] := ⟨by simp, fun j u h => by simp at h⟩

theorem same_str (a b : ByteArray) : (a.toList == b.toList) = decide (a = b) := by
  by_cases h : a = b
  · subst h; simp
  · have : ¬ a.toList = b.toList := fun e => h (by
      have e1 : a.data.toList = b.data.toList := by simpa [ByteArray.toList_eq] using e
      exact ByteArray.ext (Array.ext' e1))
    simp [h, this]

theorem box_ {W w1 : World} (q : Q W w1) {p : Addr} {v : Value} (h : W.cell? p = some v) : w1.cell? p = some v := (q.below.cell (block_lt_of_cell h)).trans h
end Go.Proofs.Ytncnfblnelkmbaa

/- Rows of the call's own, whatever their elements: many cells written at once, a row cut short. -/
namespace Go.Proofs.Ytncnfblnelkmbaa
set_option maxRecDepth 100000
open Go.RowKit
set_option linter.unusedVariables false

theorem owns_setCells {e : TypeId} {sz base g n c : Nat} : ∀ (vs : List Value) (o : Nat) (w : World) (xs : List Value), w.ownsRow base e sz (.slice (some ⟨g, 0, none⟩) n c) n xs → o + vs.length ≤ xs.length →
    (w.setCells g o vs).ownsRow base e sz (.slice (some ⟨g, 0, none⟩) n c) n (xs.take o ++ vs ++ xs.drop (o + vs.length))
  | [], o, w, xs, h, hl => by simpa [World.setCells] using h
  | v :: r, o, w, xs, h, hl => by
    simp only [List.length_cons] at hl
    have h1 := (World.ownsRow.stored h o v).1
    have h2 := owns_setCells r (o + 1) (w.setCell ⟨g, o, none⟩ v) (xs.set o v) h1 (by simp; omega)
    have e : (xs.set o v).take (o + 1) ++ r ++ (xs.set o v).drop (o + 1 + r.length) = xs.take o ++ (v :: r) ++ xs.drop (o + (v :: r).length) := by
      have ho : o < xs.length := by omega
      rw [List.take_succ_eq_append_getElem (by simpa using ho), List.take_set_of_le (Nat.le_refl _), List.getElem_set_self, List.drop_set_of_lt (by omega), List.length_cons]
      simp [Nat.add_assoc, Nat.add_comm 1]
    rw [e] at h2
    exact h2
theorem owns_short {e : TypeId} {sz base g n c m : Nat} {w : World} {xs : List Value} (h : w.ownsRow base e sz (.slice (some ⟨g, 0, none⟩) n c) n xs) (hm : m ≤ n) :
    w.ownsRow base e sz (.slice (some ⟨g, 0, none⟩) m c) m (xs.take (m * sz)) := by
  have hmn : m * sz ≤ n * sz := Nat.mul_le_mul_right _ hm
  rcases h.2 with ⟨e0, h0⟩ | ⟨g', cap, cur, e0, hg, hh, hc, hmx, hs, ht⟩
  · cases e0
  · injection e0 with e1 e2 e3
    refine ⟨by rw [List.length_take, h.1]; omega, .inr ⟨g', cap, cur, by rw [e1, e3], hg, hh, by omega, hmx, hs, ?_⟩⟩
    rw [← ht, List.take_take, Nat.min_eq_left hmn]

theorem only_q {a b : World} {g : Nat} (h : Q a b) : a.grownBy b (some g) := ⟨h.below.os, h.below.tape, h.below.output, h.below.size, fun i hi _ => h.below.block i hi⟩
theorem only_below {a w : World} {g B : Nat} (h : a.grownBy w (some g)) (hb : B ≤ g) (hB : B ≤ a.heap.size) : Below B a w :=
  ⟨h.os, h.tape, h.output, h.size, fun i hi => h.block i (by omega) (by intro e; injection e; omega)⟩
theorem only_cell {a w : World} {g : Nat} (h : a.grownBy w (some g)) {p : Addr} (hp : p.block < a.heap.size) (hne : p.block ≠ g) : w.cell? p = a.cell? p := World.cell?_of_block (h.block p.block hp (fun e => hne (by injection e)))
theorem Q.grownBy {w w' : World} (q : Q w w') : w.grownBy w' none := ⟨q.below.os, q.below.tape, q.below.output, q.size, fun i hi _ => q.below.block i hi⟩
end Go.Proofs.Ytncnfblnelkmbaa

/- Kinds of elements that lie flat in memory: lists of them as they come in ('Lst', 'In_'), lists of the call's own ('OwnK'), append to these. -/
namespace Go.Proofs.Ytncnfblnelkmbaa
set_option maxRecDepth 100000
open Go.RowKit
set_option linter.unusedVariables false

structure Kind (α : Type) where
  T : TypeId
  S : TypeId
  k : Nat
  bs : Nat
  z : Value
  row : α → List Value
  pos : 0 < k
  bpos : 0 < bs
  len : ∀ a, (row a).length = k
  one : ∀ a, ∀ u ∈ row a, u.oneCell' = true
  und : Try.prog.underlying S = some (.slice T)
  info : (Try.prog.info? T).map (fun i => (i.zero, i.size, i.bytes)) = some (some z, k, bs)
  zc : z.cells.size = k

variable {α : Type}

def Kind.rows (K : Kind α) : List α → List Value
  | [] => []
  | a :: l => K.row a ++ K.rows l

theorem Kind.rows_len (K : Kind α) (l : List α) : (K.rows l).length = l.length * K.k := by
  induction l with
  | nil => simp [Kind.rows]
  | cons a l ih => simp only [Kind.rows, List.length_append, ih, List.length_cons, K.len, Nat.add_mul]; omega
theorem Kind.rows_app (K : Kind α) (l m : List α) : K.rows (l ++ m) = K.rows l ++ K.rows m := by
  induction l with
  | nil => rfl
  | cons a l ih => simp [Kind.rows, ih]
theorem Kind.rows_at (K : Kind α) (l : List α) (k : Nat) (h : k < l.length) (j : Nat) (hj : j < K.k) : (K.rows l)[k * K.k + j]? = (K.row l[k])[j]? := by
  induction l generalizing k with
  | nil => simp at h
  | cons a l ih =>
    cases k with
    | zero =>
      simp only [Kind.rows, Nat.zero_mul, Nat.zero_add, List.getElem_cons_zero]
      exact List.getElem?_append_left (by rw [K.len]; exact hj)
    | succ k =>
      simp only [Kind.rows, List.getElem_cons_succ]
      rw [List.getElem?_append_right (by rw [K.len, Nat.add_mul]; omega), ← ih k (by simpa using h)]
      congr 1
      rw [K.len, Nat.add_mul]; omega
theorem Kind.rows_one (K : Kind α) (l : List α) : ∀ u ∈ K.rows l, u.oneCell' = true := by
  induction l with
  | nil => simp [Kind.rows]
  | cons a l ih =>
    intro u hu
    rcases List.mem_append.1 hu with h | h
    · exact K.one a u h
    · exact ih u h
theorem Kind.rows_drop (K : Kind α) (l : List α) : ∀ (m : Nat), K.rows (l.drop m) = (K.rows l).drop (m * K.k) := by
  induction l with
  | nil => intro m; simp [Kind.rows]
  | cons f l ih =>
    intro m
    cases m with
    | zero => simp
    | succ m =>
      rw [List.drop_succ_cons, ih m, Kind.rows, show (m + 1) * K.k = (K.row f).length + m * K.k by rw [K.len, Nat.add_mul]; omega, List.drop_length_add_append]
theorem Kind.rows_take (K : Kind α) (l : List α) : ∀ (m : Nat), K.rows (l.take m) = (K.rows l).take (m * K.k) := by
  induction l with
  | nil => intro m; simp [Kind.rows]
  | cons f l ih =>
    intro m
    cases m with
    | zero => simp [Kind.rows]
    | succ m =>
      rw [List.take_succ_cons, Kind.rows, ih m, Kind.rows, show (m + 1) * K.k = (K.row f).length + m * K.k by rw [K.len, Nat.add_mul]; omega, List.take_length_add_append]
theorem Kind.rows_set (K : Kind α) (l : List α) (k : Nat) (h : k < l.length) (a : α) : (K.rows l).take (k * K.k) ++ K.row a ++ (K.rows l).drop (k * K.k + (K.row a).length) = K.rows (l.set k a) := by
  have e : l.set k a = l.take k ++ (a :: l.drop (k + 1)) := by
    rw [List.set_eq_take_append_cons_drop, if_pos h]
  rw [e, K.rows_app, Kind.rows, K.rows_take, K.rows_drop, K.len, Nat.add_mul]
  simp

/-- The slice '.slice A n _' reads as l. -/
def Lst (K : Kind α) (w : World) (A : Option Addr) (n : Nat) (l : List α) : Prop := Holds w w.heap.size K.k A n (K.rows l)
theorem Lst.q {K : Kind α} {w w' : World} {A : Option Addr} {n : Nat} {l : List α} (h : Lst K w A n l) (hq : Q w w') : Lst K w' A n l := Holds.q h hq
theorem Lst.len {K : Kind α} {w : World} {A : Option Addr} {n : Nat} {l : List α} (h : Lst K w A n l) : l.length = n := by
  have := h.1; rw [K.rows_len] at this
  exact Nat.eq_of_mul_eq_mul_right K.pos this
theorem Lst.nil {K : Kind α} (w : World) (A : Option Addr) : Lst K w A 0 [] := Holds.none_ _ _ _ _

/-- What a load of the element in place k reads. -/
theorem Lst.load {K : Kind α} {w : World} {A : Option Addr} {n : Nat} {l : List α} (h : Lst K w A n l) {k : Nat} (hk : k < n) (hl : k < l.length) :
    ∃ ad, A = some ad ∧ ad.block < w.heap.size ∧ ∀ j v, (K.row l[k])[j]? = some v → w.cell? ((ad.add (k * K.k)).add j) = some v := by
  have h0 : ∀ j v, (K.row l[k])[j]? = some v → ∃ ad, A = some ad ∧ ad.block < w.heap.size ∧ w.cell? (ad.add (k * K.k + j)) = some v := fun j v hj =>
    h.2 (k * K.k + j) _ (by rw [K.rows_at l k hl j (by rw [← K.len l[k]]; exact (List.getElem?_eq_some_iff.1 hj).1)]; exact hj)
  obtain ⟨ad, rfl, hb, _⟩ := h0 0 _ (List.getElem?_eq_getElem (by rw [K.len]; exact K.pos))
  refine ⟨ad, rfl, hb, fun j v hj => ?_⟩
  obtain ⟨_, e, _, hc⟩ := h0 j v hj
  injection e with e
  subst e
  rw [addr_add]; exact hc

/-- a list of the call's own. -/
def OwnK (K : Kind α) (w : World) (base : Nat) (A : Option Addr) (n c : Nat) (l : List α) : Prop := w.ownsRow base K.T K.k (.slice A n c) n (K.rows l)

/-- a list as it comes in. -/
structure In_ (K : Kind α) (w : World) (A : Option Addr) (n c : Nat) (l : List α) : Prop where
  lst : Lst K w A n l
  nil : A = none → n = 0 ∧ c = 0
  le : n ≤ c
  cap : c ≤ maxLen
  few : n * K.bs ≤ 140737488355328
theorem In_.len {K : Kind α} {w : World} {A : Option Addr} {n c : Nat} {l : List α} (h : In_ K w A n c l) : l.length = n := h.lst.len
theorem In_.q {K : Kind α} {w w' : World} {A : Option Addr} {n c : Nat} {l : List α} (h : In_ K w A n c l) (hq : Q w w') : In_ K w' A n c l := ⟨h.lst.q hq, h.nil, h.le, h.cap, h.few⟩
theorem In_.max {K : Kind α} {w : World} {A : Option Addr} {n c : Nat} {l : List α} (h : In_ K w A n c l) : n ≤ maxLen := Nat.le_trans h.le h.cap
theorem In_.none_ (K : Kind α) (w : World) : In_ K w none 0 0 [] := ⟨Lst.nil w _, fun _ => ⟨rfl, rfl⟩, Nat.le_refl _, Nat.zero_le _, by simp⟩

section
variable {K : Kind α} {w w' : World} {base : Nat} {A : Option Addr} {n c : Nat} {l : List α}
theorem OwnK.len (h : OwnK K w base A n c l) : l.length = n := by
  have := h.1; rw [K.rows_len] at this
  exact Nat.eq_of_mul_eq_mul_right K.pos this
theorem OwnK.parts (h : OwnK K w base A n c l) :
    (A = none ∧ n = 0 ∧ c = 0 ∧ l = []) ∨ ∃ g cur, A = some ⟨g, 0, none⟩ ∧ base ≤ g ∧ w.heap[g]? = some (.cells cur K.T (0, 0)) ∧ n ≤ c ∧ c ≤ maxLen ∧ cur.size = c * K.k ∧ cur.toList.take (n * K.k) = K.rows l := by
  rcases h.2 with ⟨e, h0⟩ | ⟨g, cap, cur, e, hb, hh, hc, hm, hs, ht⟩
  · injection e with e1 e2 e3
    exact .inl ⟨e1, e2, e3, List.eq_nil_of_length_eq_zero (by rw [h.len]; exact e2)⟩
  · injection e with e1 e2 e3
    subst e1 e3
    exact .inr ⟨g, cur, rfl, hb, hh, hc, hm, hs, ht⟩
theorem OwnK.lst (h : OwnK K w base A n c l) : Lst K w A n l := by
  refine ⟨h.1, fun j u hu => ?_⟩
  rcases h.parts with ⟨rfl, rfl, rfl, rfl⟩ | ⟨g, cur, rfl, hb, hh, hc, hm, hs, ht⟩
  · simp [Kind.rows] at hu
  · have hj : j < n * K.k := by
      have := (List.getElem?_eq_some_iff.1 hu).1; rw [h.1] at this; exact this
    refine ⟨_, rfl, ?_, ?_⟩
    · rcases Nat.lt_or_ge g w.heap.size with hlt | hge
      · exact hlt
      · rw [Array.getElem?_eq_none hge] at hh; cases hh
    · rw [Addr.add_mid, Nat.zero_add, World.ownsRow.cellAt h j hj]; exact hu
theorem OwnK.in_ (h : OwnK K w base A n c l) (hn : n * K.bs ≤ 140737488355328) : In_ K w A n c l := by
  refine ⟨h.lst, ?_, ?_, ?_, hn⟩ <;> rcases h.parts with ⟨rfl, rfl, rfl, rfl⟩ | ⟨g, cur, rfl, hb, hh, hc, hm, hs, ht⟩
  · intro _; exact ⟨rfl, rfl⟩
  · intro e; cases e
  · exact Nat.le_refl _
  · exact hc
  · exact Nat.zero_le _
  · exact hm
theorem OwnK.le (h : OwnK K w base A n c l) : n ≤ c := by
  rcases h.parts with ⟨rfl, rfl, rfl, rfl⟩ | ⟨g, cur, rfl, hb, hh, hc, hm, hs, ht⟩
  · exact Nat.le_refl _
  · exact hc
theorem OwnK.cap (h : OwnK K w base A n c l) : c ≤ maxLen := by
  rcases h.parts with ⟨rfl, rfl, rfl, rfl⟩ | ⟨g, cur, rfl, hb, hh, hc, hm, hs, ht⟩
  · exact Nat.zero_le _
  · exact hm
theorem OwnK.keep {B : Nat} (h : OwnK K w base A n c l) (hb : Below B w w') (hB : w.heap.size ≤ B) : OwnK K w' base A n c l := by
  refine ⟨h.1, ?_⟩
  rcases h.2 with ⟨e, h0⟩ | ⟨g, cap, cur, e, hg, hh, r⟩
  · exact .inl ⟨e, h0⟩
  · have hlt : g < w.heap.size := by
      rcases Nat.lt_or_ge g w.heap.size with hlt | hge
      · exact hlt
      · rw [Array.getElem?_eq_none hge] at hh; cases hh
    exact .inr ⟨g, cap, cur, e, hg, (hb.block g (by omega)).trans hh, r⟩
theorem OwnK.q (h : OwnK K w base A n c l) (hq : Q w w') : OwnK K w' base A n c l := h.keep hq.below (Nat.le_refl _)
theorem OwnK.setCell (h : OwnK K w base A n c l) {p : Addr} (hp : p.block < base) (u : Value) : OwnK K (w.setCell p u) base A n c l := by
  refine ⟨h.1, ?_⟩
  rcases h.2 with ⟨e, h0⟩ | ⟨g, cap, cur, e, hg, hh, r⟩
  · exact .inl ⟨e, h0⟩
  · exact .inr ⟨g, cap, cur, e, hg, (heap_setCell_other w p g u (by omega)).trans hh, r⟩
theorem OwnK.alloc (h : OwnK K w base A n c l) (o : Obj) : OwnK K (w.alloc o) base A n c l := h.q ((Q.refl _).alloc o)
theorem OwnK.drew (h : OwnK K w base A n c l) : OwnK K w.drew base A n c l := h
theorem OwnK.lower {b2 : Nat} (h : OwnK K w base A n c l) (hb : b2 ≤ base) : OwnK K w b2 A n c l := by
  refine ⟨h.1, ?_⟩
  rcases h.2 with ⟨e, h0⟩ | ⟨g, cap, cur, e, hg, hh, r⟩
  · exact .inl ⟨e, h0⟩
  · exact .inr ⟨g, cap, cur, e, by omega, hh, r⟩
theorem OwnK.nil_ (K : Kind α) (w : World) (base : Nat) : OwnK K w base none 0 0 [] := World.ownsRow_nil _ _ _ _
theorem OwnK.lit0 (K : Kind α) (w : World) (base : Nat) (hb : base ≤ w.heap.size) : OwnK K (w.alloc (.cells #[] K.T)) base (some ⟨w.heap.size, 0, none⟩) 0 0 [] :=
  World.ownsRow_lit w #[] 0 hb (Nat.zero_le _) (by simp)
theorem OwnK.lit1 (K : Kind α) (w : World) (base : Nat) (hb : base ≤ w.heap.size) (a : α) : OwnK K (w.alloc (.cells (K.row a).toArray K.T)) base (some ⟨w.heap.size, 0, none⟩) 1 1 [a] := by
  have := World.ownsRow_lit (e := K.T) (size := K.k) w (K.row a).toArray 1 hb (by unfold maxLen; omega) (by simp [K.len])
  unfold OwnK
  rw [show K.rows [a] = (K.row a).toArray.toList by simp [Kind.rows]]
  exact this
theorem OwnK.block_lt {g : Nat} (h : OwnK K w base (some ⟨g, 0, none⟩) n c l) : base ≤ g ∧ g < w.heap.size := by
  rcases h.parts with ⟨e, _⟩ | ⟨g', cur, e, hb, hh, _⟩
  · cases e
  · injection e with e
    injection e with e
    subst e
    refine ⟨hb, ?_⟩
    rcases Nat.lt_or_ge g w.heap.size with hlt | hge
    · exact hlt
    · rw [Array.getElem?_eq_none hge] at hh; cases hh
/-- the cells of the element in place k. -/
theorem OwnK.cells {g : Nat} (h : OwnK K w base (some ⟨g, 0, none⟩) n c l) {k : Nat} (hk : k < l.length) : ∀ j v, (K.row l[k])[j]? = some v → w.cell? ⟨g, k * K.k + j, none⟩ = some v := fun j v hj => by
  have hjk : j < K.k := by rw [← K.len l[k]]; exact (List.getElem?_eq_some_iff.1 hj).1
  have hn := h.len
  have : k * K.k + j < n * K.k := by
    have : (k + 1) * K.k ≤ n * K.k := Nat.mul_le_mul_right _ (by omega)
    rw [Nat.add_mul] at this; omega
  rw [World.ownsRow.cellAt h _ this, K.rows_at l k hk j hjk]
  exact hj
theorem OwnK.free {g : Nat} (h : OwnK K w base (some ⟨g, 0, none⟩) n c l) (j : Nat) : w.frozen? ⟨g, j, none⟩ = false := World.ownsRow.frozenAt h _
/-- an element written in place. -/
theorem OwnK.put {g : Nat} (h : OwnK K w base (some ⟨g, 0, none⟩) n c l) {k : Nat} (hk : k < l.length) (a : α) :
    OwnK K (w.setCells g (k * K.k) (K.row a)) base (some ⟨g, 0, none⟩) n c (l.set k a) := by
  have hl : k * K.k + (K.row a).length ≤ (K.rows l).length := by
    rw [K.len, K.rows_len]
    have : (k + 1) * K.k ≤ l.length * K.k := Nat.mul_le_mul_right _ (by omega)
    rw [Nat.add_mul] at this; omega
  have := owns_setCells (e := K.T) (sz := K.k) (K.row a) (k * K.k) w (K.rows l) h hl
  rw [K.rows_set l k hk a] at this
  exact this
end

/-- 'append(own, more...)', the source nil or not. -/
theorem run_appK (K : Kind α) (w : World) (base : Nat) (A : Option Addr) (n c : Nat) (l : List α) (h : OwnK K w base A n c l) (A2 : Option Addr) (m c2 : Nat) (l2 : List α) (h2 : Lst K w A2 m l2) (hnil : A2 = none → m = 0 ∧ c2 = 0)
    (hb : (n + m) * K.bs ≤ 140737488355328) (hbase : base ≤ w.heap.size) (ty : TypeId) :
    ∃ A' c' w', (Builtin.append_ #[K.S, K.S] ty #[.slice A n c, .slice A2 m c2]).run Try.prog w = .ok (.slice A' (n + m) c') w' ∧ OwnK K w' base A' (n + m) c' (l ++ l2) ∧ Below base w w' := by
  obtain ⟨i, hi, hz, hs, hy⟩ := info_parts K.info
  have hmax : n + m ≤ maxLen := by
    have : (n + m) * 1 ≤ (n + m) * K.bs := Nat.mul_le_mul_left _ K.bpos
    unfold maxLen; omega
  cases A2 with
  | none =>
    obtain ⟨rfl, rfl⟩ := hnil rfl
    have e2 : l2 = [] := List.eq_nil_of_length_eq_zero h2.len
    subst e2
    refine ⟨A, c, w, run_append_owned_none (P := Try.prog) (w := w) base _ ty K.T i K.k K.und hi _ n (K.rows l) h, by simpa using h, Below.refl _ _⟩
  | some ad =>
    obtain ⟨v', w', hr, ho, hg, hn, hat⟩ := run_append_own_at (P := Try.prog) w base K.S ty K.T i _ K.k K.bs K.und hi hz hs hy K.zc K.pos (.slice A n c) n (K.rows l) h ad m c2 (K.rows l2) h2.1
      (fun j u hu => by obtain ⟨a', e, _, hc⟩ := h2.2 j u hu; injection e with e; subst e; exact hc) (K.rows_one l2) hmax hb hbase
    rw [← K.rows_app] at ho
    have hbl : Below base w w' := (Below.refl _ _).grown hg hbase (fun k hk => by
      rcases h.parts with ⟨rfl, _⟩ | ⟨g, cur, rfl, hb, _⟩
      · cases hk
      · simp only [Value.ownBlock, Option.some.injEq] at hk; omega)
    rcases ho.2 with ⟨e, h0⟩ | ⟨g, cap, cur, e, _⟩
    · have h00 : Value.slice none 0 0 = .slice none (n + m) 0 := by rw [h0]
      rw [h00] at e
      subst e
      exact ⟨none, 0, w', hr, ho, hbl⟩
    · subst e
      exact ⟨_, cap, w', hr, ho, hbl⟩

/-- The same, for a plain region's list. -/
theorem wpl_appK (K : Kind α) {w : World} {ops : Array Oper} {rest : List Oper} {o : Oper} {a : Act} {R : Exit → Act → World → Prop} (hgd : o.guard = none) (s x : Operand) (t : TypeId) (ht : t = K.S)
    (ho : o.op = .call { callee := .builtin .append, args := #[s, x], argTypes := #[t, t] })
    (base : Nat) (A : Option Addr) (n c : Nat) (l : List α) (hs : a.eval s = .slice A n c) (h : OwnK K w base A n c l) (A2 : Option Addr) (m c2 : Nat) (l2 : List α) (hx : a.eval x = .slice A2 m c2) (h2 : Lst K w A2 m l2) (hnil : A2 = none → m = 0 ∧ c2 = 0)
    (hb : (n + m) * K.bs ≤ 140737488355328) (hbase : base ≤ w.heap.size)
    (hk : ∀ A' c' w', OwnK K w' base A' (n + m) c' (l ++ l2) → Below base w w' → wpList Try.prog ops R rest (a.put o.dst (.slice A' (n + m) c')) w') : wpList Try.prog ops R (o :: rest) a w := by
  subst ht
  refine wpList_plain hgd fun X hX => ?_
  obtain ⟨A', c', w', hr, h3, h4⟩ := run_appK K w base A n c l h A2 m c2 l2 h2 hnil hb hbase o.type
  unfold Oper.wp execOp
  simp only [ho, resolve, invoke, builtin, Sem.run_bind, Sem.run_pure, Result.andThen_ok, List.map_toArray, List.map_cons, List.map_nil, hs, hx, hr]
  exact hX _ _ (hk A' c' w' h3 h4)

/-- a call's own list, told by its ending. -/
def RetL (K : Kind α) (w : World) (n : Nat) (l : List α) (e : Ending) (w' : World) : Prop :=
  ∃ A' c', e = .returned (.slice A' n c') ∧ OwnK K w' w.heap.size A' n c' l ∧ Q w w'
end Go.Proofs.Ytncnfblnelkmbaa

/- Integers as a kind of elements. -/
namespace Go.Proofs.Ytncnfblnelkmbaa
set_option maxRecDepth 100000
open Go.RowKit
set_option linter.unusedVariables false
set_option linter.unusedSimpArgs false

def numK : Kind Int where
  T := 3
  S := 29
  k := 1
  bs := 8
  z := .int .i64 0
  row := fun r => [.int .i64 r]
  pos := by omega
  bpos := by omega
  len := fun _ => rfl
  one := fun _ u hu => by simp at hu; rcases hu with rfl; rfl
  und := Try.underlying29
  info := by kernel_rfl
  zc := rfl
theorem numK_rows (l : List Int) : numK.rows l = l.map (Value.int .i64) := by
  induction l with
  | nil => rfl
  | cons a l ih => rw [Kind.rows, ih]; rfl
theorem lst_lit1 (w : World) (x : Int) : Lst numK (w.alloc (.cells #[.int .i64 x] 3)) (some ⟨w.heap.size, 0, none⟩) 1 [x] :=
  (OwnK.lit1 numK w w.heap.size (Nat.le_refl _) x).lst
end Go.Proofs.Ytncnfblnelkmbaa

/- Boxes: what lies in a block of three or four cells, and may be written (of any kind). -/
namespace Go.Proofs.Ytncnfblnelkmbaa
set_option maxRecDepth 100000
open Go.RowKit
set_option linter.unusedVariables false

/-- the cells of block b hold these values, and may be written. -/
def Bx (w : World) (b : Nat) (vs : List Value) : Prop := ∀ j v, vs[j]? = some v → w.cell? ⟨b, j, none⟩ = some v ∧ w.frozen? ⟨b, j, none⟩ = false

theorem Bx.new (w : World) (cs : List Value) (t : TypeId) : Bx (w.alloc (.cells cs.toArray t)) w.heap.size cs := fun j v h => by
  have e := heap_alloc_new w (.cells cs.toArray t)
  exact ⟨(cell_of_row _ _ j _ t (0, 0) e).trans (by simpa using h), frozen_of_row _ _ j _ t e⟩
theorem Bx.lt {w : World} {b : Nat} {v : Value} {vs : List Value} (h : Bx w b (v :: vs)) : b < w.heap.size := block_lt_of_cell (h 0 v rfl).1
theorem Bx.below {w w' : World} {b B : Nat} {vs : List Value} (h : Bx w b vs) (hb : Below B w w') (hB : b < B) : Bx w' b vs := fun j v hj =>
  ⟨(hb.cell (p := ⟨b, j, none⟩) hB).trans (h j v hj).1, (hb.frozen (p := ⟨b, j, none⟩) hB).trans (h j v hj).2⟩
theorem Bx.q {w w' : World} {b : Nat} {vs : List Value} (h : Bx w b vs) (hq : Q w w') : Bx w' b vs := fun j v hj => by
  have hb : b < w.heap.size := block_lt_of_cell (h j v hj).1
  exact ⟨(hq.below.cell (p := ⟨b, j, none⟩) hb).trans (h j v hj).1, (hq.below.frozen (p := ⟨b, j, none⟩) hb).trans (h j v hj).2⟩
theorem Bx.alloc {w : World} {b : Nat} {vs : List Value} (h : Bx w b vs) (o : Obj) : Bx (w.alloc o) b vs := h.q ((Q.refl _).alloc o)
theorem Bx.drew {w : World} {b : Nat} {vs : List Value} (h : Bx w b vs) : Bx w.drew b vs := h
theorem Bx.far {w : World} {b : Nat} {vs : List Value} (h : Bx w b vs) {p : Addr} (hp : p.block ≠ b) (u : Value) : Bx (w.setCell p u) b vs := fun j v hj =>
  ⟨(World.cell?_setCell_other _ _ _ _ (by rintro rfl; exact hp rfl)).trans (h j v hj).1, by rw [World.frozen?_setCell]; exact (h j v hj).2⟩
theorem Bx.set {w : World} {b : Nat} {vs : List Value} (h : Bx w b vs) {k : Nat} (hk : k < vs.length) (u : Value) : Bx (w.setCell ⟨b, k, none⟩ u) b (vs.set k u) := fun j v hj => by
  rw [World.frozen?_setCell]
  by_cases e : k = j
  · subst e
    rw [World.cell?_setCell_same _ _ _ (h k _ (List.getElem?_eq_getElem hk)).1]
    simp only [List.getElem?_set_self hk] at hj
    exact ⟨hj, (h k _ (List.getElem?_eq_getElem hk)).2⟩
  · rw [World.cell?_setCell_other _ _ _ _ (by intro he; injection he with _ he; exact e he)]
    rw [List.getElem?_set_ne e] at hj
    exact h j v hj
theorem Bx.get3 {w : World} {b : Nat} {x y z : Value} (h : Bx w b [x, y, z]) : (w.cell? ⟨b, 0, none⟩ = some x ∧ w.cell? ⟨b, 1, none⟩ = some y ∧ w.cell? ⟨b, 2, none⟩ = some z) ∧ w.frozen? ⟨b, 0, none⟩ = false ∧ w.frozen? ⟨b, 1, none⟩ = false ∧ w.frozen? ⟨b, 2, none⟩ = false :=
  ⟨⟨(h 0 _ rfl).1, (h 1 _ rfl).1, (h 2 _ rfl).1⟩, (h 0 _ rfl).2, (h 1 _ rfl).2, (h 2 _ rfl).2⟩
end Go.Proofs.Ytncnfblnelkmbaa

/- Boxes of two cells; a struct of two slices. -/
namespace Go.Proofs.Ytncnfblnelkmbaa
set_option maxRecDepth 100000
open Go.RowKit
set_option linter.unusedVariables false

theorem Bx.get2 {w : World} {b : Nat} {x y : Value} (h : Bx w b [x, y]) : (w.cell? ⟨b, 0, none⟩ = some x ∧ w.cell? ⟨b, 1, none⟩ = some y) ∧ w.frozen? ⟨b, 0, none⟩ = false ∧ w.frozen? ⟨b, 1, none⟩ = false :=
  ⟨⟨(h 0 _ rfl).1, (h 1 _ rfl).1⟩, (h 0 _ rfl).2, (h 1 _ rfl).2⟩
theorem Bx.set2 {w : World} {b : Nat} {x y : Value} (h : Bx w b [x, y]) (x' y' : Value) : Bx ((w.setCell ⟨b, 0, none⟩ x').setCell ⟨b, 1, none⟩ y') b [x', y'] :=
  (h.set (k := 0) (by simp) x').set (k := 1) (by simp) y'
theorem Q.set2 {a w : World} (h : Q a w) {b : Nat} (hb : a.heap.size ≤ b) (x y : Value) : Q a ((w.setCell ⟨b, 0, none⟩ x).setCell ⟨b, 1, none⟩ y) := (h.setCell (p := ⟨b, 0, none⟩) hb x).setCell (p := ⟨b, 1, none⟩) hb y
theorem OwnK.set2 {α : Type} {K : Kind α} {w : World} {base n c : Nat} {A : Option Addr} {l : List α} (h : OwnK K w base A n c l) {b : Nat} (hp : b < base) (x y : Value) : OwnK K ((w.setCell ⟨b, 0, none⟩ x).setCell ⟨b, 1, none⟩ y) base A n c l :=
  (h.setCell (p := ⟨b, 0, none⟩) hp x).setCell (p := ⟨b, 1, none⟩) hp y
end Go.Proofs.Ytncnfblnelkmbaa

/- Holds and claims in memory. -/
namespace Go.Proofs.Ytncnfblnelkmbaa
set_option maxRecDepth 100000
open Go.RowKit Prm Lm
set_option linter.unusedVariables false
set_option linter.unusedSimpArgs false

def holdK : Kind Ho where
  T := 55
  S := 22
  k := 4
  bs := 48
  z := .agg #[.int .i64 0, .int .i64 0, .string ⟨#[]⟩, .string ⟨#[]⟩]
  row := fun h => [.int .i64 h.txn, .int .i64 h.w.mode, .string h.w.lo, .string h.w.hi]
  pos := by omega
  bpos := by omega
  len := fun _ => rfl
  one := fun _ u hu => by simp at hu; rcases hu with rfl | rfl | rfl | rfl <;> rfl
  und := Try.underlying22
  info := by kernel_rfl
  zc := rfl
theorem load_hold {w : World} {A : Option Addr} {n : Nat} {l : List Ho} (h : Lst holdK w A n l) {k : Nat} (hk : k < n) (hl : k < l.length) :
    ∃ ad, A = some ad ∧ ad.block < w.heap.size ∧ w.cell? (ad.add (k * 4)) = some (.int .i64 l[k].txn) ∧ w.cell? ⟨(ad.add (k * 4)).block, (ad.add (k * 4)).off + 1, none⟩ = some (.int .i64 l[k].w.mode) ∧ w.cell? ⟨(ad.add (k * 4)).block, (ad.add (k * 4)).off + 2, none⟩ = some (.string l[k].w.lo) ∧ w.cell? ⟨(ad.add (k * 4)).block, (ad.add (k * 4)).off + 3, none⟩ = some (.string l[k].w.hi) := by
  obtain ⟨ad, e, hb, hc⟩ := h.load hk hl
  exact ⟨ad, e, hb, hc 0 _ rfl, hc 1 _ rfl, hc 2 _ rfl, hc 3 _ rfl⟩
def claimK : Kind Cl where
  T := 45
  S := 23
  k := 5
  bs := 56
  z := .agg #[.int .i64 0, .int .i64 0, .string ⟨#[]⟩, .string ⟨#[]⟩, .int .u64 0]
  row := fun h => [.int .i64 h.txn, .int .i64 h.w.mode, .string h.w.lo, .string h.w.hi, .int .u64 (h.til : Int)]
  pos := by omega
  bpos := by omega
  len := fun _ => rfl
  one := fun _ u hu => by simp at hu; rcases hu with rfl | rfl | rfl | rfl | rfl <;> rfl
  und := Try.underlying23
  info := by kernel_rfl
  zc := rfl
theorem load_claim {w : World} {A : Option Addr} {n : Nat} {l : List Cl} (h : Lst claimK w A n l) {k : Nat} (hk : k < n) (hl : k < l.length) :
    ∃ ad, A = some ad ∧ ad.block < w.heap.size ∧ w.cell? (ad.add (k * 5)) = some (.int .i64 l[k].txn) ∧ w.cell? ⟨(ad.add (k * 5)).block, (ad.add (k * 5)).off + 1, none⟩ = some (.int .i64 l[k].w.mode) ∧ w.cell? ⟨(ad.add (k * 5)).block, (ad.add (k * 5)).off + 2, none⟩ = some (.string l[k].w.lo) ∧ w.cell? ⟨(ad.add (k * 5)).block, (ad.add (k * 5)).off + 3, none⟩ = some (.string l[k].w.hi) ∧ w.cell? ⟨(ad.add (k * 5)).block, (ad.add (k * 5)).off + 4, none⟩ = some (.int .u64 (l[k].til : Int)) := by
  obtain ⟨ad, e, hb, hc⟩ := h.load hk hl
  exact ⟨ad, e, hb, hc 0 _ rfl, hc 1 _ rfl, hc 2 _ rfl, hc 3 _ rfl, hc 4 _ rfl⟩
end Go.Proofs.Ytncnfblnelkmbaa

/- Contracts: span's functions. -/
namespace Go.Proofs.Ytncnfblnelkmbaa
set_option maxRecDepth 100000
open Go.RowKit Prm Sm
set_option linter.unusedVariables false
set_option linter.unusedSimpArgs false

def wnV (w : Wn) : Value := .agg #[.int .i64 w.mode, .string w.lo, .string w.hi]
@[go_sem high] theorem run_max_strs {P : Program} (w : World) (ts : Array TypeId) (t : TypeId) (x y : ByteArray) :
    (Builtin.max_ ts t #[.string x, .string y]).run P w = .ok (.string (mx x y)) w := by
  have e : (if Op.bytesLess x.toList y.toList = false then x else y) = mx x y := by
    rw [lt_data]; unfold mx
    cases lt x y <;> rfl
  simp only [Builtin.max_, List.foldlM, Builtin.max2, Op.stringOp]
  simp [asBool, e]

/-- a span in a box. -/
def Wx (w : World) (b : Nat) (x : Wn) : Prop := w.cell? ⟨b, 0, none⟩ = some (.int .i64 x.mode) ∧ w.cell? ⟨b, 1, none⟩ = some (.string x.lo) ∧ w.cell? ⟨b, 2, none⟩ = some (.string x.hi)
theorem Wx.q {w w' : World} {b : Nat} {x : Wn} (h : Wx w b x) (q : Q w w') : Wx w' b x := ⟨box_ q h.1, box_ q h.2.1, box_ q h.2.2⟩

theorem sbelow_any (k hi : ByteArray) (w : World) :
    Calls Try.prog 73 #[.string k, .string hi] w fun e w' => e = .returned (.bool (bel k hi)) ∧ w = w' := by
  by_cases h2 : hi = ⟨#[]⟩
  · subst h2
    rw [bel_empty]
    go_enter Try.func73, Try.ntmps73
    go_wp2
    go_ret
    exact ⟨rfl, rfl⟩
  · obtain ⟨n1, n2, n3⟩ := no_empty h2
    have e2 := lt_data k hi
    rw [show bel k hi = lt k hi by simp [bel, h2]]
    clear h2
    go_enter Try.func73, Try.ntmps73
    go_wp2
    go_ret
    exact ⟨by first | rfl | simp, rfl⟩

theorem sin_any (x : Wn) (k : ByteArray) (w : World) :
    Calls Try.prog 72 #[wnV x, .string k] w fun e w' => e = .returned (.bool (inS x k)) ∧ Q w w' := by
  obtain ⟨m, lo, hi⟩ := x
  have e1 := lt_data k lo
  have B := Lib.hid (fun W => sbelow_any k hi W)
  cases h1 : lt k lo with
  | true =>
    rw [show inS ⟨m, lo, hi⟩ k = false by simp [inS, h1]]
    rw [h1] at e1
    clear h1
    unfold wnV
    go_enter Try.func72, Try.ntmps72
    go_wp2
    go_ret
    exact ⟨rfl, (Q.refl w).alloc _⟩
  | false =>
    rw [show inS ⟨m, lo, hi⟩ k = bel k hi by simp [inS, h1]]
    rw [h1] at e1
    clear h1
    generalize bel k hi = r at B
    unfold wnV
    go_enter Try.func72, Try.ntmps72
    go_wp2_with fail
    refine (B.out _).mono ?_
    rintro e w1 ⟨rfl, rfl⟩
    go_wp2
    go_ret
    exact ⟨by first | rfl | simp, (Q.refl w).alloc _⟩

theorem ssome_any (x : Wn) (w : World) :
    Calls Try.prog 64 #[wnV x] w fun e w' => e = .returned (.bool (some1 x)) ∧ Q w w' := by
  have B := Lib.hid (fun W => sin_any x x.lo W)
  unfold some1
  generalize inS x x.lo = r at B
  obtain ⟨m, lo, hi⟩ := x
  unfold wnV at *
  go_enter Try.func64, Try.ntmps64
  go_wp2_with fail
  refine (B.out _).mono ?_
  rintro e w1 ⟨rfl, q1⟩
  go_wp2
  go_ret
  exact ⟨rfl, ((Q.refl w).alloc _).trans q1⟩

set_option maxHeartbeats 1000000 in
theorem spart_any (a b : Wn) (w : World) :
    Calls Try.prog 65 #[wnV a, wnV b] w fun e w' => e = .returned (wnV (Sm.part a b)) ∧ Q w w' := by
  have B := Lib.hid (fun W => sbelow_any a.hi b.hi W)
  by_cases h1 : a.hi = ⟨#[]⟩
  · rw [show Sm.part a b = ⟨b.mode, mx a.lo b.lo, b.hi⟩ by unfold Sm.part Sm.cut; simp [h1]]
    obtain ⟨m, lo, hi⟩ := a
    obtain ⟨n, bo, bi⟩ := b
    simp only at h1
    subst h1
    unfold wnV
    go_enter Try.func65, Try.ntmps65
    go_wp2
    refine bodyPost_ret (v := .agg #[.int .i64 n, .string (mx lo bo), .string bi]) (by simp [results, Try.results65, go_sem]) rfl ⟨rfl, ?_⟩
    repeat (first | exact Q.refl _ | refine Q.setCell ?_ (by first | (simp; done) | (simp; omega)) _ | refine Q.alloc ?_ _)
  · obtain ⟨n1, n2, n3⟩ := no_empty h1
    cases h2 : bel a.hi b.hi with
    | true =>
      rw [show Sm.part a b = ⟨b.mode, mx a.lo b.lo, a.hi⟩ by unfold Sm.part Sm.cut; simp [h1, h2]]
      rw [h2] at B
      obtain ⟨m, lo, hi⟩ := a
      obtain ⟨n, bo, bi⟩ := b
      clear h1 h2
      simp only at n1 n2 n3 B
      unfold wnV
      go_enter Try.func65, Try.ntmps65
      go_wp2_with fail
      refine (B.out _).mono ?_
      rintro e w1 ⟨rfl, rfl⟩
      go_wp2
      refine bodyPost_ret (v := .agg #[.int .i64 n, .string (mx lo bo), .string hi]) (by simp [results, Try.results65, go_sem]) rfl ⟨rfl, ?_⟩
      repeat (first | exact Q.refl _ | refine Q.setCell ?_ (by first | (simp; done) | (simp; omega)) _ | refine Q.alloc ?_ _)
    | false =>
      rw [show Sm.part a b = ⟨b.mode, mx a.lo b.lo, b.hi⟩ by unfold Sm.part Sm.cut; simp [h1, h2]]
      rw [h2] at B
      obtain ⟨m, lo, hi⟩ := a
      obtain ⟨n, bo, bi⟩ := b
      clear h1 h2
      simp only at n1 n2 n3 B
      unfold wnV
      go_enter Try.func65, Try.ntmps65
      go_wp2_with fail
      refine (B.out _).mono ?_
      rintro e w1 ⟨rfl, rfl⟩
      go_wp2
      refine bodyPost_ret (v := .agg #[.int .i64 n, .string (mx lo bo), .string bi]) (by simp [results, Try.results65, go_sem]) rfl ⟨rfl, ?_⟩
      repeat (first | exact Q.refl _ | refine Q.setCell ?_ (by first | (simp; done) | (simp; omega)) _ | refine Q.alloc ?_ _)
end Go.Proofs.Ytncnfblnelkmbaa

/- Contract: the document's order of texts. -/
namespace Go.Proofs.Ytncnfblnelkmbaa
set_option maxRecDepth 100000
open Go.RowKit Prm
set_option linter.unusedVariables false
set_option linter.unusedSimpArgs false

theorem less_ne {a b : UInt8} (x y : List UInt8) (h : a ≠ b) : Op.bytesLess (a :: x) (b :: y) = decide (a.toNat < b.toNat) := by
  simp only [Op.bytesLess]
  rw [show (a == b) = false by simpa using h, Bool.false_and, Bool.or_false]
  rfl
theorem less_same (a : UInt8) (x y : List UInt8) : Op.bytesLess (a :: x) (a :: y) = Op.bytesLess x y := by
  simp [Op.bytesLess]
theorem ldrop_at (s : ByteArray) (k : Nat) (h : k < s.size) : s.data.toList.drop k = s[k] :: s.data.toList.drop (k + 1) := by
  rw [List.drop_eq_getElem_cons (by simpa using h)]; rfl
theorem drop_no (s : ByteArray) (k : Nat) (h : s.size ≤ k) : s.data.toList.drop k = [] := List.drop_of_length_le (by simpa using h)

set_option maxHeartbeats 2000000 in
theorem less_any (s t : ByteArray) (w : World) (hs : s.size ≤ maxLen) (ht : t.size ≤ maxLen) :
    Calls Try.prog 47 #[.string s, .string t] w fun e w' => e = .returned (.bool (lt s t)) ∧ ∃ n, w' = w.drewN n := by
  unfold maxLen at hs ht
  go_enter Try.func47, Try.ntmps47
  go_wp2
  go_loopw [5] (fun i wr => ∃ k : Nat, k ≤ s.size ∧ k ≤ t.size ∧ i = .int .i64 k ∧ (∃ n, wr = w.drewN n) ∧ lt s t = Op.bytesLess (s.data.toList.drop k) (t.data.toList.drop k)) (fun i _ => s.size - (intOf i).toNat)
  case atStart => exact ⟨0, Nat.zero_le _, Nat.zero_le _, rfl, ⟨0, rfl⟩, rfl⟩
  case round =>
    obtain ⟨k, hks, hkt, rfl, ⟨q, rfl⟩, hl⟩ := hrel
    have HL := Lib.hid hl
    clear hl
    by_cases h1 : k < s.size
    · by_cases h2 : k < t.size
      · have i1 : (k : Int) < (s.size : Int) := by omega
        have i2 : (k : Int) < (t.size : Int) := by omega
        by_cases hh : s[k] = t[k]
        · have hn : s[k].toNat = t[k].toNat := by rw [hh]
          have b1 : (s[k].toNat == t[k].toNat) = true := by simpa using hn
          have b2 : (s[k].toNat != t[k].toNat) = false := by simpa using hn
          have HS := Lib.hid (show lt s t = Op.bytesLess (s.data.toList.drop (k + 1)) (t.data.toList.drop (k + 1)) by rw [HL.out, ldrop_at s k h1, ldrop_at t k h2, hh, less_same])
          clear hh hn
          go_wp2
          go_quiet (fail)
          all_goals
            go_wp2
            go_roundw
            case rel => exact ⟨k + 1, by omega, by omega, by go_num, ⟨_, rfl⟩, HS.out⟩
            case measure => simp [intOf]; omega
        · have hn : s[k].toNat ≠ t[k].toNat := fun e => hh (UInt8.toNat_inj.1 e)
          have b1 : (s[k].toNat == t[k].toNat) = false := by simpa using hn
          have b2 : (s[k].toNat != t[k].toNat) = true := by simpa using hn
          have HS := Lib.hid (show lt s t = decide (s[k].toNat < t[k].toNat) by rw [HL.out, ldrop_at s k h1, ldrop_at t k h2, less_ne _ _ hh])
          clear hh hn
          go_wp2
          go_quiet (fail)
          all_goals
            go_wp2
            go_quiet (fail)
            all_goals
              go_wp2
              go_ret
              exact ⟨ret_bool (by rw [HS.out]; first | done | rfl | (simp; done) | (simp; omega)), by first | exact ⟨_, rfl⟩ | exact ⟨_, by rw [World.drewN_drewN]⟩ | exact ⟨_, by rw [World.drewN_drewN, World.drewN_drewN]⟩⟩
      · have HS := Lib.hid (show lt s t = false by rw [HL.out, drop_no t k (by omega)]; cases s.data.toList.drop k <;> rfl)
        have i1 : (k : Int) < (s.size : Int) := by omega
        have e3 : k = t.size := by omega
        subst e3
        go_wp2
        go_ret
        exact ⟨ret_bool (by rw [HS.out]; first | done | rfl | (simp; done) | (simp; omega)), by first | exact ⟨_, rfl⟩ | exact ⟨_, by rw [World.drewN_drewN]⟩ | exact ⟨_, by rw [World.drewN_drewN, World.drewN_drewN]⟩⟩
    · have e3 : k = s.size := by omega
      subst e3
      have HS := Lib.hid (show lt s t = decide (s.size < t.size) by
        rw [HL.out, drop_no s _ (Nat.le_refl _)]
        by_cases h2 : s.size < t.size
        · rw [ldrop_at t s.size h2, decide_eq_true h2]; rfl
        · rw [drop_no t _ (by omega), decide_eq_false h2]; rfl)
      go_wp2
      go_ret
      exact ⟨ret_bool (by rw [HS.out]; first | done | rfl | (simp; done) | (simp; omega)), by first | exact ⟨_, rfl⟩ | exact ⟨_, by rw [World.drewN_drewN]⟩ | exact ⟨_, by rw [World.drewN_drewN, World.drewN_drewN]⟩⟩
end Go.Proofs.Ytncnfblnelkmbaa

/- Contracts: span.Key, Overlap, Clash, Covers. -/
namespace Go.Proofs.Ytncnfblnelkmbaa
set_option maxRecDepth 100000
open Go.RowKit Prm Sm
set_option linter.unusedVariables false
set_option linter.unusedSimpArgs false

theorem rkey_any (m : Int) (k : ByteArray) (w : World) (hk : k.size ≤ 140737488351232) :
    Calls Try.prog 22 #[.int .i64 m, .string k] w fun e w' => e = .returned (wnV (key m k)) ∧ Q w w' := by
  have h1 : (⟨#[0]⟩ : ByteArray).size = 1 := rfl
  have h2 : k.size + (⟨#[0]⟩ : ByteArray).size ≤ 9223372036854775807 := by omega
  have h3 : k.size + 1 ≤ 9223372036854775807 := by omega
  unfold wnV Sm.key
  go_enter Try.func22, Try.ntmps22
  go_wp2
  all_goals refine bodyPost_ret (v := .agg #[.int .i64 m, .string k, .string (k ++ ⟨#[0]⟩)]) (by simp [results, Try.results22, go_sem]) rfl ⟨rfl, ?_⟩
  all_goals repeat (first | exact Q.refl _ | refine Q.setCell ?_ (by first | (simp; done) | (simp; omega)) _ | refine Q.alloc ?_ _)

theorem sover_any (a b : Wn) (w : World) :
    Calls Try.prog 49 #[wnV a, wnV b] w fun e w' => e = .returned (.bool (over a b)) ∧ Q w w' := by
  have P := Lib.hid (fun W => spart_any a b W)
  have B := Lib.hid (fun W => ssome_any (Sm.part a b) W)
  unfold Sm.over
  generalize some1 (Sm.part a b) = r at B
  generalize Sm.part a b = p at P B
  obtain ⟨m, lo, hi⟩ := a
  obtain ⟨n, bo, bi⟩ := b
  obtain ⟨k, po, pi⟩ := p
  unfold wnV at *
  go_enter Try.func49, Try.ntmps49
  go_wp2_with fail
  refine (P.out _).mono ?_
  rintro e w1 ⟨rfl, q1⟩
  go_wp2_with fail
  refine (B.out _).mono ?_
  rintro e w2 ⟨rfl, q2⟩
  go_wp2
  go_ret
  exact ⟨rfl, ((((Q.refl w).alloc _).alloc _).trans q1).trans q2⟩

theorem sclash_any (a b : Wn) (w : World) :
    Calls Try.prog 38 #[wnV a, wnV b] w fun e w' => e = .returned (.bool (clash a b)) ∧ Q w w' := by
  have P := Lib.hid (fun W => sover_any a b W)
  unfold clash
  generalize over a b = r at P
  obtain ⟨m, lo, hi⟩ := a
  obtain ⟨n, bo, bi⟩ := b
  unfold wnV at *
  by_cases h1 : m = 2
  · subst h1
    rw [show xs ⟨2, lo, hi⟩ ⟨n, bo, bi⟩ = true from rfl, Bool.true_and]
    go_enter Try.func38, Try.ntmps38
    go_wp2_with fail
    refine (P.out _).mono ?_
    rintro e w1 ⟨rfl, q1⟩
    go_wp2
    go_ret
    exact ⟨by first | rfl | simp, (((Q.refl w).alloc _).alloc _).trans q1⟩
  · have e1 : (m == 2) = false := by simpa using h1
    by_cases h2 : n = 2
    · subst h2
      rw [show xs ⟨m, lo, hi⟩ ⟨2, bo, bi⟩ = true by unfold xs; simp, Bool.true_and]
      clear h1
      go_enter Try.func38, Try.ntmps38
      go_wp2_with fail
      refine (P.out _).mono ?_
      rintro e w1 ⟨rfl, q1⟩
      go_wp2
      go_ret
      exact ⟨by first | rfl | simp, (((Q.refl w).alloc _).alloc _).trans q1⟩
    · have e2 : (n == 2) = false := by simpa using h2
      rw [show xs ⟨m, lo, hi⟩ ⟨n, bo, bi⟩ = false by unfold xs; simp [h1, h2], Bool.false_and]
      clear h1 h2
      go_enter Try.func38, Try.ntmps38
      go_wp2
      go_ret
      exact ⟨by first | rfl | simp, ((Q.refl w).alloc _).alloc _⟩
end Go.Proofs.Ytncnfblnelkmbaa

/- A region that draws its order: the condition on the world may be made stronger on the way. -/
namespace Go
set_option maxRecDepth 100000
section
variable {P : Program} {ops : Array Oper} {Q : Exit → Act → World → Prop} {md : Region.Mode} {S S' : World → Prop}
end
end Go

/- Contract: span.Covers. -/
namespace Go.Proofs.Ytncnfblnelkmbaa
set_option maxRecDepth 100000
open Go.RowKit Prm Sm
set_option linter.unusedVariables false
set_option linter.unusedSimpArgs false

theorem wn_eq (a b : Wn) : decide (a = b) = (decide (a.mode = b.mode) && (decide (a.lo = b.lo) && decide (a.hi = b.hi))) := by
  obtain ⟨m, lo, hi⟩ := a
  obtain ⟨n, bo, bi⟩ := b
  rw [Bool.eq_iff_iff]
  simp
@[go_sem high] theorem run_eql_wn (w : World) (m n : Int) (lo hi bo bi : ByteArray) :
    (binOp .eql 41 (.agg #[.int .i64 m, .string lo, .string hi]) (.agg #[.int .i64 n, .string bo, .string bi])).run Try.prog w = .ok (.bool (decide ((⟨m, lo, hi⟩ : Wn) = ⟨n, bo, bi⟩))) w := by
  rw [wn_eq, run_eql_struct, show (10000 : Nat) = 9999 + 1 from rfl, run_equalIn_agg _ _ _ _ _ (by kernel_rfl) (by kernel_rfl)]
  simp only [Program.fieldsOf, Try.underlying41]
  have f0 : Try.prog.underlying 3 = some (.int .i64) := by kernel_rfl
  have f1 : Try.prog.underlying 9 = some .string := by kernel_rfl
  rw [← same_str, ← same_str]
  simp [Op.eqFields, go_sem, run_equalIn_int (h := f0), run_equalIn_string (h := f1)]
  by_cases h0 : m = n <;> by_cases h1 : lo.toList = bo.toList <;> by_cases h2 : hi.toList = bi.toList <;> simp [h0, h1, h2]
theorem wn_boxes (w : World) (m : Int) (lo hi : ByteArray) (n : Int) (bo bi : ByteArray) :
    Wx ((w.alloc (.cells #[.int .i64 m, .string lo, .string hi] 41)).alloc (.cells #[.int .i64 n, .string bo, .string bi] 41)) w.heap.size ⟨m, lo, hi⟩ ∧
    Wx ((w.alloc (.cells #[.int .i64 m, .string lo, .string hi] 41)).alloc (.cells #[.int .i64 n, .string bo, .string bi] 41)) (w.heap.size + 1) ⟨n, bo, bi⟩ ∧
    Q w ((w.alloc (.cells #[.int .i64 m, .string lo, .string hi] 41)).alloc (.cells #[.int .i64 n, .string bo, .string bi] 41)) := by
  have h1 := (Bx.new w [.int .i64 m, .string lo, .string hi] 41).alloc (.cells #[.int .i64 n, .string bo, .string bi] 41)
  have h2 := Bx.new (w.alloc (.cells #[.int .i64 m, .string lo, .string hi] 41)) [.int .i64 n, .string bo, .string bi] 41
  rw [show (w.alloc (.cells #[.int .i64 m, .string lo, .string hi] 41)).heap.size = w.heap.size + 1 by simp] at h2
  exact ⟨⟨h1.get3.1.1, h1.get3.1.2.1, h1.get3.1.2.2⟩, ⟨h2.get3.1.1, h2.get3.1.2.1, h2.get3.1.2.2⟩, ((Q.refl w).alloc _).alloc _⟩

end Go.Proofs.Ytncnfblnelkmbaa

/- Pairs and writes in memory; contracts: the closures that find pairs, slices.IndexFunc, slices.Clone, table.Find, Between, Right, and the document's Less. -/
namespace Go.Proofs.Ytncnfblnelkmbaa
set_option maxRecDepth 100000
open Go.RowKit Prm
set_option linter.unusedVariables false

abbrev Prm.Pr.v (p : Pr) : Value := .agg #[.string p.key, .string p.val]
abbrev Prm.Wr.v (w : Wr) : Value := .agg #[.string w.key, .string w.val, .bool w.del]
end Go.Proofs.Ytncnfblnelkmbaa

/- Contracts: lock's closures over holds and claims; slices.IndexFunc, ContainsFunc, Clone, Equal at these. -/
namespace Go.Proofs.Ytncnfblnelkmbaa
set_option maxRecDepth 100000
open Go.RowKit Prm Lm Sm
set_option linter.unusedVariables false
set_option linter.unusedSimpArgs false

def isH (txn : Int) (h : Ho) : Bool := decide (h.txn = txn)
def isC (txn : Int) (h : Cl) : Bool := decide (h.txn = txn)
def hasH (txn : Int) (x : Wn) (h : Ho) : Bool := decide (h.txn = txn) && covers h.w x
def Cap2 (w : World) (txn : Int) (x : Wn) (B C : Nat) : Prop := B < w.heap.size ∧ C < w.heap.size ∧ w.cell? ⟨B, 0, none⟩ = some (.int .i64 txn) ∧ Wx w C x
theorem Cap2.q {w w' : World} {txn : Int} {x : Wn} {B C : Nat} (h : Cap2 w txn x B C) (q : Q w w') : Cap2 w' txn x B C := ⟨Nat.lt_of_lt_of_le h.1 q.size, Nat.lt_of_lt_of_le h.2.1 q.size, box_ q h.2.2.1, h.2.2.2.q q⟩
theorem int_eq (a b : Int) : (a == b) = decide (a = b) := by
  by_cases h : a = b
  · subst h; simp
  · simp [h]

end Go.Proofs.Ytncnfblnelkmbaa

/- Locks: more plain mathematics (how the loops go). -/
namespace Go.Proofs.Ytncnfblnelkmbaa.Lm
set_option maxRecDepth 100000
set_option linter.unusedVariables false
set_option linter.unusedSimpArgs false

def addT (txn : Int) (w : Sm.Wn) (o : Int) (v : Sm.Wn) (out : List Int) : List Int := if Sm.clash v w = true ∧ o ≠ txn then ins o out else out
theorem ins_len {n : Int} : ∀ (l : List Int), (ins n l).length ≤ l.length + 1
  | [] => by simp [ins]
  | a :: l => by
    unfold ins
    split
    · omega
    · split
      · simp
      · simp only [List.length_cons]; have := ins_len (n := n) l; omega
theorem addT_len (txn : Int) (w : Sm.Wn) (o : Int) (v : Sm.Wn) (out : List Int) : (addT txn w o v out).length ≤ out.length + 1 := by
  unfold addT; split
  · exact ins_len _
  · omega
theorem gatH_snoc {txn : Int} {w : Sm.Wn} : ∀ (l : List Ho) (h : Ho) (out : List Int), gatH txn w (l ++ [h]) out = addT txn w h.txn h.w (gatH txn w l out)
  | [], h, out => rfl
  | a :: l, h, out => by simp only [List.cons_append, gatH]; exact gatH_snoc l h _
theorem gatQ_snoc {txn : Int} {w : Sm.Wn} : ∀ (l : List Cl) (h : Cl) (out : List Int), gatQ txn w (l ++ [h]) out = addT txn w h.txn h.w (gatQ txn w l out)
  | [], h, out => rfl
  | a :: l, h, out => by simp only [List.cons_append, gatQ]; exact gatQ_snoc l h _
theorem gatH_at {txn : Int} {w : Sm.Wn} {l : List Ho} {k : Nat} (hk : k < l.length) (out : List Int) : gatH txn w (l.take (k + 1)) out = addT txn w l[k].txn l[k].w (gatH txn w (l.take k) out) := by
  rw [List.take_succ_eq_append_getElem hk, gatH_snoc]
theorem gatQ_at {txn : Int} {w : Sm.Wn} {l : List Cl} {k : Nat} (hk : k < l.length) (out : List Int) : gatQ txn w (l.take (k + 1)) out = addT txn w l[k].txn l[k].w (gatQ txn w (l.take k) out) := by
  rw [List.take_succ_eq_append_getElem hk, gatQ_snoc]
theorem gatH_len {txn : Int} {w : Sm.Wn} : ∀ (l : List Ho) (out : List Int), (gatH txn w l out).length ≤ out.length + l.length
  | [], out => by simp [gatH]
  | a :: l, out => by
    have h1 := gatH_len (txn := txn) (w := w) l (addT txn w a.txn a.w out)
    have h2 := addT_len txn w a.txn a.w out
    show (gatH txn w l (addT txn w a.txn a.w out)).length ≤ _
    simp only [List.length_cons]; omega
theorem gatQ_len {txn : Int} {w : Sm.Wn} : ∀ (l : List Cl) (out : List Int), (gatQ txn w l out).length ≤ out.length + l.length
  | [], out => by simp [gatQ]
  | a :: l, out => by
    have h1 := gatQ_len (txn := txn) (w := w) l (addT txn w a.txn a.w out)
    have h2 := addT_len txn w a.txn a.w out
    show (gatQ txn w l (addT txn w a.txn a.w out)).length ≤ _
    simp only [List.length_cons]; omega
theorem blk_len (l : Lo) (txn : Int) (w : Sm.Wn) (n : Nat) : (blk l txn w n).length ≤ l.held.length + l.queue.length := by
  unfold blk
  have h1 := gatQ_len (txn := txn) (w := w) (l.queue.take n) (gatH txn w l.held [])
  have h2 := gatH_len (txn := txn) (w := w) l.held []
  have h3 : (l.queue.take n).length ≤ l.queue.length := List.length_take_le' ..
  simp only [List.length_nil] at h2
  omega
/-! ### put, as it goes -/
def Pt (l : List Int) (n : Int) (k : Nat) (d : Bool) (o : List Int) : Prop := (d = true → ins n l = o ++ l.drop k) ∧ (d = false → ins n l = o ++ ins n (l.drop k)) ∧ o.length ≤ k + 1
theorem Pt.start (l : List Int) (n : Int) : Pt l n 0 false [] := ⟨fun h => (by cases h), fun _ => by simp, by simp⟩
section
variable {l o : List Int} {n : Int} {k : Nat}
theorem Pt.at_done (h : Pt l n k true o) (hk : k < l.length) : Pt l n (k + 1) true (o ++ [l[k]]) :=
  ⟨fun _ => by rw [h.1 rfl, List.drop_eq_getElem_cons hk]; simp, fun h => (by cases h), by have := h.2.2; simp; omega⟩
theorem Pt.at_same (h : Pt l n k false o) (hk : k < l.length) (e : l[k] = n) (ho : o.length ≤ k) : Pt l n (k + 1) true (o ++ [l[k]]) :=
  ⟨fun _ => by rw [h.2.1 rfl, List.drop_eq_getElem_cons hk, ins, if_pos e]; simp, fun h => (by cases h), by simp; omega⟩
theorem Pt.at_more (h : Pt l n k false o) (hk : k < l.length) (e : n < l[k]) (ho : o.length ≤ k) : Pt l n (k + 1) true ((o ++ [n]) ++ [l[k]]) :=
  ⟨fun _ => by rw [h.2.1 rfl, List.drop_eq_getElem_cons hk, ins, if_neg (by omega), if_pos e]; simp, fun h => (by cases h), by simp; omega⟩
theorem Pt.at_less (h : Pt l n k false o) (hk : k < l.length) (e : l[k] < n) (ho : o.length ≤ k) : Pt l n (k + 1) false (o ++ [l[k]]) :=
  ⟨fun h => (by cases h), fun _ => by rw [h.2.1 rfl, List.drop_eq_getElem_cons hk, ins, if_neg (by omega), if_neg (by omega)]; simp, by simp; omega⟩
theorem Pt.end_done (h : Pt l n l.length true o) : ins n l = o := by rw [h.1 rfl]; simp
theorem Pt.end_not (h : Pt l n l.length false o) : ins n l = o ++ [n] := by rw [h.2.1 rfl]; simp [ins]
end

/-! ### late, as it goes -/
/-! ### settle, as it goes -/
def fin (l : Lo) (out : List Int) : Lo × List Int := settleN l.queue.length l out
theorem settle_is (l : Lo) : settle l = fin l [] := rfl
theorem fin_none {l : Lo} {out : List Int} (h : first l = none) : fin l out = (l, out) := by
  unfold fin
  cases hq : l.queue.length with
  | zero => rfl
  | succ n => unfold settleN; rw [h]
theorem give_len {l : Lo} {i : Nat} (hi : i < l.queue.length) : (give l i l.queue[i]).queue.length + 1 = l.queue.length := by
  show (l.queue.eraseIdx i).length + 1 = _
  rw [List.length_eraseIdx, if_pos hi]; omega
theorem fin_some {l : Lo} {out : List Int} {i : Nat} (h : first l = some i) (hi : i < l.queue.length) : fin l out = fin (give l i l.queue[i]) (out ++ [l.queue[i].txn]) := by
  have hg := give_len hi
  unfold fin
  obtain ⟨m, hm⟩ : ∃ m, l.queue.length = m + 1 := ⟨l.queue.length - 1, by omega⟩
  rw [show (give l i l.queue[i]).queue.length = m by omega]
  rw [show settleN l.queue.length l out = settleN (m + 1) l out by rw [hm]]
  rw [settleN, h]
  simp only [hi, dif_pos]
/-- the search, from place i on. -/
def seek (l : Lo) (i : Nat) : Option Nat := pick l (l.queue.length - i) i
theorem seek_at {l : Lo} {i : Nat} (hi : i < l.queue.length) : seek l i = if blk l l.queue[i].txn l.queue[i].w i = [] then some i else seek l (i + 1) := by
  unfold seek
  rw [show l.queue.length - i = (l.queue.length - (i + 1)) + 1 by omega, pick]
  simp only [hi, dif_pos]
theorem seek_end {l : Lo} {i : Nat} (hi : l.queue.length ≤ i) : seek l i = none := by
  unfold seek
  rw [show l.queue.length - i = 0 by omega]; rfl
theorem settle_len : ∀ (n : Nat) (l : Lo) (out : List Int), (settleN n l out).1.held.length + (settleN n l out).1.queue.length ≤ l.held.length + l.queue.length ∧ (settleN n l out).2.length ≤ out.length + n
  | 0, l, out => by simp [settleN]
  | n + 1, l, out => by
    unfold settleN
    cases hf : first l with
    | none => simp only; omega
    | some i =>
      by_cases hi : i < l.queue.length
      · simp only [hi, dif_pos]
        have h1 := settle_len n (give l i l.queue[i]) (out ++ [l.queue[i].txn])
        have h2 := give_len hi
        have h3 : (give l i l.queue[i]).held.length = l.held.length + 1 := by simp [give]
        simp only [List.length_append, List.length_singleton] at h1
        omega
      · simp only [hi, dif_neg, not_false_eq_true]; omega
theorem keep_len (l : Lo) (txn : Int) : (keep l txn).held.length ≤ l.held.length ∧ (keep l txn).queue.length ≤ l.queue.length := ⟨List.length_filter_le _ _, List.length_filter_le _ _⟩
theorem free_len (l : Lo) (txn : Int) : (free l txn).1.held.length + (free l txn).1.queue.length ≤ l.held.length + l.queue.length := by
  have h1 := settle_len (keep l txn).queue.length (keep l txn) []
  have h2 := keep_len l txn
  show (settleN (keep l txn).queue.length (keep l txn) []).1.held.length + (settleN (keep l txn).queue.length (keep l txn) []).1.queue.length ≤ _
  omega
end Go.Proofs.Ytncnfblnelkmbaa.Lm

/- Contracts: the document's spans. -/
namespace Go.Proofs.Ytncnfblnelkmbaa
set_option maxRecDepth 100000
open Go.RowKit Prm Sm
set_option linter.unusedVariables false
set_option linter.unusedSimpArgs false

def WnS (x : Wn) : Prop := x.lo.size ≤ maxLen ∧ x.hi.size ≤ maxLen

theorem rmay_any (x : Wn) (w : World) (hs : WnS x) :
    Calls Try.prog 34 #[wnV x] w fun e w' => e = .returned (.bool (may x)) ∧ Q w w' := by
  have B := Lib.hid (fun W => less_any x.lo x.hi W hs.1 hs.2)
  rw [may_eq]
  unfold rmay bel
  clear hs
  obtain ⟨m, lo, hi⟩ := x
  unfold wnV ok at *
  simp only at B ⊢
  by_cases h1 : hi = ⟨#[]⟩
  · subst h1
    simp only [decide_true, Bool.true_or, Bool.true_and]
    by_cases h2 : m = 1
    · subst h2
      go_enter Try.func34, Try.ntmps34
      go_wp2
      go_ret
      exact ⟨rfl, (Q.refl w).alloc _⟩
    · have e1 : (m == 1) = false := by simpa using h2
      rw [show (decide (m = 1) || decide (m = 2)) = (m == 2) by simp [h2]; rfl]
      clear h2
      go_enter Try.func34, Try.ntmps34
      go_wp2
      all_goals go_ret
      all_goals exact ⟨by first | rfl | (simp; done) | simp_all, (Q.refl w).alloc _⟩
  · obtain ⟨n1, n2, n3⟩ := no_empty h1
    rw [show decide (hi = (⟨#[]⟩ : ByteArray)) = false by simp [h1], Bool.false_or]
    clear h1
    cases hl : lt lo hi with
    | false =>
      rw [hl] at B
      clear hl
      simp only [Bool.false_and]
      go_enter Try.func34, Try.ntmps34
      go_wp2_with fail
      refine (B.out _).mono ?_
      rintro e w1 ⟨rfl, k1, rfl⟩
      go_wp2
      go_ret
      exact ⟨rfl, ((Q.refl w).alloc _).drewN _⟩
    | true =>
      rw [hl] at B
      clear hl
      simp only [Bool.true_and]
      by_cases h2 : m = 1
      · subst h2
        go_enter Try.func34, Try.ntmps34
        go_wp2_with fail
        refine (B.out _).mono ?_
        rintro e w1 ⟨rfl, k1, rfl⟩
        go_wp2
        go_ret
        exact ⟨rfl, ((Q.refl w).alloc _).drewN _⟩
      · have e1 : (m == 1) = false := by simpa using h2
        rw [show (decide (m = 1) || decide (m = 2)) = (m == 2) by simp [h2]; rfl]
        clear h2
        go_enter Try.func34, Try.ntmps34
        go_wp2_with fail
        refine (B.out _).mono ?_
        rintro e w1 ⟨rfl, k1, rfl⟩
        go_wp2
        all_goals go_ret
        all_goals exact ⟨by first | rfl | (simp; done) | simp_all, ((Q.refl w).alloc _).drewN _⟩

theorem rin_any (x : Wn) (k : ByteArray) (w : World) (hs : WnS x) (hk : k.size ≤ maxLen) :
    Calls Try.prog 48 #[wnV x, .string k] w fun e w' => e = .returned (.bool (inS x k)) ∧ Q w w' := by
  have B := Lib.hid (fun W => less_any k x.lo W hk hs.1)
  have C := Lib.hid (fun W => less_any k x.hi W hk hs.2)
  unfold inS bel
  clear hs hk
  obtain ⟨m, lo, hi⟩ := x
  unfold wnV at *
  simp only at B C ⊢
  cases h0 : lt k lo with
  | true =>
    rw [h0] at B
    clear h0
    simp only [Bool.not_true, Bool.false_and]
    go_enter Try.func48, Try.ntmps48
    go_wp2_with fail
    refine (B.out _).mono ?_
    rintro e w1 ⟨rfl, k1, rfl⟩
    go_wp2
    go_ret
    exact ⟨rfl, ((Q.refl w).alloc _).drewN _⟩
  | false =>
    rw [h0] at B
    clear h0
    simp only [Bool.not_false, Bool.true_and]
    by_cases h1 : hi = ⟨#[]⟩
    · subst h1
      simp only [decide_true, Bool.true_or]
      go_enter Try.func48, Try.ntmps48
      go_wp2_with fail
      refine (B.out _).mono ?_
      rintro e w1 ⟨rfl, k1, rfl⟩
      go_wp2
      go_ret
      exact ⟨rfl, ((Q.refl w).alloc _).drewN _⟩
    · obtain ⟨n1, n2, n3⟩ := no_empty h1
      rw [show decide (hi = (⟨#[]⟩ : ByteArray)) = false by simp [h1], Bool.false_or]
      generalize lt k hi = r at C
      clear h1
      go_enter Try.func48, Try.ntmps48
      go_wp2_with fail
      refine (B.out _).mono ?_
      rintro e w1 ⟨rfl, k1, rfl⟩
      go_wp2_with fail
      refine (C.out _).mono ?_
      rintro e w2 ⟨rfl, k2, rfl⟩
      go_wp2
      go_ret
      exact ⟨by first | rfl | (simp; done), ((Q.refl w).alloc _).drewN _⟩

set_option maxHeartbeats 1000000 in
theorem rover_any (a b : Wn) (w : World) (ha : WnS a) (hb : WnS b) :
    Calls Try.prog 62 #[wnV a, wnV b] w fun e w' => e = .returned (.bool (over a b)) ∧ Q w w' := by
  have hm : (mx a.lo b.lo).size ≤ maxLen := by
    rcases mx_or a.lo b.lo with e | e
    · rw [e]; exact ha.1
    · rw [e]; exact hb.1
  have B := Lib.hid (fun W => less_any a.lo b.lo W ha.1 hb.1)
  have C := Lib.hid (fun W => rin_any a (mx a.lo b.lo) W ha hm)
  have D := Lib.hid (fun W => rin_any b (mx a.lo b.lo) W hb hm)
  rw [over_eq]
  unfold rover
  clear hm ha hb
  generalize inS a (mx a.lo b.lo) = r1 at C
  generalize inS b (mx a.lo b.lo) = r2 at D
  unfold mx at C D
  obtain ⟨m, lo, hi⟩ := a
  obtain ⟨n, bo, bi⟩ := b
  unfold wnV at *
  simp only at B C D ⊢
  have B0 := wn_boxes w m lo hi n bo bi
  cases h0 : lt lo bo
  all_goals
    rw [h0] at B C D
    simp only [Bool.false_eq_true, if_false, if_true] at C D
    clear h0
    cases r1
    all_goals
      go_enter Try.func62, Try.ntmps62
      go_wp2_with fail
      generalize (w.alloc (.cells #[.int .i64 m, .string lo, .string hi] 41)).alloc (.cells #[.int .i64 n, .string bo, .string bi] 41) = W at B0 ⊢
      obtain ⟨c, d, bq⟩ := B0
      refine (B.out _).mono ?_
      rintro e w1 ⟨rfl, k1, rfl⟩
      have q1 := (Q.refl W).drewN k1
      obtain ⟨c0, c1, c2⟩ := c.q q1
      obtain ⟨d0, d1, d2⟩ := d.q q1
      have BQ := Lib.hid (bq.trans q1)
      clear bq q1 c d
      generalize W.drewN k1 = W1 at *
      go_wp2_with fail
      refine (C.out _).mono ?_
      rintro e w2 ⟨rfl, q2⟩
      have d0 := box_ q2 d0
      have d1 := box_ q2 d1
      have d2 := box_ q2 d2
      have BQ := Lib.hid (BQ.out.trans q2)
      clear q2
      first
        | (go_wp2
           go_ret
           exact ⟨by first | rfl | (simp; done), BQ.out⟩)
        | (go_wp2_with fail
           refine (D.out _).mono ?_
           rintro e w3 ⟨rfl, q3⟩
           go_wp2
           go_ret
           exact ⟨by first | rfl | (simp; done), BQ.out.trans q3⟩)
end Go.Proofs.Ytncnfblnelkmbaa

/- Contracts: the document's clashes, and what covers. -/
namespace Go.Proofs.Ytncnfblnelkmbaa
set_option maxRecDepth 100000
open Go.RowKit Prm Sm
set_option linter.unusedVariables false
set_option linter.unusedSimpArgs false

theorem int2 (m : Int) (h : ¬ m = 2) : (m == 2) = false ∧ (m != 2) = true := by simpa using h
set_option maxHeartbeats 1000000 in
theorem rclash_any (a b : Wn) (w : World) (ha : WnS a) (hb : WnS b) :
    Calls Try.prog 43 #[wnV a, wnV b] w fun e w' => e = .returned (.bool (clash a b)) ∧ Q w w' := by
  have B := Lib.hid (fun W => rover_any a b W ha hb)
  unfold clash xs
  clear ha hb
  generalize over a b = r at B
  obtain ⟨m, lo, hi⟩ := a
  obtain ⟨n, bo, bi⟩ := b
  unfold wnV at *
  simp only at B ⊢
  have B0 := wn_boxes w m lo hi n bo bi
  by_cases h1 : m = 2
  · subst h1
    simp only [decide_true, Bool.true_or, Bool.true_and]
    cases r
    all_goals
      go_enter Try.func43, Try.ntmps43
      go_wp2_with fail
      generalize (w.alloc (.cells #[.int .i64 2, .string lo, .string hi] 41)).alloc (.cells #[.int .i64 n, .string bo, .string bi] 41) = W at B0 ⊢
      obtain ⟨⟨c0, c1, c2⟩, ⟨d0, d1, d2⟩, bq⟩ := B0
      have BQ := Lib.hid bq
      clear bq
      refine (B.out _).mono ?_
      rintro e w1 ⟨rfl, q1⟩
      have c0 := box_ q1 c0
      have d0 := box_ q1 d0
      go_wp2
      go_ret
      exact ⟨by first | rfl | (simp; done), BQ.out.trans q1⟩
  · obtain ⟨e1, e2⟩ := int2 m h1
    by_cases h2 : n = 2
    · subst h2
      simp only [decide_true, Bool.or_true, Bool.true_and]
      cases r
      all_goals
        clear h1
        go_enter Try.func43, Try.ntmps43
        go_wp2_with fail
        generalize (w.alloc (.cells #[.int .i64 m, .string lo, .string hi] 41)).alloc (.cells #[.int .i64 2, .string bo, .string bi] 41) = W at B0 ⊢
        obtain ⟨⟨c0, c1, c2⟩, ⟨d0, d1, d2⟩, bq⟩ := B0
        have BQ := Lib.hid bq
        clear bq
        refine (B.out _).mono ?_
        rintro e w1 ⟨rfl, q1⟩
        have c0 := box_ q1 c0
        have d0 := box_ q1 d0
        go_wp2
        go_ret
        exact ⟨by first | rfl | (simp; done), BQ.out.trans q1⟩
    · obtain ⟨e3, e4⟩ := int2 n h2
      rw [show (decide (m = 2) || decide (n = 2)) = false by simp [h1, h2], Bool.false_and]
      cases r
      all_goals
        clear h1 h2
        go_enter Try.func43, Try.ntmps43
        go_wp2_with fail
        generalize (w.alloc (.cells #[.int .i64 m, .string lo, .string hi] 41)).alloc (.cells #[.int .i64 n, .string bo, .string bi] 41) = W at B0 ⊢
        obtain ⟨⟨c0, c1, c2⟩, ⟨d0, d1, d2⟩, bq⟩ := B0
        have BQ := Lib.hid bq
        clear bq
        refine (B.out _).mono ?_
        rintro e w1 ⟨rfl, q1⟩
        have c0 := box_ q1 c0
        have d0 := box_ q1 d0
        go_wp2
        go_ret
        exact ⟨by first | rfl | (simp; done), BQ.out.trans q1⟩

set_option maxHeartbeats 4000000 in
theorem rcovers_any (a b : Wn) (w : World) (ha : WnS a) (hb : WnS b) :
    Calls Try.prog 36 #[wnV a, wnV b] w fun e w' => e = .returned (.bool (covers a b)) ∧ Q w w' := by
  have B := Lib.hid (fun W => rmay_any b W hb)
  have C := Lib.hid (fun W => rin_any a b.lo W ha hb.1)
  have D := Lib.hid (fun W => less_any a.hi b.hi W ha.2 hb.2)
  rw [covers_eq]
  unfold rcovers
  rw [← may_eq]
  clear ha hb
  generalize may b = r1 at B
  generalize inS a b.lo = r2 at C
  generalize lt a.hi b.hi = r3 at D
  obtain ⟨m, lo, hi⟩ := a
  obtain ⟨n, bo, bi⟩ := b
  unfold wnV at *
  simp only at B C D ⊢
  have B0 := wn_boxes w m lo hi n bo bi
  -- what stands first: may it be?
  cases r1 with
  | false =>
    simp only [Bool.false_and]
    go_enter Try.func36, Try.ntmps36
    go_wp2_with fail
    refine (B.out _).mono ?_
    rintro e w1 ⟨rfl, q1⟩
    go_wp2
    go_ret
    exact ⟨rfl, B0.2.2.trans q1⟩
  | true =>
    simp only [Bool.true_and]
    by_cases hm : (decide (m = 2) || !decide (n = 2)) = false
    · rw [hm]
      have h1 : ¬ m = 2 := fun e => by simp [e] at hm
      have h2 : n = 2 := by simp [h1] at hm; exact hm
      obtain ⟨e1, e2⟩ := int2 m h1
      subst h2
      clear h1 hm
      simp only [Bool.false_and]
      go_enter Try.func36, Try.ntmps36
      go_wp2_with fail
      generalize (w.alloc (.cells #[.int .i64 m, .string lo, .string hi] 41)).alloc (.cells #[.int .i64 2, .string bo, .string bi] 41) = W at B0 ⊢
      obtain ⟨⟨c0, c1, c2⟩, ⟨d0, d1, d2⟩, bq⟩ := B0
      have BQ := Lib.hid bq
      clear bq
      refine (B.out _).mono ?_
      rintro e w1 ⟨rfl, q1⟩
      have c0 := box_ q1 c0
      have d0 := box_ q1 d0
      go_wp2
      go_ret
      exact ⟨rfl, BQ.out.trans q1⟩
    · have hm' : (decide (m = 2) || !decide (n = 2)) = true := (by revert hm; cases (decide (m = 2) || !decide (n = 2)) <;> simp)
      rw [hm', Bool.true_and]
      clear hm
      have hw : (m == 2) = true ∧ (m != 2) = false ∨ (m == 2) = false ∧ (m != 2) = true ∧ (n == 2) = false := by
        by_cases h1 : m = 2
        · left; simp [h1]
        · right
          obtain ⟨e1, e2⟩ := int2 m h1
          have h2 : ¬ n = 2 := fun e => by simp [h1, e] at hm'
          exact ⟨e1, e2, (int2 n h2).1⟩
      clear hm'
      cases r2 with
      | false =>
        simp only [Bool.false_and]
        rcases hw with ⟨e1, e2⟩ | ⟨e1, e2, e3⟩
        all_goals
          go_enter Try.func36, Try.ntmps36
          go_wp2_with fail
          generalize (w.alloc (.cells #[.int .i64 m, .string lo, .string hi] 41)).alloc (.cells #[.int .i64 n, .string bo, .string bi] 41) = W at B0 ⊢
          obtain ⟨⟨c0, c1, c2⟩, ⟨d0, d1, d2⟩, bq⟩ := B0
          have BQ := Lib.hid bq
          clear bq
          refine (B.out _).mono ?_
          rintro e w1 ⟨rfl, q1⟩
          have c0 := box_ q1 c0
          have c1 := box_ q1 c1
          have c2 := box_ q1 c2
          have d0 := box_ q1 d0
          have d1 := box_ q1 d1
          have d2 := box_ q1 d2
          have BQ := Lib.hid (BQ.out.trans q1)
          clear q1
          go_wp2_with fail
          refine (C.out _).mono ?_
          rintro e w2 ⟨rfl, q2⟩
          go_wp2
          go_ret
          exact ⟨rfl, BQ.out.trans q2⟩
      | true =>
        simp only [Bool.true_and]
        by_cases h1 : hi = ⟨#[]⟩
        · subst h1
          simp only [decide_true, Bool.true_or]
          rcases hw with ⟨e1, e2⟩ | ⟨e1, e2, e3⟩
          all_goals
            go_enter Try.func36, Try.ntmps36
            go_wp2_with fail
            generalize (w.alloc (.cells #[.int .i64 m, .string lo, .string ⟨#[]⟩] 41)).alloc (.cells #[.int .i64 n, .string bo, .string bi] 41) = W at B0 ⊢
            obtain ⟨⟨c0, c1, c2⟩, ⟨d0, d1, d2⟩, bq⟩ := B0
            have BQ := Lib.hid bq
            clear bq
            refine (B.out _).mono ?_
            rintro e w1 ⟨rfl, q1⟩
            have c0 := box_ q1 c0
            have c1 := box_ q1 c1
            have c2 := box_ q1 c2
            have d0 := box_ q1 d0
            have d1 := box_ q1 d1
            have d2 := box_ q1 d2
            have BQ := Lib.hid (BQ.out.trans q1)
            clear q1
            go_wp2_with fail
            refine (C.out _).mono ?_
            rintro e w2 ⟨rfl, q2⟩
            have c2 := box_ q2 c2
            go_wp2
            go_ret
            exact ⟨rfl, BQ.out.trans q2⟩
        · obtain ⟨n1, n2, n3⟩ := no_empty h1
          rw [show decide (hi = (⟨#[]⟩ : ByteArray)) = false by simp [h1], Bool.false_or]
          clear h1
          by_cases h2 : bi = ⟨#[]⟩
          · subst h2
            simp only [decide_true, Bool.not_true, Bool.false_and]
            rcases hw with ⟨e1, e2⟩ | ⟨e1, e2, e3⟩
            all_goals
              go_enter Try.func36, Try.ntmps36
              go_wp2_with fail
              generalize (w.alloc (.cells #[.int .i64 m, .string lo, .string hi] 41)).alloc (.cells #[.int .i64 n, .string bo, .string ⟨#[]⟩] 41) = W at B0 ⊢
              obtain ⟨⟨c0, c1, c2⟩, ⟨d0, d1, d2⟩, bq⟩ := B0
              have BQ := Lib.hid bq
              clear bq
              refine (B.out _).mono ?_
              rintro e w1 ⟨rfl, q1⟩
              have c0 := box_ q1 c0
              have c1 := box_ q1 c1
              have c2 := box_ q1 c2
              have d0 := box_ q1 d0
              have d1 := box_ q1 d1
              have d2 := box_ q1 d2
              have BQ := Lib.hid (BQ.out.trans q1)
              clear q1
              go_wp2_with fail
              refine (C.out _).mono ?_
              rintro e w2 ⟨rfl, q2⟩
              have c2 := box_ q2 c2
              have d2 := box_ q2 d2
              have BQ := Lib.hid (BQ.out.trans q2)
              clear q2
              go_wp2_with fail
              refine (D.out _).mono ?_
              rintro e w3 ⟨rfl, k3, rfl⟩
              have c2 := box_ ((Q.refl _).drewN k3) c2
              have d2 := box_ ((Q.refl _).drewN k3) d2
              go_wp2
              go_ret
              exact ⟨by first | rfl | (simp; done), BQ.out.drewN _⟩
          · obtain ⟨p1, p2, p3⟩ := no_empty h2
            rw [show decide (bi = (⟨#[]⟩ : ByteArray)) = false by simp [h2], Bool.not_false, Bool.true_and]
            clear h2
            rcases hw with ⟨e1, e2⟩ | ⟨e1, e2, e3⟩
            all_goals
              go_enter Try.func36, Try.ntmps36
              go_wp2_with fail
              generalize (w.alloc (.cells #[.int .i64 m, .string lo, .string hi] 41)).alloc (.cells #[.int .i64 n, .string bo, .string bi] 41) = W at B0 ⊢
              obtain ⟨⟨c0, c1, c2⟩, ⟨d0, d1, d2⟩, bq⟩ := B0
              have BQ := Lib.hid bq
              clear bq
              refine (B.out _).mono ?_
              rintro e w1 ⟨rfl, q1⟩
              have c0 := box_ q1 c0
              have c1 := box_ q1 c1
              have c2 := box_ q1 c2
              have d0 := box_ q1 d0
              have d1 := box_ q1 d1
              have d2 := box_ q1 d2
              have BQ := Lib.hid (BQ.out.trans q1)
              clear q1
              go_wp2_with fail
              refine (C.out _).mono ?_
              rintro e w2 ⟨rfl, q2⟩
              have c2 := box_ q2 c2
              have d2 := box_ q2 d2
              have BQ := Lib.hid (BQ.out.trans q2)
              clear q2
              go_wp2_with fail
              refine (D.out _).mono ?_
              rintro e w3 ⟨rfl, k3, rfl⟩
              have c2 := box_ ((Q.refl _).drewN k3) c2
              have d2 := box_ ((Q.refl _).drewN k3) d2
              go_wp2
              go_ret
              exact ⟨by first | rfl | (simp; done), BQ.out.drewN _⟩
end Go.Proofs.Ytncnfblnelkmbaa
