/- WiOwnM, OwnRows, Kind, Ints, Pair, KindRow, App, PairIns, PairDel, Table, Table2, Table3, Box, WiFun, DecRef, DecRefText, Bx2, WiPart: merged. -/
import Derived.Test.YtdipikdebapmlaaDoorW1
import Derived.Laws.IdiomCopy
import Derived.Laws.OwnMore
import Derived.OwnWalk
import Derived.Deep.Upon
import Derived.Lib.LazyBuf
import Derived.Maps.AppendAt
import Derived.Laws.AppendOwnNone
import Derived.Lib.AppendZerosOnto
import Derived.Deep.RegionLaw
import Derived.Lib.Overlaps
import Derived.Laws.Externs
import Derived.Deep.DeepCutAuto
/- The mathematics of package wire's own taking (its hand): field by field, each with its bound; the same as the document's. -/
namespace Go.Proofs.YtdipikdebapmlaaDoor
set_option maxRecDepth 100000
open Prm
set_option linter.unusedVariables false
set_option linter.unusedSimpArgs false
namespace Wi

/-- the next number, which may not be above a bound. -/
def tkm (m : Nat) (p : Pt) : Pt := if p.is = false ∨ (Dm.tnum p.rest).2.2 ≠ 0 ∨ m < (Dm.tnum p.rest).1 then pz else ⟨(Dm.tnum p.rest).1, [], (Dm.tnum p.rest).2.1, true⟩
theorem tkm_no {m : Nat} {p : Pt} (h : p.is = false) : tkm m p = pz := by unfold tkm; rw [if_pos (.inl h)]
theorem tkm_was {m : Nat} {p : Pt} (h : (tkm m p).is = true) : p.is = true := by
  cases hp : p.is with
  | true => rfl
  | false => rw [tkm_no hp] at h; cases h
theorem tkm_low {m : Nat} {p : Pt} (h : (tkn p).is = true) (hn : (tkn p).n ≤ m) : tkm m p = tkn p := by
  unfold tkn at h hn ⊢
  unfold tkm
  split at h
  · cases h
  · rename_i h1
    rw [if_neg h1] at hn ⊢
    simp only [not_or, Decidable.not_not, ne_eq] at h1
    obtain ⟨a, b, c⟩ := h1
    rw [if_neg]
    simp only [not_or, Decidable.not_not, ne_eq]
    simp only at hn
    exact ⟨a, b, by omega⟩
theorem tkm_high {m : Nat} {p : Pt} (hm : m ≤ 1073741824) (h : ¬ ((tkn p).is = true ∧ (tkn p).n ≤ m)) : tkm m p = pz := by
  unfold tkm
  split
  · rfl
  · rename_i h1
    exfalso
    apply h
    simp only [not_or, Decidable.not_not, ne_eq] at h1
    obtain ⟨a, b, c⟩ := h1
    unfold tkn
    rw [if_neg (by simp only [not_or, Decidable.not_not, ne_eq]; exact ⟨a, b, by omega⟩)]
    exact ⟨rfl, by simp only; omega⟩
theorem tkm_le {m : Nat} (p : Pt) : (tkm m p).n ≤ m := by
  unfold tkm
  split
  · exact Nat.zero_le _
  · rename_i h1
    simp only [not_or] at h1
    simp only; omega

/-! ### Requests -/
def h1 (s : List UInt8) : Pt := tkm 6 (p0 s)
def h2 (s : List UInt8) : Pt := tkm 1073741824 (h1 s)
def h3 (s : List UInt8) : Pt := tkm 1073741824 (h2 s)
def h4 (s : List UInt8) : Pt := tkm 1073741824 (h3 s)
def h5 (s : List UInt8) : Pt := tkt 16 (h4 s)
def g1 (p : Pt) : Pt := tkm 6 p
def g2 (p : Pt) : Pt := tkt 32 (g1 p)
def g3 (p : Pt) : Pt := tkt 64 (g2 p)
def g4 (p : Pt) : Pt := tkt 32 (g3 p)
def g5 (p : Pt) : Pt := tkt 32 (g4 p)
def g6 (p : Pt) : Pt := tkm 1073741824 (g5 p)
def opH (p : Pt) : Op := ⟨((g1 p).n : Int), ba (g2 p).t, ba (g3 p).t, ba (g4 p).t, ba (g5 p).t, ((g6 p).n : Int)⟩
def hOf (s : List UInt8) : Rq := ⟨((h1 s).n : Int), ((h2 s).n : Int), ((h3 s).n : Int), ((h4 s).n : Int), ba (h5 s).t, if (h1 s).n = 5 then opH (h5 s) else op0⟩
def lastH (s : List UInt8) : Pt := if (h1 s).n = 5 then g6 (h5 s) else h5 s
def takeH (s : List UInt8) : Rq × Int :=
  if 2048 < s.length then (rq0, 4) else if (lastH s).is = false ∨ (lastH s).rest ≠ [] ∨ may (hOf s) = false then (rq0, 3) else (hOf s, 0)

theorem g_no {p : Pt} (h : (g1 p).is = false) : (g6 p).is = false := by
  have e2 : g2 p = pz := tkt_no h
  have e3 : g3 p = pz := by unfold g3; rw [e2]; exact tkt_no rfl
  have e4 : g4 p = pz := by unfold g4; rw [e3]; exact tkt_no rfl
  have e5 : g5 p = pz := by unfold g5; rw [e4]; exact tkt_no rfl
  unfold g6; rw [e5, tkm_no rfl]; rfl
theorem o_was {p : Pt} (h : (o6 p).is = true) : (o1 p).is = true := tkt_was (tkt_was (tkt_was (tkt_was (tkn_was h))))
theorem g_eq {p : Pt} (h : g1 p = o1 p) : opH p = opOf p ∧ g6 p = o6 p := by
  have e2 : g2 p = o2 p := by unfold g2 o2; rw [h]
  have e3 : g3 p = o3 p := by unfold g3 o3; rw [e2]
  have e4 : g4 p = o4 p := by unfold g4 o4; rw [e3]
  have e5 : g5 p = o5 p := by unfold g5 o5; rw [e4]
  have e6 : g6 p = o6 p := by unfold g6 o6; rw [e5]; rfl
  unfold opH opOf
  rw [h, e2, e3, e4, e5, e6]
  exact ⟨rfl, rfl⟩
theorem h_eq {s : List UInt8} (h : h1 s = q1 s) : h2 s = q2 s ∧ h3 s = q3 s ∧ h4 s = q4 s ∧ h5 s = q5 s := by
  have e2 : h2 s = q2 s := by unfold h2 q2; rw [h]; rfl
  have e3 : h3 s = q3 s := by unfold h3 q3; rw [e2]; rfl
  have e4 : h4 s = q4 s := by unfold h4 q4; rw [e3]; rfl
  have e5 : h5 s = q5 s := by unfold h5 q5; rw [e4]
  exact ⟨e2, e3, e4, e5⟩
theorem h_no {s : List UInt8} (h : h1 s = pz) : lastH s = pz := by
  have e2 : h2 s = pz := by unfold h2; rw [h]; exact tkm_no rfl
  have e3 : h3 s = pz := by unfold h3; rw [e2]; exact tkm_no rfl
  have e4 : h4 s = pz := by unfold h4; rw [e3]; exact tkm_no rfl
  have e5 : h5 s = pz := by unfold h5; rw [e4]; exact tkt_no rfl
  unfold lastH
  rw [h, e5, if_neg (by decide)]
theorem q_was {s : List UInt8} (h : (q5 s).is = true) : (q1 s).is = true := tkn_was (tkn_was (tkn_was (tkt_was h)))
/-- the hand's request is the document's. -/
theorem takeH_eq (s : List UInt8) : takeH s = takeQ s := by
  unfold takeH takeQ
  by_cases hl : 2048 < s.length
  · rw [if_pos hl, if_pos hl]
  rw [if_neg hl, if_neg hl]
  by_cases hk : (q1 s).is = true ∧ (q1 s).n ≤ 6
  · have e1 : h1 s = q1 s := tkm_low hk.1 hk.2
    obtain ⟨e2, e3, e4, e5⟩ := h_eq e1
    by_cases h5n : (q1 s).n = 5
    · by_cases ho : (o1 (q5 s)).is = true ∧ (o1 (q5 s)).n ≤ 6
      · have f1 : g1 (q5 s) = o1 (q5 s) := tkm_low ho.1 ho.2
        obtain ⟨f2, f3⟩ := g_eq f1
        have E1 : lastH s = lastQ s := by unfold lastH lastQ; rw [e1, e5, if_pos h5n, if_pos h5n, f3]
        have E2 : hOf s = qOf s := by unfold hOf qOf; rw [e1, e2, e3, e4, e5, if_pos h5n, if_pos h5n, f2]
        rw [E1, E2]
      · have f1 : g1 (q5 s) = pz := tkm_high (by omega) ho
        have E1 : (lastH s).is = false := by unfold lastH; rw [e1, e5, if_pos h5n]; exact g_no (by rw [f1]; rfl)
        rw [if_pos (.inl E1), if_pos]
        by_cases hls : (lastQ s).is = false
        · exact .inl hls
        · right; right
          simp only [Bool.not_eq_false] at hls
          have hls2 := hls
          unfold lastQ at hls2
          rw [if_pos h5n] at hls2
          have hw := o_was hls2
          have hgt : 6 < (o1 (q5 s)).n := by
            by_cases hh : (o1 (q5 s)).n ≤ 6
            · exact absurd ⟨hw, hh⟩ ho
            · omega
          cases hm : may (qOf s) with
          | false => rfl
          | true =>
            exfalso
            have M := may_of hm
            have h5k : (qOf s).kind = 5 := by unfold qOf; simp only; omega
            obtain ⟨_, k6, _⟩ := mayOp_iff.1 (M.o5 h5k)
            have : (qOf s).op.kind = ((o1 (q5 s)).n : Int) := by unfold qOf; simp only; rw [if_pos h5n]; rfl
            omega
    · have E1 : lastH s = lastQ s := by unfold lastH lastQ; rw [e1, e5, if_neg h5n, if_neg h5n]
      have E2 : hOf s = qOf s := by unfold hOf qOf; rw [e1, e2, e3, e4, e5, if_neg h5n, if_neg h5n]
      rw [E1, E2]
  · have e1 : h1 s = pz := tkm_high (by omega) hk
    rw [if_pos (.inl (by rw [h_no e1]; rfl)), if_pos]
    by_cases hls : (lastQ s).is = false
    · exact .inl hls
    · right; right
      simp only [Bool.not_eq_false] at hls
      have h5s : (q5 s).is = true := by
        unfold lastQ at hls
        split at hls
        · exact tkn_was (o_was hls)
        · exact hls
      have hw := q_was h5s
      have hgt : 6 < (q1 s).n := by
        by_cases hh : (q1 s).n ≤ 6
        · exact absurd ⟨hw, hh⟩ hk
        · omega
      cases hm : may (qOf s) with
      | false => rfl
      | true =>
        exfalso
        have := (may_of hm).k2
        have : (qOf s).kind = ((q1 s).n : Int) := rfl
        omega

/-! ### Replies -/
def s4 (s : List UInt8) : Pt := tkm 16 (r3 s)
def s5 (s : List UInt8) : Pt := tkt 64 (s4 s)
def s6 (s : List UInt8) : Pt := tkm 1 (s5 s)
def s7 (s : List UInt8) : Pt := tkm 1 (s6 s)
def s8 (s : List UInt8) : Pt := tkm 16 (s7 s)
def sOf (s : List UInt8) : Rp := ⟨((r1 s).n : Int), ((r2 s).n : Int), ((r3 s).n : Int), ((s4 s).n : Int), ba (s5 s).t, decide ((s6 s).n = 1), decide ((s7 s).n = 1), (tkR (s8 s).n [] (s8 s)).1⟩
def lastS (s : List UInt8) : Pt := (tkR (s8 s).n [] (s8 s)).2
def takeS (s : List UInt8) : Rp × Int := if (lastS s).is = false ∨ (lastS s).rest ≠ [] ∨ mayP (sOf s) = false then (rp0, 3) else (sOf s, 0)
theorem s_no {s : List UInt8} (h : (s8 s).is = false) : (lastS s).is = false := by
  cases e : (lastS s).is with
  | false => rfl
  | true => rw [tkR_was _ _ e] at h; cases h
theorem tkm_is {m : Nat} {p : Pt} (hm : m ≤ 1073741824) (h : (tkm m p).is = true) : tkm m p = tkn p ∧ (tkn p).n ≤ m := by
  by_cases hh : (tkn p).is = true ∧ (tkn p).n ≤ m
  · exact ⟨tkm_low hh.1 hh.2, hh.2⟩
  · rw [tkm_high hm hh] at h; cases h
/-- the hand's reply is the document's. -/
theorem takeS_eq (s : List UInt8) : takeS s = takeP s := by
  unfold takeS takeP
  by_cases h8 : (s8 s).is = true
  · have i7 := tkm_was h8
    have i6 := tkm_was i7
    have i5 := tkm_was i6
    have i4 := tkt_was i5
    obtain ⟨a4, b4⟩ := tkm_is (p := r3 s) (by omega) i4
    have e4 : s4 s = r4 s := a4
    have e5 : s5 s = r5 s := by unfold s5 r5; rw [e4]
    obtain ⟨a6, b6⟩ := tkm_is (p := s5 s) (by omega) i6
    have e6 : s6 s = r6 s := by unfold s6 r6; rw [a6, e5]
    obtain ⟨a7, b7⟩ := tkm_is (p := s6 s) (by omega) i7
    have e7 : s7 s = r7 s := by unfold s7 r7; rw [a7, e6]
    obtain ⟨a8, b8⟩ := tkm_is (p := s7 s) (by omega) h8
    have e8 : s8 s = r8 s := by unfold s8 r8; rw [a8, e7]
    have E1 : lastS s = lastR s := by unfold lastS lastR; rw [e8]
    have E2 : sOf s = rOf s := by unfold sOf rOf; rw [e4, e5, e6, e7, e8]
    rw [E1, E2]
    have c4 : (r4 s).n ≤ 16 := b4
    have c6 : (r6 s).n ≤ 1 := by have : (tkn (s5 s)).n ≤ 1 := b6; rw [e5] at this; exact this
    have c7 : (r7 s).n ≤ 1 := by have : (tkn (s6 s)).n ≤ 1 := b7; rw [e6] at this; exact this
    have c8 : (r8 s).n ≤ 16 := by have : (tkn (s7 s)).n ≤ 16 := b8; rw [e7] at this; exact this
    have c9 : (r8 s).is = true := by rw [← e8]; exact h8
    generalize (if (lastR s).is = false ∨ (lastR s).rest ≠ [] ∨ mayP (rOf s) = false then (rp0, (3 : Int)) else (rOf s, 0)) = z
    rw [if_neg]
    simp only [not_or]
    exact ⟨by rw [c9]; simp, by omega, by omega, by omega, by omega⟩
  · simp only [Bool.not_eq_true] at h8
    rw [if_pos (.inl (s_no h8))]
    split
    · rfl
    · rename_i hh
      exfalso
      simp only [not_or, Bool.not_eq_false] at hh
      obtain ⟨i8, c6, c7, c8, c4⟩ := hh
      have i7 := tkn_was i8
      have i6 := tkn_was i7
      have i5 := tkn_was i6
      have i4 := tkt_was i5
      have e4 : s4 s = r4 s := tkm_low i4 (by show (r4 s).n ≤ 16; omega)
      have e5 : s5 s = r5 s := by unfold s5 r5; rw [e4]
      have e6 : s6 s = r6 s := by unfold s6; rw [e5]; exact tkm_low i6 (by show (r6 s).n ≤ 1; omega)
      have e7 : s7 s = r7 s := by unfold s7; rw [e6]; exact tkm_low i7 (by show (r7 s).n ≤ 1; omega)
      have e8 : s8 s = r8 s := by unfold s8; rw [e7]; exact tkm_low i8 (by show (r8 s).n ≤ 16; omega)
      rw [e8, i8] at h8
      cases h8
end Wi
end Go.Proofs.YtdipikdebapmlaaDoor

/- Rows of the call's own, whatever their elements: many cells written at once, a row cut short. -/
namespace Go.Proofs.YtdipikdebapmlaaDoor
set_option maxRecDepth 100000
open Go.RowKit
set_option linter.unusedVariables false

theorem owns_setCells {e : TypeId} {sz base g n c : Nat} : ∀ (vs : List Value) (o : Nat) (w : World) (xs : List Value), w.ownsRow base e sz (.slice (some ⟨g, 0, none⟩) n c) n xs → o + vs.length ≤ xs.length →
    (w.setCells g o vs).ownsRow base e sz (.slice (some ⟨g, 0, none⟩) n c) n (xs.take o ++ vs ++ xs.drop (o + vs.length))
  | [], o, w, xs, h, hl => by simpa [World.setCells] using h
  | v :: r, o, w, xs, h, hl => by
    simp only [List.length_cons] at hl
    have h1 := (World.ownsRow.stored h o v).1
    have h2 := owns_setCells r (o + 1) (w.setCell ⟨g, o, none⟩ v) (xs.set o v) h1 (by simp; omega)
    have e : (xs.set o v).take (o + 1) ++ r ++ (xs.set o v).drop (o + 1 + r.length) = xs.take o ++ (v :: r) ++ xs.drop (o + (v :: r).length) := by
      have ho : o < xs.length := by omega
      rw [List.take_succ_eq_append_getElem (by simpa using ho), List.take_set_of_le (Nat.le_refl _), List.getElem_set_self, List.drop_set_of_lt (by omega), List.length_cons]
      simp [Nat.add_assoc, Nat.add_comm 1]
    rw [e] at h2
    exact h2
theorem owns_short {e : TypeId} {sz base g n c m : Nat} {w : World} {xs : List Value} (h : w.ownsRow base e sz (.slice (some ⟨g, 0, none⟩) n c) n xs) (hm : m ≤ n) :
    w.ownsRow base e sz (.slice (some ⟨g, 0, none⟩) m c) m (xs.take (m * sz)) := by
  have hmn : m * sz ≤ n * sz := Nat.mul_le_mul_right _ hm
  rcases h.2 with ⟨e0, h0⟩ | ⟨g', cap, cur, e0, hg, hh, hc, hmx, hs, ht⟩
  · cases e0
  · injection e0 with e1 e2 e3
    refine ⟨by rw [List.length_take, h.1]; omega, .inr ⟨g', cap, cur, by rw [e1, e3], hg, hh, by omega, hmx, hs, ?_⟩⟩
    rw [← ht, List.take_take, Nat.min_eq_left hmn]

/-- nothing that was there has turned but block g. -/
theorem only_refl (a : World) (g : Nat) : a.grownBy a (some g) := ⟨rfl, rfl, rfl, Nat.le_refl _, fun _ _ _ => rfl⟩
theorem only_drew {a w : World} {g : Nat} (h : a.grownBy w (some g)) : a.grownBy w.drew (some g) := ⟨h.os, h.tape, h.output, h.size, h.block⟩
theorem only_set {a w : World} {g : Nat} (h : a.grownBy w (some g)) (o : Nat) (u : Value) : a.grownBy (w.setCell ⟨g, o, none⟩ u) (some g) :=
  ⟨h.os, h.tape, h.output, by simpa [World.setCell] using h.size, fun i hi hne => (Below.heap_setCell w ⟨g, o, none⟩ u i (by rintro rfl; exact hne rfl)).trans (h.block i hi hne)⟩
theorem only_sets {a : World} {g : Nat} : ∀ (vs : List Value) (o : Nat) (w : World), a.grownBy w (some g) → a.grownBy (w.setCells g o vs) (some g)
  | [], o, w, h => h
  | v :: r, o, w, h => only_sets r (o + 1) _ (only_set h o v)
theorem only_q {a b : World} {g : Nat} (h : Q a b) : a.grownBy b (some g) := ⟨h.below.os, h.below.tape, h.below.output, h.below.size, fun i hi _ => h.below.block i hi⟩
theorem only_new {a w : World} {g : Nat} (h : a.grownBy w (some g)) {p : Addr} (hp : a.heap.size ≤ p.block) (u : Value) : a.grownBy (w.setCell p u) (some g) :=
  ⟨h.os, h.tape, h.output, by simpa [World.setCell] using h.size, fun i hi hne => (Below.heap_setCell w p u i (by omega)).trans (h.block i hi hne)⟩
theorem only_below {a w : World} {g B : Nat} (h : a.grownBy w (some g)) (hb : B ≤ g) (hB : B ≤ a.heap.size) : Below B a w :=
  ⟨h.os, h.tape, h.output, h.size, fun i hi => h.block i (by omega) (by intro e; injection e; omega)⟩
theorem Q.grownBy {w w' : World} (q : Q w w') : w.grownBy w' none := ⟨q.below.os, q.below.tape, q.below.output, q.size, fun i hi _ => q.below.block i hi⟩
end Go.Proofs.YtdipikdebapmlaaDoor

/- Kinds of elements that lie flat in memory: lists of them as they come in ('Lst', 'In_'), lists of the call's own ('OwnK'), append to these. -/
namespace Go.Proofs.YtdipikdebapmlaaDoor
set_option maxRecDepth 100000
open Go.RowKit
set_option linter.unusedVariables false

structure Kind (α : Type) where
  T : TypeId
  S : TypeId
  k : Nat
  bs : Nat
  z : Value
  row : α → List Value
  pos : 0 < k
  bpos : 0 < bs
  len : ∀ a, (row a).length = k
  one : ∀ a, ∀ u ∈ row a, u.oneCell' = true
  und : Tryd.prog.underlying S = some (.slice T)
  info : (Tryd.prog.info? T).map (fun i => (i.zero, i.size, i.bytes)) = some (some z, k, bs)
  zc : z.cells.size = k

variable {α : Type}

def Kind.rows (K : Kind α) : List α → List Value
  | [] => []
  | a :: l => K.row a ++ K.rows l

theorem Kind.rows_len (K : Kind α) (l : List α) : (K.rows l).length = l.length * K.k := by
  induction l with
  | nil => simp [Kind.rows]
  | cons a l ih => simp only [Kind.rows, List.length_append, ih, List.length_cons, K.len, Nat.add_mul]; omega
theorem Kind.rows_app (K : Kind α) (l m : List α) : K.rows (l ++ m) = K.rows l ++ K.rows m := by
  induction l with
  | nil => rfl
  | cons a l ih => simp [Kind.rows, ih]
theorem Kind.rows_at (K : Kind α) (l : List α) (k : Nat) (h : k < l.length) (j : Nat) (hj : j < K.k) : (K.rows l)[k * K.k + j]? = (K.row l[k])[j]? := by
  induction l generalizing k with
  | nil => simp at h
  | cons a l ih =>
    cases k with
    | zero =>
      simp only [Kind.rows, Nat.zero_mul, Nat.zero_add, List.getElem_cons_zero]
      exact List.getElem?_append_left (by rw [K.len]; exact hj)
    | succ k =>
      simp only [Kind.rows, List.getElem_cons_succ]
      rw [List.getElem?_append_right (by rw [K.len, Nat.add_mul]; omega), ← ih k (by simpa using h)]
      congr 1
      rw [K.len, Nat.add_mul]; omega
theorem Kind.rows_one (K : Kind α) (l : List α) : ∀ u ∈ K.rows l, u.oneCell' = true := by
  induction l with
  | nil => simp [Kind.rows]
  | cons a l ih =>
    intro u hu
    rcases List.mem_append.1 hu with h | h
    · exact K.one a u h
    · exact ih u h
theorem Kind.rows_drop (K : Kind α) (l : List α) : ∀ (m : Nat), K.rows (l.drop m) = (K.rows l).drop (m * K.k) := by
  induction l with
  | nil => intro m; simp [Kind.rows]
  | cons f l ih =>
    intro m
    cases m with
    | zero => simp
    | succ m =>
      rw [List.drop_succ_cons, ih m, Kind.rows, show (m + 1) * K.k = (K.row f).length + m * K.k by rw [K.len, Nat.add_mul]; omega, List.drop_length_add_append]
theorem Kind.rows_take (K : Kind α) (l : List α) : ∀ (m : Nat), K.rows (l.take m) = (K.rows l).take (m * K.k) := by
  induction l with
  | nil => intro m; simp [Kind.rows]
  | cons f l ih =>
    intro m
    cases m with
    | zero => simp [Kind.rows]
    | succ m =>
      rw [List.take_succ_cons, Kind.rows, ih m, Kind.rows, show (m + 1) * K.k = (K.row f).length + m * K.k by rw [K.len, Nat.add_mul]; omega, List.take_length_add_append]
theorem Kind.rows_set (K : Kind α) (l : List α) (k : Nat) (h : k < l.length) (a : α) : (K.rows l).take (k * K.k) ++ K.row a ++ (K.rows l).drop (k * K.k + (K.row a).length) = K.rows (l.set k a) := by
  have e : l.set k a = l.take k ++ (a :: l.drop (k + 1)) := by
    rw [List.set_eq_take_append_cons_drop, if_pos h]
  rw [e, K.rows_app, Kind.rows, K.rows_take, K.rows_drop, K.len, Nat.add_mul]
  simp

/-- The slice '.slice A n _' reads as l. -/
def Lst (K : Kind α) (w : World) (A : Option Addr) (n : Nat) (l : List α) : Prop := Holds w w.heap.size K.k A n (K.rows l)
theorem Lst.q {K : Kind α} {w w' : World} {A : Option Addr} {n : Nat} {l : List α} (h : Lst K w A n l) (hq : Q w w') : Lst K w' A n l := Holds.q h hq
theorem Lst.len {K : Kind α} {w : World} {A : Option Addr} {n : Nat} {l : List α} (h : Lst K w A n l) : l.length = n := by
  have := h.1; rw [K.rows_len] at this
  exact Nat.eq_of_mul_eq_mul_right K.pos this
theorem Lst.nil {K : Kind α} (w : World) (A : Option Addr) : Lst K w A 0 [] := Holds.none_ _ _ _ _

/-- What a load of the element in place k reads. -/
theorem Lst.load {K : Kind α} {w : World} {A : Option Addr} {n : Nat} {l : List α} (h : Lst K w A n l) {k : Nat} (hk : k < n) (hl : k < l.length) :
    ∃ ad, A = some ad ∧ ad.block < w.heap.size ∧ ∀ j v, (K.row l[k])[j]? = some v → w.cell? ((ad.add (k * K.k)).add j) = some v := by
  have h0 : ∀ j v, (K.row l[k])[j]? = some v → ∃ ad, A = some ad ∧ ad.block < w.heap.size ∧ w.cell? (ad.add (k * K.k + j)) = some v := fun j v hj =>
    h.2 (k * K.k + j) _ (by rw [K.rows_at l k hl j (by rw [← K.len l[k]]; exact (List.getElem?_eq_some_iff.1 hj).1)]; exact hj)
  obtain ⟨ad, rfl, hb, _⟩ := h0 0 _ (List.getElem?_eq_getElem (by rw [K.len]; exact K.pos))
  refine ⟨ad, rfl, hb, fun j v hj => ?_⟩
  obtain ⟨_, e, _, hc⟩ := h0 j v hj
  injection e with e
  subst e
  rw [addr_add]; exact hc

/-- a list of the call's own. -/
def OwnK (K : Kind α) (w : World) (base : Nat) (A : Option Addr) (n c : Nat) (l : List α) : Prop := w.ownsRow base K.T K.k (.slice A n c) n (K.rows l)

/-- a list as it comes in. -/
structure In_ (K : Kind α) (w : World) (A : Option Addr) (n c : Nat) (l : List α) : Prop where
  lst : Lst K w A n l
  nil : A = none → n = 0 ∧ c = 0
  le : n ≤ c
  cap : c ≤ maxLen
  few : n * K.bs ≤ 140737488355328
theorem In_.len {K : Kind α} {w : World} {A : Option Addr} {n c : Nat} {l : List α} (h : In_ K w A n c l) : l.length = n := h.lst.len
theorem In_.q {K : Kind α} {w w' : World} {A : Option Addr} {n c : Nat} {l : List α} (h : In_ K w A n c l) (hq : Q w w') : In_ K w' A n c l := ⟨h.lst.q hq, h.nil, h.le, h.cap, h.few⟩
theorem In_.max {K : Kind α} {w : World} {A : Option Addr} {n c : Nat} {l : List α} (h : In_ K w A n c l) : n ≤ maxLen := Nat.le_trans h.le h.cap
theorem In_.none_ (K : Kind α) (w : World) : In_ K w none 0 0 [] := ⟨Lst.nil w _, fun _ => ⟨rfl, rfl⟩, Nat.le_refl _, Nat.zero_le _, by simp⟩

section
variable {K : Kind α} {w w' : World} {base : Nat} {A : Option Addr} {n c : Nat} {l : List α}
theorem OwnK.len (h : OwnK K w base A n c l) : l.length = n := by
  have := h.1; rw [K.rows_len] at this
  exact Nat.eq_of_mul_eq_mul_right K.pos this
theorem OwnK.parts (h : OwnK K w base A n c l) :
    (A = none ∧ n = 0 ∧ c = 0 ∧ l = []) ∨ ∃ g cur, A = some ⟨g, 0, none⟩ ∧ base ≤ g ∧ w.heap[g]? = some (.cells cur K.T (0, 0)) ∧ n ≤ c ∧ c ≤ maxLen ∧ cur.size = c * K.k ∧ cur.toList.take (n * K.k) = K.rows l := by
  rcases h.2 with ⟨e, h0⟩ | ⟨g, cap, cur, e, hb, hh, hc, hm, hs, ht⟩
  · injection e with e1 e2 e3
    exact .inl ⟨e1, e2, e3, List.eq_nil_of_length_eq_zero (by rw [h.len]; exact e2)⟩
  · injection e with e1 e2 e3
    subst e1 e3
    exact .inr ⟨g, cur, rfl, hb, hh, hc, hm, hs, ht⟩
theorem OwnK.lst (h : OwnK K w base A n c l) : Lst K w A n l := by
  refine ⟨h.1, fun j u hu => ?_⟩
  rcases h.parts with ⟨rfl, rfl, rfl, rfl⟩ | ⟨g, cur, rfl, hb, hh, hc, hm, hs, ht⟩
  · simp [Kind.rows] at hu
  · have hj : j < n * K.k := by
      have := (List.getElem?_eq_some_iff.1 hu).1; rw [h.1] at this; exact this
    refine ⟨_, rfl, ?_, ?_⟩
    · rcases Nat.lt_or_ge g w.heap.size with hlt | hge
      · exact hlt
      · rw [Array.getElem?_eq_none hge] at hh; cases hh
    · rw [Addr.add_mid, Nat.zero_add, World.ownsRow.cellAt h j hj]; exact hu
theorem OwnK.in_ (h : OwnK K w base A n c l) (hn : n * K.bs ≤ 140737488355328) : In_ K w A n c l := by
  refine ⟨h.lst, ?_, ?_, ?_, hn⟩ <;> rcases h.parts with ⟨rfl, rfl, rfl, rfl⟩ | ⟨g, cur, rfl, hb, hh, hc, hm, hs, ht⟩
  · intro _; exact ⟨rfl, rfl⟩
  · intro e; cases e
  · exact Nat.le_refl _
  · exact hc
  · exact Nat.zero_le _
  · exact hm
theorem OwnK.le (h : OwnK K w base A n c l) : n ≤ c := by
  rcases h.parts with ⟨rfl, rfl, rfl, rfl⟩ | ⟨g, cur, rfl, hb, hh, hc, hm, hs, ht⟩
  · exact Nat.le_refl _
  · exact hc
theorem OwnK.cap (h : OwnK K w base A n c l) : c ≤ maxLen := by
  rcases h.parts with ⟨rfl, rfl, rfl, rfl⟩ | ⟨g, cur, rfl, hb, hh, hc, hm, hs, ht⟩
  · exact Nat.zero_le _
  · exact hm
theorem OwnK.keep {B : Nat} (h : OwnK K w base A n c l) (hb : Below B w w') (hB : w.heap.size ≤ B) : OwnK K w' base A n c l := by
  refine ⟨h.1, ?_⟩
  rcases h.2 with ⟨e, h0⟩ | ⟨g, cap, cur, e, hg, hh, r⟩
  · exact .inl ⟨e, h0⟩
  · have hlt : g < w.heap.size := by
      rcases Nat.lt_or_ge g w.heap.size with hlt | hge
      · exact hlt
      · rw [Array.getElem?_eq_none hge] at hh; cases hh
    exact .inr ⟨g, cap, cur, e, hg, (hb.block g (by omega)).trans hh, r⟩
theorem OwnK.q (h : OwnK K w base A n c l) (hq : Q w w') : OwnK K w' base A n c l := h.keep hq.below (Nat.le_refl _)
theorem OwnK.setCell (h : OwnK K w base A n c l) {p : Addr} (hp : p.block < base) (u : Value) : OwnK K (w.setCell p u) base A n c l := by
  refine ⟨h.1, ?_⟩
  rcases h.2 with ⟨e, h0⟩ | ⟨g, cap, cur, e, hg, hh, r⟩
  · exact .inl ⟨e, h0⟩
  · exact .inr ⟨g, cap, cur, e, hg, (heap_setCell_other w p g u (by omega)).trans hh, r⟩
theorem OwnK.alloc (h : OwnK K w base A n c l) (o : Obj) : OwnK K (w.alloc o) base A n c l := h.q ((Q.refl _).alloc o)
theorem OwnK.drew (h : OwnK K w base A n c l) : OwnK K w.drew base A n c l := h
theorem OwnK.nil_ (K : Kind α) (w : World) (base : Nat) : OwnK K w base none 0 0 [] := World.ownsRow_nil _ _ _ _
theorem OwnK.lit1 (K : Kind α) (w : World) (base : Nat) (hb : base ≤ w.heap.size) (a : α) : OwnK K (w.alloc (.cells (K.row a).toArray K.T)) base (some ⟨w.heap.size, 0, none⟩) 1 1 [a] := by
  have := World.ownsRow_lit (e := K.T) (size := K.k) w (K.row a).toArray 1 hb (by unfold maxLen; omega) (by simp [K.len])
  unfold OwnK
  rw [show K.rows [a] = (K.row a).toArray.toList by simp [Kind.rows]]
  exact this
/-- the cells of the element in place k. -/
theorem OwnK.cells {g : Nat} (h : OwnK K w base (some ⟨g, 0, none⟩) n c l) {k : Nat} (hk : k < l.length) : ∀ j v, (K.row l[k])[j]? = some v → w.cell? ⟨g, k * K.k + j, none⟩ = some v := fun j v hj => by
  have hjk : j < K.k := by rw [← K.len l[k]]; exact (List.getElem?_eq_some_iff.1 hj).1
  have hn := h.len
  have : k * K.k + j < n * K.k := by
    have : (k + 1) * K.k ≤ n * K.k := Nat.mul_le_mul_right _ (by omega)
    rw [Nat.add_mul] at this; omega
  rw [World.ownsRow.cellAt h _ this, K.rows_at l k hk j hjk]
  exact hj
theorem OwnK.free {g : Nat} (h : OwnK K w base (some ⟨g, 0, none⟩) n c l) (j : Nat) : w.frozen? ⟨g, j, none⟩ = false := World.ownsRow.frozenAt h _
theorem OwnK.spare {g : Nat} (h : OwnK K w base (some ⟨g, 0, none⟩) n c l) (j : Nat) (hj : j < c * K.k) : (w.cell? ⟨g, j, none⟩).isSome = true := by
  rcases h.parts with ⟨e, _⟩ | ⟨g', cur, e, hb, hh, hc, hm, hs, ht⟩
  · cases e
  injection e with e
  injection e with e
  subst e
  rw [cell_of_row _ _ j _ K.T (0, 0) hh, Array.getElem?_eq_getElem (by omega)]
  rfl
/-- an element written in place. -/
theorem OwnK.put {g : Nat} (h : OwnK K w base (some ⟨g, 0, none⟩) n c l) {k : Nat} (hk : k < l.length) (a : α) :
    OwnK K (w.setCells g (k * K.k) (K.row a)) base (some ⟨g, 0, none⟩) n c (l.set k a) := by
  have hl : k * K.k + (K.row a).length ≤ (K.rows l).length := by
    rw [K.len, K.rows_len]
    have : (k + 1) * K.k ≤ l.length * K.k := Nat.mul_le_mul_right _ (by omega)
    rw [Nat.add_mul] at this; omega
  have := owns_setCells (e := K.T) (sz := K.k) (K.row a) (k * K.k) w (K.rows l) h hl
  rw [K.rows_set l k hk a] at this
  exact this
end

/-- 'append(own, more...)', the source nil or not. -/
theorem run_appK (K : Kind α) (w : World) (base : Nat) (A : Option Addr) (n c : Nat) (l : List α) (h : OwnK K w base A n c l) (A2 : Option Addr) (m c2 : Nat) (l2 : List α) (h2 : Lst K w A2 m l2) (hnil : A2 = none → m = 0 ∧ c2 = 0)
    (hb : (n + m) * K.bs ≤ 140737488355328) (hbase : base ≤ w.heap.size) (ty : TypeId) :
    ∃ A' c' w', (Builtin.append_ #[K.S, K.S] ty #[.slice A n c, .slice A2 m c2]).run Tryd.prog w = .ok (.slice A' (n + m) c') w' ∧ OwnK K w' base A' (n + m) c' (l ++ l2) ∧ Below base w w' := by
  obtain ⟨i, hi, hz, hs, hy⟩ := info_parts K.info
  have hmax : n + m ≤ maxLen := by
    have : (n + m) * 1 ≤ (n + m) * K.bs := Nat.mul_le_mul_left _ K.bpos
    unfold maxLen; omega
  cases A2 with
  | none =>
    obtain ⟨rfl, rfl⟩ := hnil rfl
    have e2 : l2 = [] := List.eq_nil_of_length_eq_zero h2.len
    subst e2
    refine ⟨A, c, w, run_append_owned_none (P := Tryd.prog) (w := w) base _ ty K.T i K.k K.und hi _ n (K.rows l) h, by simpa using h, Below.refl _ _⟩
  | some ad =>
    obtain ⟨v', w', hr, ho, hg, hn, hat⟩ := run_append_own_at (P := Tryd.prog) w base K.S ty K.T i _ K.k K.bs K.und hi hz hs hy K.zc K.pos (.slice A n c) n (K.rows l) h ad m c2 (K.rows l2) h2.1
      (fun j u hu => by obtain ⟨a', e, _, hc⟩ := h2.2 j u hu; injection e with e; subst e; exact hc) (K.rows_one l2) hmax hb hbase
    rw [← K.rows_app] at ho
    have hbl : Below base w w' := (Below.refl _ _).grown hg hbase (fun k hk => by
      rcases h.parts with ⟨rfl, _⟩ | ⟨g, cur, rfl, hb, _⟩
      · cases hk
      · simp only [Value.ownBlock, Option.some.injEq] at hk; omega)
    rcases ho.2 with ⟨e, h0⟩ | ⟨g, cap, cur, e, _⟩
    · have h00 : Value.slice none 0 0 = .slice none (n + m) 0 := by rw [h0]
      rw [h00] at e
      subst e
      exact ⟨none, 0, w', hr, ho, hbl⟩
    · subst e
      exact ⟨_, cap, w', hr, ho, hbl⟩

/-- The same, for a plain region's list. -/
theorem wpl_appK (K : Kind α) {w : World} {ops : Array Oper} {rest : List Oper} {o : Oper} {a : Act} {R : Exit → Act → World → Prop} (hgd : o.guard = none) (s x : Operand) (t : TypeId) (ht : t = K.S)
    (ho : o.op = .call { callee := .builtin .append, args := #[s, x], argTypes := #[t, t] })
    (base : Nat) (A : Option Addr) (n c : Nat) (l : List α) (hs : a.eval s = .slice A n c) (h : OwnK K w base A n c l) (A2 : Option Addr) (m c2 : Nat) (l2 : List α) (hx : a.eval x = .slice A2 m c2) (h2 : Lst K w A2 m l2) (hnil : A2 = none → m = 0 ∧ c2 = 0)
    (hb : (n + m) * K.bs ≤ 140737488355328) (hbase : base ≤ w.heap.size)
    (hk : ∀ A' c' w', OwnK K w' base A' (n + m) c' (l ++ l2) → Below base w w' → wpList Tryd.prog ops R rest (a.put o.dst (.slice A' (n + m) c')) w') : wpList Tryd.prog ops R (o :: rest) a w := by
  subst ht
  refine wpList_plain hgd fun X hX => ?_
  obtain ⟨A', c', w', hr, h3, h4⟩ := run_appK K w base A n c l h A2 m c2 l2 h2 hnil hb hbase o.type
  unfold Oper.wp execOp
  simp only [ho, resolve, invoke, builtin, Sem.run_bind, Sem.run_pure, Result.andThen_ok, List.map_toArray, List.map_cons, List.map_nil, hs, hx, hr]
  exact hX _ _ (hk A' c' w' h3 h4)

end Go.Proofs.YtdipikdebapmlaaDoor

/- Integers as a kind of elements. -/
namespace Go.Proofs.YtdipikdebapmlaaDoor
set_option maxRecDepth 100000
open Go.RowKit
set_option linter.unusedVariables false
set_option linter.unusedSimpArgs false

def numK : Kind Int where
  T := 3
  S := 75
  k := 1
  bs := 8
  z := .int .i64 0
  row := fun r => [.int .i64 r]
  pos := by omega
  bpos := by omega
  len := fun _ => rfl
  one := fun _ u hu => by simp at hu; rcases hu with rfl; rfl
  und := Tryd.underlying75
  info := by kernel_rfl
  zc := rfl
theorem load_num {w : World} {A : Option Addr} {n : Nat} {l : List Int} (h : Lst numK w A n l) {k : Nat} (hk : k < n) (hl : k < l.length) :
    ∃ ad, A = some ad ∧ ad.block < w.heap.size ∧ w.cell? (ad.add k) = some (.int .i64 l[k]) := by
  obtain ⟨ad, e, hb, hc⟩ := h.load hk hl
  refine ⟨ad, e, hb, ?_⟩
  have := hc 0 _ rfl
  rwa [show k * numK.k = k from Nat.mul_one k] at this
end Go.Proofs.YtdipikdebapmlaaDoor

/- Pairs and writes in memory; contracts: the closures that find pairs, slices.IndexFunc, slices.Clone, table.Find, Between, Right, and the document's Less. -/
namespace Go.Proofs.YtdipikdebapmlaaDoor
set_option maxRecDepth 100000
open Go.RowKit Prm
set_option linter.unusedVariables false

abbrev Prm.Pr.v (p : Pr) : Value := .agg #[.string p.key, .string p.val]
abbrev Prm.Wr.v (w : Wr) : Value := .agg #[.string w.key, .string w.val, .bool w.del]
def pairK : Kind Pr where
  T := 70
  S := 38
  k := 2
  bs := 32
  z := .agg #[.string ⟨#[]⟩, .string ⟨#[]⟩]
  row := fun p => [.string p.key, .string p.val]
  pos := by omega
  bpos := by omega
  len := fun _ => rfl
  one := fun _ u hu => by simp at hu; rcases hu with rfl | rfl <;> rfl
  und := Tryd.underlying38
  info := by kernel_rfl
  zc := rfl
theorem load_pair {w : World} {A : Option Addr} {n : Nat} {l : List Pr} (h : Lst pairK w A n l) {k : Nat} (hk : k < n) (hl : k < l.length) :
    ∃ ad, A = some ad ∧ ad.block < w.heap.size ∧ w.cell? (ad.add (k * 2)) = some (.string l[k].key) ∧ w.cell? ⟨(ad.add (k * 2)).block, (ad.add (k * 2)).off + 1, none⟩ = some (.string l[k].val) := by
  obtain ⟨ad, e, hb, hc⟩ := h.load hk hl
  exact ⟨ad, e, hb, hc 0 _ rfl, hc 1 _ rfl⟩
/-- the walk's words for '>' and '>=' on texts. -/
theorem gtr_lt (a b : ByteArray) : (!(Op.bytesLess a.toList b.toList || a.toList == b.toList)) = lt b a := by
  rw [lt_data, same_str]
  by_cases h : a = b
  · subst h; simp [lt_irrefl]
  · cases k : lt a b with
    | true => simp [lt_asymm k]
    | false => simp [h, lt_tri h k]
theorem leq_lt (a b : ByteArray) : (Op.bytesLess a.toList b.toList || a.toList == b.toList) = !lt b a := by
  have := gtr_lt a b
  cases h : (Op.bytesLess a.toList b.toList || a.toList == b.toList) <;> rw [h] at this <;> simp at this <;> simp [this]

end Go.Proofs.YtdipikdebapmlaaDoor

/- Whole rows of a kind of elements: copy, clear, and an append of zero values, at elements of any size. -/
namespace Go.Proofs.YtdipikdebapmlaaDoor
set_option maxRecDepth 100000
open Go.RowKit
set_option linter.unusedVariables false

variable {α : Type}

/-- block g is a row of c elements, whose cells are xs. -/
def RowK (K : Kind α) (w : World) (base g c : Nat) (xs : List Value) : Prop := w.ownsRow base K.T K.k (.slice (some ⟨g, 0, none⟩) c c) c xs

section
variable {K : Kind α} {w w' : World} {base g n c : Nat} {l : List α} {xs : List Value}
theorem OwnK.row (h : OwnK K w base (some ⟨g, 0, none⟩) n c l) : ∃ xs, RowK K w base g c xs ∧ xs.take (n * K.k) = K.rows l := by
  rcases h.parts with ⟨e, _⟩ | ⟨g', cur, e, hb, hh, hc, hm, hs, ht⟩
  · cases e
  injection e with e
  injection e with e
  subst e
  exact ⟨cur.toList, ⟨by simpa using hs, .inr ⟨g, c, cur, rfl, hb, hh, Nat.le_refl _, hm, hs, List.take_of_length_le (Nat.le_of_eq ((Array.length_toList).trans hs))⟩⟩, ht⟩
theorem RowK.own (h : RowK K w base g c xs) (hn : n ≤ c) (hl : xs.take (n * K.k) = K.rows l) : OwnK K w base (some ⟨g, 0, none⟩) n c l := by
  have := owns_short h hn
  rw [hl] at this
  exact this
theorem RowK.len (h : RowK K w base g c xs) : xs.length = c * K.k := h.1
theorem RowK.cell (h : RowK K w base g c xs) (j : Nat) (hj : j < c * K.k) : w.cell? ⟨g, j, none⟩ = xs[j]? := World.ownsRow.cellAt h j hj
theorem RowK.some (h : RowK K w base g c xs) (j : Nat) (hj : j < c * K.k) : (w.cell? ⟨g, j, none⟩).isSome = true := by
  rw [h.cell j hj, List.getElem?_eq_getElem (by rw [h.len]; exact hj)]; rfl
theorem RowK.free (h : RowK K w base g c xs) (j : Nat) : w.frozen? ⟨g, j, none⟩ = false := World.ownsRow.frozenAt h _
theorem RowK.drew (h : RowK K w base g c xs) : RowK K w.drew base g c xs := h
theorem RowK.q (h : RowK K w base g c xs) (hq : Q w w') : RowK K w' base g c xs := by
  refine ⟨h.1, ?_⟩
  rcases h.2 with ⟨e, h0⟩ | ⟨g, cap, cur, e, hg, hh, r⟩
  · exact .inl ⟨e, h0⟩
  · have hlt : g < w.heap.size := (Array.getElem?_eq_some_iff.1 hh).1
    exact .inr ⟨g, cap, cur, e, hg, (hq.below.block g hlt).trans hh, r⟩
theorem RowK.ge (h : RowK K w base g c xs) : base ≤ g ∧ g < w.heap.size := by
  rcases h.2 with ⟨e, h0⟩ | ⟨g', cap, cur, e, hg, hh, r⟩
  · cases e
  · injection e with e
    injection e with e
    injection e with e
    subst e
    exact ⟨hg, (Array.getElem?_eq_some_iff.1 hh).1⟩
theorem RowK.sets (h : RowK K w base g c xs) (o : Nat) (cs : List Value) (hl : o + cs.length ≤ c * K.k) : RowK K (w.setCells g o cs) base g c (xs.take o ++ cs ++ xs.drop (o + cs.length)) :=
  owns_setCells cs o w xs h (by rw [h.len]; exact hl)
end

end Go.Proofs.YtdipikdebapmlaaDoor

/- 'append(own, more...)' for rows of any kind of element: the source nil or not; only the own block has turned. -/
namespace Go.Proofs.YtdipikdebapmlaaDoor
set_option maxRecDepth 100000
open Go.RowKit
set_option linter.unusedVariables false

theorem run_appG {P : Program} {w : World} (base : Nat) (t ty e : TypeId) (z : Value) (size bytes : Nat) (ht : P.underlying t = some (.slice e)) (hinfo : (P.info? e).map (fun i => (i.zero, i.size, i.bytes)) = some (some z, size, bytes))
    (hzs : z.cells.size = size) (hsz : 0 < size) (A : Option Addr) (n c : Nat) (xs : List Value) (h : w.ownsRow base e size (.slice A n c) n xs)
    (A2 : Option Addr) (m c2 : Nat) (news : List Value) (hl : news.length = m * size) (hnews : ∀ j u, news[j]? = some u → ∃ a, A2 = some a ∧ w.cell? (a.add j) = some u) (h1 : ∀ u ∈ news, u.oneCell' = true)
    (hnil : A2 = none → m = 0 ∧ c2 = 0) (hmax : n + m ≤ maxLen) (hb : (n + m) * bytes ≤ 140737488355328) (hbase : base ≤ w.heap.size) :
    ∃ A' c' w', (Builtin.append_ #[t, t] ty #[.slice A n c, .slice A2 m c2]).run P w = .ok (.slice A' (n + m) c') w' ∧ w'.ownsRow base e size (.slice A' (n + m) c') (n + m) (xs ++ news) ∧
      w.grownBy w' (Value.slice A n c).ownBlock ∧ ((Value.slice A' (n + m) c').ownBlock = (Value.slice A n c).ownBlock ∨ (Value.slice A' (n + m) c').ownBlock = some w.heap.size) := by
  obtain ⟨i, hi, hz, hs, hy⟩ := info_parts hinfo
  cases A2 with
  | none =>
    obtain ⟨rfl, rfl⟩ := hnil rfl
    have e2 : news = [] := List.eq_nil_of_length_eq_zero (by omega)
    subst e2
    exact ⟨A, c, w, run_append_owned_none (P := P) (w := w) base _ ty e i size ht hi _ n xs h, by simpa using h, World.grownBy.refl _ _, .inl rfl⟩
  | some ad =>
    obtain ⟨v', w', hr, ho, hg, hn, hat⟩ := run_append_own_at (P := P) (w := w) base t ty e i z size bytes ht hi hz hs hy hzs hsz (.slice A n c) n xs h ad m c2 news hl
      (fun j u hu => by obtain ⟨a', e, hc⟩ := hnews j u hu; injection e with e; subst e; exact hc) h1 hmax hb hbase
    rcases ho.2 with ⟨e, h0⟩ | ⟨g, cap, cur, e, _⟩
    · have h00 : Value.slice none 0 0 = .slice none (n + m) 0 := by rw [h0]
      rw [h00] at e
      subst e
      exact ⟨none, 0, w', hr, ho, hg, hat⟩
    · subst e
      exact ⟨_, cap, w', hr, ho, hg, hat⟩

theorem wanted_plain {ops : Array Oper} {o : Oper} {a : Act} (hgd : o.guard = none) : Region.wanted o (yielded ops a.tmps) = true := by simp [Region.wanted, hgd]
theorem below_grown {B : Nat} {w w' : World} {row : Option Nat} (hg : w.grownBy w' row) (hB : B ≤ w.heap.size) (hr : ∀ k, row = some k → B ≤ k) : Below B w w' := (Below.refl _ _).grown hg hB hr
end Go.Proofs.YtdipikdebapmlaaDoor

/- Contracts: slices.Insert of one pair into a list of the call's own. -/
namespace Go.Proofs.YtdipikdebapmlaaDoor
set_option maxRecDepth 100000
open Go.RowKit Prm
set_option linter.unusedVariables false

end Go.Proofs.YtdipikdebapmlaaDoor

/- Contracts: slices.DeleteFunc by a key, at a list of the call's own. -/
namespace Go.Proofs.YtdipikdebapmlaaDoor
set_option maxRecDepth 100000
open Go.RowKit Prm
set_option linter.unusedVariables false

def keep (key : ByteArray) (p : Pr) : Bool := !hasK key p
end Go.Proofs.YtdipikdebapmlaaDoor

/- Contracts: package table: what a deed does, Apply, Put, Drop, Range, Right. -/
namespace Go.Proofs.YtdipikdebapmlaaDoor
set_option maxRecDepth 100000
open Go.RowKit Prm
set_option linter.unusedVariables false
set_option linter.unusedSimpArgs false

end Go.Proofs.YtdipikdebapmlaaDoor

/- Contracts: table.Apply, Put, Drop, Range, Right. -/
namespace Go.Proofs.YtdipikdebapmlaaDoor
set_option maxRecDepth 100000
open Go.RowKit Prm
set_option linter.unusedVariables false
set_option linter.unusedSimpArgs false

end Go.Proofs.YtdipikdebapmlaaDoor

/- Contracts: table.Range, table.Right. -/
namespace Go.Proofs.YtdipikdebapmlaaDoor
set_option maxRecDepth 100000
open Go.RowKit Prm
set_option linter.unusedVariables false
set_option linter.unusedSimpArgs false

theorem right_cons (p q : Pr) (l : List Pr) : right (p :: q :: l) = (lt p.key q.key && right (q :: l)) := rfl
theorem right_all : ∀ {l : List Pr}, (∀ i, ∀ h : i + 1 < l.length, lt (l[i]'(by omega)).key l[i + 1].key = true) → right l = true
  | [], _ => rfl
  | [p], _ => rfl
  | p :: q :: l, h => by
    rw [right_cons, show lt p.key q.key = true from h 0 (by simp), Bool.true_and]
    exact right_all fun i hi => h (i + 1) (by simpa using hi)
theorem right_not : ∀ {l : List Pr} {i : Nat} (h : i + 1 < l.length), lt (l[i]'(by omega)).key l[i + 1].key = false → right l = false
  | p :: q :: l, 0, _, h => by rw [right_cons]; simp only [List.getElem_cons_zero, List.getElem_cons_succ] at h; rw [h]; rfl
  | p :: q :: l, i + 1, hi, h => by
    rw [right_cons, right_not (l := q :: l) (i := i) (by simpa using hi) h, Bool.and_false]

set_option maxHeartbeats 2000000 in
theorem right_any (A : Option Addr) (n c : Nat) (l : List Pr) (w : World) (hd : Lst pairK w A n l) (hmx : n ≤ maxLen) :
    Calls Tryd.prog 72 #[.slice A n c] w fun e w' => e = .returned (.bool (right l)) ∧ Q w w' := by
  have HD := Lib.hid hd
  have HL := Lib.hid hd.len
  unfold maxLen at hmx
  clear hd
  go_enter Tryd.func72, Tryd.ntmps72
  go_wp2
  go_loopw [3] (fun i wr => ∃ k : Nat, k ≤ n ∧ i = .int .i64 ((k : Int) + 1) ∧ Q w wr ∧ ∀ j, ∀ h : j + 1 < l.length, j < k → lt (l[j]'(by omega)).key l[j + 1].key = true) (fun i _ => n + 1 - (intOf i).toNat)
  case atStart => exact ⟨0, Nat.zero_le _, by go_num, Q.refl _, fun j _ h => by omega⟩
  case round =>
    obtain ⟨k, hk, rfl, q, hall⟩ := hrel
    have HA := Lib.hid hall
    have HQ := Lib.hid q
    clear hall q
    by_cases hlt : k + 1 < n
    · have hkl : k + 1 < l.length := by have := HL.out; omega
      have hkl0 : k < l.length := by omega
      obtain ⟨ad, rfl, hab, x0, x1⟩ := load_pair (HD.out.q HQ.out) (Nat.lt_of_succ_lt hlt) hkl0
      obtain ⟨ad', e, hab', y0, y1⟩ := load_pair (HD.out.q HQ.out) hlt hkl
      injection e with e
      subst e
      have e0 : (k : Int) + 1 - 1 = k := by omega
      have e1 : IntKind.i64.wrap ((k : Int) + 1 - 1) = k := by rw [IntKind.wrap_i64]; omega
      have e2 : ((k : Int) + 1).toNat = k + 1 := by omega
      have e3 : (k : Int) + 1 < (n : Int) := by omega
      have e4 : (k : Int) < (n : Int) := by omega
      have e5 : (0 : Int) ≤ (k : Int) + 1 := by omega
      by_cases hh : lt l[k].key l[k + 1].key = true
      · have hb := leq_lt l[k + 1].key l[k].key
        rw [hh] at hb
        have HN := Lib.hid (fun (j : Nat) (h : j + 1 < l.length) (hj : j < k + 1) => show lt (l[j]'(by omega)).key l[j + 1].key = true from by
          by_cases e : j < k
          · exact HA.out j h e
          · have e : j = k := by omega
            subst e
            exact hh)
        clear hh x1 y1
        generalize l[k].key = a at x0 hb
        generalize l[k + 1].key = b at y0 hb
        go_wp2
        go_quiet (fail)
        all_goals
          go_wp2
          go_roundw
          case rel => exact ⟨k + 1, by omega, by go_num, HQ.out.drewN _, HN.out⟩
          case measure => simp [intOf]; omega
      · have hh' : lt l[k].key l[k + 1].key = false := by simpa using hh
        have hb := leq_lt l[k + 1].key l[k].key
        rw [hh'] at hb
        have HE := Lib.hid (right_not hkl hh')
        clear hh hh' x1 y1
        generalize l[k].key = a at x0 hb
        generalize l[k + 1].key = b at y0 hb
        go_wp2
        go_quiet (fail)
        all_goals
          go_wp2
          go_ret
          exact ⟨by rw [HE.out]; rfl, HQ.out.drewN _⟩
    · have HE := Lib.hid (show right l = true from right_all fun i hi => HA.out i hi (by have := HL.out; omega))
      have e3 : ¬ ((k : Int) + 1 < (n : Int)) := by omega
      go_wp2
      go_ret
      exact ⟨by rw [HE.out]; rfl, HQ.out⟩
end Go.Proofs.YtdipikdebapmlaaDoor

/- Boxes: what lies in a block of three or four cells, and may be written (of any kind). -/
namespace Go.Proofs.YtdipikdebapmlaaDoor
set_option maxRecDepth 100000
open Go.RowKit
set_option linter.unusedVariables false

/-- the cells of block b hold these values, and may be written. -/
def Bx (w : World) (b : Nat) (vs : List Value) : Prop := ∀ j v, vs[j]? = some v → w.cell? ⟨b, j, none⟩ = some v ∧ w.frozen? ⟨b, j, none⟩ = false

theorem Bx.new (w : World) (cs : List Value) (t : TypeId) : Bx (w.alloc (.cells cs.toArray t)) w.heap.size cs := fun j v h => by
  have e := heap_alloc_new w (.cells cs.toArray t)
  exact ⟨(cell_of_row _ _ j _ t (0, 0) e).trans (by simpa using h), frozen_of_row _ _ j _ t e⟩
theorem Bx.lt {w : World} {b : Nat} {v : Value} {vs : List Value} (h : Bx w b (v :: vs)) : b < w.heap.size := block_lt_of_cell (h 0 v rfl).1
theorem Bx.below {w w' : World} {b B : Nat} {vs : List Value} (h : Bx w b vs) (hb : Below B w w') (hB : b < B) : Bx w' b vs := fun j v hj =>
  ⟨(hb.cell (p := ⟨b, j, none⟩) hB).trans (h j v hj).1, (hb.frozen (p := ⟨b, j, none⟩) hB).trans (h j v hj).2⟩
theorem Bx.q {w w' : World} {b : Nat} {vs : List Value} (h : Bx w b vs) (hq : Q w w') : Bx w' b vs := fun j v hj => by
  have hb : b < w.heap.size := block_lt_of_cell (h j v hj).1
  exact ⟨(hq.below.cell (p := ⟨b, j, none⟩) hb).trans (h j v hj).1, (hq.below.frozen (p := ⟨b, j, none⟩) hb).trans (h j v hj).2⟩
theorem Bx.alloc {w : World} {b : Nat} {vs : List Value} (h : Bx w b vs) (o : Obj) : Bx (w.alloc o) b vs := h.q ((Q.refl _).alloc o)
theorem Bx.drew {w : World} {b : Nat} {vs : List Value} (h : Bx w b vs) : Bx w.drew b vs := h
theorem Bx.far {w : World} {b : Nat} {vs : List Value} (h : Bx w b vs) {p : Addr} (hp : p.block ≠ b) (u : Value) : Bx (w.setCell p u) b vs := fun j v hj =>
  ⟨(World.cell?_setCell_other _ _ _ _ (by rintro rfl; exact hp rfl)).trans (h j v hj).1, by rw [World.frozen?_setCell]; exact (h j v hj).2⟩
theorem Bx.set {w : World} {b : Nat} {vs : List Value} (h : Bx w b vs) {k : Nat} (hk : k < vs.length) (u : Value) : Bx (w.setCell ⟨b, k, none⟩ u) b (vs.set k u) := fun j v hj => by
  rw [World.frozen?_setCell]
  by_cases e : k = j
  · subst e
    rw [World.cell?_setCell_same _ _ _ (h k _ (List.getElem?_eq_getElem hk)).1]
    simp only [List.getElem?_set_self hk] at hj
    exact ⟨hj, (h k _ (List.getElem?_eq_getElem hk)).2⟩
  · rw [World.cell?_setCell_other _ _ _ _ (by intro he; injection he with _ he; exact e he)]
    rw [List.getElem?_set_ne e] at hj
    exact h j v hj
theorem Bx.put4 {w : World} {b : Nat} {x y z u : Value} (h : Bx w b [x, y, z, u]) (x' y' z' u' : Value) : Bx ((((w.setCell ⟨b, 0, none⟩ x').setCell ⟨b, 1, none⟩ y').setCell ⟨b, 2, none⟩ z').setCell ⟨b, 3, none⟩ u') b [x', y', z', u'] :=
  (((h.set (k := 0) (by simp) x').set (k := 1) (by simp) y').set (k := 2) (by simp) z').set (k := 3) (by simp) u'
theorem Bx.get4 {w : World} {b : Nat} {x y z u : Value} (h : Bx w b [x, y, z, u]) : (w.cell? ⟨b, 0, none⟩ = some x ∧ w.cell? ⟨b, 1, none⟩ = some y ∧ w.cell? ⟨b, 2, none⟩ = some z ∧ w.cell? ⟨b, 3, none⟩ = some u) ∧
    w.frozen? ⟨b, 0, none⟩ = false ∧ w.frozen? ⟨b, 1, none⟩ = false ∧ w.frozen? ⟨b, 2, none⟩ = false ∧ w.frozen? ⟨b, 3, none⟩ = false :=
  ⟨⟨(h 0 _ rfl).1, (h 1 _ rfl).1, (h 2 _ rfl).1, (h 3 _ rfl).1⟩, (h 0 _ rfl).2, (h 1 _ rfl).2, (h 2 _ rfl).2, (h 3 _ rfl).2⟩
end Go.Proofs.YtdipikdebapmlaaDoor

/- Contracts: which numbers and keys may be: mayNums, mayKeys, with slices.ContainsFunc at their functions; long; mayRows. -/
namespace Go.Proofs.YtdipikdebapmlaaDoor
set_option maxRecDepth 100000
open Go.RowKit Prm
set_option linter.unusedVariables false
set_option linter.unusedSimpArgs false
namespace Wi

/-- texts as a kind of elements. -/
def strK : Kind ByteArray where
  T := 9
  S := 85
  k := 1
  bs := 16
  z := .string ⟨#[]⟩
  row := fun r => [.string r]
  pos := by omega
  bpos := by omega
  len := fun _ => rfl
  one := fun _ u hu => by simp at hu; rcases hu with rfl; rfl
  und := Tryd.underlying85
  info := by kernel_rfl
  zc := rfl
theorem load_str {w : World} {A : Option Addr} {n : Nat} {l : List ByteArray} (h : Lst strK w A n l) {k : Nat} (hk : k < n) (hl : k < l.length) :
    ∃ ad, A = some ad ∧ ad.block < w.heap.size ∧ w.cell? (ad.add k) = some (.string l[k]) := by
  obtain ⟨ad, e, hb, hc⟩ := h.load hk hl
  refine ⟨ad, e, hb, ?_⟩
  have := hc 0 _ rfl
  rwa [show k * strK.k = k from Nat.mul_one k] at this
theorem lst_lits (w : World) (l : List ByteArray) : Lst strK (w.alloc (.cells (strK.rows l).toArray 9)) (some ⟨w.heap.size, 0, none⟩) l.length l := by
  refine ⟨by rw [strK.rows_len], fun j u hu => ⟨_, rfl, by simp, ?_⟩⟩
  have e := heap_alloc_new w (.cells (strK.rows l).toArray 9)
  have := cell_of_row _ _ j _ _ (0, 0) e
  have ea : (⟨w.heap.size, 0, none⟩ : Addr).add j = ⟨w.heap.size, j, none⟩ := by unfold Addr.add; by_cases h : j = 0 <;> simp [h]
  rw [ea, this]
  simpa using hu
theorem lst_litn (w : World) (l : List Int) : Lst numK (w.alloc (.cells (numK.rows l).toArray 3)) (some ⟨w.heap.size, 0, none⟩) l.length l := by
  refine ⟨by rw [numK.rows_len], fun j u hu => ⟨_, rfl, by simp, ?_⟩⟩
  have e := heap_alloc_new w (.cells (numK.rows l).toArray 3)
  have := cell_of_row _ _ j _ _ (0, 0) e
  have ea : (⟨w.heap.size, 0, none⟩ : Addr).add j = ⟨w.heap.size, j, none⟩ := by unfold Addr.add; by_cases h : j = 0 <;> simp [h]
  rw [ea, this]
  simpa using hu

def big (n : Int) : Bool := !small n
def longK (s : ByteArray) : Bool := decide (32 < s.size)
def longP (p : Pr) : Bool := longK p.key || decide (64 < p.val.size)
theorem big_any (n : Int) (w : World) : Calls Tryd.prog 53 #[.int .i64 n] w fun e w' => e = .returned (.bool (big n)) ∧ Q w w' := by
  by_cases h0 : n < 0
  · have hb : big n = true := by unfold big small; simp; omega
    have HB := Lib.hid hb
    clear hb
    go_enter Tryd.func53, Tryd.ntmps53
    go_wp2
    go_ret
    exact ⟨ret_bool HB.out.symm, Q.refl _⟩
  · by_cases h1 : 1073741824 < n
    · have hb : big n = true := by unfold big small; simp; omega
      have HB := Lib.hid hb
      clear hb
      go_enter Tryd.func53, Tryd.ntmps53
      go_wp2
      go_ret
      exact ⟨ret_bool HB.out.symm, Q.refl _⟩
    · have hb : big n = false := by unfold big small; simp; omega
      have HB := Lib.hid hb
      clear hb
      go_enter Tryd.func53, Tryd.ntmps53
      go_wp2
      go_ret
      exact ⟨ret_bool HB.out.symm, Q.refl _⟩
theorem longK_any (s : ByteArray) (w : World) : Calls Tryd.prog 71 #[.string s] w fun e w' => e = .returned (.bool (longK s)) ∧ Q w w' := by
  by_cases h1 : 32 < s.size
  · have hi : (32 : Int) < (s.size : Int) := by omega
    have HB := Lib.hid (show longK s = true from decide_eq_true h1)
    go_enter Tryd.func71, Tryd.ntmps71
    go_wp2
    go_ret
    exact ⟨ret_bool HB.out.symm, Q.refl _⟩
  · have hi : ¬ (32 : Int) < (s.size : Int) := by omega
    have HB := Lib.hid (show longK s = false from decide_eq_false h1)
    go_enter Tryd.func71, Tryd.ntmps71
    go_wp2
    go_ret
    exact ⟨ret_bool HB.out.symm, Q.refl _⟩

set_option maxHeartbeats 1000000 in
theorem index_nums (A : Option Addr) (n c : Nat) (l : List Int) (w : World) (hf : Lst numK w A n l) (hn : n ≤ maxLen) :
    Calls Tryd.prog 69 #[.slice A n c, .func (.func 53) #[] #[]] w fun e w' => e = .returned (.int .i64 (idx big l 0)) ∧ Q w w' := by
  unfold maxLen at hn
  have HF := Lib.hid hf
  clear hf
  generalize hP : big = P
  have HP0 := Lib.hid hP
  clear hP
  go_enter Tryd.func69, Tryd.ntmps69
  go_wp2
  go_loopw [8] (fun i wr => ∃ k : Nat, k ≤ n ∧ i = .int .i64 k ∧ Q w wr ∧ idx P l 0 = idx P (l.drop k) k) (fun i _ => n - (intOf i).toNat)
  case atStart => exact ⟨0, Nat.zero_le _, rfl, Q.refl _, rfl⟩
  case round =>
    obtain ⟨k, hk, rfl, hq, hp⟩ := hrel
    have HP := Lib.hid hp
    clear hp
    by_cases hlt : k < n
    · have hlen := HF.out.len
      have hkl : k < l.length := by omega
      obtain ⟨ad, rfl, hb, c0⟩ := load_num (HF.out.q hq) hlt hkl
      clear hlen
      go_wp2_with fail
      refine (big_any l[k] _).mono ?_
      rintro e w1 ⟨rfl, q1⟩
      rw [HP0.out]
      by_cases hh : P l[k] = true
      · go_wp2
        go_ret
        exact ⟨ret_int (by rw [HP.out, idx_drop _ _ hkl, if_pos hh]), hq.trans q1⟩
      · have hd : P l[k] = false := by simpa using hh
        go_wp2
        go_roundw
        case rel => exact ⟨k + 1, by omega, by go_num, hq.trans q1, by rw [HP.out, idx_drop _ _ hkl, if_neg hh]⟩
        case measure => simp [intOf]; omega
    · have hlen := HF.out.len
      have HL := Lib.hid hlen
      clear hlen
      go_wp2
      go_ret
      exact ⟨ret_int (by rw [HP.out, idx_end _ _ (by have := HL.out; omega)]), hq⟩
theorem contains_nums (A : Option Addr) (n c : Nat) (l : List Int) (w : World) (hf : Lst numK w A n l) (hn : n ≤ maxLen) :
    Calls Tryd.prog 52 #[.slice A n c, .func (.func 53) #[] #[]] w fun e w' => e = .returned (.bool (l.any big)) ∧ Q w w' := by
  have K := Lib.hid (index_nums A n c l w hf hn)
  rcases idx_cases big l 0 with ⟨hp, hall⟩ | ⟨k, hk, hp, hkn, hfirst⟩
  · have hr : l.any big = false := by rw [List.any_eq_false]; intro x hx; simp [hall x hx]
    have HR := Lib.hid hr
    have HP := Lib.hid hp
    clear hr hp hall hf
    go_enter Tryd.func52, Tryd.ntmps52
    go_wp2_with fail
    refine K.out.mono ?_
    rintro e w1 ⟨rfl, q1⟩
    rw [HP.out]
    go_wp2
    go_ret
    exact ⟨ret_bool HR.out.symm, q1⟩
  · have hr : l.any big = true := List.any_eq_true.2 ⟨_, List.getElem_mem hk, hkn⟩
    have HR := Lib.hid hr
    have HP := Lib.hid (hp.trans (by simp : ((0 + k : Nat) : Int) = (k : Int)))
    clear hr hp hfirst hf hkn
    have h0 : (0 : Int) ≤ (k : Int) := by omega
    go_enter Tryd.func52, Tryd.ntmps52
    go_wp2_with fail
    refine K.out.mono ?_
    rintro e w1 ⟨rfl, q1⟩
    rw [HP.out]
    go_wp2
    go_ret
    exact ⟨ret_bool HR.out.symm, q1⟩
theorem nums_any (A : Option Addr) (n c : Nat) (l : List Int) (w : World) (hf : Lst numK w A n l) (hn : n ≤ maxLen) :
    Calls Tryd.prog 29 #[.slice A n c] w fun e w' => e = .returned (.bool (!l.any big)) ∧ Q w w' := by
  have K := Lib.hid (contains_nums A n c l w hf hn)
  generalize l.any big = r at K ⊢
  clear hf
  go_enter Tryd.func29, Tryd.ntmps29
  go_wp2_with fail
  refine K.out.mono ?_
  rintro e w1 ⟨rfl, q1⟩
  cases r
  · go_wp2
    go_ret
    exact ⟨rfl, q1⟩
  · go_wp2
    go_ret
    exact ⟨rfl, q1⟩
set_option maxHeartbeats 1000000 in
theorem index_keys (A : Option Addr) (n c : Nat) (l : List ByteArray) (w : World) (hf : Lst strK w A n l) (hn : n ≤ maxLen) :
    Calls Tryd.prog 82 #[.slice A n c, .func (.func 71) #[] #[]] w fun e w' => e = .returned (.int .i64 (idx longK l 0)) ∧ Q w w' := by
  unfold maxLen at hn
  have HF := Lib.hid hf
  clear hf
  generalize hP : longK = P
  have HP0 := Lib.hid hP
  clear hP
  go_enter Tryd.func82, Tryd.ntmps82
  go_wp2
  go_loopw [8] (fun i wr => ∃ k : Nat, k ≤ n ∧ i = .int .i64 k ∧ Q w wr ∧ idx P l 0 = idx P (l.drop k) k) (fun i _ => n - (intOf i).toNat)
  case atStart => exact ⟨0, Nat.zero_le _, rfl, Q.refl _, rfl⟩
  case round =>
    obtain ⟨k, hk, rfl, hq, hp⟩ := hrel
    have HP := Lib.hid hp
    clear hp
    by_cases hlt : k < n
    · have hlen := HF.out.len
      have hkl : k < l.length := by omega
      obtain ⟨ad, rfl, hb, c0⟩ := load_str (HF.out.q hq) hlt hkl
      clear hlen
      go_wp2_with fail
      refine (longK_any l[k] _).mono ?_
      rintro e w1 ⟨rfl, q1⟩
      rw [HP0.out]
      by_cases hh : P l[k] = true
      · go_wp2
        go_ret
        exact ⟨ret_int (by rw [HP.out, idx_drop _ _ hkl, if_pos hh]), hq.trans q1⟩
      · have hd : P l[k] = false := by simpa using hh
        go_wp2
        go_roundw
        case rel => exact ⟨k + 1, by omega, by go_num, hq.trans q1, by rw [HP.out, idx_drop _ _ hkl, if_neg hh]⟩
        case measure => simp [intOf]; omega
    · have hlen := HF.out.len
      have HL := Lib.hid hlen
      clear hlen
      go_wp2
      go_ret
      exact ⟨ret_int (by rw [HP.out, idx_end _ _ (by have := HL.out; omega)]), hq⟩
theorem contains_keys (A : Option Addr) (n c : Nat) (l : List ByteArray) (w : World) (hf : Lst strK w A n l) (hn : n ≤ maxLen) :
    Calls Tryd.prog 70 #[.slice A n c, .func (.func 71) #[] #[]] w fun e w' => e = .returned (.bool (l.any longK)) ∧ Q w w' := by
  have K := Lib.hid (index_keys A n c l w hf hn)
  rcases idx_cases longK l 0 with ⟨hp, hall⟩ | ⟨k, hk, hp, hkn, hfirst⟩
  · have hr : l.any longK = false := by rw [List.any_eq_false]; intro x hx; simp [hall x hx]
    have HR := Lib.hid hr
    have HP := Lib.hid hp
    clear hr hp hall hf
    go_enter Tryd.func70, Tryd.ntmps70
    go_wp2_with fail
    refine K.out.mono ?_
    rintro e w1 ⟨rfl, q1⟩
    rw [HP.out]
    go_wp2
    go_ret
    exact ⟨ret_bool HR.out.symm, q1⟩
  · have hr : l.any longK = true := List.any_eq_true.2 ⟨_, List.getElem_mem hk, hkn⟩
    have HR := Lib.hid hr
    have HP := Lib.hid (hp.trans (by simp : ((0 + k : Nat) : Int) = (k : Int)))
    clear hr hp hfirst hf hkn
    have h0 : (0 : Int) ≤ (k : Int) := by omega
    go_enter Tryd.func70, Tryd.ntmps70
    go_wp2_with fail
    refine K.out.mono ?_
    rintro e w1 ⟨rfl, q1⟩
    rw [HP.out]
    go_wp2
    go_ret
    exact ⟨ret_bool HR.out.symm, q1⟩
theorem keys_any (A : Option Addr) (n c : Nat) (l : List ByteArray) (w : World) (hf : Lst strK w A n l) (hn : n ≤ maxLen) :
    Calls Tryd.prog 54 #[.slice A n c] w fun e w' => e = .returned (.bool (!l.any longK)) ∧ Q w w' := by
  have K := Lib.hid (contains_keys A n c l w hf hn)
  generalize l.any longK = r at K ⊢
  clear hf
  go_enter Tryd.func54, Tryd.ntmps54
  go_wp2_with fail
  refine K.out.mono ?_
  rintro e w1 ⟨rfl, q1⟩
  cases r
  · go_wp2
    go_ret
    exact ⟨rfl, q1⟩
  · go_wp2
    go_ret
    exact ⟨rfl, q1⟩
theorem longP_any (p : Pr) (w : World) : Calls Tryd.prog 74 #[.agg #[.string p.key, .string p.val]] w fun e w' => e = .returned (.bool (longP p)) ∧ Q w w' := by
  obtain ⟨k, v⟩ := p
  have X := Lib.hid (Bx.new w [.string k, .string v] 70)
  have QF := Lib.hid ((Q.refl w).alloc (.cells #[.string k, .string v] 70))
  have HL : Hid (longP ⟨k, v⟩ = (longK k || decide (64 < v.size))) := Lib.hid rfl
  generalize longP ⟨k, v⟩ = res at HL ⊢
  have K := Lib.hid (fun W => keys_any (some ⟨W.heap.size, 0, none⟩) 1 1 [k] (W.alloc (.cells #[.string k] 9)) (lst_lits W [k]) (by unfold maxLen; omega))
  simp only [List.any_cons, List.any_nil, Bool.or_false] at K
  show Calls _ _ #[.agg #[.string k, .string v]] _ _
  cases hk : longK k with
  | true =>
    rw [hk] at K HL
    clear hk
    go_enter Tryd.func74, Tryd.ntmps74
    go_upto_region 1 with (fail)
    generalize w.alloc (.cells #[.string k, .string v] 70) = W0 at X QF ⊢
    generalize w.heap.size = b at X ⊢
    have x0 := (X.out 0 _ rfl).1
    go_wp2_with fail
    refine (K.out _).mono ?_
    rintro e w1 ⟨rfl, q1⟩
    have q2 := ((Q.refl W0).alloc (.cells #[.string k] 9)).trans q1
    have X1 := Lib.hid (X.out.q q2)
    have Q1 := Lib.hid (QF.out.trans q2)
    have x1 := (X1.out 1 _ rfl).1
    clear q1 q2 x0 X
    go_wp2
    go_ret
    exact ⟨ret_bool (by rw [HL.out]; first | rfl | (simp; omega)), Q1.out⟩
  | false =>
    rw [hk] at K HL
    clear hk
    by_cases hv : 64 < v.size
    · have hvi : (64 : Int) < (v.size : Int) := by omega
      rw [decide_eq_true hv] at HL
      go_enter Tryd.func74, Tryd.ntmps74
      go_upto_region 1 with (fail)
      generalize w.alloc (.cells #[.string k, .string v] 70) = W0 at X QF ⊢
      generalize w.heap.size = b at X ⊢
      have x0 := (X.out 0 _ rfl).1
      go_wp2_with fail
      refine (K.out _).mono ?_
      rintro e w1 ⟨rfl, q1⟩
      have q2 := ((Q.refl W0).alloc (.cells #[.string k] 9)).trans q1
      have X1 := Lib.hid (X.out.q q2)
      have Q1 := Lib.hid (QF.out.trans q2)
      have x1 := (X1.out 1 _ rfl).1
      clear q1 q2 x0 X
      go_wp2
      go_ret
      exact ⟨ret_bool (by rw [HL.out]; first | rfl | (simp; omega)), Q1.out⟩
    · have hvi : ¬ (64 : Int) < (v.size : Int) := by omega
      rw [decide_eq_false hv] at HL
      go_enter Tryd.func74, Tryd.ntmps74
      go_upto_region 1 with (fail)
      generalize w.alloc (.cells #[.string k, .string v] 70) = W0 at X QF ⊢
      generalize w.heap.size = b at X ⊢
      have x0 := (X.out 0 _ rfl).1
      go_wp2_with fail
      refine (K.out _).mono ?_
      rintro e w1 ⟨rfl, q1⟩
      have q2 := ((Q.refl W0).alloc (.cells #[.string k] 9)).trans q1
      have X1 := Lib.hid (X.out.q q2)
      have Q1 := Lib.hid (QF.out.trans q2)
      have x1 := (X1.out 1 _ rfl).1
      clear q1 q2 x0 X
      go_wp2
      go_ret
      exact ⟨ret_bool (by rw [HL.out]; first | rfl | (simp; omega)), Q1.out⟩
set_option maxHeartbeats 1000000 in
theorem index_rows (A : Option Addr) (n c : Nat) (l : List Pr) (w : World) (hf : Lst pairK w A n l) (hn : n ≤ maxLen) :
    Calls Tryd.prog 83 #[.slice A n c, .func (.func 74) #[] #[]] w fun e w' => e = .returned (.int .i64 (idx longP l 0)) ∧ Q w w' := by
  unfold maxLen at hn
  have HF := Lib.hid hf
  clear hf
  generalize hP : longP = P
  have HP0 := Lib.hid hP
  clear hP
  go_enter Tryd.func83, Tryd.ntmps83
  go_wp2
  go_loopw [8] (fun i wr => ∃ k : Nat, k ≤ n ∧ i = .int .i64 k ∧ Q w wr ∧ idx P l 0 = idx P (l.drop k) k) (fun i _ => n - (intOf i).toNat)
  case atStart => exact ⟨0, Nat.zero_le _, rfl, Q.refl _, rfl⟩
  case round =>
    obtain ⟨k, hk, rfl, hq, hp⟩ := hrel
    have HP := Lib.hid hp
    clear hp
    by_cases hlt : k < n
    · have hlen := HF.out.len
      have hkl : k < l.length := by omega
      obtain ⟨ad, rfl, hb, c0, c1⟩ := load_pair (HF.out.q hq) hlt hkl
      clear hlen
      go_wp2_with fail
      refine (longP_any l[k] _).mono ?_
      rintro e w1 ⟨rfl, q1⟩
      rw [HP0.out]
      by_cases hh : P l[k] = true
      · go_wp2
        go_ret
        exact ⟨ret_int (by rw [HP.out, idx_drop _ _ hkl, if_pos hh]), hq.trans q1⟩
      · have hd : P l[k] = false := by simpa using hh
        go_wp2
        go_roundw
        case rel => exact ⟨k + 1, by omega, by go_num, hq.trans q1, by rw [HP.out, idx_drop _ _ hkl, if_neg hh]⟩
        case measure => simp [intOf]; omega
    · have hlen := HF.out.len
      have HL := Lib.hid hlen
      clear hlen
      go_wp2
      go_ret
      exact ⟨ret_int (by rw [HP.out, idx_end _ _ (by have := HL.out; omega)]), hq⟩
theorem contains_rows (A : Option Addr) (n c : Nat) (l : List Pr) (w : World) (hf : Lst pairK w A n l) (hn : n ≤ maxLen) :
    Calls Tryd.prog 73 #[.slice A n c, .func (.func 74) #[] #[]] w fun e w' => e = .returned (.bool (l.any longP)) ∧ Q w w' := by
  have K := Lib.hid (index_rows A n c l w hf hn)
  rcases idx_cases longP l 0 with ⟨hp, hall⟩ | ⟨k, hk, hp, hkn, hfirst⟩
  · have hr : l.any longP = false := by rw [List.any_eq_false]; intro x hx; simp [hall x hx]
    have HR := Lib.hid hr
    have HP := Lib.hid hp
    clear hr hp hall hf
    go_enter Tryd.func73, Tryd.ntmps73
    go_wp2_with fail
    refine K.out.mono ?_
    rintro e w1 ⟨rfl, q1⟩
    rw [HP.out]
    go_wp2
    go_ret
    exact ⟨ret_bool HR.out.symm, q1⟩
  · have hr : l.any longP = true := List.any_eq_true.2 ⟨_, List.getElem_mem hk, hkn⟩
    have HR := Lib.hid hr
    have HP := Lib.hid (hp.trans (by simp : ((0 + k : Nat) : Int) = (k : Int)))
    clear hr hp hfirst hf hkn
    have h0 : (0 : Int) ≤ (k : Int) := by omega
    go_enter Tryd.func73, Tryd.ntmps73
    go_wp2_with fail
    refine K.out.mono ?_
    rintro e w1 ⟨rfl, q1⟩
    rw [HP.out]
    go_wp2
    go_ret
    exact ⟨ret_bool HR.out.symm, q1⟩
theorem rows_any (A : Option Addr) (n c : Nat) (l : List Pr) (w : World) (hf : Lst pairK w A n l) (hn : n ≤ maxLen) :
    Calls Tryd.prog 55 #[.slice A n c] w fun e w' => e = .returned (.bool (decide (l.length ≤ 16) && right l && !l.any longP)) ∧ Q w w' := by
  have K1 := Lib.hid (right_any A n c l w hf hn)
  have K2 := Lib.hid (fun W (q : Q w W) => contains_rows A n c l W (hf.q q) hn)
  have hlen := hf.len
  generalize hr : right l = r at K1 ⊢
  generalize l.any longP = p at K2 ⊢
  generalize l.length = m at hlen ⊢
  subst hlen
  clear hf hn hr
  by_cases hm : m ≤ 16
  · have hmi : (m : Int) ≤ 16 := by omega
    cases r with
    | false =>
      go_enter Tryd.func55, Tryd.ntmps55
      go_wp2_with fail
      refine K1.out.mono ?_
      rintro e w1 ⟨rfl, q1⟩
      go_wp2
      go_ret
      exact ⟨ret_bool (by simp), q1⟩
    | true =>
      cases p with
      | false =>
        go_enter Tryd.func55, Tryd.ntmps55
        go_wp2_with fail
        refine K1.out.mono ?_
        rintro e w1 ⟨rfl, q1⟩
        go_wp2_with fail
        refine (K2.out w1 q1).mono ?_
        rintro e w2 ⟨rfl, q2⟩
        go_wp2
        go_ret
        exact ⟨ret_bool (by simp [hm]), q1.trans q2⟩
      | true =>
        go_enter Tryd.func55, Tryd.ntmps55
        go_wp2_with fail
        refine K1.out.mono ?_
        rintro e w1 ⟨rfl, q1⟩
        go_wp2_with fail
        refine (K2.out w1 q1).mono ?_
        rintro e w2 ⟨rfl, q2⟩
        go_wp2
        go_ret
        exact ⟨ret_bool (by simp), q1.trans q2⟩
  · have hmi : ¬ (m : Int) ≤ 16 := by omega
    go_enter Tryd.func55, Tryd.ntmps55
    go_wp2
    go_ret
    exact ⟨ret_bool (by simp [hm]), Q.refl _⟩
end Wi
end Go.Proofs.YtdipikdebapmlaaDoor

/- Contracts of the document's own TakeNum, TakeText. -/
namespace Go.Proofs.YtdipikdebapmlaaDoor
set_option maxRecDepth 100000
open Go.RowKit
set_option linter.unusedVariables false

/-- how the figures end. -/
theorem figs_end (l : List UInt8) : (Dm.figs l).length = l.length ∨ ∃ h : (Dm.figs l).length < l.length, Dm.isD (l[(Dm.figs l).length]) = false := by
  rcases Nat.lt_or_ge (Dm.figs l).length l.length with h | h
  · right
    refine ⟨h, ?_⟩
    have hr : Dm.rest l = l[(Dm.figs l).length] :: l.drop ((Dm.figs l).length + 1) := by rw [Dm.rest_eq, List.drop_eq_getElem_cons h]
    have hne : Dm.rest l ≠ [] := by rw [hr]; exact List.cons_ne_nil _ _
    have := List.head_dropWhile_not Dm.isD hne
    have e : (List.dropWhile Dm.isD l).head hne = l[(Dm.figs l).length] := by
      show (Dm.rest l).head hne = _
      simp only [hr, List.head_cons]
    rw [e] at this
    simpa using this
  · left; have := Dm.figs_len l; omega
theorem figs_get (l : List UInt8) (i : Nat) (h : i < (Dm.figs l).length) (h' : i < l.length) : Dm.isD l[i] = true := by
  have := Dm.figs_all l _ (List.getElem_mem h)
  have e := Dm.figs_eq l
  have e2 : (Dm.figs l)[i] = l[i] := by
    have : (Dm.figs l)[i]? = (l.take (Dm.figs l).length)[i]? := by rw [← e]
    rw [List.getElem?_take, if_pos h, List.getElem?_eq_getElem h, List.getElem?_eq_getElem h'] at this
    injection this
  rw [← e2]; exact this
theorem bad_long (l : List UInt8) (h : 20 < (Dm.figs l).length) : Dm.bad l = true := by
  cases hl : l with
  | nil => rw [hl] at h; simp [Dm.figs] at h
  | cons c r =>
    rw [← hl]
    have hh : l.head? = some c := by rw [hl]; rfl
    by_cases h0 : c.toNat = 48
    · have hc : c = 48 := UInt8.toNat_inj.1 (by rw [h0]; rfl)
      unfold Dm.bad; rw [decide_eq_true (show 1 < (Dm.figs l).length by omega), hh, hc]; rfl
    · have hl0 : 0 < l.length := by rw [hl]; simp
      have hd := figs_get l 0 (by omega) hl0
      have e : l[0] = c := by simp [hl]
      rw [e] at hd
      cases hf : Dm.figs l with
      | nil => rw [hf] at h; simp at h
      | cons c2 r2 =>
        have hc2 : c2 = c := by
          have := Dm.figs_rest l
          rw [hf, hl] at this
          simp at this; exact this.1
        have := Dm.val_big (Dm.figs l) c2 r2 hf (by rw [hc2]; exact hd) (by rw [hc2]; exact h0) h
        unfold Dm.bad; rw [decide_eq_true this, Bool.or_true]
theorem bad_lead (l : List UInt8) (h : 1 < (Dm.figs l).length) (h0 : l.head? = some 48) : Dm.bad l = true := by
  unfold Dm.bad; rw [decide_eq_true h, h0]; rfl
theorem tnum_bad (l : List UInt8) (h : Dm.bad l = true) : Dm.tnum l = (0, [], 3) := by unfold Dm.tnum; rw [if_pos h]

theorem tnum_more (l : List UInt8) (hb : Dm.bad l = false) (h : (Dm.figs l).length = l.length) : Dm.tnum l = (0, [], 2) := by
  unfold Dm.tnum
  rw [hb, if_neg (by simp), if_pos (by rw [Dm.rest_eq, h, List.drop_length])]
theorem rest_cons (l : List UInt8) (h : (Dm.figs l).length < l.length) : Dm.rest l = l[(Dm.figs l).length] :: l.drop ((Dm.figs l).length + 1) := by
  rw [Dm.rest_eq, List.drop_eq_getElem_cons h]
theorem tnum_other (l : List UInt8) (hb : Dm.bad l = false) (h : (Dm.figs l).length < l.length) (hc : l[(Dm.figs l).length] ≠ 59 ∨ (Dm.figs l).length = 0) : Dm.tnum l = (0, [], 3) := by
  unfold Dm.tnum
  rw [hb, if_neg (by simp), rest_cons l h, if_neg (List.cons_ne_nil _ _), if_pos]
  rcases hc with hc | hc
  · left; rw [List.head?_cons]; intro e; injection e with e; exact hc e
  · right; exact List.length_eq_zero_iff.1 hc
theorem tnum_ok (l : List UInt8) (hb : Dm.bad l = false) (h : (Dm.figs l).length < l.length) (hc : l[(Dm.figs l).length] = 59) (h0 : (Dm.figs l).length ≠ 0) :
    Dm.tnum l = (Dm.val (Dm.figs l), l.drop ((Dm.figs l).length + 1), 0) := by
  unfold Dm.tnum
  rw [hb, if_neg (by simp), rest_cons l h, if_neg (List.cons_ne_nil _ _), if_neg]
  · rfl
  · rintro (e | e)
    · simp [hc] at e
    · exact h0 (List.length_eq_zero_iff.2 e)

set_option maxHeartbeats 1000000 in
theorem refTakeNum_any (s : ByteArray) (w : World) (hs : s.size ≤ maxLen) :
    Calls Tryd.prog 50 #[.string s] w fun e w' => e = .returned (tnR (Dm.tnum s.data.toList)) ∧ Q w w' := by
  unfold maxLen at hs
  have hend0 := figs_end s.data.toList
  have hle : (Dm.figs s.data.toList).length ≤ s.size := by have := Dm.figs_len s.data.toList; rw [size_list] at this; exact this
  have hget := figs_get s.data.toList
  have hfe := Dm.figs_eq s.data.toList
  have hbl := bad_long s.data.toList
  have hbz := bad_lead s.data.toList
  have hbb := tnum_bad s.data.toList
  have hrest := Dm.rest_eq s.data.toList
  have hnil : Dm.figs s.data.toList = [] ↔ (Dm.figs s.data.toList).length = 0 := List.length_eq_zero_iff.symm
  obtain ⟨N, hN⟩ : ∃ N, N = (Dm.figs s.data.toList).length := ⟨_, rfl⟩
  rw [← hN] at hle hget hbl hbz hrest hnil
  have hdig : ∀ i (h : i < N) (h' : i < s.size), 48 ≤ s[i].toNat ∧ s[i].toNat ≤ 57 := by
    intro i h h'
    have := hget i h (by rw [size_list]; exact h')
    rw [get_list, Dm.isD_iff] at this; exact this
  have hend : s.size ≤ N ∨ (∃ h : N < s.size, s[N].toNat < 48) ∨ (∃ h : N < s.size, 57 < s[N].toNat) := by
    rcases hend0 with h | ⟨h, h2⟩
    · left; rw [hN, h, size_list]; exact Nat.le_refl _
    · right
      have h3 : N < s.size := by rw [hN]; rw [size_list] at h; exact h
      have h4 : Dm.isD s[N] = false := by
        have : s[N] = s.data.toList[(Dm.figs s.data.toList).length] := by simp only [hN]; rfl
        rw [this]; exact h2
      unfold Dm.isD at h4
      simp only [Bool.and_eq_false_iff, decide_eq_false_iff_not] at h4
      rcases h4 with h4 | h4
      · left; exact ⟨h3, by omega⟩
      · right; exact ⟨h3, by omega⟩
  have HDIG := Lib.hid hdig
  have HFE := Lib.hid hfe
  have HNIL := Lib.hid hnil
  have HREST := Lib.hid hrest
  have HBB := Lib.hid hbb
  have HN := Lib.hid hN
  clear hend0 hget hfe hdig hnil hrest hbb
  by_cases cL : 20 < N ∨ (1 < N ∧ ∃ h : 0 < s.size, s[0].toNat = 48)
  · have hbad : Dm.bad s.data.toList = true := by
      rcases cL with h | ⟨h, h1, h2⟩
      · exact hbl h
      · exact hbz h (by rw [head_list s h1]; congr 1; exact UInt8.toNat_inj.1 (by rw [h2]; rfl))
    have ht := HBB.out hbad
    have HT := Lib.hid ht
    have CL := Lib.hid cL
    clear ht hbl hbz cL hbad hN
    rcases hend with hend | ⟨hlt, hend⟩ | ⟨hlt, hend⟩
    all_goals
      go_enter Tryd.func50, Tryd.ntmps50
      go_wp2
      go_loop [5] (fun n => ∃ k : Nat, k ≤ N ∧ n = .int .i64 k) (fun n => N - (intOf n).toNat)
      case atStart => exact ⟨0, Nat.zero_le _, rfl⟩
      case round =>
        obtain ⟨k, hk, rfl⟩ := hrel
        by_cases c : k < N
        · have hks : k < s.size := by omega
          obtain ⟨d1, d2⟩ := HDIG.out k c hks
          go_wp2
          go_round
          case rel => exact ⟨k + 1, by omega, by go_num⟩
          case measure => simp [intOf]; omega
        · obtain rfl : k = N := by omega
          by_cases cN : 20 < k
          · have dN : decide (20 < (k : Int)) = true := by simp; omega
            go_wp2
            go_ret3
            exact ⟨by rw [HT.out]; rfl, Q.refl _⟩
          · have h1 : 1 < k := by have := CL.out; omega
            have h0s : 0 < s.size := by omega
            have hb : ((s[0].toNat : Int) == 48) = true := by
              rcases CL.out with h | ⟨_, _, h⟩
              · omega
              · simp; omega
            go_wp2
            go_ret3
            exact ⟨by rw [HT.out]; rfl, Q.refl _⟩
  have cN : N ≤ 20 := by
    rcases Nat.lt_or_ge 20 N with h | h
    · exact absurd (.inl h) cL
    · exact h
  have hz : 1 < N → ∀ h : 0 < s.size, ((s[0].toNat : Int) == 48) = false := by
    intro h1 h2
    have : ¬ s[0].toNat = 48 := fun e => cL (.inr ⟨h1, h2, e⟩)
    simp; omega
  have HZ := Lib.hid hz
  have dN : decide (20 < (N : Int)) = false := by simp; omega
  have hvl : Dm.val (s.data.toList.take N) = Dm.val (Dm.figs s.data.toList) := by rw [HN.out]; rw [← HFE.out]
  have HVL := Lib.hid hvl
  have hmono : ∀ k, k < N → Dm.maxU < Dm.val (s.data.toList.take (k + 1)) → Dm.tnum s.data.toList = (0, [], 3) := by
    intro k hk h
    apply HBB.out
    refine Dm.bad_big s.data.toList k (by rw [size_list]; omega) ?_ h
    intro i hi
    rw [get_list, Dm.isD_iff]; exact HDIG.out i (by omega) (by omega)
  have HM := Lib.hid hmono
  have hgood : Dm.val (Dm.figs s.data.toList) ≤ Dm.maxU → Dm.bad s.data.toList = false := by
    intro h
    refine Dm.bad_not s.data.toList N (by rw [HN.out]; exact HFE.out) (by rw [size_list]; exact hle) ?_ (by rw [hvl]; exact h)
    intro h1 e
    have h2 : 0 < s.size := by omega
    rw [head_list s h2] at e
    injection e with e
    have := hz h1 h2
    rw [e] at this
    exact absurd this (by decide)
  have HG := Lib.hid hgood
  clear hbl hbz cL hz hN hvl hmono hgood
  rcases hend with hend | ⟨hlt, hend⟩ | ⟨hlt, hend⟩
  all_goals
    go_enter Tryd.func50, Tryd.ntmps50
    go_wp2
    go_loop [5] (fun n => ∃ k : Nat, k ≤ N ∧ n = .int .i64 k) (fun n => N - (intOf n).toNat)
    case atStart => exact ⟨0, Nat.zero_le _, rfl⟩
    case round =>
      obtain ⟨k, hk, rfl⟩ := hrel
      by_cases c : k < N
      · have hks : k < s.size := by omega
        obtain ⟨d1, d2⟩ := HDIG.out k c hks
        go_wp2
        go_round
        case rel => exact ⟨k + 1, by omega, by go_num⟩
        case measure => simp [intOf]; omega
      · obtain rfl : k = N := by omega
        have hcase : k ≤ 1 ∨ (1 < k ∧ ∃ h : 0 < s.size, ((s[0].toNat : Int) == 48) = false) := by
          rcases Nat.lt_or_ge 1 k with h | h
          · exact .inr ⟨h, by omega, HZ.out h (by omega)⟩
          · exact .inl h
        rcases hcase with h1 | ⟨h1, h0s, hb0⟩
        all_goals
          go_wp2
          go_loop [6, 7] (fun v i => ∃ j : Nat, j ≤ k ∧ i = .int .i64 j ∧ v = .int .u64 (Dm.val (s.data.toList.take j)) ∧ Dm.val (s.data.toList.take j) ≤ Dm.maxU) (fun _ i => k - (intOf i).toNat)
          case atStart => exact ⟨0, Nat.zero_le _, rfl, rfl, Nat.zero_le _⟩
          case round =>
            obtain ⟨j, hj, rfl, rfl, hv⟩ := hrel
            by_cases c2 : j < k
            · have hjs : j < s.size := by omega
              obtain ⟨d1, d2⟩ := HDIG.out j c2 hjs
              have e1 := Dm.val_snoc (s.data.toList.take j) s[j]
              rw [← take_snoc' s j hjs] at e1
              have hov := HM.out j c2
              generalize hA : Dm.val (s.data.toList.take j) = A at *
              rw [e1] at hov
              have hdv : Dm.dv s[j] = s[j].toNat - 48 := rfl
              rw [hdv] at e1 hov
              have H1 := Lib.hid e1
              have HO := Lib.hid hov
              unfold Dm.maxU at hv
              clear e1 hov hdv hA
              by_cases c3 : 1844674407370955161 < A
              · have HT := Lib.hid (HO.out (by unfold Dm.maxU; omega))
                have c3' : decide ((1844674407370955161 : Int) < (A : Int)) = true := by simp; omega
                go_wp2
                go_ret3
                exact ⟨by rw [HT.out]; rfl, Q.refl _⟩
              have c3' : decide ((1844674407370955161 : Int) < (A : Int)) = false := by simp; omega
              by_cases c4 : A = 1844674407370955161
              · have c4' : ((A : Int) == 1844674407370955161) = true := by simp; omega
                by_cases c5 : 53 < s[j].toNat
                · have HT := Lib.hid (HO.out (by unfold Dm.maxU; omega))
                  clear c4
                  go_wp2
                  go_ret3
                  exact ⟨by rw [HT.out]; rfl, Q.refl _⟩
                · have c5' : s[j].toNat ≤ 53 := by omega
                  have hle2 : 10 * A + (s[j].toNat - 48) ≤ 18446744073709551615 := by omega
                  have hle3 : 10 * (A : Int) + ((s[j].toNat : Int) - 48) ≤ 18446744073709551615 := by omega
                  have HN2 := Lib.hid (show ((10 * A + (s[j].toNat - 48) : Nat) : Int) = 10 * (A : Int) + ((s[j].toNat : Int) - 48) by omega)
                  have HL2 := Lib.hid hle2
                  clear c4 hle2
                  go_wp2
                  go_round
                  case rel => exact ⟨j + 1, by omega, by go_num, by rw [H1.out, HN2.out], by rw [H1.out]; exact HL2.out⟩
                  case measure => simp [intOf]; omega
              · have c4' : ((A : Int) == 1844674407370955161) = false := by simp; omega
                have hle2 : 10 * A + (s[j].toNat - 48) ≤ 18446744073709551615 := by omega
                have hle3 : 10 * (A : Int) + ((s[j].toNat : Int) - 48) ≤ 18446744073709551615 := by omega
                have HN2 := Lib.hid (show ((10 * A + (s[j].toNat - 48) : Nat) : Int) = 10 * (A : Int) + ((s[j].toNat : Int) - 48) by omega)
                have HL2 := Lib.hid hle2
                clear c4 hle2
                go_wp2
                go_round
                case rel => exact ⟨j + 1, by omega, by go_num, by rw [H1.out, HN2.out], by rw [H1.out]; exact HL2.out⟩
                case measure => simp [intOf]; omega
            · obtain rfl : j = k := by omega
              have hg := HG.out (by rw [← HVL.out]; exact hv)
              by_cases c6 : j = s.size
              · have HT := Lib.hid (tnum_more s.data.toList hg (by rw [size_list, ← HN.out]; exact c6))
                have hbe : ((j : Int) == (s.size : Int)) = true := by simp; omega
                clear hg
                first
                  | (exfalso; omega)
                  | (clear c6
                     go_wp2
                     go_ret3
                     exact ⟨by rw [HT.out]; rfl, Q.refl _⟩)
              · have hbe : ((j : Int) == (s.size : Int)) = false := by simp; omega
                have hjs : j < s.size := by omega
                have hgt : s.data.toList[(Dm.figs s.data.toList).length]'(by rw [size_list, ← HN.out]; exact hjs) = s[j] := by
                  simp only [← HN.out]; rfl
                all_goals (try (exfalso; omega))
                all_goals
                  by_cases c7 : s[j].toNat = 59 ∧ j ≠ 0
                  · obtain ⟨c7, c8⟩ := c7
                    have ht := tnum_ok s.data.toList hg (by rw [size_list, ← HN.out]; exact hjs) (by rw [hgt]; exact UInt8.toNat_inj.1 (by rw [c7]; rfl)) (by rw [← HN.out]; exact c8)
                    rw [← HN.out, ← HVL.out] at ht
                    have he := extract_list s (j + 1) s.size
                    rw [List.take_of_length_le (by rw [size_list]; omega)] at he
                    have HT := Lib.hid ht
                    have HE := Lib.hid he
                    have hne : ((s[j].toNat : Int) != 59) = false := by simp; omega
                    have h0 : ((j : Int) == 0) = false := by simp; omega
                    have e1 : IntKind.i64.wrap ((j : Int) + 1) = (j : Int) + 1 := IntWalk.i64_in _ (by omega)
                    have e2 : 0 ≤ (j : Int) + 1 := by omega
                    have e3 : ((j : Int) + 1).toNat = j + 1 := by omega
                    have e4 : (j : Int) + 1 ≤ (s.size : Int) := by omega
                    clear ht he hg hgt c7 c8 c6 hend
                    generalize Dm.val (s.data.toList.take j) = A at *
                    go_wp2
                    go_quiet (fail)
                    go_wp2
                    go_ret3
                    refine ⟨?_, (Q.refl _).drewN _⟩
                    rw [HT.out]; unfold tnR
                    simp only [← HE.out]; rfl
                  · have HT := Lib.hid (tnum_other s.data.toList hg (by rw [size_list, ← HN.out]; exact hjs) (by
                      rw [hgt, ← HN.out]
                      rcases Nat.eq_zero_or_pos j with e | e
                      · exact .inr e
                      · left; intro e2; exact c7 ⟨by rw [e2]; rfl, by omega⟩))
                    have C7 := Lib.hid c7
                    clear hg hgt c7 c6
                    by_cases c8 : s[j].toNat = 59
                    · have hne : ((s[j].toNat : Int) != 59) = false := by simp; omega
                      have h0 : ((j : Int) == 0) = true := by have := C7.out; simp; omega
                      clear c8
                      go_wp2
                      go_ret3
                      exact ⟨by rw [HT.out]; rfl, Q.refl _⟩
                    · have hne : ((s[j].toNat : Int) != 59) = true := by simp; omega
                      clear c8
                      go_wp2
                      go_ret3
                      exact ⟨by rw [HT.out]; rfl, Q.refl _⟩
end Go.Proofs.YtdipikdebapmlaaDoor

/- The contract of the document's own TakeText. -/
namespace Go.Proofs.YtdipikdebapmlaaDoor
set_option maxRecDepth 100000
open Go.RowKit
set_option linter.unusedVariables false

set_option maxHeartbeats 400000 in
theorem refTakeText_any (s : ByteArray) (most : Int) (w : World) (hs : s.size ≤ maxLen) (hm0 : -9223372036854775808 ≤ most) (hm1 : most ≤ 9223372036854775807) :
    Calls Tryd.prog 51 #[.string s, .int .i64 most] w fun e w' => e = .returned (ttR (Dm.ttext s.data.toList most)) ∧ Q w w' := by
  have hlen := Dm.tnum_len s.data.toList
  have hle := Dm.tnum_le s.data.toList
  have hcall := refTakeNum_any s w hs
  have htx : Dm.ttext s.data.toList most = if (Dm.tnum s.data.toList).2.2 ≠ 0 then ([], [], (Dm.tnum s.data.toList).2.2) else if most < 0 ∨ most < ((Dm.tnum s.data.toList).1 : Int) then ([], [], 4) else if (Dm.tnum s.data.toList).2.1.length < (Dm.tnum s.data.toList).1 then ([], [], 2)
    else ((Dm.tnum s.data.toList).2.1.take (Dm.tnum s.data.toList).1, (Dm.tnum s.data.toList).2.1.drop (Dm.tnum s.data.toList).1, 0) := rfl
  have herr := Dm.tnum_err s.data.toList
  generalize Dm.tnum s.data.toList = x at *
  obtain ⟨n, r, er⟩ := x
  obtain ⟨R, hR⟩ : ∃ R : ByteArray, R = ⟨r.toArray⟩ := ⟨_, rfl⟩
  have hsz : R.size = r.length := by rw [hR]; show r.toArray.size = _; simp
  have hl : R.data.toList = r := by rw [hR]
  unfold tnR at hcall
  simp only at hlen hle hcall htx herr
  rw [← hR] at hcall
  have hRle : R.size ≤ s.size := by rw [hsz]; rw [size_list] at hlen; exact hlen
  unfold maxLen at hs
  unfold Dm.maxU at hle
  have HC := Lib.hid hcall
  have HT := Lib.hid htx
  have HSZ := Lib.hid hsz
  have HL := Lib.hid hl
  clear hcall htx hsz hl hR hlen
  by_cases c0 : er = 0
  · subst c0
    clear herr
    by_cases c1 : most < 0 ∨ most < (n : Int)
    · have ht : Dm.ttext s.data.toList most = ([], [], 4) := by rw [HT.out, if_neg (by simp), if_pos c1]
      have HT2 := Lib.hid ht
      have C1 := Lib.hid c1
      clear ht c1
      by_cases c3 : most < 0
      · have d3 : decide (most < 0) = true := by simpa using c3
        go_enter Tryd.func51, Tryd.ntmps51
        go_wp2_with fail
        refine HC.out.mono ?_
        rintro e w1 ⟨rfl, q1⟩
        go_wp2_with fail
        go_ret3
        exact ⟨by rw [HT2.out]; rfl, q1⟩
      · have c3' : 0 ≤ most := by omega
        have d3 : decide (most < 0) = false := by simpa using c3'
        have c4 : most < (n : Int) := by have := C1.out; omega
        clear c3
        go_enter Tryd.func51, Tryd.ntmps51
        go_wp2_with fail
        refine HC.out.mono ?_
        rintro e w1 ⟨rfl, q1⟩
        go_wp2_with fail
        go_ret3
        exact ⟨by rw [HT2.out]; rfl, q1⟩
    have c1' : 0 ≤ most := by omega
    have c1'' : (n : Int) ≤ most := by omega
    have d3 : decide (most < 0) = false := by simpa using c1'
    by_cases c2 : R.size < n
    · have ht : Dm.ttext s.data.toList most = ([], [], 2) := by rw [HT.out, if_neg (by simp), if_neg c1, if_pos (by rw [← HSZ.out]; exact c2)]
      have HT2 := Lib.hid ht
      clear ht c1
      go_enter Tryd.func51, Tryd.ntmps51
      go_wp2_with fail
      refine HC.out.mono ?_
      rintro e w1 ⟨rfl, q1⟩
      go_wp2_with fail
      go_ret3
      exact ⟨by rw [HT2.out]; rfl, q1⟩
    have c2' : n ≤ R.size := by omega
    have ht : Dm.ttext s.data.toList most = (r.take n, r.drop n, 0) := by rw [HT.out, if_neg (by simp), if_neg c1, if_neg (by rw [← HSZ.out]; exact c2)]
    have he1 := extract_list R 0 n
    have he2 := extract_list R n R.size
    rw [List.take_of_length_le (by rw [size_list]; omega), HL.out] at he2
    rw [HL.out, List.drop_zero] at he1
    have HT2 := Lib.hid ht
    have HE1 := Lib.hid he1
    have HE2 := Lib.hid he2
    have e4 : (n : Int) ≤ (R.size : Int) := by omega
    clear ht c1 c2 he1 he2
    go_enter Tryd.func51, Tryd.ntmps51
    go_wp2_with fail
    refine HC.out.mono ?_
    rintro e w1 ⟨rfl, q1⟩
    go_wp2_with fail
    go_quiet (fail)
    go_wp2_with fail
    go_ret3
    refine ⟨?_, q1.drewN _⟩
    rw [HT2.out]; unfold ttR
    simp only [← HE1.out, ← HE2.out]; rfl
  · have ht : Dm.ttext s.data.toList most = ([], [], er) := by rw [HT.out, if_pos c0]
    have HT2 := Lib.hid ht
    have hne : ((er : Int) != 0) = true := by simp; omega
    clear ht c0 herr
    go_enter Tryd.func51, Tryd.ntmps51
    go_wp2_with fail
    refine HC.out.mono ?_
    rintro e w1 ⟨rfl, q1⟩
    go_wp2_with fail
    go_ret3
    exact ⟨by rw [HT2.out]; rfl, q1⟩
end Go.Proofs.YtdipikdebapmlaaDoor

/- Boxes of two cells; a struct of two slices. -/
namespace Go.Proofs.YtdipikdebapmlaaDoor
set_option maxRecDepth 100000
open Go.RowKit
set_option linter.unusedVariables false

end Go.Proofs.YtdipikdebapmlaaDoor

/- Contracts: the document's small, takes, reads (chapter 16). -/
namespace Go.Proofs.YtdipikdebapmlaaDoor
set_option maxRecDepth 100000
open Go.RowKit
set_option linter.unusedVariables false
set_option linter.unusedSimpArgs false
namespace Wi

theorem wsmall_any (n : Int) (w : World) : Calls Tryd.prog 32 #[.int .i64 n] w fun e w' => e = .returned (.bool (small n)) ∧ Q w w' := by
  unfold small
  by_cases h0 : 0 ≤ n
  · rw [decide_eq_true h0, Bool.true_and]
    generalize hb : decide (n ≤ 1073741824) = b
    go_enter Tryd.func32, Tryd.ntmps32
    go_wp2
    go_ret
    exact ⟨rfl, Q.refl _⟩
  · rw [decide_eq_false h0, Bool.false_and]
    go_enter Tryd.func32, Tryd.ntmps32
    go_wp2
    go_ret
    exact ⟨rfl, Q.refl _⟩

abbrev ptL (n : Nat) (t r : ByteArray) (b : Bool) : List Value := [.int .i64 (n : Int), .string t, .string r, .bool b]
abbrev ptV (p : Pt) : Value := .agg (ptL p.n (ba p.t) (ba p.rest) p.is).toArray
theorem pt_new (w : World) (n : Nat) (t r : ByteArray) (b : Bool) :
    Bx ((w.alloc (.cells (ptL n t r b).toArray 62)).alloc (.cells (ptL 0 ⟨#[]⟩ ⟨#[]⟩ false).toArray 62)) w.heap.size (ptL n t r b) ∧
    Bx ((w.alloc (.cells (ptL n t r b).toArray 62)).alloc (.cells (ptL 0 ⟨#[]⟩ ⟨#[]⟩ false).toArray 62)) (w.heap.size + 1) (ptL 0 ⟨#[]⟩ ⟨#[]⟩ false) ∧
    Q w ((w.alloc (.cells (ptL n t r b).toArray 62)).alloc (.cells (ptL 0 ⟨#[]⟩ ⟨#[]⟩ false).toArray 62)) := by
  refine ⟨(Bx.new w _ _).alloc _, ?_, ((Q.refl w).alloc _).alloc _⟩
  have := Bx.new (w.alloc (.cells (ptL n t r b).toArray 62)) (ptL 0 ⟨#[]⟩ ⟨#[]⟩ false) 62
  rw [show (w.alloc (.cells (ptL n t r b).toArray 62)).heap.size = w.heap.size + 1 by simp] at this
  exact this

set_option maxHeartbeats 2000000 in
theorem takes_any (p : Pt) (w : World) (hr : p.rest.length ≤ 4611686018427387904) :
    Calls Tryd.prog 27 #[ptV p] w fun e w' => e = .returned (ptV (tkn p)) ∧ Q w w' := by
  obtain ⟨n, t, r, b⟩ := p
  have K1 := Lib.hid (fun W => refTakeNum_any (ba r) W (by rw [ba_size]; unfold maxLen; simp only at hr; omega))
  rw [ba_data] at K1
  have hv := Dm.tnum_le r
  have htk : tkn ⟨n, t, r, b⟩ = if b = false ∨ (Dm.tnum r).2.2 ≠ 0 ∨ 1073741824 < (Dm.tnum r).1 then pz else ⟨(Dm.tnum r).1, [], (Dm.tnum r).2.1, true⟩ := rfl
  rw [htk]
  generalize Dm.tnum r = x at K1 hv ⊢
  obtain ⟨v, r2, er⟩ := x
  unfold tnR at K1
  simp only at K1 hv ⊢
  unfold Dm.maxU at hv
  change Hid (∀ W, Calls _ _ _ W fun e w' => e = .returned (.tuple #[.int .u64 (v : Int), .string (ba r2), .int .i64 (er : Int)]) ∧ Q W w') at K1
  have B := Lib.hid (pt_new w n (ba t) (ba r) b)
  clear hr htk
  have hz : ptV pz = .agg #[.int .i64 0, .string ⟨#[]⟩, .string ⟨#[]⟩, .bool false] := rfl
  show Calls _ _ #[.agg #[.int .i64 (n : Int), .string (ba t), .string (ba r), .bool b]] _ _
  generalize ba r = R at K1 B ⊢
  generalize ba t = T at B ⊢
  by_cases hbad : b = false ∨ er ≠ 0 ∨ 1073741824 < v
  · rw [if_pos hbad, hz]
    have hfin : (b = false) ∨ (b = true ∧ er ≠ 0) ∨ (b = true ∧ er = 0 ∧ 1073741824 < v) := by
      cases b with
      | false => exact .inl rfl
      | true =>
        by_cases he : er = 0
        · exact .inr (.inr ⟨rfl, he, (hbad.resolve_left (by simp)).resolve_left (fun h => h he)⟩)
        · exact .inr (.inl ⟨rfl, he⟩)
    clear hz hbad
    rcases hfin with hb | ⟨hb, he⟩ | ⟨hb, he, hv2⟩
    all_goals
      subst hb
      try subst he
      first
      | have hne : ¬ (er : Int) = 0 := by omega
      | have hvi : (1073741824 : Int) < (v : Int) := by omega
      | skip
      go_enter Tryd.func27, Tryd.ntmps27
      go_upto_region 1 with (fail)
      first
      | change Hid (Bx ((w.alloc (.cells #[.int .i64 (n : Int), .string T, .string R, .bool false] 62)).alloc (.cells #[.int .i64 0, .string ⟨#[]⟩, .string ⟨#[]⟩, .bool false] 62)) _ _ ∧ Bx ((w.alloc (.cells #[.int .i64 (n : Int), .string T, .string R, .bool false] 62)).alloc (.cells #[.int .i64 0, .string ⟨#[]⟩, .string ⟨#[]⟩, .bool false] 62)) _ _ ∧ Q w ((w.alloc (.cells #[.int .i64 (n : Int), .string T, .string R, .bool false] 62)).alloc (.cells #[.int .i64 0, .string ⟨#[]⟩, .string ⟨#[]⟩, .bool false] 62))) at B
        generalize ((w.alloc (.cells #[.int .i64 (n : Int), .string T, .string R, .bool false] 62)).alloc (.cells #[.int .i64 0, .string ⟨#[]⟩, .string ⟨#[]⟩, .bool false] 62)) = W0 at B ⊢
      | change Hid (Bx ((w.alloc (.cells #[.int .i64 (n : Int), .string T, .string R, .bool true] 62)).alloc (.cells #[.int .i64 0, .string ⟨#[]⟩, .string ⟨#[]⟩, .bool false] 62)) _ _ ∧ Bx ((w.alloc (.cells #[.int .i64 (n : Int), .string T, .string R, .bool true] 62)).alloc (.cells #[.int .i64 0, .string ⟨#[]⟩, .string ⟨#[]⟩, .bool false] 62)) _ _ ∧ Q w ((w.alloc (.cells #[.int .i64 (n : Int), .string T, .string R, .bool true] 62)).alloc (.cells #[.int .i64 0, .string ⟨#[]⟩, .string ⟨#[]⟩, .bool false] 62))) at B
        generalize ((w.alloc (.cells #[.int .i64 (n : Int), .string T, .string R, .bool true] 62)).alloc (.cells #[.int .i64 0, .string ⟨#[]⟩, .string ⟨#[]⟩, .bool false] 62)) = W0 at B ⊢
      obtain ⟨⟨x0, x1, x2, x3⟩, _⟩ := B.out.1.get4
      go_wp2_with fail
      refine (K1.out _).mono ?_
      rintro e w1 ⟨rfl, q1⟩
      have X := Lib.hid (And.intro (B.out.1.q q1) (And.intro (B.out.2.1.q q1) (B.out.2.2.trans q1)))
      clear q1 x0 x1 x2 x3 B
      obtain ⟨⟨x0, x1, x2, x3⟩, _⟩ := X.out.1.get4
      obtain ⟨⟨y0, y1, y2, y3⟩, y4, y5, y6, y7⟩ := X.out.2.1.get4
      go_wp2
      obtain ⟨⟨r0, r1, r2', r3⟩, _⟩ := (X.out.2.1.put4 (.int .i64 0) (.string ⟨#[]⟩) (.string ⟨#[]⟩) (.bool false)).get4
      refine bodyPost_ret (v := .agg #[.int .i64 0, .string ⟨#[]⟩, .string ⟨#[]⟩, .bool false]) (by simp [results, Tryd.results27, go_sem, r0, r1, r2', r3]) rfl ?_
      exact ⟨rfl, X.out.2.2.set4 (b := w.heap.size + 1) (by omega) _ _ _ _⟩
  · rw [if_neg hbad]
    have hb : b = true := by cases b with | true => rfl | false => exact absurd (.inl rfl) hbad
    have he : er = 0 := Classical.byContradiction fun h => hbad (.inr (.inl h))
    have hv2 : v ≤ 1073741824 := Nat.le_of_not_lt fun h => hbad (.inr (.inr h))
    subst hb he
    have hvi : ¬ (1073741824 : Int) < (v : Int) := by omega
    clear hbad hz
    show Calls _ _ _ _ fun e w' => e = .returned (.agg #[.int .i64 (v : Int), .string ⟨#[]⟩, .string (ba r2), .bool true]) ∧ Q w w'
    generalize ba r2 = R2 at K1 ⊢
    all_goals
      go_enter Tryd.func27, Tryd.ntmps27
      go_upto_region 1 with (fail)
      first
      | change Hid (Bx ((w.alloc (.cells #[.int .i64 (n : Int), .string T, .string R, .bool false] 62)).alloc (.cells #[.int .i64 0, .string ⟨#[]⟩, .string ⟨#[]⟩, .bool false] 62)) _ _ ∧ Bx ((w.alloc (.cells #[.int .i64 (n : Int), .string T, .string R, .bool false] 62)).alloc (.cells #[.int .i64 0, .string ⟨#[]⟩, .string ⟨#[]⟩, .bool false] 62)) _ _ ∧ Q w ((w.alloc (.cells #[.int .i64 (n : Int), .string T, .string R, .bool false] 62)).alloc (.cells #[.int .i64 0, .string ⟨#[]⟩, .string ⟨#[]⟩, .bool false] 62))) at B
        generalize ((w.alloc (.cells #[.int .i64 (n : Int), .string T, .string R, .bool false] 62)).alloc (.cells #[.int .i64 0, .string ⟨#[]⟩, .string ⟨#[]⟩, .bool false] 62)) = W0 at B ⊢
      | change Hid (Bx ((w.alloc (.cells #[.int .i64 (n : Int), .string T, .string R, .bool true] 62)).alloc (.cells #[.int .i64 0, .string ⟨#[]⟩, .string ⟨#[]⟩, .bool false] 62)) _ _ ∧ Bx ((w.alloc (.cells #[.int .i64 (n : Int), .string T, .string R, .bool true] 62)).alloc (.cells #[.int .i64 0, .string ⟨#[]⟩, .string ⟨#[]⟩, .bool false] 62)) _ _ ∧ Q w ((w.alloc (.cells #[.int .i64 (n : Int), .string T, .string R, .bool true] 62)).alloc (.cells #[.int .i64 0, .string ⟨#[]⟩, .string ⟨#[]⟩, .bool false] 62))) at B
        generalize ((w.alloc (.cells #[.int .i64 (n : Int), .string T, .string R, .bool true] 62)).alloc (.cells #[.int .i64 0, .string ⟨#[]⟩, .string ⟨#[]⟩, .bool false] 62)) = W0 at B ⊢
      obtain ⟨⟨x0, x1, x2, x3⟩, _⟩ := B.out.1.get4
      go_wp2_with fail
      refine (K1.out _).mono ?_
      rintro e w1 ⟨rfl, q1⟩
      have X := Lib.hid (And.intro (B.out.1.q q1) (And.intro (B.out.2.1.q q1) (B.out.2.2.trans q1)))
      clear q1 x0 x1 x2 x3 B
      obtain ⟨⟨x0, x1, x2, x3⟩, _⟩ := X.out.1.get4
      obtain ⟨⟨y0, y1, y2, y3⟩, y4, y5, y6, y7⟩ := X.out.2.1.get4
      go_wp2
      obtain ⟨⟨r0, r1, r2', r3⟩, _⟩ := (X.out.2.1.put4 (.int .i64 (v : Int)) (.string ⟨#[]⟩) (.string R2) (.bool true)).get4
      refine bodyPost_ret (v := .agg #[.int .i64 (v : Int), .string ⟨#[]⟩, .string R2, .bool true]) (by simp [results, Tryd.results27, go_sem, r0, r1, r2', r3]) rfl ?_
      exact ⟨rfl, X.out.2.2.set4 (b := w.heap.size + 1) (by omega) _ _ _ _⟩
set_option maxHeartbeats 2000000 in
theorem reads_any (p : Pt) (m : Int) (w : World) (hr : p.rest.length ≤ 4611686018427387904) (hm : 0 ≤ m ∧ m ≤ 1000000) :
    Calls Tryd.prog 28 #[ptV p, .int .i64 m] w fun e w' => e = .returned (ptV (tkt m p)) ∧ Q w w' := by
  obtain ⟨n, t, r, b⟩ := p
  have K1 := Lib.hid (fun W => refTakeText_any (ba r) m W (by rw [ba_size]; unfold maxLen; simp only at hr; omega) (by omega) (by omega))
  rw [ba_data] at K1
  have htk : tkt m ⟨n, t, r, b⟩ = if b = false ∨ (Dm.ttext r m).2.2 ≠ 0 then pz else ⟨0, (Dm.ttext r m).1, (Dm.ttext r m).2.1, true⟩ := rfl
  rw [htk]
  generalize Dm.ttext r m = x at K1 ⊢
  obtain ⟨v, r2, er⟩ := x
  unfold ttR at K1
  simp only at K1 ⊢
  change Hid (∀ W, Calls _ _ _ W fun e w' => e = .returned (.tuple #[.string (ba v), .string (ba r2), .int .i64 (er : Int)]) ∧ Q W w') at K1
  have B := Lib.hid (pt_new w n (ba t) (ba r) b)
  clear hr htk
  have hz : ptV pz = .agg #[.int .i64 0, .string ⟨#[]⟩, .string ⟨#[]⟩, .bool false] := rfl
  show Calls _ _ #[.agg #[.int .i64 (n : Int), .string (ba t), .string (ba r), .bool b], .int .i64 m] _ _
  generalize ba r = R at K1 B ⊢
  generalize ba t = T at B ⊢
  by_cases hbad : b = false ∨ er ≠ 0
  · rw [if_pos hbad, hz]
    have hfin : (b = false) ∨ (b = true ∧ er ≠ 0) := by
      cases b with
      | false => exact .inl rfl
      | true => exact .inr ⟨rfl, hbad.resolve_left (by simp)⟩
    clear hz hbad
    rcases hfin with hb | ⟨hb, he⟩
    all_goals
      subst hb
      try subst he
      first
      | have hne : ¬ (er : Int) = 0 := by omega
      | skip
      go_enter Tryd.func28, Tryd.ntmps28
      go_upto_region 1 with (fail)
      first
      | change Hid (Bx ((w.alloc (.cells #[.int .i64 (n : Int), .string T, .string R, .bool false] 62)).alloc (.cells #[.int .i64 0, .string ⟨#[]⟩, .string ⟨#[]⟩, .bool false] 62)) _ _ ∧ Bx ((w.alloc (.cells #[.int .i64 (n : Int), .string T, .string R, .bool false] 62)).alloc (.cells #[.int .i64 0, .string ⟨#[]⟩, .string ⟨#[]⟩, .bool false] 62)) _ _ ∧ Q w ((w.alloc (.cells #[.int .i64 (n : Int), .string T, .string R, .bool false] 62)).alloc (.cells #[.int .i64 0, .string ⟨#[]⟩, .string ⟨#[]⟩, .bool false] 62))) at B
        generalize ((w.alloc (.cells #[.int .i64 (n : Int), .string T, .string R, .bool false] 62)).alloc (.cells #[.int .i64 0, .string ⟨#[]⟩, .string ⟨#[]⟩, .bool false] 62)) = W0 at B ⊢
      | change Hid (Bx ((w.alloc (.cells #[.int .i64 (n : Int), .string T, .string R, .bool true] 62)).alloc (.cells #[.int .i64 0, .string ⟨#[]⟩, .string ⟨#[]⟩, .bool false] 62)) _ _ ∧ Bx ((w.alloc (.cells #[.int .i64 (n : Int), .string T, .string R, .bool true] 62)).alloc (.cells #[.int .i64 0, .string ⟨#[]⟩, .string ⟨#[]⟩, .bool false] 62)) _ _ ∧ Q w ((w.alloc (.cells #[.int .i64 (n : Int), .string T, .string R, .bool true] 62)).alloc (.cells #[.int .i64 0, .string ⟨#[]⟩, .string ⟨#[]⟩, .bool false] 62))) at B
        generalize ((w.alloc (.cells #[.int .i64 (n : Int), .string T, .string R, .bool true] 62)).alloc (.cells #[.int .i64 0, .string ⟨#[]⟩, .string ⟨#[]⟩, .bool false] 62)) = W0 at B ⊢
      obtain ⟨⟨x0, x1, x2, x3⟩, _⟩ := B.out.1.get4
      go_wp2_with fail
      refine (K1.out _).mono ?_
      rintro e w1 ⟨rfl, q1⟩
      have X := Lib.hid (And.intro (B.out.1.q q1) (And.intro (B.out.2.1.q q1) (B.out.2.2.trans q1)))
      clear q1 x0 x1 x2 x3 B
      obtain ⟨⟨x0, x1, x2, x3⟩, _⟩ := X.out.1.get4
      obtain ⟨⟨y0, y1, y2, y3⟩, y4, y5, y6, y7⟩ := X.out.2.1.get4
      go_wp2
      obtain ⟨⟨r0, r1, r2', r3⟩, _⟩ := (X.out.2.1.put4 (.int .i64 0) (.string ⟨#[]⟩) (.string ⟨#[]⟩) (.bool false)).get4
      refine bodyPost_ret (v := .agg #[.int .i64 0, .string ⟨#[]⟩, .string ⟨#[]⟩, .bool false]) (by simp [results, Tryd.results28, go_sem, r0, r1, r2', r3]) rfl ?_
      exact ⟨rfl, X.out.2.2.set4 (b := w.heap.size + 1) (by omega) _ _ _ _⟩
  · rw [if_neg hbad]
    have hb : b = true := by cases b with | true => rfl | false => exact absurd (.inl rfl) hbad
    have he : er = 0 := Classical.byContradiction fun h => hbad (.inr h)
    subst hb he
    clear hbad hz
    show Calls _ _ _ _ fun e w' => e = .returned (.agg #[.int .i64 0, .string (ba v), .string (ba r2), .bool true]) ∧ Q w w'
    generalize ba r2 = R2 at K1 ⊢
    generalize ba v = V2 at K1 ⊢
    all_goals
      go_enter Tryd.func28, Tryd.ntmps28
      go_upto_region 1 with (fail)
      first
      | change Hid (Bx ((w.alloc (.cells #[.int .i64 (n : Int), .string T, .string R, .bool false] 62)).alloc (.cells #[.int .i64 0, .string ⟨#[]⟩, .string ⟨#[]⟩, .bool false] 62)) _ _ ∧ Bx ((w.alloc (.cells #[.int .i64 (n : Int), .string T, .string R, .bool false] 62)).alloc (.cells #[.int .i64 0, .string ⟨#[]⟩, .string ⟨#[]⟩, .bool false] 62)) _ _ ∧ Q w ((w.alloc (.cells #[.int .i64 (n : Int), .string T, .string R, .bool false] 62)).alloc (.cells #[.int .i64 0, .string ⟨#[]⟩, .string ⟨#[]⟩, .bool false] 62))) at B
        generalize ((w.alloc (.cells #[.int .i64 (n : Int), .string T, .string R, .bool false] 62)).alloc (.cells #[.int .i64 0, .string ⟨#[]⟩, .string ⟨#[]⟩, .bool false] 62)) = W0 at B ⊢
      | change Hid (Bx ((w.alloc (.cells #[.int .i64 (n : Int), .string T, .string R, .bool true] 62)).alloc (.cells #[.int .i64 0, .string ⟨#[]⟩, .string ⟨#[]⟩, .bool false] 62)) _ _ ∧ Bx ((w.alloc (.cells #[.int .i64 (n : Int), .string T, .string R, .bool true] 62)).alloc (.cells #[.int .i64 0, .string ⟨#[]⟩, .string ⟨#[]⟩, .bool false] 62)) _ _ ∧ Q w ((w.alloc (.cells #[.int .i64 (n : Int), .string T, .string R, .bool true] 62)).alloc (.cells #[.int .i64 0, .string ⟨#[]⟩, .string ⟨#[]⟩, .bool false] 62))) at B
        generalize ((w.alloc (.cells #[.int .i64 (n : Int), .string T, .string R, .bool true] 62)).alloc (.cells #[.int .i64 0, .string ⟨#[]⟩, .string ⟨#[]⟩, .bool false] 62)) = W0 at B ⊢
      obtain ⟨⟨x0, x1, x2, x3⟩, _⟩ := B.out.1.get4
      go_wp2_with fail
      refine (K1.out _).mono ?_
      rintro e w1 ⟨rfl, q1⟩
      have X := Lib.hid (And.intro (B.out.1.q q1) (And.intro (B.out.2.1.q q1) (B.out.2.2.trans q1)))
      clear q1 x0 x1 x2 x3 B
      obtain ⟨⟨x0, x1, x2, x3⟩, _⟩ := X.out.1.get4
      obtain ⟨⟨y0, y1, y2, y3⟩, y4, y5, y6, y7⟩ := X.out.2.1.get4
      go_wp2
      obtain ⟨⟨r0, r1, r2', r3⟩, _⟩ := (X.out.2.1.put4 (.int .i64 0) (.string V2) (.string R2) (.bool true)).get4
      refine bodyPost_ret (v := .agg #[.int .i64 0, .string V2, .string R2, .bool true]) (by simp [results, Tryd.results28, go_sem, r0, r1, r2', r3]) rfl ?_
      exact ⟨rfl, X.out.2.2.set4 (b := w.heap.size + 1) (by omega) _ _ _ _⟩
end Wi
end Go.Proofs.YtdipikdebapmlaaDoor
