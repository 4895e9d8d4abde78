/- Contracts: frame.texts, its iterator. -/
import Derived.Test.YthcdcjidoacalaaFrameMath
import Derived.Test.YthcdcjidoacalaaTextK
import Derived.Test.YthcdcjidoacalaaDecTakeNum
import Derived.RangeFuncBox
import Derived.RangeFuncNested
import Derived.RangeFuncBound
import Derived.RangeFuncCalls
import Derived.RangeFuncLeaves
import Derived.Shelf.Abstract
import Derived.Shelf.RegionOpen
import Derived.WalkKit
import Derived.OwnWalkIn
import Derived.TacticsInMore
import Derived.LoopNIn
import Derived.LoopIn
import Derived.Maps.AppendAt
namespace Go.Proofs.Ythcdcjidoacalaa
set_option maxRecDepth 100000
open Go.RowKit Go.Shelf
set_option linter.unusedVariables false
namespace Fm
attribute [local go_sem] Oper.semAt_some

/-! ### What comes, in plain mathematics -/
abbrev Te := ByteArray × Int
def encT (x : Te) : Array Value := #[.string x.1, .int .i64 x.2]
def ends : Nat → List (List UInt8) → List Te
  | _, [] => []
  | o, r :: rs => (tx r, ((o + (wrap r).length : Nat) : Int)) :: ends (o + (wrap r).length) rs
theorem ends_snoc (r : List UInt8) : ∀ (us : List (List UInt8)) (o : Nat), ends o (us ++ [r]) = ends o us ++ [(tx r, ((o + (wraps us).length + (wrap r).length : Nat) : Int))]
  | [], o => by simp [ends, wraps]
  | u :: us, o => by
    simp only [List.cons_append, ends, ends_snoc r us, wraps, List.length_append]
    rw [show o + (wrap u).length + (wraps us).length + (wrap r).length = o + ((wrap u).length + (wraps us).length) + (wrap r).length by omega]
theorem ends_len : ∀ (rs : List (List UInt8)) (o : Nat), (ends o rs).length = rs.length
  | [], _ => rfl
  | r :: rs, o => by simp [ends, ends_len rs]
theorem ends_fst : ∀ (rs : List (List UInt8)) (o : Nat), (ends o rs).map (fun x => Value.string x.1) = textK.rows rs
  | [], _ => rfl
  | r :: rs, o => by rw [ends, List.map_cons, ends_fst rs]; rfl
def lastT (l : List Te) : Int := (l.getLast?.map (·.2)).getD 0
theorem lastT_snoc (l : List Te) (x : Te) : lastT (l ++ [x]) = x.2 := by simp [lastT]
theorem lastT_ends (rs : List (List UInt8)) : lastT (ends 0 rs) = ((wraps rs).length : Int) := by
  rcases List.eq_nil_or_concat rs with rfl | ⟨us, r, rfl⟩
  · rfl
  · rw [List.concat_eq_append, ends_snoc, lastT_snoc, wraps_app]
    simp only [wraps, List.length_append, List.append_nil]
    omega

def strSz : Value → Nat
  | .string s => s.size
  | _ => 0
theorem fgrown_q {w w' : World} (h : Q w w') : w.grownBy w' none := ⟨h.below.os, h.below.tape, h.below.output, h.below.size, fun k hk _ => h.below.block k hk⟩

theorem ftexts_any (s : ByteArray) (w : World) :
    Calls Try.prog 19 #[.string s] w fun e w' => e = .returned (.func (.func 25) #[] #[.pointer (some ⟨w.heap.size, 0, none⟩)]) ∧ w' = w.alloc (.cells #[.string s] 9) := by
  go_enter Try.func19, Try.ntmps19
  go_wp2
  go_ret
  exact ⟨rfl, rfl⟩

/-- what a round keeps: the text's box. -/
def KpT (b : Nat) (W W' : World) : Prop := ∀ v, W.cell? ⟨b, 0, none⟩ = some v → W'.cell? ⟨b, 0, none⟩ = some v
theorem kpT_t {b : Nat} {A B C : World} (h : KpT b A B) (k : KpT b B C) : KpT b A C := fun v hv => k v (h v hv)
theorem kpT_b {b : Nat} {w : World} (hb : b < w.heap.size) (W : World) (l : Nat) (o o' : Obj) (hl : w.heap.size ≤ l) (h : W.heap[l]? = some o) (_ : o.isCells = false) (_ : o.isWalk = false) : KpT b W (W.putObj l o') := fun v hv => by
  have e : (W.putObj l o').heap[b]? = W.heap[b]? := World.putObj_heap_other (by omega)
  simp only [World.cell?] at hv ⊢
  rw [e]; exact hv

set_option maxHeartbeats 1000000 in
theorem fiter_any (n : Nat) (hn : 1 ≤ n) (l b : Nat) (s : ByteArray) (hs : s.size ≤ maxLen) (J Jx : List Te → World → Prop) (W : World) (hJ : AbidesFrom W.heap.size J)
    (hY : ∀ pre x W1, J pre W1 → pre.length < (wh s.data.toList).1.length → YieldAt Fence.wide (n - 1) Try.prog l (encT x) W1 fun e W' =>
      (e = .returned (.bool true) ∧ J (pre ++ [x]) W' ∧ KpT b W1 W') ∨ (e = .returned (.bool false) ∧ Jx (pre ++ [x]) W'))
    (hc : W.cell? ⟨b, 0, none⟩ = some (.string s)) (hb : b < W.heap.size) (h0 : J [] W) :
    CallsIn Fence.wide n Try.prog 25 #[.func (.yield l) #[] #[], .pointer (some ⟨b, 0, none⟩)] W fun e W' => (∃ v, e = .returned v) ∧
      ((∃ ys, ys = ends 0 (wh s.data.toList).1 ∧ J ys W') ∨ (∃ pre, True ∧ Jx pre W')) := by
  refine callsIn_of_wp Try.func25 rfl trivial ?_ rfl
  simp only [Try.ntmps25, List.size_toArray, List.length_cons, List.length_nil, Nat.reduceAdd, Nat.reduceSub, Array.replicate_succ, Array.replicate_zero, List.push_toArray, List.append_toArray, List.nil_append, List.cons_append]
  have hEq := wh_eq s.data.toList
  have hLe := wh_le s.data.toList
  have hNo := wh_stop s.data.toList
  have HY := Lib.hid hY
  have HJ := Lib.hid hJ
  have H0 := Lib.hid h0
  have HS := Lib.hid hs
  clear hY hJ h0
  gi_wp2
  gi_loopw [3] (fun p wr => ∃ us vs, p = .string (tx (wraps vs ++ (wh s.data.toList).2)) ∧ (wh s.data.toList).1 = us ++ vs ∧ J (ends 0 us) wr ∧ wr.cell? ⟨b, 0, none⟩ = some (.string s)) (fun p _ => strSz p)
  case atStart =>
    exact ⟨[], (wh s.data.toList).1, by rw [← hEq]; rfl, rfl, H0.out, hc⟩
  case round =>
    obtain ⟨us, vs, rfl, hx, hJs, hcs⟩ := hrel
    have hlen : (wraps vs ++ (wh s.data.toList).2).length ≤ s.size := by
      have h1 := congrArg List.length hEq
      rw [hx, wraps_app, size_list] at h1
      simp only [List.length_append] at h1 ⊢
      omega
    have hO := takeText_any (tx (wraps vs ++ (wh s.data.toList).2)) 2048 wr (by rw [tx_size]; have := HS.out; omega) (by omega) (by omega)
    rw [list_tx] at hO
    have hblt : b < wr.heap.size := block_lt_of_cell hcs
    cases vs with
    | nil =>
      rw [show wraps [] = [] from rfl, List.nil_append] at hO
      rw [show wraps [] = [] from rfl, List.nil_append]
      have hno := hNo
      generalize (wh s.data.toList).2 = t at hO hno
      change (Dm.ttext t 2048).2.2 ≠ 0 at hno
      generalize Dm.ttext t 2048 = r at hO hno
      obtain ⟨x, y, k⟩ := r
      simp only [ttR] at hO
      have hk : ((k : Int) != 0) = true := by simpa using hno
      have hx' : ends 0 us = ends 0 (wh s.data.toList).1 := by rw [hx, List.append_nil]
      clear hEq hLe hNo
      gi_wp2_with (fail)
      refine ⟨trivial, ?_⟩
      refine (callsIn_wide.2 hO).mono ?_
      rintro e W2 ⟨rfl, q2⟩
      have hJ2 : J (ends 0 us) W2 := HJ.out _ _ _ none hJs (fgrown_q q2) (by intro r e; cases e)
      gi_wp2
      refine ⟨fun _ h => (by cases h), ?_⟩
      gi_wp2
      refine bodyPost_ret (results_none rfl _ _ _) rfl ?_
      exact ⟨⟨_, rfl⟩, .inl ⟨_, hx', hJ2⟩⟩
    | cons r vs =>
      have hr : r.length ≤ 2048 := hLe r (by rw [hx]; simp)
      have hw : wraps (r :: vs) ++ (wh s.data.toList).2 = wrap r ++ (wraps vs ++ (wh s.data.toList).2) := by rw [wraps, List.append_assoc]
      rw [hw] at hO hlen ⊢
      have htt := tt_wrap (wraps vs ++ (wh s.data.toList).2) hr
      unfold tt at htt
      rw [htt] at hO
      simp only [ttR] at hO
      have h4 := wrap_len r
      have hBs := tx_size (wraps vs ++ (wh s.data.toList).2)
      have hend : (s.size : Int) - ((tx (wraps vs ++ (wh s.data.toList).2)).size : Int) = ((0 + (wraps us).length + (wrap r).length : Nat) : Int) := by
        have h1 := congrArg List.length hEq
        rw [hx, wraps_app, size_list] at h1
        rw [tx_size]
        simp only [wraps, List.length_append] at h1 ⊢
        omega
      have hend2 : wrap64 ((s.size : Int) - ((tx (wraps vs ++ (wh s.data.toList).2)).size : Int)) = ((0 + (wraps us).length + (wrap r).length : Nat) : Int) := by
        rw [hend]; have h2 := HS.out; have h3 := congrArg List.length hEq
        rw [hx, wraps_app, size_list] at h3
        simp only [wraps, List.length_append] at h3
        unfold maxLen at h2; unfold wrap64; omega
      have HE := Lib.hid hend2
      clear hend hend2 hw htt
      have hBle : (tx (wraps vs ++ (wh s.data.toList).2)).size ≤ s.size := by rw [hBs]; simp only [List.length_append] at hlen ⊢; omega
      change Calls _ _ _ _ fun e w' => e = .returned (.tuple #[.string (tx r), .string (tx (wraps vs ++ (wh s.data.toList).2)), .int .i64 0]) ∧ Q wr w' at hO
      have HL := Lib.hid (And.intro hlen (And.intro hBs hx))
      have hms : strSz (.string (tx (wraps vs ++ (wh s.data.toList).2))) < strSz (.string (tx (wrap r ++ (wraps vs ++ (wh s.data.toList).2)))) := by
        simp only [strSz, tx_size, List.length_append]; omega
      clear hlen hBs hx hEq hLe hNo
      gi_wp2_with (fail)
      refine ⟨trivial, ?_⟩
      refine (callsIn_wide.2 hO).mono ?_
      rintro e W2 ⟨rfl, q2⟩
      have hJ2 : J (ends 0 us) W2 := HJ.out _ _ _ none hJs (fgrown_q q2) (by intro r e; cases e)
      have hc2 : W2.cell? ⟨b, 0, none⟩ = some (.string s) := (q2.below.cell (p := ⟨b, 0, none⟩) hblt).trans hcs
      obtain ⟨fn, tmps, assign, body, hy, hR⟩ := HY.out (ends 0 us) (tx r, wrap64 ((s.size : Int) - ((tx (wraps vs ++ (wh s.data.toList).2)).size : Int))) W2 hJ2 (by rw [ends_len, HL.out.2.2]; simp)
      dsimp only [encT] at hy
      gi_wp2
      refine hR.mono ?_
      rintro e W3 (⟨rfl, hJ3, hk3⟩ | ⟨rfl, hJx3⟩)
      · have hc3 : W3.cell? ⟨b, 0, none⟩ = some (.string s) := hk3 _ hc2
        have HM := Lib.hid hms
        clear hms
        gi_wp2
        go_roundw
        case rel => exact ⟨us ++ [r], vs, rfl, by rw [HL.out.2.2]; simp, by rw [ends_snoc, ← HE.out]; exact hJ3, hc3⟩
        case measure => exact HM.out
      · gi_wp2
        refine bodyPost_ret (results_none rfl _ _ _) rfl ?_
        exact ⟨⟨_, rfl⟩, .inr ⟨_, trivial, hJx3⟩⟩

theorem fstops_any (n : Nat) (hn : 1 ≤ n) (b : Nat) (s : ByteArray) (hs : s.size ≤ maxLen) (w : World) (hb : b < w.heap.size) (hc : w.cell? ⟨b, 0, none⟩ = some (.string s)) :
    SeqStopsK Fence.wide n Try.prog 25 #[.pointer (some ⟨b, 0, none⟩)] encT (KpT b) (fun ys => ys = ends 0 (wh s.data.toList).1) (fun _ => True) (wh s.data.toList).1.length w := fun l J Jx W hW hJ hJx hY h0 =>
  fiter_any n hn l b s hs J Jx W hJ hY ((hW.cell (p := ⟨b, 0, none⟩) hb).trans hc) (Nat.lt_of_lt_of_le hb hW.size) h0
end Fm
end Go.Proofs.Ythcdcjidoacalaa
