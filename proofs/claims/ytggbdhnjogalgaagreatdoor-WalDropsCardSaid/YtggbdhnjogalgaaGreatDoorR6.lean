/- WalScan, WalScan2, WalRec, DecRef, DecRefText, SumRefOpen, WalRefScan, DiskRef5, Odd: merged. -/
import Derived.Test.YtggbdhnjogalgaaGreatDoorR1
import Derived.RangeFuncBox
import Derived.RangeFuncNested
import Derived.RangeFuncBound
import Derived.RangeFuncCalls
import Derived.RangeFuncLeaves
import Derived.Shelf.Abstract
import Derived.Shelf.RegionOpen
import Derived.WalkKit
import Derived.OwnWalkIn
import Derived.TacticsInMore
import Derived.LoopNIn
import Derived.LoopIn
import Derived.Maps.AppendAt
import Derived.Test.YtggbdhnjogalgaaGreatDoorR5
import Derived.Test.YtggbdhnjogalgaaGreatDoorR3
/- Contracts: wal.records, its iterator, wal.Scan. -/
namespace Go.Proofs.YtggbdhnjogalgaaGreatDoor
set_option maxRecDepth 100000
open Go.RowKit Go.Shelf
set_option linter.unusedVariables false
attribute [local go_sem] Oper.semAt_some

/-! ### What comes, in plain mathematics -/
abbrev Pr := ByteArray × Int
def encP (x : Pr) : Array Value := #[.string x.1, .int .i64 x.2]
def bs (r : List UInt8) : ByteArray := ⟨r.toArray⟩
theorem list_bs (l : List UInt8) : (bs l).data.toList = l := rfl
theorem bs_size (l : List UInt8) : (bs l).size = l.length := by show l.toArray.size = _; simp
def prs : Nat → List (List UInt8) → List Pr
  | _, [] => []
  | o, r :: rs => (bs r, ((o + (sld r).length : Nat) : Int)) :: prs (o + (sld r).length) rs
theorem prs_snoc (r : List UInt8) : ∀ (us : List (List UInt8)) (o : Nat), prs o (us ++ [r]) = prs o us ++ [(bs r, ((o + (flat us).length + (sld r).length : Nat) : Int))]
  | [], o => by simp [prs, flat_nil]
  | u :: us, o => by
    simp only [List.cons_append, prs, prs_snoc r us, flat_cons, List.length_append]
    rw [show o + (sld u).length + (flat us).length + (sld r).length = o + ((sld u).length + (flat us).length) + (sld r).length by omega]
theorem prs_len : ∀ (rs : List (List UInt8)) (o : Nat), (prs o rs).length = rs.length
  | [], _ => rfl
  | r :: rs, o => by simp [prs, prs_len rs]
theorem prs_fst : ∀ (rs : List (List UInt8)) (o : Nat), (prs o rs).map (fun x => Value.string x.1) = rs.map (fun r => Value.string (bs r))
  | [], _ => rfl
  | r :: rs, o => by simp [prs, prs_fst rs]
def lastE (l : List Pr) : Int := (l.getLast?.map (·.2)).getD 0
theorem lastE_snoc (l : List Pr) (x : Pr) : lastE (l ++ [x]) = x.2 := by simp [lastE]
theorem lastE_prs (rs : List (List UInt8)) : lastE (prs 0 rs) = ((flat rs).length : Int) := by
  rcases List.eq_nil_or_concat rs with rfl | ⟨us, r, rfl⟩
  · rfl
  · rw [List.concat_eq_append, prs_snoc, lastE_snoc, flat_app, flat_cons, flat_nil]
    simp only [List.length_append, List.append_nil]
    omega

def strSize : Value → Nat
  | .string s => s.size
  | _ => 0
theorem grown_q {w w' : World} (h : Q w w') : w.grownBy w' none := ⟨h.below.os, h.below.tape, h.below.output, h.below.size, fun k hk _ => h.below.block k hk⟩

theorem records_any (s : ByteArray) (w : World) :
    Calls Tryz.prog 38 #[.string s] w fun e w' => e = .returned (.func (.func 63) #[] #[.pointer (some ⟨w.heap.size, 0, none⟩)]) ∧ w' = w.alloc (.cells #[.string s] 9) := by
  go_enter Tryz.func38, Tryz.ntmps38
  go_wp2
  go_ret
  exact ⟨rfl, rfl⟩

/-- what a round keeps: the text's box. -/
def KpB (b : Nat) (W W' : World) : Prop := ∀ v, W.cell? ⟨b, 0, none⟩ = some v → W'.cell? ⟨b, 0, none⟩ = some v
theorem kpB_t {b : Nat} {A B C : World} (h : KpB b A B) (k : KpB b B C) : KpB b A C := fun v hv => k v (h v hv)
theorem kpB_b {b : Nat} {w : World} (hb : b < w.heap.size) (W : World) (l : Nat) (o o' : Obj) (hl : w.heap.size ≤ l) (h : W.heap[l]? = some o) (_ : o.isCells = false) (_ : o.isWalk = false) : KpB b W (W.putObj l o') := fun v hv => by
  have e : (W.putObj l o').heap[b]? = W.heap[b]? := World.putObj_heap_other (by omega)
  simp only [World.cell?] at hv ⊢
  rw [e]; exact hv

set_option maxHeartbeats 1000000 in
theorem iter_any (n : Nat) (hn : 1 ≤ n) (l b : Nat) (s : ByteArray) (hs : s.size ≤ maxLen) (J Jx : List Pr → World → Prop) (W : World) (hJ : AbidesFrom W.heap.size J)
    (hY : ∀ pre x W1, J pre W1 → pre.length < (scn s.data.toList).1.length → YieldAt Fence.wide (n - 1) Tryz.prog l (encP x) W1 fun e W' =>
      (e = .returned (.bool true) ∧ J (pre ++ [x]) W' ∧ KpB b W1 W') ∨ (e = .returned (.bool false) ∧ Jx (pre ++ [x]) W'))
    (hc : W.cell? ⟨b, 0, none⟩ = some (.string s)) (hb : b < W.heap.size) (h0 : J [] W) :
    CallsIn Fence.wide n Tryz.prog 63 #[.func (.yield l) #[] #[], .pointer (some ⟨b, 0, none⟩)] W fun e W' => (∃ v, e = .returned v) ∧
      ((∃ ys, ys = prs 0 (scn s.data.toList).1 ∧ J ys W') ∨ (∃ pre, True ∧ Jx pre W')) := by
  refine callsIn_of_wp Tryz.func63 rfl trivial ?_ rfl
  simp only [Tryz.ntmps63, List.size_toArray, List.length_cons, List.length_nil, Nat.reduceAdd, Nat.reduceSub, Array.replicate_succ, Array.replicate_zero, List.push_toArray, List.append_toArray, List.nil_append, List.cons_append]
  have hS0 := scd s.data.toList
  have HY := Lib.hid hY
  have HJ := Lib.hid hJ
  have H0 := Lib.hid h0
  have HS := Lib.hid hs
  clear hY hJ h0
  gi_wp2
  gi_loopw [3] (fun p wr => ∃ us vs, p = .string (bs (flat vs ++ (scn s.data.toList).2)) ∧ (scn s.data.toList).1 = us ++ vs ∧ J (prs 0 us) wr ∧ wr.cell? ⟨b, 0, none⟩ = some (.string s)) (fun p _ => strSize p)
  case atStart =>
    exact ⟨[], (scn s.data.toList).1, by rw [← hS0.eq]; rfl, rfl, H0.out, hc⟩
  case round =>
    obtain ⟨us, vs, rfl, hx, hJs, hcs⟩ := hrel
    have hlen : (flat vs ++ (scn s.data.toList).2).length ≤ s.size := by
      have h1 := congrArg List.length hS0.eq
      rw [hx, flat_app, size_list] at h1
      simp only [List.length_append] at h1 ⊢
      omega
    have hO := sopen_any (bs (flat vs ++ (scn s.data.toList).2)) 2048 wr (by rw [bs_size]; have := HS.out; omega) (by omega) (by omega)
    rw [list_bs] at hO
    have hblt : b < wr.heap.size := block_lt_of_cell hcs
    cases vs with
    | nil =>
      rw [flat_nil, List.nil_append] at hO
      rw [flat_nil, List.nil_append]
      have hno := hS0.no
      generalize (scn s.data.toList).2 = t at hO hno
      generalize topen t 2048 = r at hO hno
      obtain ⟨x, y, k⟩ := r
      simp only [ttR] at hO
      have hk : ((k : Int) != 0) = true := by simpa using hno
      have hx' : prs 0 us = prs 0 (scn s.data.toList).1 := by rw [hx, List.append_nil]
      gi_wp2_with (fail)
      refine ⟨trivial, ?_⟩
      refine (callsIn_wide.2 hO).mono ?_
      rintro e W2 ⟨rfl, q2⟩
      have hJ2 : J (prs 0 us) W2 := HJ.out _ _ _ none hJs (grown_q q2) (by intro r e; cases e)
      gi_wp2
      refine ⟨fun _ h => (by cases h), ?_⟩
      gi_wp2
      refine bodyPost_ret (results_none rfl _ _ _) rfl ?_
      exact ⟨⟨_, rfl⟩, .inl ⟨_, hx', hJ2⟩⟩
    | cons r vs =>
      have hr : r.length ≤ 2048 := hS0.le r (by rw [hx]; simp)
      rw [flat_cons, List.append_assoc] at hO hlen ⊢
      rw [open_one r _ hr] at hO
      simp only [ttR] at hO
      have h4 := sld_four r
      have hBs := bs_size (flat vs ++ (scn s.data.toList).2)
      have hend : (s.size : Int) - ((bs (flat vs ++ (scn s.data.toList).2)).size : Int) = ((0 + (flat us).length + (sld r).length : Nat) : Int) := by
        have h1 := congrArg List.length hS0.eq
        rw [hx, flat_app, flat_cons, size_list] at h1
        rw [bs_size]
        simp only [List.length_append] at h1 ⊢
        omega
      have hend2 : wrap64 ((s.size : Int) - ((bs (flat vs ++ (scn s.data.toList).2)).size : Int)) = ((0 + (flat us).length + (sld r).length : Nat) : Int) := by
        rw [hend]; have h2 := HS.out; have h3 := congrArg List.length hS0.eq
        rw [hx, flat_app, flat_cons, size_list] at h3
        simp only [List.length_append] at h3
        unfold maxLen at h2; unfold wrap64; omega
      have HE := Lib.hid hend2
      clear hend hend2
      have hBle : (bs (flat vs ++ (scn s.data.toList).2)).size ≤ s.size := by rw [hBs]; simp only [List.length_append] at hlen ⊢; omega
      change Calls _ _ _ _ fun e w' => e = .returned (.tuple #[.string (bs r), .string (bs (flat vs ++ (scn s.data.toList).2)), .int .i64 0]) ∧ Q wr w' at hO
      have HL := Lib.hid (And.intro hlen (And.intro hBs hx))
      have hms : strSize (.string (bs (flat vs ++ (scn s.data.toList).2))) < strSize (.string (bs (sld r ++ (flat vs ++ (scn s.data.toList).2)))) := by
        simp only [strSize, bs_size, List.length_append]; omega
      clear hlen hBs hx
      gi_wp2_with (fail)
      refine ⟨trivial, ?_⟩
      refine (callsIn_wide.2 hO).mono ?_
      rintro e W2 ⟨rfl, q2⟩
      have hJ2 : J (prs 0 us) W2 := HJ.out _ _ _ none hJs (grown_q q2) (by intro r e; cases e)
      have hc2 : W2.cell? ⟨b, 0, none⟩ = some (.string s) := (q2.below.cell (p := ⟨b, 0, none⟩) hblt).trans hcs
      obtain ⟨fn, tmps, assign, body, hy, hR⟩ := HY.out (prs 0 us) (bs r, wrap64 ((s.size : Int) - ((bs (flat vs ++ (scn s.data.toList).2)).size : Int))) W2 hJ2 (by rw [prs_len, HL.out.2.2]; simp)
      dsimp only [encP] at hy
      gi_wp2
      refine hR.mono ?_
      rintro e W3 (⟨rfl, hJ3, hk3⟩ | ⟨rfl, hJx3⟩)
      · have hc3 : W3.cell? ⟨b, 0, none⟩ = some (.string s) := hk3 _ hc2
        have HM := Lib.hid hms
        clear hms
        gi_wp2
        go_roundw
        case rel => exact ⟨us ++ [r], vs, rfl, by rw [HL.out.2.2]; simp, by rw [prs_snoc, ← HE.out]; exact hJ3, hc3⟩
        case measure => exact HM.out
      · gi_wp2
        refine bodyPost_ret (results_none rfl _ _ _) rfl ?_
        exact ⟨⟨_, rfl⟩, .inr ⟨_, trivial, hJx3⟩⟩

theorem stops_any (n : Nat) (hn : 1 ≤ n) (b : Nat) (s : ByteArray) (hs : s.size ≤ maxLen) (w : World) (hb : b < w.heap.size) (hc : w.cell? ⟨b, 0, none⟩ = some (.string s)) :
    SeqStopsK Fence.wide n Tryz.prog 63 #[.pointer (some ⟨b, 0, none⟩)] encP (KpB b) (fun ys => ys = prs 0 (scn s.data.toList).1) (fun _ => True) (scn s.data.toList).1.length w := fun l J Jx W hW hJ hJx hY h0 =>
  iter_any n hn l b s hs J Jx W hJ hY ((hW.cell (p := ⟨b, 0, none⟩) hb).trans hc) (Nat.lt_of_lt_of_le hb hW.size) h0
end Go.Proofs.YtggbdhnjogalgaaGreatDoor

/- The contract of wal.Scan. -/
namespace Go.Proofs.YtggbdhnjogalgaaGreatDoor
set_option maxRecDepth 100000
open Go.RowKit Go.Shelf
set_option linter.unusedVariables false
attribute [local go_sem] Oper.semAt_some

theorem infoS : (Tryz.prog.info? 9).map (fun i => (i.zero, i.size, i.bytes)) = some (some (.string ⟨#[]⟩), 1, 16) := by kernel_rfl
theorem row_lower {w : World} {base b2 size n : Nat} {e : TypeId} {v : Value} {xs : List Value} (h : w.ownsRow base e size v n xs) (hb : b2 ≤ base) : w.ownsRow b2 e size v n xs := by
  refine ⟨h.1, ?_⟩
  rcases h.2 with h0 | ⟨g, cap, cur, e, hg, hh, r⟩
  · exact .inl h0
  · exact .inr ⟨g, cap, cur, e, by omega, hh, r⟩
/-- a block below the base lies as it lay, behind an append and stores elsewhere. -/
theorem cell_app {W w1 : World} {n₀ b B : Nat} {e : TypeId} {size k : Nat} {v v' u : Value} {xs : List Value} {tmp : Obj} (hrow : W.ownsRow n₀ e size v k xs) (hb : b < n₀) (hgrow : (W.alloc tmp).grownBy w1 v.ownBlock)
    (hB : B ≠ b) (hu : W.cell? ⟨b, 0, none⟩ = some u) : (w1.setCell ⟨B, 0, none⟩ v').cell? ⟨b, 0, none⟩ = some u := by
  have hlt : b < W.heap.size := block_lt_of_cell hu
  have h1 : (W.alloc tmp).cell? ⟨b, 0, none⟩ = some u := (((Below.refl _ W).alloc (Nat.le_refl _) tmp).cell (p := ⟨b, 0, none⟩) hlt).trans hu
  have h2 : w1.heap[b]? = (W.alloc tmp).heap[b]? := hgrow.block b (by simp; omega) (fun ej => by
    rcases hrow.2 with ⟨rfl, _⟩ | ⟨g, cap, cur, rfl, hg, _, _⟩
    · simp [Value.ownBlock] at ej
    · have : b = g := by simpa [Value.ownBlock] using ej
      omega)
  rw [World.cell?_setCell_other _ _ _ _ (by intro x; injection x with x; exact hB x)]
  simp only [World.cell?] at h1 ⊢
  rw [h2]; exact h1

/-- a list of texts in memory of the call's own. -/
def OwnS (w : World) (base : Nat) (A : Option Addr) (n c : Nat) (rs : List (List UInt8)) : Prop := w.ownsRow base 9 1 (.slice A n c) n (rs.map fun r => Value.string (bs r))

set_option maxHeartbeats 2000000 in
theorem scan_any (s : ByteArray) (w : World) (hs : s.size ≤ maxLen) (hbig : (scn s.data.toList).1.length * 16 ≤ 140737488355328) :
    Calls Tryz.prog 21 #[.string s] w fun e w' => ∃ A n c, e = .returned (.tuple #[.slice A n c, .int .i64 (used s.data.toList)]) ∧ OwnS w' w.heap.size A n c (scn s.data.toList).1 ∧ Q w w' := by
  obtain ⟨i0, hi, hz0, hz1, hz2⟩ := info_parts infoS
  refine (callsIn_wide (n := 6)).1 ?_
  refine callsIn_of_wp_marks Tryz.func21 rfl trivial ?_ rfl
  simp only [Tryz.ntmps21, List.size_toArray, List.length_cons, List.length_nil, Nat.reduceAdd, Nat.reduceSub, Array.replicate_succ, Array.replicate_zero, List.push_toArray, List.append_toArray, List.nil_append, List.cons_append]
  gi_wp2_with (refine ⟨trivial, ?_⟩; gi_at_call 38; refine (callsIn_wide.2 (records_any s _)).mono ?_; rintro e w' ⟨rfl, rfl⟩)
  have b1 := Boxed.new w 26 (.slice none 0 0)
  have b2 := Boxed.new (w.alloc (.cells #[.slice none 0 0] 26)) 3 (.int .i64 0)
  have b3 := Boxed.new ((w.alloc (.cells #[.slice none 0 0] 26)).alloc (.cells #[.int .i64 0] 3)) 9 (.string s)
  rw [World.size_alloc] at b2 b3
  rw [World.size_alloc] at b3
  have hml : (scn s.data.toList).1.length ≤ maxLen := by unfold maxLen; omega
  have hB0 : Below w.heap.size w (((w.alloc (.cells #[.slice none 0 0] 26)).alloc (.cells #[.int .i64 0] 3)).alloc (.cells #[.string s] 9)) := (((Q.refl w).alloc _).alloc _).alloc _
  refine wpIn_rangeFunc_ownG rfl (by omega) (gf := 63) (lb := #[.pointer (some ⟨w.heap.size + 1 + 1, 0, none⟩)]) rfl trivial (enters_of Tryz.func63 (by kernel_rfl) rfl)
    (stops_any (6 - 1) (by omega) (w.heap.size + 1 + 1) s hs _ (by simp) b3.cell) kpB_t (kpB_b (by simp)) (Below.refl _ _) (fun _ => rfl)
    (fun pre W => (∃ v, Boxed W w.heap.size 26 v ∧ W.ownsRow (w.heap.size + 3) 9 1 v pre.length (pre.map fun x => Value.string x.1) ∧ True) ∧ Boxed W (w.heap.size + 1) 3 (.int .i64 (lastE pre)) ∧ Below w.heap.size (((w.alloc (.cells #[.slice none 0 0] 26)).alloc (.cells #[.int .i64 0] 3)).alloc (.cells #[.string s] 9)) W)
    (fun _ _ _ => False)
    (OwnFrom.and (Own.from (holdsRow_own (w.heap.size + 3) w.heap.size 26 9 1 (fun pre : List Pr => pre.length) (fun pre => pre.map fun x => Value.string x.1) (fun _ _ => True)) _) (OwnFrom.and (Own.from (boxed_own (w.heap.size + 1) 3 (fun pre : List Pr => .int .i64 (lastE pre))) _) (ownFrom_below (by simp; omega) (by simp; omega))))
    (fun _ _ _ _ _ hs _ _ => hs)
    ⟨⟨_, (b1.alloc _).alloc _, World.ownsRow_nil _ _ _ _, trivial⟩, b2.alloc _, Below.refl _ _⟩
    (fun x => { tmps := #[.string s, undef, .slice none 0 0, .int .i64 0, .pointer (some ⟨w.heap.size, 0, none⟩), .pointer (some ⟨w.heap.size + 1, 0, none⟩), .string x.1, .int .i64 x.2, .string s, .func (.func 63) #[] #[.pointer (some ⟨w.heap.size + 1 + 1, 0, none⟩)], .string x.1, .int .i64 x.2, undef, undef, undef, undef, undef, undef, undef], defers := [] }) ?assign ?body ?done ?stop
  case assign =>
    intro l x W K hK
    simp only [encP]
    gi_wp2
    exact hK
  case body =>
    rintro l pre x W ⟨⟨v, hv, hrow, _⟩, hn, hB⟩ hlt
    have hc := hv.cell
    have hBs := hB.size
    have hwl := hn.lt
    have hle3 : w.heap.size + 3 ≤ W.heap.size := by have := hB.size; simp at this; omega
    have hBw : w.heap.size ≤ W.heap.size := by omega
    clear hBs
    gi_wp2_with (gi_at_builtin; refine wpListIn_append_own _ rfl _ _ 26 rfl (w.heap.size + 3) 9 i0 (.string ⟨#[]⟩) 1 16 Tryz.underlying26 hi hz0 hz1 hz2 rfl (by decide) _ _ _ rfl (hrow.alloc _) ⟨W.heap.size, 0, none⟩ 1 1 [.string x.1] rfl rfl (cell_one_new _ _ _) (by simp [Value.oneCell']) (by omega) (by omega) (by simp; omega) ?_; intro v' w1 hown' hgrow _; obtain ⟨g', cap', rfl⟩ := ownsRow_succ hown'; obtain ⟨hv1, hv2, hr2, hk2, hb2⟩ := hv.appended (by decide) (row_lower hrow (b2 := w.heap.size) (by omega)) hBw (Nat.le_refl _) (row_lower hown' (b2 := w.heap.size) (by omega)) hgrow; have hc1 := hv1.cell; have hf1 := hv1.frozen; have hn1 : Boxed w1 (w.heap.size + 1) 3 (.int .i64 (lastE pre)) := (hn.alloc _).kept hgrow (hn.not_row (by decide) hrow); have hc2 := hn1.cell; have hf2 := hn1.frozen)
    have hkp : KpB (w.heap.size + 1 + 1) W _ := fun u hu => cell_app (v' := Value.slice (some ⟨g', 0, none⟩) (pre.length + 1) cap') hrow (by omega) hgrow (B := w.heap.size) (by omega) hu
    have hn2 := (hn1.other (B' := w.heap.size) (by omega) (Value.slice (some ⟨g', 0, none⟩) (pre.length + 1) cap')).set (.int .i64 x.2)
    have hr3 : w1.ownsRow (w.heap.size + 3) 9 1 (Value.slice (some ⟨g', 0, none⟩) (pre.length + 1) cap') (pre.length + 1) (List.map (fun x => Value.string x.1) pre ++ [.string x.1]) := hown'
    have hr4 := (hr3.kept (grownBy_setCell' w1 w.heap.size (Value.slice (some ⟨g', 0, none⟩) (pre.length + 1) cap')) (.inr (hv1.not_row (by decide) hr3).symm))
    have hv3 := hv2.other (B' := w.heap.size + 1) (by omega) (.int .i64 x.2)
    have hr5 := hr4.kept (grownBy_setCell' _ (w.heap.size + 1) (.int .i64 x.2)) (.inr ((hn1.other (B' := w.heap.size) (by omega) (Value.slice (some ⟨g', 0, none⟩) (pre.length + 1) cap')).not_row (by decide) hr4).symm)
    refine ⟨(hk2.trans (KeepsOthers.setCell _ _ _)).from _, fun u hu => ?_, ⟨_, hv3, by simpa using hr5, trivial⟩, by rw [lastE_snoc]; exact hn2, hB.trans (hb2.setCell (p := ⟨w.heap.size + 1, 0, none⟩) (Nat.le_succ _) _)⟩
    rw [World.cell?_setCell_other _ _ _ _ (by intro z; injection z with z; omega)]
    exact hkp u hu
  case done =>
    rintro D ys W hD rfl ⟨⟨v, hv, hrow, _⟩, hn, hB⟩ hK
    obtain ⟨A, c, rfl⟩ : ∃ A c, v = .slice A (prs 0 (scn s.data.toList).1).length c := by
      rcases hrow.2 with ⟨e, h0⟩ | ⟨g, cap, cur, e, _⟩
      · exact ⟨none, 0, by rw [e, h0]⟩
      · exact ⟨_, _, e⟩
    have hc := hv.cell
    have hc2 := hn.cell
    have hQ : Q w W := hB0.trans hB
    have hO : OwnS W w.heap.size A (prs 0 (scn s.data.toList).1).length c (scn s.data.toList).1 := by
      unfold OwnS
      rw [← prs_fst _ 0]
      exact row_lower hrow (by omega)
    have hE : lastE (prs 0 (scn s.data.toList).1) = (used s.data.toList : Int) := by rw [lastE_prs, used_flat]
    rw [hE] at hc2
    have hDw : w.heap.size ≤ D := by simp at hD; omega
    clear hE hrow hv hn hB hD
    gi_wp2
    gi_region
    gi_wp2
    refine ⟨by simp, .inl ⟨_, _, rfl, run_takeDeferred hK, ?_⟩⟩
    exact ⟨_, results_tmp2 rfl _ _ _, A, _, c, rfl, ownsRow_putObj (hO : World.ownsRow W.drew _ _ _ _ _ _) _ hK rfl, hQ.drew.below.trans (belowK_b (w := w) (Nat.le_refl _) W.drew D _ _ hDw hK rfl rfl)⟩
  case stop =>
    rintro D c pre W _ _ h _
    exact h.elim
end Go.Proofs.YtggbdhnjogalgaaGreatDoor

/- The contract of wal.Recover. -/
namespace Go.Proofs.YtggbdhnjogalgaaGreatDoor
set_option maxRecDepth 100000
open Go.RowKit Dkm Wm
set_option linter.unusedVariables false

/-- a list of texts, wherever it lies. -/
def Strs (w : World) (A : Option Addr) (n : Nat) (rs : List (List UInt8)) : Prop := Holds w w.heap.size 1 A n (rs.map fun r => Value.string (bs r))
theorem Strs.q {w w' : World} {A : Option Addr} {n : Nat} {l : List (List UInt8)} (h : Strs w A n l) (hq : Q w w') : Strs w' A n l := Holds.q h hq
theorem OwnS.strs {w : World} {base : Nat} {A : Option Addr} {n c : Nat} {rs : List (List UInt8)} (h : OwnS w base A n c rs) : Strs w A n rs := by
  refine ⟨h.1, fun j u hu => ?_⟩
  rcases h.2 with ⟨e, h0⟩ | ⟨g, cap, cur, e, hb, hh, hc, hm, hs, ht⟩
  · have := (List.getElem?_eq_some_iff.1 hu).1
    rw [h.1] at this; omega
  · injection e with e1 e2 e3
    subst e1 e3
    have hj : j < n * 1 := by
      have := (List.getElem?_eq_some_iff.1 hu).1; rw [h.1] at this; exact this
    refine ⟨_, rfl, ?_, ?_⟩
    · rcases Nat.lt_or_ge g w.heap.size with hlt | hge
      · exact hlt
      · rw [Array.getElem?_eq_none hge] at hh; cases hh
    · rw [Addr.add_mid, Nat.zero_add, World.ownsRow.cellAt h j hj]; exact hu
theorem OwnS.len {w : World} {base : Nat} {A : Option Addr} {n c : Nat} {rs : List (List UInt8)} (h : OwnS w base A n c rs) : rs.length = n := by have := h.1; simpa using this
theorem OwnS.nil {w : World} {base : Nat} {A : Option Addr} {n c : Nat} {rs : List (List UInt8)} (h : OwnS w base A n c rs) : A = none → n = 0 ∧ c = 0 := by
  intro hA
  rcases h.2 with ⟨e, h0⟩ | ⟨g, cap, cur, e, _⟩
  · injection e with e1 e2 e3; exact ⟨e2, e3⟩
  · injection e with e1; rw [hA] at e1; cases e1
theorem OwnS.q {w w' : World} {base : Nat} {A : Option Addr} {n c : Nat} {rs : List (List UInt8)} (h : OwnS w base A n c rs) (hq : Q w w') : OwnS w' base A n c rs := by
  refine ⟨h.1, ?_⟩
  rcases h.2 with ⟨e, h0⟩ | ⟨g, cap, cur, e, hg, hh, r⟩
  · exact .inl ⟨e, h0⟩
  · have hlt : g < w.heap.size := by
      rcases Nat.lt_or_ge g w.heap.size with hlt | hge
      · exact hlt
      · rw [Array.getElem?_eq_none hge] at hh; cases hh
    exact .inr ⟨g, cap, cur, e, hg, (hq.below.block g hlt).trans hh, r⟩
theorem OwnS.setCell {w : World} {base : Nat} {A : Option Addr} {n c : Nat} {l : List (List UInt8)} (h : OwnS w base A n c l) {p : Addr} (hp : p.block < base) (u : Value) : OwnS (w.setCell p u) base A n c l := by
  refine ⟨h.1, ?_⟩
  rcases h.2 with ⟨e, h0⟩ | ⟨g, cap, cur, e, hg, hh, r⟩
  · exact .inl ⟨e, h0⟩
  · exact .inr ⟨g, cap, cur, e, hg, (heap_setCell_other w p g u (by omega)).trans hh, r⟩
theorem OwnS.set4 {w : World} {base : Nat} {A : Option Addr} {n c : Nat} {l : List (List UInt8)} (h : OwnS w base A n c l) {b : Nat} (hp : b < base) (x y z u : Value) : OwnS ((((w.setCell ⟨b, 0, none⟩ x).setCell ⟨b, 1, none⟩ y).setCell ⟨b, 2, none⟩ z).setCell ⟨b, 3, none⟩ u) base A n c l :=
  (((h.setCell (p := ⟨b, 0, none⟩) hp x).setCell (p := ⟨b, 1, none⟩) hp y).setCell (p := ⟨b, 2, none⟩) hp z).setCell (p := ⟨b, 3, none⟩) hp u
theorem OwnS.lower {w : World} {base b2 : Nat} {A : Option Addr} {n c : Nat} {rs : List (List UInt8)} (h : OwnS w base A n c rs) (hb : b2 ≤ base) : OwnS w b2 A n c rs := row_lower h hb
theorem ownS_nil (w : World) (base : Nat) : OwnS w base none 0 0 [] := ⟨rfl, .inl ⟨rfl, rfl⟩⟩
theorem row_ne {w : World} {base : Nat} {A : Option Addr} {n c : Nat} {rs : List (List UInt8)} (h : OwnS w base A n c rs) {b : Nat} (hb : b < base) : some b ≠ (Value.slice A n c).ownBlock := by
  rcases h.2 with ⟨e, h0⟩ | ⟨g, cap, cur, e, hg, hh, r⟩
  · rw [e]; simp [Value.ownBlock]
  · rw [e]; simp only [Value.ownBlock, ne_eq, Option.some.injEq]; omega
theorem box_g {w w' : World} {row : Option Nat} {b k : Nat} {v : Value} (hg : w.grownBy w' row) (hne : some b ≠ row) (h : w.cell? ⟨b, k, none⟩ = some v) : w'.cell? ⟨b, k, none⟩ = some v := hg.cell h hne
theorem Bx.grown {w w' : World} {row : Option Nat} {b : Nat} {vs : List Value} (h : Bx w b vs) (hg : w.grownBy w' row) (hne : some b ≠ row) : Bx w' b vs := fun j v hj => by
  have hb : b < w.heap.size := block_lt_of_cell (h j v hj).1
  have e := hg.block b hb hne
  have h1 := h j v hj
  simp only [World.cell?, World.frozen?] at h1 ⊢
  rw [e]; exact h1
theorem Below.of_own {w w' : World} {base : Nat} {A : Option Addr} {n c : Nat} {rs : List (List UInt8)} (h : OwnS w base A n c rs) (hg : w.grownBy w' (Value.slice A n c).ownBlock) (hB : base ≤ w.heap.size) : Below base w w' :=
  below_grown hg hB fun k hk => by
    rcases h.2 with ⟨e, _⟩ | ⟨g, cap, cur, e, hb, _⟩
    · rw [e] at hk; cases hk
    · rw [e] at hk; simp only [Value.ownBlock, Option.some.injEq] at hk; omega

theorem run_appSS {w : World} (base : Nat) (ty : TypeId) (A : Option Addr) (n c : Nat) (l : List (List UInt8)) (h : OwnS w base A n c l) (M : Option Addr) (m mc : Nat) (ms : List (List UInt8)) (h2 : Strs w M m ms)
    (hnil : M = none → m = 0 ∧ mc = 0) (hb : (n + m) * 16 ≤ 140737488355328) (hbase : base ≤ w.heap.size) :
    ∃ A' c' w', (Builtin.append_ #[26, 26] ty #[.slice A n c, .slice M m mc]).run Tryz.prog w = .ok (.slice A' (n + m) c') w' ∧ OwnS w' base A' (n + m) c' (l ++ ms) ∧ w.grownBy w' (Value.slice A n c).ownBlock := by
  obtain ⟨A', c', w', hr, h3, h4, h5⟩ := run_appG (P := Tryz.prog) (w := w) base 26 ty 9 (.string ⟨#[]⟩) 1 16 Tryz.underlying26 infoS rfl (by omega) A n c _ h M m mc _ h2.1
    (fun j u hu => by obtain ⟨a', e, _, hc⟩ := h2.2 j u hu; exact ⟨a', e, hc⟩) (by intro u hu; obtain ⟨_, _, rfl⟩ := List.mem_map.1 hu; rfl) hnil (by unfold maxLen; omega) hb hbase
  exact ⟨A', c', w', hr, by unfold OwnS; rw [List.map_append]; exact h3, h4⟩
theorem step_appS {ops : Array Oper} {o : Oper} {a : Act} {w : World} {K : Act → World → Prop} {R : Exit → Act → World → Prop} {E : Prop} (hgd : o.guard = none) (s x : Operand)
    (ho : o.op = .call { callee := .builtin .append, args := #[s, x], argTypes := #[26, 26] })
    (base : Nat) (A : Option Addr) (n c : Nat) (l : List (List UInt8)) (hs : a.eval s = .slice A n c) (h : OwnS w base A n c l) (M : Option Addr) (m mc : Nat) (ms : List (List UInt8)) (hx : a.eval x = .slice M m mc) (h2 : Strs w M m ms)
    (hnil : M = none → m = 0 ∧ mc = 0) (hb : (n + m) * 16 ≤ 140737488355328) (hbase : base ≤ w.heap.size)
    (hK : ∀ A' c' w', OwnS w' base A' (n + m) c' (l ++ ms) → w.grownBy w' (Value.slice A n c).ownBlock → Below base w w' → K (a.put o.dst (.slice A' (n + m) c')) w') :
    if Region.wanted o (yielded ops a.tmps) = true then Oper.wp Tryz.prog o a w K R else E := by
  rw [if_pos (wanted_plain hgd)]
  obtain ⟨A', c', w', hr, h3, h4⟩ := run_appSS base o.type A n c l h M m mc ms h2 hnil hb hbase
  unfold Oper.wp execOp
  simp only [ho, resolve, invoke, builtin, Sem.run_bind, Sem.run_pure, Result.andThen_ok, List.map_toArray, List.map_cons, List.map_nil, hs, hx, hr]
  exact hK A' c' w' h3 h4 (Below.of_own h h4 hbase)
theorem wpl_appSS {w : World} {ops : Array Oper} {rest : List Oper} {o : Oper} {a : Act} {R : Exit → Act → World → Prop} (hgd : o.guard = none) (s x : Operand)
    (ho : o.op = .call { callee := .builtin .append, args := #[s, x], argTypes := #[26, 26] })
    (base : Nat) (A : Option Addr) (n c : Nat) (l : List (List UInt8)) (hs : a.eval s = .slice A n c) (h : OwnS w base A n c l) (M : Option Addr) (m mc : Nat) (ms : List (List UInt8)) (hx : a.eval x = .slice M m mc) (h2 : Strs w M m ms)
    (hnil : M = none → m = 0 ∧ mc = 0) (hb : (n + m) * 16 ≤ 140737488355328) (hbase : base ≤ w.heap.size)
    (hk : ∀ A' c' w', OwnS w' base A' (n + m) c' (l ++ ms) → w.grownBy w' (Value.slice A n c).ownBlock → Below base w w' → wpList Tryz.prog ops R rest (a.put o.dst (.slice A' (n + m) c')) w') : wpList Tryz.prog ops R (o :: rest) a w := by
  refine wpList_plain hgd fun K hK => ?_
  obtain ⟨A', c', w', hr, h3, h4⟩ := run_appSS base o.type A n c l h M m mc ms h2 hnil hb hbase
  unfold Oper.wp execOp
  simp only [ho, resolve, invoke, builtin, Sem.run_bind, Sem.run_pure, Result.andThen_ok, List.map_toArray, List.map_cons, List.map_nil, hs, hx, hr]
  exact hK _ _ (hk A' c' w' h3 h4 (Below.of_own h h4 hbase))

/-- what Recover tells, in memory of its own. -/
def RetR (w : World) (x : Dk × List (List UInt8) × Int × Int) (e : Ending) (w' : World) : Prop :=
  ∃ A n c L ln lc, e = .returned (.tuple #[dkv A n c x.1.room x.1.fuse x.1.off, .slice L ln lc, .int .i64 x.2.2.1, .int .i64 x.2.2.2]) ∧ Dsk w' A n c x.1.fs ∧ Far w A ∧ OwnS w' w.heap.size L ln lc x.2.1 ∧ Q w w'

theorem scn_len (s : List UInt8) : (scn s).1.length * 4 ≤ s.length := by
  have h1 := flat_four (scn s).1
  have h2 := congrArg List.length (scd s).eq
  rw [List.length_append] at h2; omega
theorem redd_size {B : Nat} (nm : ByteArray) (l : List Fil) (h : ∀ f ∈ l, f.sf.size + f.wt.size ≤ B) : (redd nm l).1.size ≤ B := by
  rcases plc_cases nm l with ⟨_, h0⟩ | ⟨k, hk, _, hn, hf⟩
  · rw [redd_none h0]; exact Nat.zero_le _
  · rw [redd_at hk hn hf, ByteArray.size_append]; exact h _ (List.getElem_mem _)

theorem mx21 {d : Dk} (hB : Bnd 2097152 d) : ∀ f ∈ d.fs, f.sf.size + f.wt.size ≤ maxLen := fun f hf => Nat.le_trans (hB.sum f hf) (by unfold maxLen; omega)
theorem Wm.Bnd.more {B C : Nat} {d : Dk} (h : Bnd B d) (hBC : B ≤ C) : Bnd C d := ⟨fun f hf => Nat.le_trans (h.sum f hf) hBC, h.few, h.room, h.fuse⟩
theorem Sb.grown {w wr w2 : World} {A : Option Addr} {n c : Nat} {room fuse : Int} {off : Bool} {L : Option Addr} {m lc : Nat} {rs : List (List UInt8)} (h : Sb w A n c room fuse off wr) (hl : OwnS wr (w.heap.size + 2) L m lc rs)
    (hg : wr.grownBy w2 (Value.slice L m lc).ownBlock) (hb : Below (w.heap.size + 2) wr w2) : Sb w A n c room fuse off w2 :=
  ⟨Bx.grown h.box hg (row_ne hl (by omega)), Bx.grown h.res hg (row_ne hl (by omega)), h.q.below.trans (hb.mono (by omega))⟩
theorem rows_apart {w : World} {b1 b2 : Nat} {A L : Option Addr} {n c m lc : Nat} {l : List Fil} {rs : List (List UInt8)} (h : Own w b1 A n c l) (hl : OwnS w b2 L m lc rs) : (Value.slice L m lc).ownBlock = none ∨ (Value.slice A n c).ownBlock ≠ (Value.slice L m lc).ownBlock := by
  rcases hl.2 with ⟨e, _⟩ | ⟨g, cap, cur, e, hb, hh, _⟩
  · left; rw [e]; rfl
  · right
    rcases h.2 with ⟨e2, _⟩ | ⟨g2, cap2, cur2, e2, hb2, hh2, _⟩
    · rw [e, e2]; simp [Value.ownBlock]
    · rw [e, e2]
      intro he
      have hgg : g2 = g := by simpa [Value.ownBlock] using he
      subst hgg
      rw [hh] at hh2
      injection hh2 with hh2
      injection hh2 with _ ht _
      exact absurd ht (by decide)
theorem Own.grown {w w2 : World} {b1 b2 : Nat} {A L : Option Addr} {n c m lc : Nat} {l : List Fil} {rs : List (List UInt8)} (h : Own w b1 A n c l) (hl : OwnS w b2 L m lc rs) (hg : w.grownBy w2 (Value.slice L m lc).ownBlock) : Own w2 b1 A n c l := by
  rcases rows_apart h hl with h0 | h0
  · rw [h0] at hg
    refine World.ownsRow.kept h hg ?_
    rcases h.2 with ⟨e2, _⟩ | ⟨g2, cap2, cur2, e2, hb2, hh2, _⟩
    · left; rw [e2]; rfl
    · exact .inr (by rw [e2]; simp [Value.ownBlock])
  · exact World.ownsRow.kept h hg (.inr h0)
theorem Sd.grown {w wr w2 : World} {A : Option Addr} {n c : Nat} {room fuse : Int} {off : Bool} {F : List Fil} {L : Option Addr} {m lc : Nat} {rs : List (List UInt8)} (h : Sd w A n c room fuse off F wr) (hl : OwnS wr (w.heap.size + 2) L m lc rs)
    (hg : wr.grownBy w2 (Value.slice L m lc).ownBlock) (hb : Below (w.heap.size + 2) wr w2) : Sd w A n c room fuse off F w2 := ⟨h.sb.grown hl hg hb, h.own.grown hl hg⟩
theorem Sd.step {w wr w2 : World} {A : Option Addr} {n c : Nat} {room fuse : Int} {off : Bool} {F : List Fil} (h : Sd w A n c room fuse off F wr) (q : Q wr w2) : Sd w A n c room fuse off F w2 := ⟨h.sb.step q, h.own.q q⟩
theorem Sd.endR {w wr : World} {A : Option Addr} {n c : Nat} {d : Dk} {L : Option Addr} {m lc : Nat} {rs : List (List UInt8)} (h : Sd w A n c d.room d.fuse d.off d.fs wr) (hn : n * 48 ≤ 140737488355328) (hl : OwnS wr (w.heap.size + 2) L m lc rs) (seg er : Int) (x y z u : Value) :
    RetR w (d, rs, seg, er) (.returned (.tuple #[dkv A n c d.room d.fuse d.off, .slice L m lc, .int .i64 seg, .int .i64 er])) ((((wr.setCell ⟨w.heap.size + 1, 0, none⟩ x).setCell ⟨w.heap.size + 1, 1, none⟩ y).setCell ⟨w.heap.size + 1, 2, none⟩ z).setCell ⟨w.heap.size + 1, 3, none⟩ u) :=
  ⟨A, n, c, L, m, lc, rfl, (h.own.set4 (b := w.heap.size + 1) (by omega) _ _ _ _).dsk hn, fun ad e => by have h1 := h.own.far_ ad e; omega, (hl.set4 (b := w.heap.size + 1) (by omega) _ _ _ _).lower (by omega), h.sb.q.set4 (b := w.heap.size + 1) (by omega) _ _ _ _⟩
theorem Sv.endR {w wr : World} {A : Option Addr} {n c : Nat} {d : Dk} {L : Option Addr} {m lc : Nat} {rs : List (List UInt8)} (h : Sv w A n c d wr) (hf : Far w A) (hl : OwnS wr (w.heap.size + 2) L m lc rs) (seg er : Int) (x y z u : Value) :
    RetR w (d, rs, seg, er) (.returned (.tuple #[dkv A n c d.room d.fuse d.off, .slice L m lc, .int .i64 seg, .int .i64 er])) ((((wr.setCell ⟨w.heap.size + 1, 0, none⟩ x).setCell ⟨w.heap.size + 1, 1, none⟩ y).setCell ⟨w.heap.size + 1, 2, none⟩ z).setCell ⟨w.heap.size + 1, 3, none⟩ u) :=
  ⟨A, n, c, L, m, lc, rfl, (((h.dsk.away1 (fun hn ad e => (h.away hn ad e).2) 0 _).away1 (fun hn ad e => (h.away hn ad e).2) 1 _).away1 (fun hn ad e => (h.away hn ad e).2) 2 _).away1 (fun hn ad e => (h.away hn ad e).2) 3 _, hf, (hl.set4 (b := w.heap.size + 1) (by omega) _ _ _ _).lower (by omega), h.sb.q.set4 (b := w.heap.size + 1) (by omega) _ _ _ _⟩
theorem recF_end {n : Nat} {d : Dk} {f k last : Int} {rs : List (List UInt8)} (h : ¬ segOk k ∨ (redd (namB k) d.fs).2 ≠ 0) : recF n d f k rs last = (d, rs, last, 0) := by
  cases n with
  | zero => rfl
  | succ n =>
    unfold recF
    by_cases h0 : segOk k
    · rw [if_neg (by simpa using h0), if_pos (h.resolve_left (by simpa using h0))]
    · rw [if_pos h0]
theorem recF_more {d : Dk} {f k last : Int} {rs : List (List UInt8)} {s : ByteArray} (h0 : segOk k) (hr : redd (namB k) d.fs = (s, 0)) (hs : (scn s.data.toList).2 = []) : recF (fuelOf k) d f k rs last = recF (fuelOf (k + 1)) d f (k + 1) (rs ++ (scn s.data.toList).1) k := by
  have hf : fuelOf k = fuelOf (k + 1) + 1 := by have := h0.2; unfold fuelOf; omega
  rw [hf]
  conv => lhs; unfold recF
  rw [if_neg (by simpa using h0), hr]
  dsimp only
  rw [if_neg (by simp), if_pos hs]
theorem recF_cut {d : Dk} {f k last : Int} {rs : List (List UInt8)} {s : ByteArray} (h0 : segOk k) (hr : redd (namB k) d.fs = (s, 0)) (hs : (scn s.data.toList).2 ≠ []) {y : Dk × Int} (hy : cutM d k ⟨(flat (scn s.data.toList).1).toArray⟩ = y) :
    recF (fuelOf k) d f k rs last = if y.2 ≠ 0 then (y.1, [], f, y.2) else (y.1, rs ++ (scn s.data.toList).1, k, 0) := by
  have hf : fuelOf k = fuelOf (k + 1) + 1 := by have := h0.2; unfold fuelOf; omega
  rw [hf]
  conv => lhs; unfold recF
  rw [if_neg (by simpa using h0), hr]
  dsimp only
  rw [if_neg (by simp), if_neg hs, hy]
theorem Sv.putD {w wr w5 : World} {A A5 : Option Addr} {n c n5 c5 : Nat} {room fuse : Int} {off : Bool} {d5 : Dk} (h : Sb w A n c room fuse off wr) (q : Q wr w5) (hd : Dsk w5 A5 n5 c5 d5.fs) (hf : ∀ ad, A5 = some ad → wr.heap.size ≤ ad.block) :
    Sv w A5 n5 c5 d5 ((((w5.setCell ⟨w.heap.size, 0, none⟩ (.slice A5 n5 c5)).setCell ⟨w.heap.size, 1, none⟩ (.int .i64 d5.room)).setCell ⟨w.heap.size, 2, none⟩ (.int .i64 d5.fuse)).setCell ⟨w.heap.size, 3, none⟩ (.bool d5.off)) ∧ Far w A5 := by
  have hlt := h.res.lt
  have ha : ∀ ad, A5 = some ad → ad.block ≠ w.heap.size := fun ad e => by have := hf ad e; omega
  exact ⟨⟨(h.step q).put4 A5 n5 c5 d5.room d5.fuse d5.off, (((hd.away ha 0 _).away ha 1 _).away ha 2 _).away ha 3 _, fun _ ad e => by have := hf ad e; omega⟩, fun ad e => by have := hf ad e; omega⟩
theorem Sv.grown {w wr w2 : World} {A : Option Addr} {n c : Nat} {d : Dk} {L : Option Addr} {m lc : Nat} {rs : List (List UInt8)} (h : Sv w A n c d wr) (hl : OwnS wr (w.heap.size + 2) L m lc rs)
    (hg : wr.grownBy w2 (Value.slice L m lc).ownBlock) (hb : Below (w.heap.size + 2) wr w2) (hne : ∀ ad, A = some ad → some ad.block ≠ (Value.slice L m lc).ownBlock) : Sv w A n c d w2 :=
  ⟨h.sb.grown hl hg hb, ⟨Files.grown h.dsk.files hg hne, h.dsk.nil, h.dsk.le, h.dsk.cap, h.dsk.few⟩, h.away⟩
theorem OwnS.far_ne {w : World} {base : Nat} {A L : Option Addr} {m lc : Nat} {rs : List (List UInt8)} (h : OwnS w base L m lc rs) (hf : ∀ ad, A = some ad → w.heap.size ≤ ad.block) : ∀ ad, A = some ad → some ad.block ≠ (Value.slice L m lc).ownBlock := by
  intro ad e
  have h1 := hf ad e
  rcases h.2 with ⟨e2, _⟩ | ⟨g, cap, cur, e2, hb, hh, _⟩
  · rw [e2]; simp [Value.ownBlock]
  · rw [e2]
    have hlt : g < w.heap.size := by
      rcases Nat.lt_or_ge g w.heap.size with hlt | hge
      · exact hlt
      · rw [Array.getElem?_eq_none hge] at hh; cases hh
    simp only [Value.ownBlock, ne_eq, Option.some.injEq]; omega
theorem far_cells {w1 : World} {b : Nat} {x y z u a0 a1 a2 a3 : Value} (h : w1.cell? ⟨b, 0, none⟩ = some x ∧ w1.cell? ⟨b, 1, none⟩ = some y ∧ w1.cell? ⟨b, 2, none⟩ = some z ∧ w1.cell? ⟨b, 3, none⟩ = some u) :
    (fun w' : World => w'.cell? ⟨b, 0, none⟩ = some x ∧ w'.cell? ⟨b, 1, none⟩ = some y ∧ w'.cell? ⟨b, 2, none⟩ = some z ∧ w'.cell? ⟨b, 3, none⟩ = some u) ((((w1.setCell ⟨b + 1, 0, none⟩ a0).setCell ⟨b + 1, 1, none⟩ a1).setCell ⟨b + 1, 2, none⟩ a2).setCell ⟨b + 1, 3, none⟩ a3) := by
  have f : ∀ (W : World) (k j : Nat) (v t : Value), W.cell? ⟨b, k, none⟩ = some v → (W.setCell ⟨b + 1, j, none⟩ t).cell? ⟨b, k, none⟩ = some v := fun W k j v t h => (World.cell?_setCell_other _ _ _ _ (by intro x; injection x with x; omega)).trans h
  exact ⟨f _ _ _ _ _ (f _ _ _ _ _ (f _ _ _ _ _ (f _ _ _ _ _ h.1))), f _ _ _ _ _ (f _ _ _ _ _ (f _ _ _ _ _ (f _ _ _ _ _ h.2.1))), f _ _ _ _ _ (f _ _ _ _ _ (f _ _ _ _ _ (f _ _ _ _ _ h.2.2.1))), f _ _ _ _ _ (f _ _ _ _ _ (f _ _ _ _ _ (f _ _ _ _ _ h.2.2.2)))⟩
/-- at the head of a round. -/
def Rr (w : World) (d : Dk) (from_ : Int) (x : Dk × List (List UInt8) × Int × Int) (s8 s9 s10 : Value) (wr : World) : Prop :=
  ∃ (k last : Int) (rs : List (List UInt8)) (L : Option Addr) (lc : Nat) (A : Option Addr) (n c : Nat), s8 = .slice L rs.length lc ∧ s9 = .int .i64 last ∧ s10 = .int .i64 k ∧ 1 ≤ k ∧ k ≤ 1000001 ∧ Sd w A n c d.room d.fuse d.off d.fs wr ∧
    OwnS wr (w.heap.size + 2) L rs.length lc rs ∧ rs.length ≤ (k - 1).toNat * 524288 ∧ x = recF (fuelOf k) d from_ k rs last

set_option maxHeartbeats 8000000 in
theorem rec_good (from_ : Int) (A : Option Addr) (n c : Nat) (d : Dk) (w : World) (hT : Tab w) (hd : Dsk w A n c d.fs) (hB : Bnd 2097152 d) (h1 : segOk from_) :
    Calls Tryz.prog 6 #[dkv A n c d.room d.fuse d.off, .int .i64 from_] w fun e w' => RetR w (recM d from_) e w' := by
  have HT := Lib.hid hT
  have HD := Lib.hid hd
  have HB := Lib.hid hB
  have HM := Lib.hid (mx21 hB)
  have H1 := Lib.hid h1
  have KU := Lib.hid (numbered_yes from_ h1)
  have hx : recM d from_ = recF (fuelOf from_) d from_ from_ [] from_ := by unfold recM; rw [if_neg (by simpa using h1)]
  generalize recM d from_ = x at hx ⊢
  have HX := Lib.hid hx
  have r0 := h1.1
  have r1 := h1.2
  clear hT hd hB h1 hx
  go_enter Tryz.func6, Tryz.ntmps6
  go_wp2_with fail
  go_step3
  go_wp2_with fail
  refine (wown_any A n c d.room d.fuse d.off d.fs _ (HD.out.q (((Q.refl _).alloc _).alloc _))).mono ?_
  rintro e w1 ⟨A1, c1, rfl, ho, q1⟩
  have P := Lib.hid (Sd.new2 (room := d.room) (fuse := d.fuse) (off := d.off) (L := d.fs) (Sv.new w HD.out).sb q1 ho)
  obtain ⟨⟨e0, e1, e2, e3⟩, f0, f1, f2', f3⟩ := ((Sv.new w HD.out).sb.step q1).get
  clear ho q1
  go_upto_region 2 with (fail)
  generalize ((((w1.setCell ⟨w.heap.size, 0, none⟩ (.slice A1 n c1)).setCell ⟨w.heap.size, 1, none⟩ (.int .i64 d.room)).setCell ⟨w.heap.size, 2, none⟩ (.int .i64 d.fuse)).setCell ⟨w.heap.size, 3, none⟩ (.bool d.off)) = W at P ⊢
  clear e0 e1 e2 e3 f0 f1 f2' f3
  go_wp2_with fail
  refine (KU.out _).mono ?_
  rintro e w2 ⟨rfl, q2⟩
  have V := Lib.hid (P.out.step q2)
  clear P q2
  go_wp2
  go_step3
  go_wp2
  go_loopw [8, 9, 10] (Rr w d from_ x) (fun _ _ s10 _ => (1000002 - intOf s10).toNat)
  case atStart => exact ⟨from_, from_, [], none, 0, A1, n, c1, rfl, rfl, rfl, by omega, by omega, V.out, ownS_nil _ _, by simp, HX.out⟩
  case round =>
    obtain ⟨k, last, rs, L, lc, A2, n2, c2, rfl, rfl, rfl, hk1, hk2, hv, hol, hrl, hxx⟩ := hrel
    have V := Lib.hid hv
    have OL := Lib.hid hol
    have HXX := Lib.hid hxx
    have HRL := Lib.hid hrl
    have hn2 : n2 * 48 ≤ 140737488355328 := by have h1 := hv.own.len; have h2 := HD.out.len; have h3 := HD.out.few; omega
    clear hv hol hxx hrl
    generalize wr = W at V OL ⊢
    by_cases g1 : segOk k
    case neg =>
      have G1 := Lib.hid g1
      have KUK := Lib.hid (numbered_no k g1)
      clear g1
      go_wp2_with fail
      refine (KUK.out _).mono ?_
      rintro e w3 ⟨rfl, q3⟩
      have U := Lib.hid (V.out.step q3)
      have UL := Lib.hid (OL.out.q q3)
      clear V OL q3
      obtain ⟨⟨e0, e1, e2, e3⟩, f0, f1, f2', f3⟩ := U.out.sb.get
      obtain ⟨⟨s0, s1, s2, s3⟩, h0, h1, h2, h3⟩ := U.out.sb.getR
      go_wp2
      (try rw [Exit.noGoto_ret])
      refine bodyPost_ret (v := .tuple #[dkv A2 n2 c2 d.room d.fuse d.off, .slice L rs.length lc, .int .i64 last, .int .i64 0]) (by simp [results, Tryz.results6, go_sem, s0, s1, s2, s3]) rfl ?_
      have ex := HXX.out
      rw [recF_end ((.inl G1.out))] at ex
      rw [ex]
      exact U.out.endR hn2 UL.out last 0 _ _ _ _
    have G1 := Lib.hid g1
    have KUK := Lib.hid (numbered_yes k g1)
    have KN := Lib.hid (name_any k)
    have KR := Lib.hid (fun w hf => read_any (namB k) A2 n2 c2 d.room d.fuse d.off d.fs w hf (V.out.own.dsk hn2).max HM.out)
    have hsz := redd_size (namB k) d.fs HB.out.sum
    have hcs : (redd (namB k) d.fs).2 = 0 ∨ (redd (namB k) d.fs).2 = 7 := by unfold redd; split <;> simp
    have HXR : Hid (redd (namB k) d.fs = redd (namB k) d.fs) := Lib.hid rfl
    obtain ⟨r, hr⟩ : ∃ r, r = redd (namB k) d.fs := ⟨_, rfl⟩
    rw [← hr] at KR hsz hcs
    have HR := Lib.hid hr
    clear hr HXR g1
    obtain ⟨s, se⟩ := r
    have hsz' : s.size ≤ 2097152 := hsz
    clear hsz
    go_wp2_with fail
    refine (KUK.out _).mono ?_
    rintro e w3 ⟨rfl, q3⟩
    have U := Lib.hid (V.out.step q3)
    have UL := Lib.hid (OL.out.q q3)
    clear V OL q3
    go_upto_region 9 with (fail)
    generalize w3 = W at U UL ⊢
    obtain ⟨⟨e0, e1, e2, e3⟩, f0, f1, f2', f3⟩ := U.out.sb.get
    go_region_held3 (fun w' => w'.cell? ⟨w.heap.size, 0, none⟩ = some (.slice A2 n2 c2) ∧ w'.cell? ⟨w.heap.size, 1, none⟩ = some (.int .i64 d.room) ∧ w'.cell? ⟨w.heap.size, 2, none⟩ = some (.int .i64 d.fuse) ∧ w'.cell? ⟨w.heap.size, 3, none⟩ = some (.bool d.off))
      (first
        | go_keep
        | (go_split_ands
           (repeat' apply And.intro) <;> exact box_ ‹Q _ _› (by assumption)))
      (first
        | (go_at_call 13
           (with_reducible refine (KN.out _ (HT.out.q (U.out.sb.q.trans (Q.refl W).drew))).mono ?_)
           rintro e w4 ⟨rfl, q4⟩)
        | (go_at_call 20
           (with_reducible refine (KR.out _ (U.out.own.files.q ((Q.refl W).drew.trans q4))).mono ?_)
           rintro e w5 ⟨rfl, q5⟩))
    have V := Lib.hid (U.out.step (((Q.refl W).drew.trans q4).trans q5))
    have OL := Lib.hid (UL.out.q (((Q.refl W).drew.trans q4).trans q5))
    clear U UL q4 q5 e0 e1 e2 e3 f0 f1 f2' f3
    have hsl := scn_len s.data.toList
    rw [size_list] at hsl
    have KSC := Lib.hid (fun w => scan_any s w (by unfold maxLen; omega) (by omega))
    have hus := used_le s.data.toList
    rw [size_list] at hus
    have hrest : (scn s.data.toList).2 = [] ↔ (used s.data.toList : Int) = (s.size : Int) := by
      have h1 := congrArg List.length (scd s.data.toList).eq
      rw [List.length_append, size_list, ← used_flat] at h1
      rw [← List.length_eq_zero_iff]; omega
    have htk := take_used s.data.toList
    have HRS := Lib.hid hrest
    have HTK := Lib.hid htk
    obtain ⟨ms, hms⟩ : ∃ ms, ms = (scn s.data.toList).1 := ⟨_, rfl⟩
    obtain ⟨us, hus2⟩ : ∃ us, us = used s.data.toList := ⟨_, rfl⟩
    rw [← hms, ← hus2] at KSC
    rw [← hms] at hsl
    rw [← hus2] at hus
    have HMS := Lib.hid (And.intro hms hus2)
    clear hrest htk hms hus2
    go_wp2_with fail
    refine (KSC.out _).mono ?_
    rintro e w6 ⟨M, mn, mc, rfl, hm, q6⟩
    have hmn : ms.length = mn := hm.len
    subst hmn
    have U := Lib.hid (V.out.step q6)
    have UL := Lib.hid (OL.out.q q6)
    have hmb : w.heap.size + 2 ≤ w5.heap.size := by have := V.out.sb.res.lt; omega
    have OM := Lib.hid (hm.lower hmb)
    clear hmb
    have hMn := Lib.hid hm.nil
    clear V OL q6 hm
    have HSL := Lib.hid hsl
    rcases hcs with he | he
    case inr =>
      have he' : se = 7 := he
      clear he
      subst he'
      have hrr : (redd (namB k) d.fs).2 ≠ 0 := by rw [← HR.out]; simp
      have HRR := Lib.hid hrr
      clear hrr
      obtain ⟨⟨e0, e1, e2, e3⟩, f0, f1, f2', f3⟩ := U.out.sb.get
      obtain ⟨⟨s0, s1, s2, s3⟩, h0, h1, h2, h3⟩ := U.out.sb.getR
      go_wp2
      (try rw [Exit.noGoto_ret])
      refine bodyPost_ret (v := .tuple #[dkv A2 n2 c2 d.room d.fuse d.off, .slice L rs.length lc, .int .i64 last, .int .i64 0]) (by simp [results, Tryz.results6, go_sem, s0, s1, s2, s3]) rfl ?_
      have ex := HXX.out
      rw [recF_end ((.inr HRR.out))] at ex
      rw [ex]
      exact U.out.endR hn2 UL.out last 0 _ _ _ _
    have he' : se = 0 := he
    clear he
    subst he'
    by_cases gn : (us : Int) = (s.size : Int)
    · have hz : (scn s.data.toList).2 = [] := HRS.out.2 (by rw [← HMS.out.2]; exact gn)
      have HX2 := Lib.hid (HXX.out.trans (recF_more G1.out HR.out.symm hz))
      have hk3 : k ≤ 1000000 := G1.out.2
      have hb16 : (rs.length + ms.length) * 16 ≤ 140737488355328 := by have h1 := HRL.out; have h2 := HSL.out; omega
      have hbw : w.heap.size + 2 ≤ w6.heap.size := by have := U.out.sb.res.lt; omega
      clear hz
      go_wp2_with (at_builtin
                   refine wpl_appSS rfl (.tmp 48) (.tmp 49) rfl (w.heap.size + 2) L rs.length lc rs rfl UL.out M ms.length mc ms rfl OM.out.strs hMn.out hb16 hbw ?_
                   intro L2 lc2 w7 ho7 hg7 hb7)
      have V := Lib.hid (U.out.grown UL.out hg7 hb7)
      clear U UL
      refine ⟨⟨k + 1, k, rs ++ ms, L2, lc2, A2, n2, c2, by rw [List.length_append], rfl, rfl, by omega, by omega, V.out, by rw [List.length_append]; exact ho7, ?_, ?_⟩, by simp [intOf]; omega⟩
      · rw [List.length_append]; have h1 := HRL.out; have h2 := HSL.out; omega
      · rw [HMS.out.1]; exact HX2.out
    · have hz : (scn s.data.toList).2 ≠ [] := fun h => gn (by rw [HMS.out.2]; exact HRS.out.1 h)
      have hex : s.extract 0 us = ⟨(flat (scn s.data.toList).1).toArray⟩ := by
        rw [extract_list, HMS.out.2, HTK.out]; simp
      have hes : (s.extract 0 us).size ≤ 2305843009213693952 := by rw [ByteArray.size_extract]; omega
      have KC := Lib.hid (fun w hT hd => cut_any k (s.extract 0 us) A2 n2 c2 d w hT hd (HB.out.more (by omega)) hes G1.out)
      obtain ⟨y, hy⟩ : ∃ y, y = cutM d k (s.extract 0 us) := ⟨_, rfl⟩
      have HX2 := Lib.hid (HXX.out.trans (recF_cut G1.out HR.out.symm hz (y := y) (by rw [hy, hex])))
      rw [← hy] at KC
      have hbw : w.heap.size + 2 ≤ w6.heap.size := by have := U.out.sb.res.lt; omega
      have hb16 : (rs.length + ms.length) * 16 ≤ 140737488355328 := by have h1 := HRL.out; have h2 := HSL.out; have h3 : k ≤ 1000000 := G1.out.2; omega
      have HB2 := Lib.hid hb16
      clear hz hex hes hy hb16
      go_upto_region 14 with (fail)
      generalize w6 = W at U UL OM hbw ⊢
      have SU := Lib.hid U.out.sb
      have DU := Lib.hid (U.out.own.dsk hn2)
      obtain ⟨⟨e0, e1, e2, e3⟩, f0, f1, f2', f3⟩ := U.out.sb.get
      have QW := Lib.hid (Q.refl W)
      refine wp_region_heldL 9 (Q W) (by kernel_rfl) ?szz0 (fun hHeld => ?rzz0)
      case szz0 =>
        exact (Q.refl W).drew
      case' rzz0 => skip
      refine wpAnyL_take (i := 0) (oi := ?ozz1) (v := ?vzz1) ?hzz1 ?azz1 ?bzz1 ?czz1 ?kzz1 ?qzz1 ?yzz1 ?szz1 ?rzz1
      case hzz1 => simp only [List.getElem?_toArray, List.getElem?_cons_zero]; rfl
      case azz1 => kernel_rfl
      case bzz1 => kernel_rfl
      case czz1 => kernel_rfl
      case kzz1 => kernel_rfl
      case yzz1 =>
        refine Or.inl ⟨by rfl, ?_⟩
        intro w hSw
        have x0 := box_ hSw e0; have x1 := box_ hSw e1; have x2 := box_ hSw e2; have x3 := box_ hSw e3; clear hSw
        go_simp
        try with_reducible rfl
      case qzz1 => exact fun _ _ _ h => h
      case szz1 => first | assumption | trivial
      case' rzz1 => simp only [Act.put, List.setIfInBounds_toArray, List.set_cons_zero, List.set_cons_succ]
      refine wpAnyL_take (i := 1) (oi := ?ozz2) (v := ?vzz2) ?hzz2 ?azz2 ?bzz2 ?czz2 ?kzz2 ?qzz2 ?yzz2 ?szz2 ?rzz2
      case hzz2 => simp only [List.getElem?_toArray, List.getElem?_cons_zero, List.getElem?_cons_succ]; rfl
      case azz2 => kernel_rfl
      case bzz2 => kernel_rfl
      case czz2 => kernel_rfl
      case kzz2 => kernel_rfl
      case yzz2 =>
        refine Or.inl ⟨by rfl, ?_⟩
        intro w hSw
        skip
        go_simp
        try with_reducible rfl
      case qzz2 => exact fun _ _ _ h => h
      case szz2 => first | assumption | trivial
      case' rzz2 => simp only [Act.put, List.setIfInBounds_toArray, List.set_cons_zero, List.set_cons_succ]
      refine wpAnyL_take (i := 2) (oi := ?ozz3) (v := ?vzz3) ?hzz3 ?azz3 ?bzz3 ?czz3 ?kzz3 ?qzz3 ?yzz3 ?szz3 ?rzz3
      case hzz3 => simp only [List.getElem?_toArray, List.getElem?_cons_zero, List.getElem?_cons_succ]; rfl
      case azz3 => kernel_rfl
      case bzz3 => kernel_rfl
      case czz3 => kernel_rfl
      case kzz3 => kernel_rfl
      case yzz3 =>
        refine Or.inl ⟨by rfl, ?_⟩
        intro w hSw
        skip
        go_simp
        try with_reducible rfl
      case qzz3 => exact fun _ _ _ h => h
      case szz3 => first | assumption | trivial
      case' rzz3 => simp only [Act.put, List.setIfInBounds_toArray, List.set_cons_zero, List.set_cons_succ]
      refine wpAnyL_take (i := 3) (oi := ?ozz4) (v := ?vzz4) ?hzz4 ?azz4 ?bzz4 ?czz4 ?kzz4 ?qzz4 ?yzz4 ?szz4 ?rzz4
      case hzz4 => simp only [List.getElem?_toArray, List.getElem?_cons_zero, List.getElem?_cons_succ]; rfl
      case azz4 => kernel_rfl
      case bzz4 => kernel_rfl
      case czz4 => kernel_rfl
      case kzz4 => kernel_rfl
      case yzz4 =>
        refine Or.inl ⟨by rfl, ?_⟩
        intro w hSw
        skip
        go_simp
        try with_reducible rfl
      case qzz4 => exact fun _ _ _ h => h
      case szz4 => first | assumption | trivial
      case' rzz4 => simp only [Act.put, List.setIfInBounds_toArray, List.set_cons_zero, List.set_cons_succ]
      refine wpAnyL_take (i := 4) (oi := ?ozz5) (v := ?vzz5) ?hzz5 ?azz5 ?bzz5 ?czz5 ?kzz5 ?qzz5 ?yzz5 ?szz5 ?rzz5
      case hzz5 => simp only [List.getElem?_toArray, List.getElem?_cons_zero, List.getElem?_cons_succ]; rfl
      case azz5 => kernel_rfl
      case bzz5 => kernel_rfl
      case czz5 => kernel_rfl
      case kzz5 => kernel_rfl
      case yzz5 =>
        refine Or.inl ⟨by rfl, ?_⟩
        intro w hSw
        skip
        go_simp
        try with_reducible rfl
      case qzz5 => exact fun _ _ _ h => h
      case szz5 => first | assumption | trivial
      case' rzz5 => simp only [Act.put, List.setIfInBounds_toArray, List.set_cons_zero, List.set_cons_succ]
      refine wpAnyL_ready (rs := [5]) (by kernel_rfl) (by simp) ?_
      refine AllReadyL.cons (o := ?ozz34) ?hzz34 (fun K hK => ?kzz34) ?mzz34
      case hzz34 => simp only [List.getElem?_toArray, List.getElem?_cons_zero, List.getElem?_cons_succ]; rfl
      case kzz34 =>
        go_simp
        refine (KC.out _ (HT.out.q (SU.out.q.trans hHeld)) (DU.out.q hHeld)).mono ?_
        rintro e w5 ⟨A5, n5, c5, rfl, ho, hf5, q5⟩
        obtain ⟨⟨x0, x1, x2, x3⟩, y0, y1, y2, y3⟩ := ((SU.out.step hHeld).step q5).get
        have Z5 := Lib.hid (And.intro ho (And.intro hHeld (And.intro q5 hf5)))
        go_wp2_with fail
        refine hK.out _ _ ?Szz34 (fun hHeld => ?Rzz34)
        case Szz34 =>
          exact hHeld.trans q5
        case Rzz34 =>
          clear hK K
          try simp only [Act.put, List.setIfInBounds_toArray, List.set_cons_zero, List.set_cons_succ]
          refine wpAnyL_take (i := 6) (oi := ?ozz6) (v := ?vzz6) ?hzz6 ?azz6 ?bzz6 ?czz6 ?kzz6 ?qzz6 ?yzz6 ?szz6 ?rzz6
          case hzz6 => simp only [List.getElem?_toArray, List.getElem?_cons_zero, List.getElem?_cons_succ]; rfl
          case azz6 => kernel_rfl
          case bzz6 => kernel_rfl
          case czz6 => kernel_rfl
          case kzz6 => kernel_rfl
          case yzz6 =>
            refine Or.inl ⟨by rfl, ?_⟩
            intro w hSw
            skip
            go_simp
            try with_reducible rfl
          case qzz6 => exact fun _ _ _ h => h
          case szz6 => first | assumption | trivial
          case' rzz6 => simp only [Act.put, List.setIfInBounds_toArray, List.set_cons_zero, List.set_cons_succ]
          refine wpAnyL_take (i := 7) (oi := ?ozz7) (v := ?vzz7) ?hzz7 ?azz7 ?bzz7 ?czz7 ?kzz7 ?qzz7 ?yzz7 ?szz7 ?rzz7
          case hzz7 => simp only [List.getElem?_toArray, List.getElem?_cons_zero, List.getElem?_cons_succ]; rfl
          case azz7 => kernel_rfl
          case bzz7 => kernel_rfl
          case czz7 => kernel_rfl
          case kzz7 => kernel_rfl
          case yzz7 =>
            refine Or.inl ⟨by rfl, ?_⟩
            intro w hSw
            skip
            go_simp
            try with_reducible rfl
          case qzz7 => exact fun _ _ _ h => h
          case szz7 => first | assumption | trivial
          case' rzz7 => simp only [Act.put, List.setIfInBounds_toArray, List.set_cons_zero, List.set_cons_succ]
          refine wpAnyL_ready (rs := [8, 9]) (by kernel_rfl) (by simp) ?_
          refine AllReadyL.cons (o := ?ozz32) ?hzz32 (fun K hK => ?kzz32) ?mzz32
          case hzz32 => simp only [List.getElem?_toArray, List.getElem?_cons_zero, List.getElem?_cons_succ]; rfl
          case kzz32 =>
            go_simp
            refine hK.out _ _ ?Szz32 (fun hHeld => ?Rzz32)
            case Szz32 =>
              exact hHeld
            case Rzz32 =>
              clear hK K
              try simp only [Act.put, List.setIfInBounds_toArray, List.set_cons_zero, List.set_cons_succ]
              refine wpAnyL_ready (rs := [9]) (by kernel_rfl) (by simp) ?_
              refine AllReadyL.consK (o := ?ozz19) ?hzz19 ?lzz19 (fun K hK => ?kzz19) ?mzz19
              case hzz19 => simp only [List.getElem?_toArray, List.getElem?_cons_zero, List.getElem?_cons_succ]; rfl
              case lzz19 => kernel_rfl
              case kzz19 =>
                go_simp
                refine hK.out _ _ ?Rzz19
                case Rzz19 =>
                  clear hK K
                  try simp only [Act.put, List.setIfInBounds_toArray, List.set_cons_zero, List.set_cons_succ]
                  refine wpAnyH_take (i := 10) (oi := ?ozz8) (v := ?vzz8) ?hzz8 ?azz8 ?bzz8 ?czz8 ?qzz8 ?yzz8 ?szz8 ?rzz8
                  case hzz8 => simp only [List.getElem?_toArray, List.getElem?_cons_zero, List.getElem?_cons_succ]; rfl
                  case azz8 => kernel_rfl
                  case bzz8 => kernel_rfl
                  case czz8 => kernel_rfl
                  case yzz8 =>
                    refine Or.inl ⟨by rfl, ?_⟩
                    intro w hSw
                    skip
                    go_simp
                    try with_reducible rfl
                  case qzz8 => exact fun _ _ _ h => h
                  case szz8 => first | assumption | trivial
                  case' rzz8 => simp only [Act.put, List.setIfInBounds_toArray, List.set_cons_zero, List.set_cons_succ]
                  refine wpAnyH_done (by kernel_rfl) ?_ _
                  have P := Lib.hid (Sv.putD (SU.out.step Z5.out.2.1) Z5.out.2.2.1 Z5.out.1 Z5.out.2.2.2)
                  have HNE := Lib.hid ((UL.out.q Z5.out.2.1).far_ne Z5.out.2.2.2)
                  have hb2 : w.heap.size < w.heap.size + 2 := by omega
                  have UL2 := Lib.hid (((UL.out.q Z5.out.2.1).q Z5.out.2.2.1).set4 (b := w.heap.size) hb2 (.slice A5 n5 c5) (.int .i64 y.1.room) (.int .i64 y.1.fuse) (.bool y.1.off))
                  have OM2 := Lib.hid (((OM.out.q Z5.out.2.1).q Z5.out.2.2.1).set4 (b := w.heap.size) hb2 (.slice A5 n5 c5) (.int .i64 y.1.room) (.int .i64 y.1.fuse) (.bool y.1.off))
                  have hbw2 : w.heap.size + 2 ≤ w5.heap.size := Nat.le_trans hbw (Nat.le_trans Z5.out.2.1.size Z5.out.2.2.1.size)
                  have hbw3 : w.heap.size + 2 ≤ ((((w5.setCell ⟨w.heap.size, 0, none⟩ (.slice A5 n5 c5)).setCell ⟨w.heap.size, 1, none⟩ (.int .i64 y.1.room)).setCell ⟨w.heap.size, 2, none⟩ (.int .i64 y.1.fuse)).setCell ⟨w.heap.size, 3, none⟩ (.bool y.1.off)).heap.size := by simpa [World.setCell] using hbw2
                  clear e0 e1 e2 e3 f0 f1 f2' f3 x0 x1 x2 x3 y0 y1 y2 y3 U UL OM SU DU Z5 hHeld QW hbw hbw2 hb2
                  generalize ((((w5.setCell ⟨w.heap.size, 0, none⟩ (.slice A5 n5 c5)).setCell ⟨w.heap.size, 1, none⟩ (.int .i64 y.1.room)).setCell ⟨w.heap.size, 2, none⟩ (.int .i64 y.1.fuse)).setCell ⟨w.heap.size, 3, none⟩ (.bool y.1.off)) = W at P UL2 OM2 hbw3 ⊢
                  obtain ⟨⟨e0, e1, e2, e3⟩, f0, f1, f2', f3⟩ := P.out.1.sb.get
                  by_cases gy : y.2 = 0
                  · have GY := Lib.hid gy
                    have OL := UL2
                    have OM := OM2
                    have hW2 : w.heap.size + 2 ≤ W.drew.heap.size := hbw3
                    have RB := Lib.hid P.out.1.sb.res
                    go_upto_region 17 with (fail)
                    refine wp_region_held_drew (S := fun w' => w'.cell? ⟨w.heap.size, 0, none⟩ = some (.slice A5 n5 c5) ∧ w'.cell? ⟨w.heap.size, 1, none⟩ = some (.int .i64 y.1.room) ∧ w'.cell? ⟨w.heap.size, 2, none⟩ = some (.int .i64 y.1.fuse) ∧ w'.cell? ⟨w.heap.size, 3, none⟩ = some (.bool y.1.off)) (by kernel_rfl) ?szz9 (fun hHeld => ?rzz9)
                    case szz9 =>
                      exact ⟨e0, e1, e2, e3⟩
                    case' rzz9 => skip
                    refine wpAnyH_take (i := 0) (oi := ?ozz10) (v := ?vzz10) ?hzz10 ?azz10 ?bzz10 ?czz10 ?qzz10 ?yzz10 ?szz10 ?rzz10
                    case hzz10 => simp only [List.getElem?_toArray, List.getElem?_cons_zero]; rfl
                    case azz10 => kernel_rfl
                    case bzz10 => kernel_rfl
                    case czz10 => kernel_rfl
                    case yzz10 =>
                      refine Or.inl ⟨by rfl, ?_⟩
                      intro w hSw
                      obtain ⟨x0, x1, x2, x3⟩ := hSw
                      go_simp
                      try with_reducible rfl
                    case qzz10 => exact fun _ _ _ h => h
                    case szz10 => first | assumption | trivial
                    case' rzz10 => simp only [Act.put, List.setIfInBounds_toArray, List.set_cons_zero, List.set_cons_succ]
                    refine wpAnyH_take (i := 1) (oi := ?ozz11) (v := ?vzz11) ?hzz11 ?azz11 ?bzz11 ?czz11 ?qzz11 ?yzz11 ?szz11 ?rzz11
                    case hzz11 => simp only [List.getElem?_toArray, List.getElem?_cons_zero, List.getElem?_cons_succ]; rfl
                    case azz11 => kernel_rfl
                    case bzz11 => kernel_rfl
                    case czz11 => kernel_rfl
                    case yzz11 =>
                      refine Or.inl ⟨by rfl, ?_⟩
                      intro w hSw
                      skip
                      go_simp
                      try with_reducible rfl
                    case qzz11 => exact fun _ _ _ h => h
                    case szz11 => first | assumption | trivial
                    case' rzz11 => simp only [Act.put, List.setIfInBounds_toArray, List.set_cons_zero, List.set_cons_succ]
                    refine wpAnyH_take (i := 2) (oi := ?ozz12) (v := ?vzz12) ?hzz12 ?azz12 ?bzz12 ?czz12 ?qzz12 ?yzz12 ?szz12 ?rzz12
                    case hzz12 => simp only [List.getElem?_toArray, List.getElem?_cons_zero, List.getElem?_cons_succ]; rfl
                    case azz12 => kernel_rfl
                    case bzz12 => kernel_rfl
                    case czz12 => kernel_rfl
                    case yzz12 =>
                      refine Or.inl ⟨by rfl, ?_⟩
                      intro w hSw
                      skip
                      go_simp
                      try with_reducible rfl
                    case qzz12 => exact fun _ _ _ h => h
                    case szz12 => first | assumption | trivial
                    case' rzz12 => simp only [Act.put, List.setIfInBounds_toArray, List.set_cons_zero, List.set_cons_succ]
                    refine wpAnyH_take (i := 4) (oi := ?ozz13) (v := ?vzz13) ?hzz13 ?azz13 ?bzz13 ?czz13 ?qzz13 ?yzz13 ?szz13 ?rzz13
                    case hzz13 => simp only [List.getElem?_toArray, List.getElem?_cons_zero, List.getElem?_cons_succ]; rfl
                    case azz13 => kernel_rfl
                    case bzz13 => kernel_rfl
                    case czz13 => kernel_rfl
                    case yzz13 =>
                      refine Or.inl ⟨by rfl, ?_⟩
                      intro w hSw
                      skip
                      go_simp
                      try with_reducible rfl
                    case qzz13 => exact fun _ _ _ h => h
                    case szz13 => first | assumption | trivial
                    case' rzz13 => simp only [Act.put, List.setIfInBounds_toArray, List.set_cons_zero, List.set_cons_succ]
                    refine wpAnyH_ready (rs := [3]) (by kernel_rfl) (by simp) ?_
                    refine AllReadyH.cons (o := ?ozz18) ?hzz18 (fun K hK => ?kzz18) ?mzz18
                    case hzz18 => simp only [List.getElem?_toArray, List.getElem?_cons_zero, List.getElem?_cons_succ]; rfl
                    case kzz18 =>
                      have hne := row_ne OL.out (b := w.heap.size) (by omega)
                      have hne1 := row_ne OL.out (b := w.heap.size + 1) (by omega)
                      refine step_appS (by rfl) _ _ (by rfl) (w.heap.size + 2) L rs.length lc rs (by rfl) (show OwnS W.drew _ _ _ _ _ from OL.out) M ms.length mc ms (by rfl) (show Strs W.drew _ _ _ from OM.out.strs) hMn.out HB2.out hW2 ?_
                      intro L2 lc2 w2 ho2 hg2 hb2
                      refine hK.out _ _ ?Szz18 (fun hHeld => ?Rzz18)
                      case Szz18 =>
                        exact ⟨box_g hg2 hne hHeld.1, box_g hg2 hne hHeld.2.1, box_g hg2 hne hHeld.2.2.1, box_g hg2 hne hHeld.2.2.2⟩
                      case Rzz18 =>
                        clear hK K
                        try simp only [Act.put, List.setIfInBounds_toArray, List.set_cons_zero, List.set_cons_succ]
                        have RB2 := Lib.hid (Bx.grown (show Bx W.drew _ _ from RB.out) hg2 hne1)
                        obtain ⟨⟨s0, s1, s2, s3⟩, h0, h1, h2, h3⟩ := RB2.out.get4
                        refine wpAnyH_ready (rs := [5]) (by kernel_rfl) (by simp) ?_
                        refine AllReadyH.cons (o := ?ozz17) ?hzz17 (fun K hK => ?kzz17) ?mzz17
                        case hzz17 => simp only [List.getElem?_toArray, List.getElem?_cons_zero, List.getElem?_cons_succ]; rfl
                        case kzz17 =>
                          go_simp
                          refine hK.out _ _ ?Szz17 (fun hHeld => ?Rzz17)
                          case Szz17 =>
                            exact far_cells hHeld
                          case Rzz17 =>
                            clear hK K
                            try simp only [Act.put, List.setIfInBounds_toArray, List.set_cons_zero, List.set_cons_succ]
                            refine wpAnyH_take (i := 6) (oi := ?ozz14) (v := ?vzz14) ?hzz14 ?azz14 ?bzz14 ?czz14 ?qzz14 ?yzz14 ?szz14 ?rzz14
                            case hzz14 => simp only [List.getElem?_toArray, List.getElem?_cons_zero, List.getElem?_cons_succ]; rfl
                            case azz14 => kernel_rfl
                            case bzz14 => kernel_rfl
                            case czz14 => kernel_rfl
                            case yzz14 =>
                              refine Or.inl ⟨by rfl, ?_⟩
                              intro w hSw
                              skip
                              go_simp
                              try with_reducible rfl
                            case qzz14 => exact fun _ _ _ h => h
                            case szz14 => first | assumption | trivial
                            case' rzz14 => simp only [Act.put, List.setIfInBounds_toArray, List.set_cons_zero, List.set_cons_succ]
                            refine wpAnyH_take (i := 7) (oi := ?ozz15) (v := ?vzz15) ?hzz15 ?azz15 ?bzz15 ?czz15 ?qzz15 ?yzz15 ?szz15 ?rzz15
                            case hzz15 => simp only [List.getElem?_toArray, List.getElem?_cons_zero, List.getElem?_cons_succ]; rfl
                            case azz15 => kernel_rfl
                            case bzz15 => kernel_rfl
                            case czz15 => kernel_rfl
                            case yzz15 =>
                              refine Or.inl ⟨by rfl, ?_⟩
                              intro w hSw
                              skip
                              go_simp
                              try with_reducible rfl
                            case qzz15 => exact fun _ _ _ h => h
                            case szz15 => first | assumption | trivial
                            case' rzz15 => simp only [Act.put, List.setIfInBounds_toArray, List.set_cons_zero, List.set_cons_succ]
                            refine wpAnyH_take (i := 8) (oi := ?ozz16) (v := ?vzz16) ?hzz16 ?azz16 ?bzz16 ?czz16 ?qzz16 ?yzz16 ?szz16 ?rzz16
                            case hzz16 => simp only [List.getElem?_toArray, List.getElem?_cons_zero, List.getElem?_cons_succ]; rfl
                            case azz16 => kernel_rfl
                            case bzz16 => kernel_rfl
                            case czz16 => kernel_rfl
                            case yzz16 =>
                              refine Or.inl ⟨by rfl, ?_⟩
                              intro w hSw
                              skip
                              go_simp
                              try with_reducible rfl
                            case qzz16 => exact fun _ _ _ h => h
                            case szz16 => first | assumption | trivial
                            case' rzz16 => simp only [Act.put, List.setIfInBounds_toArray, List.set_cons_zero, List.set_cons_succ]
                            refine wpAnyH_done (by kernel_rfl) ?_ _
                            go_wp2
                            (try rw [Exit.noGoto_ret])
                            refine bodyPost_ret (v := .tuple #[dkv A5 n5 c5 y.1.room y.1.fuse y.1.off, .slice L2 (rs.length + ms.length) lc2, .int .i64 k, .int .i64 0]) (by simp [results, Tryz.results6, go_sem, s0, s1, s2, s3]) rfl ?_
                            rw [HX2.out, if_neg (by rw [GY.out]; simp), ← HMS.out.1]
                            exact (Sv.grown (P.out.1.step (Q.refl W).drew) OL.out hg2 hb2 HNE.out).endR P.out.2 ho2 k 0 _ _ _ _
                        case' mzz17 => skip
                        exact AllReadyH.nil
                    case' mzz18 => skip
                    exact AllReadyH.nil
                  · have GY := Lib.hid gy
                    obtain ⟨⟨s0, s1, s2, s3⟩, h0, h1, h2, h3⟩ := P.out.1.sb.getR
                    go_wp2
                    (try rw [Exit.noGoto_ret])
                    refine bodyPost_ret (v := .tuple #[dkv A5 n5 c5 y.1.room y.1.fuse y.1.off, .slice none 0 0, .int .i64 from_, .int .i64 y.2]) (by simp [results, Tryz.results6, go_sem, s0, s1, s2, s3]) rfl ?_
                    rw [HX2.out, if_pos GY.out]
                    exact P.out.1.endR P.out.2 (ownS_nil _ _) from_ y.2 _ _ _ _
              case' mzz19 => skip
              exact AllReadyL.nil
          case' mzz32 => skip
          refine AllReadyL.consK (o := ?ozz33) ?hzz33 ?lzz33 (fun K hK => ?kzz33) ?mzz33
          case hzz33 => simp only [List.getElem?_toArray, List.getElem?_cons_zero, List.getElem?_cons_succ]; rfl
          case lzz33 => kernel_rfl
          case kzz33 =>
            go_simp
            refine hK.out _ _ ?Rzz33
            case Rzz33 =>
              clear hK K
              try simp only [Act.put, List.setIfInBounds_toArray, List.set_cons_zero, List.set_cons_succ]
              refine wpAnyH_take (i := 8) (oi := ?ozz20) (v := ?vzz20) ?hzz20 ?azz20 ?bzz20 ?czz20 ?qzz20 ?yzz20 ?szz20 ?rzz20
              case hzz20 => simp only [List.getElem?_toArray, List.getElem?_cons_zero, List.getElem?_cons_succ]; rfl
              case azz20 => kernel_rfl
              case bzz20 => kernel_rfl
              case czz20 => kernel_rfl
              case yzz20 =>
                refine Or.inl ⟨by rfl, ?_⟩
                intro w hSw
                skip
                go_simp
                try with_reducible rfl
              case qzz20 => exact fun _ _ _ h => h
              case szz20 => first | assumption | trivial
              case' rzz20 => simp only [Act.put, List.setIfInBounds_toArray, List.set_cons_zero, List.set_cons_succ]
              refine wpAnyH_take (i := 10) (oi := ?ozz21) (v := ?vzz21) ?hzz21 ?azz21 ?bzz21 ?czz21 ?qzz21 ?yzz21 ?szz21 ?rzz21
              case hzz21 => simp only [List.getElem?_toArray, List.getElem?_cons_zero, List.getElem?_cons_succ]; rfl
              case azz21 => kernel_rfl
              case bzz21 => kernel_rfl
              case czz21 => kernel_rfl
              case yzz21 =>
                refine Or.inl ⟨by rfl, ?_⟩
                intro w hSw
                skip
                go_simp
                try with_reducible rfl
              case qzz21 => exact fun _ _ _ h => h
              case szz21 => first | assumption | trivial
              case' rzz21 => simp only [Act.put, List.setIfInBounds_toArray, List.set_cons_zero, List.set_cons_succ]
              refine wpAnyH_done (by kernel_rfl) ?_ _
              have P := Lib.hid (Sv.putD (SU.out.step Z5.out.2.1) Z5.out.2.2.1 Z5.out.1 Z5.out.2.2.2)
              have HNE := Lib.hid ((UL.out.q Z5.out.2.1).far_ne Z5.out.2.2.2)
              have hb2 : w.heap.size < w.heap.size + 2 := by omega
              have UL2 := Lib.hid (((UL.out.q Z5.out.2.1).q Z5.out.2.2.1).set4 (b := w.heap.size) hb2 (.slice A5 n5 c5) (.int .i64 y.1.room) (.int .i64 y.1.fuse) (.bool y.1.off))
              have OM2 := Lib.hid (((OM.out.q Z5.out.2.1).q Z5.out.2.2.1).set4 (b := w.heap.size) hb2 (.slice A5 n5 c5) (.int .i64 y.1.room) (.int .i64 y.1.fuse) (.bool y.1.off))
              have hbw2 : w.heap.size + 2 ≤ w5.heap.size := Nat.le_trans hbw (Nat.le_trans Z5.out.2.1.size Z5.out.2.2.1.size)
              have hbw3 : w.heap.size + 2 ≤ ((((w5.setCell ⟨w.heap.size, 0, none⟩ (.slice A5 n5 c5)).setCell ⟨w.heap.size, 1, none⟩ (.int .i64 y.1.room)).setCell ⟨w.heap.size, 2, none⟩ (.int .i64 y.1.fuse)).setCell ⟨w.heap.size, 3, none⟩ (.bool y.1.off)).heap.size := by simpa [World.setCell] using hbw2
              clear e0 e1 e2 e3 f0 f1 f2' f3 x0 x1 x2 x3 y0 y1 y2 y3 U UL OM SU DU Z5 hHeld QW hbw hbw2 hb2
              generalize ((((w5.setCell ⟨w.heap.size, 0, none⟩ (.slice A5 n5 c5)).setCell ⟨w.heap.size, 1, none⟩ (.int .i64 y.1.room)).setCell ⟨w.heap.size, 2, none⟩ (.int .i64 y.1.fuse)).setCell ⟨w.heap.size, 3, none⟩ (.bool y.1.off)) = W at P UL2 OM2 hbw3 ⊢
              obtain ⟨⟨e0, e1, e2, e3⟩, f0, f1, f2', f3⟩ := P.out.1.sb.get
              by_cases gy : y.2 = 0
              · have GY := Lib.hid gy
                have OL := UL2
                have OM := OM2
                have hW2 : w.heap.size + 2 ≤ W.drew.heap.size := hbw3
                have RB := Lib.hid P.out.1.sb.res
                go_upto_region 17 with (fail)
                refine wp_region_held_drew (S := fun w' => w'.cell? ⟨w.heap.size, 0, none⟩ = some (.slice A5 n5 c5) ∧ w'.cell? ⟨w.heap.size, 1, none⟩ = some (.int .i64 y.1.room) ∧ w'.cell? ⟨w.heap.size, 2, none⟩ = some (.int .i64 y.1.fuse) ∧ w'.cell? ⟨w.heap.size, 3, none⟩ = some (.bool y.1.off)) (by kernel_rfl) ?szz22 (fun hHeld => ?rzz22)
                case szz22 =>
                  exact ⟨e0, e1, e2, e3⟩
                case' rzz22 => skip
                refine wpAnyH_take (i := 0) (oi := ?ozz23) (v := ?vzz23) ?hzz23 ?azz23 ?bzz23 ?czz23 ?qzz23 ?yzz23 ?szz23 ?rzz23
                case hzz23 => simp only [List.getElem?_toArray, List.getElem?_cons_zero]; rfl
                case azz23 => kernel_rfl
                case bzz23 => kernel_rfl
                case czz23 => kernel_rfl
                case yzz23 =>
                  refine Or.inl ⟨by rfl, ?_⟩
                  intro w hSw
                  obtain ⟨x0, x1, x2, x3⟩ := hSw
                  go_simp
                  try with_reducible rfl
                case qzz23 => exact fun _ _ _ h => h
                case szz23 => first | assumption | trivial
                case' rzz23 => simp only [Act.put, List.setIfInBounds_toArray, List.set_cons_zero, List.set_cons_succ]
                refine wpAnyH_take (i := 1) (oi := ?ozz24) (v := ?vzz24) ?hzz24 ?azz24 ?bzz24 ?czz24 ?qzz24 ?yzz24 ?szz24 ?rzz24
                case hzz24 => simp only [List.getElem?_toArray, List.getElem?_cons_zero, List.getElem?_cons_succ]; rfl
                case azz24 => kernel_rfl
                case bzz24 => kernel_rfl
                case czz24 => kernel_rfl
                case yzz24 =>
                  refine Or.inl ⟨by rfl, ?_⟩
                  intro w hSw
                  skip
                  go_simp
                  try with_reducible rfl
                case qzz24 => exact fun _ _ _ h => h
                case szz24 => first | assumption | trivial
                case' rzz24 => simp only [Act.put, List.setIfInBounds_toArray, List.set_cons_zero, List.set_cons_succ]
                refine wpAnyH_take (i := 2) (oi := ?ozz25) (v := ?vzz25) ?hzz25 ?azz25 ?bzz25 ?czz25 ?qzz25 ?yzz25 ?szz25 ?rzz25
                case hzz25 => simp only [List.getElem?_toArray, List.getElem?_cons_zero, List.getElem?_cons_succ]; rfl
                case azz25 => kernel_rfl
                case bzz25 => kernel_rfl
                case czz25 => kernel_rfl
                case yzz25 =>
                  refine Or.inl ⟨by rfl, ?_⟩
                  intro w hSw
                  skip
                  go_simp
                  try with_reducible rfl
                case qzz25 => exact fun _ _ _ h => h
                case szz25 => first | assumption | trivial
                case' rzz25 => simp only [Act.put, List.setIfInBounds_toArray, List.set_cons_zero, List.set_cons_succ]
                refine wpAnyH_take (i := 4) (oi := ?ozz26) (v := ?vzz26) ?hzz26 ?azz26 ?bzz26 ?czz26 ?qzz26 ?yzz26 ?szz26 ?rzz26
                case hzz26 => simp only [List.getElem?_toArray, List.getElem?_cons_zero, List.getElem?_cons_succ]; rfl
                case azz26 => kernel_rfl
                case bzz26 => kernel_rfl
                case czz26 => kernel_rfl
                case yzz26 =>
                  refine Or.inl ⟨by rfl, ?_⟩
                  intro w hSw
                  skip
                  go_simp
                  try with_reducible rfl
                case qzz26 => exact fun _ _ _ h => h
                case szz26 => first | assumption | trivial
                case' rzz26 => simp only [Act.put, List.setIfInBounds_toArray, List.set_cons_zero, List.set_cons_succ]
                refine wpAnyH_ready (rs := [3]) (by kernel_rfl) (by simp) ?_
                refine AllReadyH.cons (o := ?ozz31) ?hzz31 (fun K hK => ?kzz31) ?mzz31
                case hzz31 => simp only [List.getElem?_toArray, List.getElem?_cons_zero, List.getElem?_cons_succ]; rfl
                case kzz31 =>
                  have hne := row_ne OL.out (b := w.heap.size) (by omega)
                  have hne1 := row_ne OL.out (b := w.heap.size + 1) (by omega)
                  refine step_appS (by rfl) _ _ (by rfl) (w.heap.size + 2) L rs.length lc rs (by rfl) (show OwnS W.drew _ _ _ _ _ from OL.out) M ms.length mc ms (by rfl) (show Strs W.drew _ _ _ from OM.out.strs) hMn.out HB2.out hW2 ?_
                  intro L2 lc2 w2 ho2 hg2 hb2
                  refine hK.out _ _ ?Szz31 (fun hHeld => ?Rzz31)
                  case Szz31 =>
                    exact ⟨box_g hg2 hne hHeld.1, box_g hg2 hne hHeld.2.1, box_g hg2 hne hHeld.2.2.1, box_g hg2 hne hHeld.2.2.2⟩
                  case Rzz31 =>
                    clear hK K
                    try simp only [Act.put, List.setIfInBounds_toArray, List.set_cons_zero, List.set_cons_succ]
                    have RB2 := Lib.hid (Bx.grown (show Bx W.drew _ _ from RB.out) hg2 hne1)
                    obtain ⟨⟨s0, s1, s2, s3⟩, h0, h1, h2, h3⟩ := RB2.out.get4
                    refine wpAnyH_ready (rs := [5]) (by kernel_rfl) (by simp) ?_
                    refine AllReadyH.cons (o := ?ozz30) ?hzz30 (fun K hK => ?kzz30) ?mzz30
                    case hzz30 => simp only [List.getElem?_toArray, List.getElem?_cons_zero, List.getElem?_cons_succ]; rfl
                    case kzz30 =>
                      go_simp
                      refine hK.out _ _ ?Szz30 (fun hHeld => ?Rzz30)
                      case Szz30 =>
                        exact far_cells hHeld
                      case Rzz30 =>
                        clear hK K
                        try simp only [Act.put, List.setIfInBounds_toArray, List.set_cons_zero, List.set_cons_succ]
                        refine wpAnyH_take (i := 6) (oi := ?ozz27) (v := ?vzz27) ?hzz27 ?azz27 ?bzz27 ?czz27 ?qzz27 ?yzz27 ?szz27 ?rzz27
                        case hzz27 => simp only [List.getElem?_toArray, List.getElem?_cons_zero, List.getElem?_cons_succ]; rfl
                        case azz27 => kernel_rfl
                        case bzz27 => kernel_rfl
                        case czz27 => kernel_rfl
                        case yzz27 =>
                          refine Or.inl ⟨by rfl, ?_⟩
                          intro w hSw
                          skip
                          go_simp
                          try with_reducible rfl
                        case qzz27 => exact fun _ _ _ h => h
                        case szz27 => first | assumption | trivial
                        case' rzz27 => simp only [Act.put, List.setIfInBounds_toArray, List.set_cons_zero, List.set_cons_succ]
                        refine wpAnyH_take (i := 7) (oi := ?ozz28) (v := ?vzz28) ?hzz28 ?azz28 ?bzz28 ?czz28 ?qzz28 ?yzz28 ?szz28 ?rzz28
                        case hzz28 => simp only [List.getElem?_toArray, List.getElem?_cons_zero, List.getElem?_cons_succ]; rfl
                        case azz28 => kernel_rfl
                        case bzz28 => kernel_rfl
                        case czz28 => kernel_rfl
                        case yzz28 =>
                          refine Or.inl ⟨by rfl, ?_⟩
                          intro w hSw
                          skip
                          go_simp
                          try with_reducible rfl
                        case qzz28 => exact fun _ _ _ h => h
                        case szz28 => first | assumption | trivial
                        case' rzz28 => simp only [Act.put, List.setIfInBounds_toArray, List.set_cons_zero, List.set_cons_succ]
                        refine wpAnyH_take (i := 8) (oi := ?ozz29) (v := ?vzz29) ?hzz29 ?azz29 ?bzz29 ?czz29 ?qzz29 ?yzz29 ?szz29 ?rzz29
                        case hzz29 => simp only [List.getElem?_toArray, List.getElem?_cons_zero, List.getElem?_cons_succ]; rfl
                        case azz29 => kernel_rfl
                        case bzz29 => kernel_rfl
                        case czz29 => kernel_rfl
                        case yzz29 =>
                          refine Or.inl ⟨by rfl, ?_⟩
                          intro w hSw
                          skip
                          go_simp
                          try with_reducible rfl
                        case qzz29 => exact fun _ _ _ h => h
                        case szz29 => first | assumption | trivial
                        case' rzz29 => simp only [Act.put, List.setIfInBounds_toArray, List.set_cons_zero, List.set_cons_succ]
                        refine wpAnyH_done (by kernel_rfl) ?_ _
                        go_wp2
                        (try rw [Exit.noGoto_ret])
                        refine bodyPost_ret (v := .tuple #[dkv A5 n5 c5 y.1.room y.1.fuse y.1.off, .slice L2 (rs.length + ms.length) lc2, .int .i64 k, .int .i64 0]) (by simp [results, Tryz.results6, go_sem, s0, s1, s2, s3]) rfl ?_
                        rw [HX2.out, if_neg (by rw [GY.out]; simp), ← HMS.out.1]
                        exact (Sv.grown (P.out.1.step (Q.refl W).drew) OL.out hg2 hb2 HNE.out).endR P.out.2 ho2 k 0 _ _ _ _
                    case' mzz30 => skip
                    exact AllReadyH.nil
                case' mzz31 => skip
                exact AllReadyH.nil
              · have GY := Lib.hid gy
                obtain ⟨⟨s0, s1, s2, s3⟩, h0, h1, h2, h3⟩ := P.out.1.sb.getR
                go_wp2
                (try rw [Exit.noGoto_ret])
                refine bodyPost_ret (v := .tuple #[dkv A5 n5 c5 y.1.room y.1.fuse y.1.off, .slice none 0 0, .int .i64 from_, .int .i64 y.2]) (by simp [results, Tryz.results6, go_sem, s0, s1, s2, s3]) rfl ?_
                rw [HX2.out, if_pos GY.out]
                exact P.out.1.endR P.out.2 (ownS_nil _ _) from_ y.2 _ _ _ _
          case' mzz33 => skip
          exact AllReadyL.nil
      case' mzz34 => skip
      exact AllReadyL.nil

theorem rec_bad (from_ : Int) (A : Option Addr) (n c : Nat) (d : Dk) (w : World) (hd : Dsk w A n c d.fs) (h1 : ¬ segOk from_) :
    Calls Tryz.prog 6 #[dkv A n c d.room d.fuse d.off, .int .i64 from_] w fun e w' => RetR w (d, [], from_, 1) e w' := by
  have HD := Lib.hid hd
  have KU := Lib.hid (numbered_no from_ h1)
  clear hd h1
  go_enter Tryz.func6, Tryz.ntmps6
  go_wp2_with fail
  go_step3
  go_wp2_with fail
  refine (wown_any A n c d.room d.fuse d.off d.fs _ (HD.out.q (((Q.refl _).alloc _).alloc _))).mono ?_
  rintro e w1 ⟨A1, c1, rfl, ho, q1⟩
  have P := Lib.hid (Sd.new2 (room := d.room) (fuse := d.fuse) (off := d.off) (L := d.fs) (Sv.new w HD.out).sb q1 ho)
  obtain ⟨⟨e0, e1, e2, e3⟩, f0, f1, f2', f3⟩ := ((Sv.new w HD.out).sb.step q1).get
  clear ho q1
  go_upto_region 2 with (fail)
  generalize ((((w1.setCell ⟨w.heap.size, 0, none⟩ (.slice A1 n c1)).setCell ⟨w.heap.size, 1, none⟩ (.int .i64 d.room)).setCell ⟨w.heap.size, 2, none⟩ (.int .i64 d.fuse)).setCell ⟨w.heap.size, 3, none⟩ (.bool d.off)) = W at P ⊢
  clear e0 e1 e2 e3 f0 f1 f2' f3
  go_wp2_with fail
  refine (KU.out _).mono ?_
  rintro e w2 ⟨rfl, q2⟩
  have V := Lib.hid (P.out.step q2)
  clear P q2
  obtain ⟨⟨e0, e1, e2, e3⟩, f0, f1, f2', f3⟩ := V.out.sb.get
  obtain ⟨⟨s0, s1, s2, s3⟩, h0, h1, h2, h3⟩ := V.out.sb.getR
  go_wp2
  (try rw [Exit.noGoto_ret])
  refine bodyPost_ret (v := .tuple #[dkv A1 n c1 d.room d.fuse d.off, .slice none 0 0, .int .i64 from_, .int .i64 1]) (by simp [results, Tryz.results6, go_sem, s0, s1, s2, s3]) rfl ?_
  exact V.out.endR HD.out.few (ownS_nil _ _) from_ 1 _ _ _ _
theorem recover_any (from_ : Int) (A : Option Addr) (n c : Nat) (d : Dk) (w : World) (hT : Tab w) (hd : Dsk w A n c d.fs) (hB : Bnd 2097152 d) :
    Calls Tryz.prog 6 #[dkv A n c d.room d.fuse d.off, .int .i64 from_] w fun e w' => RetR w (recM d from_) e w' := by
  by_cases h1 : segOk from_
  · exact rec_good from_ A n c d w hT hd hB h1
  · rw [show recM d from_ = (d, [], from_, 1) by unfold recM; rw [if_pos h1]]
    exact rec_bad from_ A n c d w hd h1
end Go.Proofs.YtggbdhnjogalgaaGreatDoor

/- Contracts of the document's own TakeNum, TakeText. -/
namespace Go.Proofs.YtggbdhnjogalgaaGreatDoor
set_option maxRecDepth 100000
open Go.RowKit
set_option linter.unusedVariables false

/-- how the figures end. -/
theorem figs_end (l : List UInt8) : (Dm.figs l).length = l.length ∨ ∃ h : (Dm.figs l).length < l.length, Dm.isD (l[(Dm.figs l).length]) = false := by
  rcases Nat.lt_or_ge (Dm.figs l).length l.length with h | h
  · right
    refine ⟨h, ?_⟩
    have hr : Dm.rest l = l[(Dm.figs l).length] :: l.drop ((Dm.figs l).length + 1) := by rw [Dm.rest_eq, List.drop_eq_getElem_cons h]
    have hne : Dm.rest l ≠ [] := by rw [hr]; exact List.cons_ne_nil _ _
    have := List.head_dropWhile_not Dm.isD hne
    have e : (List.dropWhile Dm.isD l).head hne = l[(Dm.figs l).length] := by
      show (Dm.rest l).head hne = _
      simp only [hr, List.head_cons]
    rw [e] at this
    simpa using this
  · left; have := Dm.figs_len l; omega
theorem figs_get (l : List UInt8) (i : Nat) (h : i < (Dm.figs l).length) (h' : i < l.length) : Dm.isD l[i] = true := by
  have := Dm.figs_all l _ (List.getElem_mem h)
  have e := Dm.figs_eq l
  have e2 : (Dm.figs l)[i] = l[i] := by
    have : (Dm.figs l)[i]? = (l.take (Dm.figs l).length)[i]? := by rw [← e]
    rw [List.getElem?_take, if_pos h, List.getElem?_eq_getElem h, List.getElem?_eq_getElem h'] at this
    injection this
  rw [← e2]; exact this
theorem bad_long (l : List UInt8) (h : 20 < (Dm.figs l).length) : Dm.bad l = true := by
  cases hl : l with
  | nil => rw [hl] at h; simp [Dm.figs] at h
  | cons c r =>
    rw [← hl]
    have hh : l.head? = some c := by rw [hl]; rfl
    by_cases h0 : c.toNat = 48
    · have hc : c = 48 := UInt8.toNat_inj.1 (by rw [h0]; rfl)
      unfold Dm.bad; rw [decide_eq_true (show 1 < (Dm.figs l).length by omega), hh, hc]; rfl
    · have hl0 : 0 < l.length := by rw [hl]; simp
      have hd := figs_get l 0 (by omega) hl0
      have e : l[0] = c := by simp [hl]
      rw [e] at hd
      cases hf : Dm.figs l with
      | nil => rw [hf] at h; simp at h
      | cons c2 r2 =>
        have hc2 : c2 = c := by
          have := Dm.figs_rest l
          rw [hf, hl] at this
          simp at this; exact this.1
        have := Dm.val_big (Dm.figs l) c2 r2 hf (by rw [hc2]; exact hd) (by rw [hc2]; exact h0) h
        unfold Dm.bad; rw [decide_eq_true this, Bool.or_true]
theorem bad_lead (l : List UInt8) (h : 1 < (Dm.figs l).length) (h0 : l.head? = some 48) : Dm.bad l = true := by
  unfold Dm.bad; rw [decide_eq_true h, h0]; rfl
theorem tnum_bad (l : List UInt8) (h : Dm.bad l = true) : Dm.tnum l = (0, [], 3) := by unfold Dm.tnum; rw [if_pos h]

theorem tnum_more (l : List UInt8) (hb : Dm.bad l = false) (h : (Dm.figs l).length = l.length) : Dm.tnum l = (0, [], 2) := by
  unfold Dm.tnum
  rw [hb, if_neg (by simp), if_pos (by rw [Dm.rest_eq, h, List.drop_length])]
theorem rest_cons (l : List UInt8) (h : (Dm.figs l).length < l.length) : Dm.rest l = l[(Dm.figs l).length] :: l.drop ((Dm.figs l).length + 1) := by
  rw [Dm.rest_eq, List.drop_eq_getElem_cons h]
theorem tnum_other (l : List UInt8) (hb : Dm.bad l = false) (h : (Dm.figs l).length < l.length) (hc : l[(Dm.figs l).length] ≠ 59 ∨ (Dm.figs l).length = 0) : Dm.tnum l = (0, [], 3) := by
  unfold Dm.tnum
  rw [hb, if_neg (by simp), rest_cons l h, if_neg (List.cons_ne_nil _ _), if_pos]
  rcases hc with hc | hc
  · left; rw [List.head?_cons]; intro e; injection e with e; exact hc e
  · right; exact List.length_eq_zero_iff.1 hc
theorem tnum_ok (l : List UInt8) (hb : Dm.bad l = false) (h : (Dm.figs l).length < l.length) (hc : l[(Dm.figs l).length] = 59) (h0 : (Dm.figs l).length ≠ 0) :
    Dm.tnum l = (Dm.val (Dm.figs l), l.drop ((Dm.figs l).length + 1), 0) := by
  unfold Dm.tnum
  rw [hb, if_neg (by simp), rest_cons l h, if_neg (List.cons_ne_nil _ _), if_neg]
  · rfl
  · rintro (e | e)
    · simp [hc] at e
    · exact h0 (List.length_eq_zero_iff.2 e)

set_option maxHeartbeats 1000000 in
theorem refTakeNum_any (s : ByteArray) (w : World) (hs : s.size ≤ maxLen) :
    Calls Tryz.prog 66 #[.string s] w fun e w' => e = .returned (tnR (Dm.tnum s.data.toList)) ∧ Q w w' := by
  unfold maxLen at hs
  have hend0 := figs_end s.data.toList
  have hle : (Dm.figs s.data.toList).length ≤ s.size := by have := Dm.figs_len s.data.toList; rw [size_list] at this; exact this
  have hget := figs_get s.data.toList
  have hfe := Dm.figs_eq s.data.toList
  have hbl := bad_long s.data.toList
  have hbz := bad_lead s.data.toList
  have hbb := tnum_bad s.data.toList
  have hrest := Dm.rest_eq s.data.toList
  have hnil : Dm.figs s.data.toList = [] ↔ (Dm.figs s.data.toList).length = 0 := List.length_eq_zero_iff.symm
  obtain ⟨N, hN⟩ : ∃ N, N = (Dm.figs s.data.toList).length := ⟨_, rfl⟩
  rw [← hN] at hle hget hbl hbz hrest hnil
  have hdig : ∀ i (h : i < N) (h' : i < s.size), 48 ≤ s[i].toNat ∧ s[i].toNat ≤ 57 := by
    intro i h h'
    have := hget i h (by rw [size_list]; exact h')
    rw [get_list, Dm.isD_iff] at this; exact this
  have hend : s.size ≤ N ∨ (∃ h : N < s.size, s[N].toNat < 48) ∨ (∃ h : N < s.size, 57 < s[N].toNat) := by
    rcases hend0 with h | ⟨h, h2⟩
    · left; rw [hN, h, size_list]; exact Nat.le_refl _
    · right
      have h3 : N < s.size := by rw [hN]; rw [size_list] at h; exact h
      have h4 : Dm.isD s[N] = false := by
        have : s[N] = s.data.toList[(Dm.figs s.data.toList).length] := by simp only [hN]; rfl
        rw [this]; exact h2
      unfold Dm.isD at h4
      simp only [Bool.and_eq_false_iff, decide_eq_false_iff_not] at h4
      rcases h4 with h4 | h4
      · left; exact ⟨h3, by omega⟩
      · right; exact ⟨h3, by omega⟩
  have HDIG := Lib.hid hdig
  have HFE := Lib.hid hfe
  have HNIL := Lib.hid hnil
  have HREST := Lib.hid hrest
  have HBB := Lib.hid hbb
  have HN := Lib.hid hN
  clear hend0 hget hfe hdig hnil hrest hbb
  by_cases cL : 20 < N ∨ (1 < N ∧ ∃ h : 0 < s.size, s[0].toNat = 48)
  · have hbad : Dm.bad s.data.toList = true := by
      rcases cL with h | ⟨h, h1, h2⟩
      · exact hbl h
      · exact hbz h (by rw [head_list s h1]; congr 1; exact UInt8.toNat_inj.1 (by rw [h2]; rfl))
    have ht := HBB.out hbad
    have HT := Lib.hid ht
    have CL := Lib.hid cL
    clear ht hbl hbz cL hbad hN
    rcases hend with hend | ⟨hlt, hend⟩ | ⟨hlt, hend⟩
    all_goals
      go_enter Tryz.func66, Tryz.ntmps66
      go_wp2
      go_loop [5] (fun n => ∃ k : Nat, k ≤ N ∧ n = .int .i64 k) (fun n => N - (intOf n).toNat)
      case atStart => exact ⟨0, Nat.zero_le _, rfl⟩
      case round =>
        obtain ⟨k, hk, rfl⟩ := hrel
        by_cases c : k < N
        · have hks : k < s.size := by omega
          obtain ⟨d1, d2⟩ := HDIG.out k c hks
          go_wp2
          go_round
          case rel => exact ⟨k + 1, by omega, by go_num⟩
          case measure => simp [intOf]; omega
        · obtain rfl : k = N := by omega
          by_cases cN : 20 < k
          · have dN : decide (20 < (k : Int)) = true := by simp; omega
            go_wp2
            go_ret3
            exact ⟨by rw [HT.out]; rfl, Q.refl _⟩
          · have h1 : 1 < k := by have := CL.out; omega
            have h0s : 0 < s.size := by omega
            have hb : ((s[0].toNat : Int) == 48) = true := by
              rcases CL.out with h | ⟨_, _, h⟩
              · omega
              · simp; omega
            go_wp2
            go_ret3
            exact ⟨by rw [HT.out]; rfl, Q.refl _⟩
  have cN : N ≤ 20 := by
    rcases Nat.lt_or_ge 20 N with h | h
    · exact absurd (.inl h) cL
    · exact h
  have hz : 1 < N → ∀ h : 0 < s.size, ((s[0].toNat : Int) == 48) = false := by
    intro h1 h2
    have : ¬ s[0].toNat = 48 := fun e => cL (.inr ⟨h1, h2, e⟩)
    simp; omega
  have HZ := Lib.hid hz
  have dN : decide (20 < (N : Int)) = false := by simp; omega
  have hvl : Dm.val (s.data.toList.take N) = Dm.val (Dm.figs s.data.toList) := by rw [HN.out]; rw [← HFE.out]
  have HVL := Lib.hid hvl
  have hmono : ∀ k, k < N → Dm.maxU < Dm.val (s.data.toList.take (k + 1)) → Dm.tnum s.data.toList = (0, [], 3) := by
    intro k hk h
    apply HBB.out
    refine Dm.bad_big s.data.toList k (by rw [size_list]; omega) ?_ h
    intro i hi
    rw [get_list, Dm.isD_iff]; exact HDIG.out i (by omega) (by omega)
  have HM := Lib.hid hmono
  have hgood : Dm.val (Dm.figs s.data.toList) ≤ Dm.maxU → Dm.bad s.data.toList = false := by
    intro h
    refine Dm.bad_not s.data.toList N (by rw [HN.out]; exact HFE.out) (by rw [size_list]; exact hle) ?_ (by rw [hvl]; exact h)
    intro h1 e
    have h2 : 0 < s.size := by omega
    rw [head_list s h2] at e
    injection e with e
    have := hz h1 h2
    rw [e] at this
    exact absurd this (by decide)
  have HG := Lib.hid hgood
  clear hbl hbz cL hz hN hvl hmono hgood
  rcases hend with hend | ⟨hlt, hend⟩ | ⟨hlt, hend⟩
  all_goals
    go_enter Tryz.func66, Tryz.ntmps66
    go_wp2
    go_loop [5] (fun n => ∃ k : Nat, k ≤ N ∧ n = .int .i64 k) (fun n => N - (intOf n).toNat)
    case atStart => exact ⟨0, Nat.zero_le _, rfl⟩
    case round =>
      obtain ⟨k, hk, rfl⟩ := hrel
      by_cases c : k < N
      · have hks : k < s.size := by omega
        obtain ⟨d1, d2⟩ := HDIG.out k c hks
        go_wp2
        go_round
        case rel => exact ⟨k + 1, by omega, by go_num⟩
        case measure => simp [intOf]; omega
      · obtain rfl : k = N := by omega
        have hcase : k ≤ 1 ∨ (1 < k ∧ ∃ h : 0 < s.size, ((s[0].toNat : Int) == 48) = false) := by
          rcases Nat.lt_or_ge 1 k with h | h
          · exact .inr ⟨h, by omega, HZ.out h (by omega)⟩
          · exact .inl h
        rcases hcase with h1 | ⟨h1, h0s, hb0⟩
        all_goals
          go_wp2
          go_loop [6, 7] (fun v i => ∃ j : Nat, j ≤ k ∧ i = .int .i64 j ∧ v = .int .u64 (Dm.val (s.data.toList.take j)) ∧ Dm.val (s.data.toList.take j) ≤ Dm.maxU) (fun _ i => k - (intOf i).toNat)
          case atStart => exact ⟨0, Nat.zero_le _, rfl, rfl, Nat.zero_le _⟩
          case round =>
            obtain ⟨j, hj, rfl, rfl, hv⟩ := hrel
            by_cases c2 : j < k
            · have hjs : j < s.size := by omega
              obtain ⟨d1, d2⟩ := HDIG.out j c2 hjs
              have e1 := Dm.val_snoc (s.data.toList.take j) s[j]
              rw [← take_snoc' s j hjs] at e1
              have hov := HM.out j c2
              generalize hA : Dm.val (s.data.toList.take j) = A at *
              rw [e1] at hov
              have hdv : Dm.dv s[j] = s[j].toNat - 48 := rfl
              rw [hdv] at e1 hov
              have H1 := Lib.hid e1
              have HO := Lib.hid hov
              unfold Dm.maxU at hv
              clear e1 hov hdv hA
              by_cases c3 : 1844674407370955161 < A
              · have HT := Lib.hid (HO.out (by unfold Dm.maxU; omega))
                have c3' : decide ((1844674407370955161 : Int) < (A : Int)) = true := by simp; omega
                go_wp2
                go_ret3
                exact ⟨by rw [HT.out]; rfl, Q.refl _⟩
              have c3' : decide ((1844674407370955161 : Int) < (A : Int)) = false := by simp; omega
              by_cases c4 : A = 1844674407370955161
              · have c4' : ((A : Int) == 1844674407370955161) = true := by simp; omega
                by_cases c5 : 53 < s[j].toNat
                · have HT := Lib.hid (HO.out (by unfold Dm.maxU; omega))
                  clear c4
                  go_wp2
                  go_ret3
                  exact ⟨by rw [HT.out]; rfl, Q.refl _⟩
                · have c5' : s[j].toNat ≤ 53 := by omega
                  have hle2 : 10 * A + (s[j].toNat - 48) ≤ 18446744073709551615 := by omega
                  have hle3 : 10 * (A : Int) + ((s[j].toNat : Int) - 48) ≤ 18446744073709551615 := by omega
                  have HN2 := Lib.hid (show ((10 * A + (s[j].toNat - 48) : Nat) : Int) = 10 * (A : Int) + ((s[j].toNat : Int) - 48) by omega)
                  have HL2 := Lib.hid hle2
                  clear c4 hle2
                  go_wp2
                  go_round
                  case rel => exact ⟨j + 1, by omega, by go_num, by rw [H1.out, HN2.out], by rw [H1.out]; exact HL2.out⟩
                  case measure => simp [intOf]; omega
              · have c4' : ((A : Int) == 1844674407370955161) = false := by simp; omega
                have hle2 : 10 * A + (s[j].toNat - 48) ≤ 18446744073709551615 := by omega
                have hle3 : 10 * (A : Int) + ((s[j].toNat : Int) - 48) ≤ 18446744073709551615 := by omega
                have HN2 := Lib.hid (show ((10 * A + (s[j].toNat - 48) : Nat) : Int) = 10 * (A : Int) + ((s[j].toNat : Int) - 48) by omega)
                have HL2 := Lib.hid hle2
                clear c4 hle2
                go_wp2
                go_round
                case rel => exact ⟨j + 1, by omega, by go_num, by rw [H1.out, HN2.out], by rw [H1.out]; exact HL2.out⟩
                case measure => simp [intOf]; omega
            · obtain rfl : j = k := by omega
              have hg := HG.out (by rw [← HVL.out]; exact hv)
              by_cases c6 : j = s.size
              · have HT := Lib.hid (tnum_more s.data.toList hg (by rw [size_list, ← HN.out]; exact c6))
                have hbe : ((j : Int) == (s.size : Int)) = true := by simp; omega
                clear hg
                first
                  | (exfalso; omega)
                  | (clear c6
                     go_wp2
                     go_ret3
                     exact ⟨by rw [HT.out]; rfl, Q.refl _⟩)
              · have hbe : ((j : Int) == (s.size : Int)) = false := by simp; omega
                have hjs : j < s.size := by omega
                have hgt : s.data.toList[(Dm.figs s.data.toList).length]'(by rw [size_list, ← HN.out]; exact hjs) = s[j] := by
                  simp only [← HN.out]; rfl
                all_goals (try (exfalso; omega))
                all_goals
                  by_cases c7 : s[j].toNat = 59 ∧ j ≠ 0
                  · obtain ⟨c7, c8⟩ := c7
                    have ht := tnum_ok s.data.toList hg (by rw [size_list, ← HN.out]; exact hjs) (by rw [hgt]; exact UInt8.toNat_inj.1 (by rw [c7]; rfl)) (by rw [← HN.out]; exact c8)
                    rw [← HN.out, ← HVL.out] at ht
                    have he := extract_list s (j + 1) s.size
                    rw [List.take_of_length_le (by rw [size_list]; omega)] at he
                    have HT := Lib.hid ht
                    have HE := Lib.hid he
                    have hne : ((s[j].toNat : Int) != 59) = false := by simp; omega
                    have h0 : ((j : Int) == 0) = false := by simp; omega
                    have e1 : IntKind.i64.wrap ((j : Int) + 1) = (j : Int) + 1 := IntWalk.i64_in _ (by omega)
                    have e2 : 0 ≤ (j : Int) + 1 := by omega
                    have e3 : ((j : Int) + 1).toNat = j + 1 := by omega
                    have e4 : (j : Int) + 1 ≤ (s.size : Int) := by omega
                    clear ht he hg hgt c7 c8 c6 hend
                    generalize Dm.val (s.data.toList.take j) = A at *
                    go_wp2
                    go_quiet (fail)
                    go_wp2
                    go_ret3
                    refine ⟨?_, (Q.refl _).drewN _⟩
                    rw [HT.out]; unfold tnR
                    simp only [← HE.out]; rfl
                  · have HT := Lib.hid (tnum_other s.data.toList hg (by rw [size_list, ← HN.out]; exact hjs) (by
                      rw [hgt, ← HN.out]
                      rcases Nat.eq_zero_or_pos j with e | e
                      · exact .inr e
                      · left; intro e2; exact c7 ⟨by rw [e2]; rfl, by omega⟩))
                    have C7 := Lib.hid c7
                    clear hg hgt c7 c6
                    by_cases c8 : s[j].toNat = 59
                    · have hne : ((s[j].toNat : Int) != 59) = false := by simp; omega
                      have h0 : ((j : Int) == 0) = true := by have := C7.out; simp; omega
                      clear c8
                      go_wp2
                      go_ret3
                      exact ⟨by rw [HT.out]; rfl, Q.refl _⟩
                    · have hne : ((s[j].toNat : Int) != 59) = true := by simp; omega
                      clear c8
                      go_wp2
                      go_ret3
                      exact ⟨by rw [HT.out]; rfl, Q.refl _⟩
end Go.Proofs.YtggbdhnjogalgaaGreatDoor

/- The contract of the document's own TakeText. -/
namespace Go.Proofs.YtggbdhnjogalgaaGreatDoor
set_option maxRecDepth 100000
open Go.RowKit
set_option linter.unusedVariables false

set_option maxHeartbeats 400000 in
theorem refTakeText_any (s : ByteArray) (most : Int) (w : World) (hs : s.size ≤ maxLen) (hm0 : -9223372036854775808 ≤ most) (hm1 : most ≤ 9223372036854775807) :
    Calls Tryz.prog 65 #[.string s, .int .i64 most] w fun e w' => e = .returned (ttR (Dm.ttext s.data.toList most)) ∧ Q w w' := by
  have hlen := Dm.tnum_len s.data.toList
  have hle := Dm.tnum_le s.data.toList
  have hcall := refTakeNum_any s w hs
  have htx : Dm.ttext s.data.toList most = if (Dm.tnum s.data.toList).2.2 ≠ 0 then ([], [], (Dm.tnum s.data.toList).2.2) else if most < 0 ∨ most < ((Dm.tnum s.data.toList).1 : Int) then ([], [], 4) else if (Dm.tnum s.data.toList).2.1.length < (Dm.tnum s.data.toList).1 then ([], [], 2)
    else ((Dm.tnum s.data.toList).2.1.take (Dm.tnum s.data.toList).1, (Dm.tnum s.data.toList).2.1.drop (Dm.tnum s.data.toList).1, 0) := rfl
  have herr := Dm.tnum_err s.data.toList
  generalize Dm.tnum s.data.toList = x at *
  obtain ⟨n, r, er⟩ := x
  obtain ⟨R, hR⟩ : ∃ R : ByteArray, R = ⟨r.toArray⟩ := ⟨_, rfl⟩
  have hsz : R.size = r.length := by rw [hR]; show r.toArray.size = _; simp
  have hl : R.data.toList = r := by rw [hR]
  unfold tnR at hcall
  simp only at hlen hle hcall htx herr
  rw [← hR] at hcall
  have hRle : R.size ≤ s.size := by rw [hsz]; rw [size_list] at hlen; exact hlen
  unfold maxLen at hs
  unfold Dm.maxU at hle
  have HC := Lib.hid hcall
  have HT := Lib.hid htx
  have HSZ := Lib.hid hsz
  have HL := Lib.hid hl
  clear hcall htx hsz hl hR hlen
  by_cases c0 : er = 0
  · subst c0
    clear herr
    by_cases c1 : most < 0 ∨ most < (n : Int)
    · have ht : Dm.ttext s.data.toList most = ([], [], 4) := by rw [HT.out, if_neg (by simp), if_pos c1]
      have HT2 := Lib.hid ht
      have C1 := Lib.hid c1
      clear ht c1
      by_cases c3 : most < 0
      · have d3 : decide (most < 0) = true := by simpa using c3
        go_enter Tryz.func65, Tryz.ntmps65
        go_wp2_with fail
        refine HC.out.mono ?_
        rintro e w1 ⟨rfl, q1⟩
        go_wp2_with fail
        go_ret3
        exact ⟨by rw [HT2.out]; rfl, q1⟩
      · have c3' : 0 ≤ most := by omega
        have d3 : decide (most < 0) = false := by simpa using c3'
        have c4 : most < (n : Int) := by have := C1.out; omega
        clear c3
        go_enter Tryz.func65, Tryz.ntmps65
        go_wp2_with fail
        refine HC.out.mono ?_
        rintro e w1 ⟨rfl, q1⟩
        go_wp2_with fail
        go_ret3
        exact ⟨by rw [HT2.out]; rfl, q1⟩
    have c1' : 0 ≤ most := by omega
    have c1'' : (n : Int) ≤ most := by omega
    have d3 : decide (most < 0) = false := by simpa using c1'
    by_cases c2 : R.size < n
    · have ht : Dm.ttext s.data.toList most = ([], [], 2) := by rw [HT.out, if_neg (by simp), if_neg c1, if_pos (by rw [← HSZ.out]; exact c2)]
      have HT2 := Lib.hid ht
      clear ht c1
      go_enter Tryz.func65, Tryz.ntmps65
      go_wp2_with fail
      refine HC.out.mono ?_
      rintro e w1 ⟨rfl, q1⟩
      go_wp2_with fail
      go_ret3
      exact ⟨by rw [HT2.out]; rfl, q1⟩
    have c2' : n ≤ R.size := by omega
    have ht : Dm.ttext s.data.toList most = (r.take n, r.drop n, 0) := by rw [HT.out, if_neg (by simp), if_neg c1, if_neg (by rw [← HSZ.out]; exact c2)]
    have he1 := extract_list R 0 n
    have he2 := extract_list R n R.size
    rw [List.take_of_length_le (by rw [size_list]; omega), HL.out] at he2
    rw [HL.out, List.drop_zero] at he1
    have HT2 := Lib.hid ht
    have HE1 := Lib.hid he1
    have HE2 := Lib.hid he2
    have e4 : (n : Int) ≤ (R.size : Int) := by omega
    clear ht c1 c2 he1 he2
    go_enter Tryz.func65, Tryz.ntmps65
    go_wp2_with fail
    refine HC.out.mono ?_
    rintro e w1 ⟨rfl, q1⟩
    go_wp2_with fail
    go_quiet (fail)
    go_wp2_with fail
    go_ret3
    refine ⟨?_, q1.drewN _⟩
    rw [HT2.out]; unfold ttR
    simp only [← HE1.out, ← HE2.out]; rfl
  · have ht : Dm.ttext s.data.toList most = ([], [], er) := by rw [HT.out, if_pos c0]
    have HT2 := Lib.hid ht
    have hne : ((er : Int) != 0) = true := by simp; omega
    clear ht c0 herr
    go_enter Tryz.func65, Tryz.ntmps65
    go_wp2_with fail
    refine HC.out.mono ?_
    rintro e w1 ⟨rfl, q1⟩
    go_wp2_with fail
    go_ret3
    exact ⟨by rw [HT2.out]; rfl, q1⟩
end Go.Proofs.YtggbdhnjogalgaaGreatDoor

/- The contract of the document's own Open. -/
namespace Go.Proofs.YtggbdhnjogalgaaGreatDoor
set_option maxRecDepth 100000
open Go.RowKit
set_option linter.unusedVariables false

set_option maxHeartbeats 400000 in
theorem refOpen_any (f : ByteArray) (most : Int) (w : World) (hs : f.size ≤ maxLen) (hm0 : -9223372036854775808 ≤ most) (hm1 : most ≤ 9223372036854775807) :
    Calls Tryz.prog 41 #[.string f, .int .i64 most] w fun e w' => e = .returned (ttR (topen f.data.toList most)) ∧ Q w w' := by
  have hcall := refTakeText_any f most w hs hm0 hm1
  have hlen := ttext_len f.data.toList most
  have herr := ttext_err f.data.toList most
  rw [size_list] at hlen
  have htx : topen f.data.toList most = topen1 (Dm.ttext f.data.toList most) := rfl
  generalize topen f.data.toList most = out at *
  subst htx
  generalize Dm.ttext f.data.toList most = x at *
  obtain ⟨t, r, er⟩ := x
  obtain ⟨S, hS, hSs, hSl⟩ := bytes_of t
  obtain ⟨R, hR, hRs, hRl⟩ := bytes_of r
  unfold ttR at hcall
  simp only at hlen hcall herr
  rw [← hS, ← hR] at hcall
  rw [← hSs, ← hRs] at hlen
  obtain ⟨hl1, hl2⟩ := hlen
  have HC := Lib.hid hcall
  have HSL := Lib.hid hSl
  have HRL := Lib.hid hRl
  have HS := Lib.hid hS
  clear hcall hSl hRl hS hR hSs hRs
  by_cases c0 : er = 0
  · subst c0
    clear herr
    have ho : topen1 (t, r, 0) = topen2 t (Dm.tnum r) := by unfold topen1; rw [if_neg (by simp)]
    rw [ho]
    have hcall2 := fun W => refTakeNum_any R W (Nat.le_trans hl2 hs)
    have hle := Dm.tnum_le r
    have hlen := Dm.tnum_len r
    have herr := Dm.tnum_err r
    rw [HRL.out] at hcall2
    generalize Dm.tnum r = y at *
    obtain ⟨v, r2, er2⟩ := y
    obtain ⟨R2, hR2, hR2s, hR2l⟩ := bytes_of r2
    unfold tnR at hcall2
    simp only at hle hlen herr hcall2
    rw [← hR2] at hcall2
    have HR2 := Lib.hid hR2
    have HC2 := Lib.hid hcall2
    clear ho hcall2 hR2 hR2s hR2l hlen
    unfold Dm.maxU at hle
    by_cases c1 : er2 = 0
    · subst c1
      clear herr
      have hof := fun W => refOf_any S W (Nat.le_trans hl1 hs)
      rw [HSL.out] at hof
      have hr := Sm.adler_range t
      have HOF := Lib.hid hof
      clear hof
      unfold maxLen at hs
      by_cases c2 : (v : Int) = Sm.adler t
      · have hfin : topen2 t (v, r2, 0) = (t, r2, 0) := by unfold topen2; rw [if_neg (by simp), if_neg (by simpa using c2)]
        have hbn : ((v : Int) != Sm.adler t) = false := by simpa using c2
        have HF := Lib.hid hfin
        clear hfin c2
        generalize Sm.adler t = ad at *
        go_enter Tryz.func41, Tryz.ntmps41
        go_wp2_with fail
        refine HC.out.mono ?_
        rintro e w1 ⟨rfl, q1⟩
        go_wp2_with fail
        refine (HC2.out _).mono ?_
        rintro e w2 ⟨rfl, q2⟩
        go_wp2_with fail
        refine (HOF.out _).mono ?_
        rintro e w3 ⟨rfl, q3⟩
        go_wp2_with fail
        go_ret3
        refine ⟨?_, q1.trans (q2.trans q3)⟩
        rw [HF.out]; unfold ttR
        simp only [← HR2.out, ← HS.out]; rfl
      · have hfin : topen2 t (v, r2, 0) = ([], [], 10) := by unfold topen2; rw [if_neg (by simp), if_pos (by simpa using c2)]
        have hbn : ((v : Int) != Sm.adler t) = true := by simpa using c2
        have HF := Lib.hid hfin
        clear hfin c2
        generalize Sm.adler t = ad at *
        go_enter Tryz.func41, Tryz.ntmps41
        go_wp2_with fail
        refine HC.out.mono ?_
        rintro e w1 ⟨rfl, q1⟩
        go_wp2_with fail
        refine (HC2.out _).mono ?_
        rintro e w2 ⟨rfl, q2⟩
        go_wp2_with fail
        refine (HOF.out _).mono ?_
        rintro e w3 ⟨rfl, q3⟩
        go_wp2_with fail
        go_ret3
        exact ⟨by rw [HF.out]; rfl, q1.trans (q2.trans q3)⟩
    · have hfin : topen2 t (v, r2, er2) = ([], [], er2) := by unfold topen2; rw [if_pos c1]
      have hne : ((er2 : Int) != 0) = true := by simp; omega
      have HF := Lib.hid hfin
      clear hfin c1 herr
      go_enter Tryz.func41, Tryz.ntmps41
      go_wp2_with fail
      refine HC.out.mono ?_
      rintro e w1 ⟨rfl, q1⟩
      go_wp2_with fail
      refine (HC2.out _).mono ?_
      rintro e w2 ⟨rfl, q2⟩
      go_wp2_with fail
      go_ret3
      exact ⟨by rw [HF.out]; rfl, q1.trans q2⟩
  · have ho : topen1 (t, r, er) = ([], [], er) := by unfold topen1; rw [if_pos c0]
    have hne : ((er : Int) != 0) = true := by simp; omega
    have HF := Lib.hid ho
    clear ho c0 herr
    go_enter Tryz.func41, Tryz.ntmps41
    go_wp2_with fail
    refine HC.out.mono ?_
    rintro e w1 ⟨rfl, q1⟩
    go_wp2_with fail
    go_ret3
    exact ⟨by rw [HF.out]; rfl, q1⟩

end Go.Proofs.YtggbdhnjogalgaaGreatDoor

/- The contract of the document's Scan, and of its Name. -/
namespace Go.Proofs.YtggbdhnjogalgaaGreatDoor
set_option maxRecDepth 100000
open Go.RowKit
set_option linter.unusedVariables false

theorem wpl_appS {w : World} {ops : Array Oper} {rest : List Oper} {o : Oper} {a : Act} {R : Exit → Act → World → Prop} (hgd : o.guard = none) (s x : Operand)
    (ho : o.op = .call { callee := .builtin .append, args := #[s, x], argTypes := #[26, 26] })
    (base : Nat) (A : Option Addr) (n c : Nat) (l : List (List UInt8)) (hs : a.eval s = .slice A n c) (h : OwnS w base A n c l) (ad : Addr) (c2 : Nat) (r : ByteArray) (hx : a.eval x = .slice (some ad) 1 c2) (h2 : w.cell? ad = some (.string r))
    (hb : (n + 1) * 16 ≤ 140737488355328) (hbase : base ≤ w.heap.size)
    (hk : ∀ A' c' w', OwnS w' base A' (n + 1) c' (l ++ [r.data.toList]) → Below base w w' → wpList Tryz.prog ops R rest (a.put o.dst (.slice A' (n + 1) c')) w') : wpList Tryz.prog ops R (o :: rest) a w := by
  refine wpList_plain hgd fun K hK => ?_
  obtain ⟨A', c', w', hr, h3, h4, h5⟩ := run_appG (P := Tryz.prog) (w := w) base 26 o.type 9 (.string ⟨#[]⟩) 1 16 Tryz.underlying26 infoS rfl (by omega) A n c _ h (some ad) 1 c2 [.string r] rfl
    (fun j u hu => by
      have hj := (List.getElem?_eq_some_iff.1 hu).1
      simp at hj
      subst hj
      simp at hu
      subst hu
      exact ⟨ad, rfl, by unfold Addr.add; simpa using h2⟩) (by simp [Value.oneCell']) (fun e => by cases e) (by unfold maxLen; omega) hb hbase
  unfold Oper.wp execOp
  simp only [ho, resolve, invoke, builtin, Sem.run_bind, Sem.run_pure, Result.andThen_ok, List.map_toArray, List.map_cons, List.map_nil, hs, hx, hr]
  refine hK _ _ (hk A' c' w' (by unfold OwnS; rw [List.map_append]; exact h3) (below_grown h4 hbase fun k hk => ?_))
  rcases h.2 with ⟨e, _⟩ | ⟨g, cap, cur, e, hb, _⟩
  · rw [e] at hk; cases hk
  · rw [e] at hk; simp only [Value.ownBlock, Option.some.injEq] at hk; omega

theorem refName_any (seg : Int) (w : World) (h0 : -9223372036854775808 ≤ seg) (h1 : seg ≤ 9223372036854775807) : Calls Tryz.prog 24 #[.int .i64 seg] w fun e w' => e = .returned (.string (namB seg)) ∧ Q w w' := by
  by_cases h2 : seg < 1
  · rw [namB_no (by unfold segOk; omega)]
    go_enter Tryz.func24, Tryz.ntmps24
    go_wp2
    go_ret
    exact ⟨rfl, Q.refl _⟩
  by_cases h3 : 1000000 < seg
  · rw [namB_no (by unfold segOk; omega)]
    go_enter Tryz.func24, Tryz.ntmps24
    go_wp2
    go_ret
    exact ⟨rfl, Q.refl _⟩
  have h : segOk seg := by unfold segOk; omega
  have hN := Lib.hid (fun w => refNum_any seg w (by omega) (by omega))
  have hl := Dm.dg_length_lt 7 seg.toNat (by omega) (by omega)
  have hsz : (⟨(Dm.num seg.toNat).toArray⟩ : ByteArray).size = (Dm.dg seg.toNat).length + 1 := by show (Dm.num seg.toNat).toArray.size = _; simp [Dm.num]
  have hex : (⟨#[119]⟩ : ByteArray) ++ (⟨(Dm.num seg.toNat).toArray⟩ : ByteArray).extract 0 (Dm.dg seg.toNat).length = namB seg := by
    rw [extract_list]
    unfold namB
    rw [nam_ok h, app_lists [119]]
    simp [Dm.num]
  generalize (⟨(Dm.num seg.toNat).toArray⟩ : ByteArray) = R at hN hsz hex
  generalize (Dm.dg seg.toNat).length = m at hl hsz hex
  have HE := Lib.hid hex
  have hR : R.size ≤ 8 := by omega
  have hm : (R.size : Int) - 1 = (m : Int) := by omega
  have hmR : m ≤ R.size := by omega
  have h0' : 0 ≤ (R.size : Int) - 1 := by omega
  have hmN : R.size - 1 = m := by omega
  have HM := Lib.hid hmN
  clear hex hsz h hm hmN
  go_enter Tryz.func24, Tryz.ntmps24
  go_wp2_with fail
  refine (hN.out _).mono ?_
  rintro e w1 ⟨rfl, q1⟩
  go_wp2
  go_ret
  refine ⟨?_, q1⟩
  rw [← HE.out, ← HM.out]
  rfl

theorem used_at {us vs : List (List UInt8)} {l : List UInt8} (h : (scn l).1 = us ++ vs) : l = flat us ++ (flat vs ++ (scn l).2) := by
  conv => lhs; rw [(scd l).eq]
  rw [h, flat_app, List.append_assoc]

set_option maxHeartbeats 2000000 in
theorem refScan_any (s : ByteArray) (w : World) (hs : s.size ≤ maxLen) (hbig : (scn s.data.toList).1.length * 16 ≤ 140737488355328) :
    Calls Tryz.prog 25 #[.string s] w fun e w' => ∃ A n c, e = .returned (.tuple #[.slice A n c, .int .i64 (used s.data.toList)]) ∧ OwnS w' w.heap.size A n c (scn s.data.toList).1 ∧ Q w w' := by
  have HS := Lib.hid hs
  have HB := Lib.hid hbig
  have hs0 : s.size ≤ 9223372036854775807 := by unfold maxLen at hs; omega
  clear hbig
  go_enter Tryz.func25, Tryz.ntmps25
  go_wp2
  go_loopw [4, 5] (fun v i wr => ∃ us vs A c, (scn s.data.toList).1 = us ++ vs ∧ i = .int .i64 ((flat us).length : Nat) ∧ v = .slice A us.length c ∧ OwnS wr w.heap.size A us.length c us ∧ Q w wr) (fun _ i _ => s.size - (intOf i).toNat)
  case atStart => exact ⟨[], (scn s.data.toList).1, none, 0, rfl, rfl, rfl, ownS_nil _ _, Q.refl _⟩
  case round =>
    obtain ⟨us, vs, A, c, hx, rfl, rfl, ho, hq⟩ := hrel
    have hl := used_at hx
    have hno := (scd s.data.toList).no
    have hle := (scd s.data.toList).le
    have huf := used_flat s.data.toList
    have hln := congrArg List.length hl
    rw [size_list, List.length_append] at hln
    have hux := hx
    rw [hx] at huf hle
    have hbig2 : (us.length + 1) * 16 ≤ 140737488355328 ∨ vs = [] := by
      cases vs with
      | nil => exact .inr rfl
      | cons r vs => left; have h1 := HB.out; rw [hx, List.length_append, List.length_cons] at h1; omega
    have hdrop : s.data.toList.drop (flat us).length = flat vs ++ (scn s.data.toList).2 := by
      conv => lhs; rw [hl]
      exact List.drop_left' rfl
    have hex : (s.extract (flat us).length s.size).data.toList = flat vs ++ (scn s.data.toList).2 := by
      rw [extract_list, ← hdrop]
      show (s.data.toList.take s.size).drop _ = _
      rw [List.take_of_length_le (by rw [size_list]; omega)]
    have HU := Lib.hid hux
    have HO := Lib.hid ho
    have HQ := Lib.hid hq
    clear hx hl hux ho hq
    obtain ⟨t, ht⟩ : ∃ t, t = (scn s.data.toList).2 := ⟨_, rfl⟩
    obtain ⟨k, hk⟩ : ∃ k, k = (flat us).length := ⟨_, rfl⟩
    rw [← ht] at hno hex hdrop hln
    rw [← hk] at hex hdrop hln ⊢
    have HK := Lib.hid hk
    have HT := Lib.hid ht
    have HX := Lib.hid hex
    clear ht hk hex hdrop
    by_cases hlt : k < s.size
    case neg =>
      have hz : (flat vs ++ t).length = 0 := by omega
      have hv : vs = [] := by
        cases vs with
        | nil => rfl
        | cons r vs => rw [flat_cons, List.append_assoc, List.length_append] at hz; have := sld_four r; omega
      subst hv
      have hfin : (scn s.data.toList).1 = us := by rw [HU.out, List.append_nil]
      have HF := Lib.hid hfin
      have hk2 : (used s.data.toList : Int) = (k : Int) := by rw [used_flat, hfin, HK.out]
      have HK2 := Lib.hid hk2
      clear hfin hk2 hz huf hle hln hno hbig2
      go_wp2
      go_ret2
      refine ⟨A, us.length, c, by rw [HK2.out]; rfl, by rw [HF.out]; exact HO.out, HQ.out⟩
    have hEs : (s.extract k s.size).size = s.size - k := by rw [ByteArray.size_extract]; omega
    have KO := Lib.hid (fun w => refOpen_any (s.extract k s.size) 2048 w (by have := HS.out; omega) (by omega) (by omega))
    rw [HX.out] at KO
    cases vs with
    | nil =>
      rw [flat_nil, List.nil_append] at KO
      have hfin : (scn s.data.toList).1 = us := by rw [HU.out, List.append_nil]
      have HF := Lib.hid hfin
      have hk2 : (used s.data.toList : Int) = (k : Int) := by rw [used_flat, hfin, HK.out]
      have HK2 := Lib.hid hk2
      generalize topen t 2048 = r at KO hno
      obtain ⟨x, y, er⟩ := r
      simp only [ttR] at KO
      have hne : ¬ ((er : Int) = 0) := by simpa using hno
      clear hfin hk2 huf hle hln hno hbig2
      go_wp2_with fail
      refine (KO.out _).mono ?_
      rintro e w2 ⟨rfl, q2⟩
      go_wp2
      go_ret2
      refine ⟨A, us.length, c, by rw [HK2.out]; rfl, by rw [HF.out]; exact HO.out.q q2, HQ.out.trans q2⟩
    | cons r vs =>
      have hr : r.length ≤ 2048 := hle r (by simp)
      rw [flat_cons, List.append_assoc, open_one r _ hr] at KO
      simp only [ttR] at KO
      have h4 := sld_four r
      have hb : (us.length + 1) * 16 ≤ 140737488355328 := hbig2.resolve_right (by simp)
      rw [flat_cons, List.append_assoc, List.length_append] at hln
      obtain ⟨T, hT⟩ : ∃ T : ByteArray, T = bs (flat vs ++ t) := ⟨_, rfl⟩
      have hTs : T.size = (flat vs ++ t).length := by rw [hT, bs_size]
      change Hid (∀ w, Calls _ _ _ w fun e w' => e = .returned (.tuple #[.string (bs r), .string (bs (flat vs ++ t)), .int .i64 0]) ∧ Q w w') at KO
      rw [← hT] at KO
      have hTle : T.size ≤ s.size := by omega
      have hnew : (s.size : Int) - (T.size : Int) = ((k + (sld r).length : Nat) : Int) := by omega
      have hwr : wrap64 ((s.size : Int) - (T.size : Int)) = ((k + (sld r).length : Nat) : Int) := by rw [hnew]; unfold wrap64; omega
      have HW := Lib.hid hnew
      have hbw : w.heap.size ≤ wr.heap.size := HQ.out.size
      have hk9 : k + (sld r).length ≤ s.size := by omega
      have hk8 : k < k + (sld r).length := by omega
      have HK9 := Lib.hid (And.intro hk9 hk8)
      clear hT hTs hnew hwr huf hle hln hno hbig2 h4 hr
      go_wp2_with fail
      refine (KO.out _).mono ?_
      rintro e w2 ⟨rfl, q2⟩
      have hb2 : w.heap.size ≤ w2.heap.size := Nat.le_trans hbw q2.size
      have HO2 := Lib.hid (HO.out.q q2)
      have HQ2 := Lib.hid (HQ.out.trans q2)
      clear q2
      go_wp2_with (at_builtin
                   refine wpl_appS rfl (.tmp 25) (.tmp 27) rfl w.heap.size A us.length c us rfl (HO2.out.q ((Q.refl _).alloc _)) ⟨w2.heap.size, 0, none⟩ 1 (bs r) rfl (by have := Bx.new w2 [.string (bs r)] 9; exact (this 0 _ rfl).1) hb (by simp; omega) ?_
                   intro A3 c3 w3 ho3 hb3)
      go_roundw
      case rel =>
        refine ⟨us ++ [r], vs, A3, c3, by rw [HU.out]; simp, ?_, by simp, by simpa [list_bs] using ho3, (HQ2.out.alloc (.cells #[.string (bs r)] 9)).below.trans hb3⟩
        rw [HW.out, flat_app, flat_cons, flat_nil, HK.out]; simp
      case measure =>
        rw [HW.out]; simp only [intOf]
        have := HK9.out
        omega
end Go.Proofs.YtggbdhnjogalgaaGreatDoor

/- Contracts: the document's Rename over a file that is there; Rename and Delete whole. -/
namespace Go.Proofs.YtggbdhnjogalgaaGreatDoor
set_option maxRecDepth 100000
open Go.RowKit Dkm
set_option linter.unusedVariables false

theorem plc_eq {nm : ByteArray} {l : List Fil} {k : Nat} (hk : k < l.length) (hn : l[k].nm = nm) (hf : ∀ j, ∀ h : j < l.length, j < k → l[j].nm ≠ nm) : plc nm l 0 = k := by
  rcases plc_cases nm l with ⟨_, hall⟩ | ⟨k2, hk2, hp, hn2, hf2⟩
  · exact absurd hn (hall _ (List.getElem_mem hk))
  · rcases Nat.lt_trichotomy k2 k with h | h | h
    · exact absurd hn2 (hf k2 hk2 h)
    · rw [hp, h]
    · exact absurd hn (hf2 k hk h)
theorem erase_get {l : List Fil} {o j : Nat} (ho : o < l.length) (hj : j < (l.eraseIdx o).length) : (l.eraseIdx o)[j] = if h : j < o then l[j]'(by omega) else l[j + 1]'(by rw [List.length_eraseIdx, if_pos ho] at hj; omega) := List.getElem_eraseIdx ..
/-- where the file from stands once another one has gone. -/
def kk_ (k o : Nat) : Nat := if k < o then k else k - 1
theorem erase_from {l : List Fil} {o k : Nat} {fr : ByteArray} (ho : o < l.length) (hk : k < l.length) (hne : o ≠ k) (hn : l[k].nm = fr) (hf : ∀ j, ∀ h : j < l.length, j < k → l[j].nm ≠ fr) (hon : l[o].nm ≠ fr) :
    ∃ h : kk_ k o < (l.eraseIdx o).length, (l.eraseIdx o)[kk_ k o] = l[k] ∧ plc fr (l.eraseIdx o) 0 = (kk_ k o : Nat) := by
  have hlen : (l.eraseIdx o).length = l.length - 1 := by rw [List.length_eraseIdx, if_pos ho]
  have hlt : kk_ k o < (l.eraseIdx o).length := by unfold kk_; split <;> omega
  have hg : (l.eraseIdx o)[kk_ k o] = l[k] := by
    rw [erase_get ho hlt]
    unfold kk_
    by_cases h : k < o
    · simp only [if_pos h, dif_pos h]
    · have h2 : ¬ k - 1 < o := by omega
      simp only [if_neg h, dif_neg h2]
      congr 1; omega
  refine ⟨hlt, hg, plc_eq hlt (by rw [hg]; exact hn) fun j hj hjk => ?_⟩
  rw [erase_get ho hj]
  have hjk2 : j < if k < o then k else k - 1 := hjk
  split
  · exact hf j (by omega) (by split at hjk2 <;> omega)
  · by_cases h : k < o
    · rw [if_pos h] at hjk2; omega
    · rw [if_neg h] at hjk2
      exact hf (j + 1) (by omega) (by omega)
theorem erase_set {l : List Fil} {o k : Nat} (hne : o ≠ k) (g : Fil) : (l.eraseIdx o).set (kk_ k o) g = (l.set k g).eraseIdx o := by
  unfold kk_
  by_cases h : k < o
  · rw [if_pos h, List.eraseIdx_set_gt h]
  · rw [if_neg h, List.eraseIdx_set_lt (by omega)]

set_option maxHeartbeats 3000000 in
theorem ref_ren_over (fr tu : ByteArray) (ad : Addr) (n c : Nat) (room fuse : Int) (l : List Fil) (w : World) (hd : Dsk w (some ad) n c l) (hfu : fuse ≤ 9223372036854775807) (k : Nat) (hp : plc fr l 0 = k) (hk : nmOk tu = true) (he : fr ≠ tu) (f2 : Int) (hpw : pow ⟨l, room, fuse, false⟩ = (⟨l, room, f2, false⟩, true))
    (o : Nat) (ho : o < l.length) (ht : plc tu l 0 = o) (hs : l[o].sf.size + l[o].wt.size ≤ maxLen) (room2 : Int) (hR : wrap64 (room + ((l[o].sf.size + l[o].wt.size : Nat) : Int)) = room2) (k2 : Nat) (hk2 : k2 < (l.eraseIdx o).length) (hp2 : plc fr (l.eraseIdx o) 0 = k2) :
    Calls Tryz.prog 44 #[dkv (some ad) n c room fuse false, .string fr, .string tu] w fun e w' => RetDK w (some ad) n ⟨(l.eraseIdx o).set k2 ⟨tu, (l.eraseIdx o)[k2].sf, (l.eraseIdx o)[k2].wt⟩, room2, f2, false⟩ 0 e w' := by
  have HD := Lib.hid hd
  have hfew := hd.few
  obtain ⟨o1, o2⟩ := nmOk_yes hk
  have o3 : ¬ (tu.size : Int) < 1 := by omega
  have hb := str_ne he
  have HL := Lib.hid hd.len
  have hon : o < n := by have := HL.out; omega
  have HE := Lib.hid (show (l.eraseIdx o).length = n - 1 by rw [List.length_eraseIdx, if_pos ho, HL.out])
  have hk2n : k2 < n - 1 := by have := HE.out; omega
  have HW := Lib.hid hpw
  have HT := Lib.hid ht
  have HP := Lib.hid hp
  have HP2 := Lib.hid hp2
  have HS := Lib.hid hs
  have HR := Lib.hid hR
  have S0 := Lib.hid (Sb.new w (some ad) n c room fuse false)
  clear hd hk he hpw ht hp hp2 hs hR
  have LS := Lib.hid (fun (W : World) (hW : Dsk W (some ad) n c l) => ref_less ad n c room f2 false o l W hW hon ho HS.out)
  rw [HR.out] at LS
  generalize l.eraseIdx o = m at LS HE HP2 hk2 ⊢
  go_enter Tryz.func44, Tryz.ntmps44
  go_wp2_with fail
  refine (ref_at fr (some ad) n c room fuse false l _ (HD.out.files.q S0.out.q) HD.out.max).mono ?_
  rw [HP.out]
  rintro e w1 ⟨rfl, q1⟩
  have S1 := Lib.hid (S0.out.step q1)
  clear S0 q1
  obtain ⟨⟨e0, e1, e2, e3⟩, f0, f1, f2', f3⟩ := S1.out.get
  have kp := ref_power (some ad) n c ⟨l, room, fuse, false⟩ w1 hfu
  rw [HW.out] at kp
  have kp := Lib.hid kp
  go_wp2_with fail
  refine kp.out.mono ?_
  rintro e w2 ⟨rfl, q2⟩
  have S2 := Lib.hid ((S1.out.step q2).put4 (some ad) n c room f2 false)
  have P2 := S1.out.step q2
  clear S1 kp q2 e0 e1 e2 e3 f0 f1 f2' f3
  obtain ⟨⟨e0, e1, e2, e3⟩, f0, f1, f2', f3⟩ := P2.get
  clear P2
  go_upto_region 10 with (fail)
  generalize ((((w2.setCell ⟨w.heap.size, 0, none⟩ (.slice (some ad) n c)).setCell ⟨w.heap.size, 1, none⟩ (.int .i64 room)).setCell ⟨w.heap.size, 2, none⟩ (.int .i64 f2)).setCell ⟨w.heap.size, 3, none⟩ (.bool false)) = W at S2 ⊢
  clear e0 e1 e2 e3 f0 f1 f2' f3
  obtain ⟨⟨e0, e1, e2, e3⟩, f0, f1, f2', f3⟩ := S2.out.get
  go_wp2_with fail
  refine (ref_at tu (some ad) n c room f2 false l _ (HD.out.files.q S2.out.q) HD.out.max).mono ?_
  rw [HT.out]
  rintro e w4 ⟨rfl, q4⟩
  have S4 := Lib.hid (S2.out.step q4)
  clear S2 q4 e0 e1 e2 e3 f0 f1 f2' f3
  obtain ⟨⟨e0, e1, e2, e3⟩, f0, f1, f2', f3⟩ := S4.out.get
  go_wp2_with fail
  refine (LS.out _ (HD.out.q S4.out.q)).mono ?_
  rintro e w5 ⟨A5, c5, rfl, ho5, q5⟩
  have z4 : w.heap.size + 1 < w4.heap.size := S4.out.res.lt
  have P5 := S4.out.step q5
  have S5 := Lib.hid (And.intro (P5.put4 A5 (n - 1) c5 room2 f2 false) (ho5.set4 (b := w.heap.size) (by omega) (.slice A5 (n - 1) c5) (.int .i64 room2) (.int .i64 f2) (.bool false)))
  clear S4 LS q5 ho5 e0 e1 e2 e3 f0 f1 f2' f3
  obtain ⟨⟨e0, e1, e2, e3⟩, f0, f1, f2', f3⟩ := P5.get
  clear P5
  go_upto_region 15 with (fail)
  generalize ((((w5.setCell ⟨w.heap.size, 0, none⟩ (.slice A5 (n - 1) c5)).setCell ⟨w.heap.size, 1, none⟩ (.int .i64 room2)).setCell ⟨w.heap.size, 2, none⟩ (.int .i64 f2)).setCell ⟨w.heap.size, 3, none⟩ (.bool false)) = V at S5 ⊢
  clear e0 e1 e2 e3 f0 f1 f2' f3
  obtain ⟨⟨e0, e1, e2, e3⟩, f0, f1, f2', f3⟩ := S5.out.1.get
  have HK := Lib.hid (S5.out.2.dsk (show (n - 1) * 48 ≤ 140737488355328 by omega))
  go_wp2_with fail
  refine (ref_at fr A5 (n - 1) c5 room2 f2 false m _ HK.out.files HK.out.max).mono ?_
  rw [HP2.out]
  rintro e w6 ⟨rfl, q6⟩
  have S6 := Lib.hid (S5.out.1.step q6)
  have HK6 := Lib.hid (HK.out.q q6)
  clear S5 HK q6 e0 e1 e2 e3 f0 f1 f2' f3
  obtain ⟨⟨e0, e1, e2, e3⟩, f0, f1, f2', f3⟩ := S6.out.get
  obtain ⟨ae, rfl, hbk, c0, c1, c2⟩ := HK6.out.files.load hk2n hk2
  have z0 : w.heap.size < w6.heap.size := S6.out.box.lt
  have z1 : w.heap.size + 1 < w6.heap.size := S6.out.res.lt
  have z2 : w.heap.size ≠ w6.heap.size := by omega
  have z3 : w.heap.size + 1 ≠ w6.heap.size := by omega
  have q7 : (k2 : Int) < ((n - 1 : Nat) : Int) := by omega
  have q8 : 0 ≤ (k2 : Int) := by omega
  have hnm : n - 1 ≤ 9223372036854775807 := by omega
  generalize n - 1 = n1 at *
  go_wp2_with fail
  refine (ref_with (some ae) n1 c5 room2 f2 false k2 ⟨tu, m[k2].sf, m[k2].wt⟩ m _ (HK6.out.q ((Q.refl w6).alloc _)) hk2n).mono ?_
  rintro e w7 ⟨A7, c7, rfl, ho7, q7'⟩
  have S7 := Lib.hid (S6.out.step ((Q.refl w6).alloc (.cells #[.string tu, .string m[k2].sf, .string m[k2].wt] 42)))
  have HO := Lib.hid ho7
  have HQ := Lib.hid q7'
  clear ho7 q7' S6 e0 e1 e2 e3 f0 f1 f2' f3 c0 c1 c2
  obtain ⟨⟨s0, s1, s2, s3⟩, h0', h1, h2, h3⟩ := (S7.out.step HQ.out).getR
  go_wp2
  refine bodyPost_ret (v := .tuple #[dkv A7 n1 c7 room2 f2 false, .int .i64 0]) (by simp [results, Tryz.results44, go_sem, s0, s1, s2, s3]) rfl ?_
  exact S7.out.endO (d := ⟨m.set k2 ⟨tu, m[k2].sf, m[k2].wt⟩, room2, f2, false⟩) HQ.out HO.out (HK6.out.few) 0 _ _ _ _

theorem ref_del_any (nm : ByteArray) (A : Option Addr) (n c : Nat) (d : Dk) (w : World) (hd : Dsk w A n c d.fs) (hs : ∀ f ∈ d.fs, f.sf.size + f.wt.size ≤ maxLen) (hfu : d.fuse ≤ 9223372036854775807) :
    Calls Tryz.prog 29 #[dkv A n c d.room d.fuse d.off, .string nm] w fun e w' => RetDK w A n (del d nm).1 (del d nm).2 e w' := by
  obtain ⟨l, room, fuse, off⟩ := d
  simp only at hd hs hfu ⊢
  cases off
  · rcases plc_cases nm l with ⟨hp, hall⟩ | ⟨k, hk, hp, hkn, hfirst⟩
    · rw [show del ⟨l, room, fuse, false⟩ nm = (⟨l, room, fuse, false⟩, 7) by simp [del, hit_none hall]]
      exact ref_del_none nm A n c room fuse l w hd _ hp (by omega)
    · rcases Int.lt_trichotomy fuse 0 with h2 | h2 | h2
      · rw [show del ⟨l, room, fuse, false⟩ nm = (lss ⟨l, room, fuse, false⟩ k, 0) by simp [del, hit_at hk hkn hfirst, opn_at hk hkn hfirst, pow_neg _ _ _ _ h2], lss_at hk]
        exact ref_del_yes nm A n c room fuse l w hd hfu k hk hp fuse (pow_neg _ _ _ _ h2) (hs _ (List.getElem_mem hk)) _ rfl
      · subst h2
        rw [show del ⟨l, room, 0, false⟩ nm = (⟨l, room, 0, true⟩, 6) by simp [del, hit_at hk hkn hfirst, pow_zero]]
        exact ref_del_dead nm A n c room l w hd k hp
      · rw [show del ⟨l, room, fuse, false⟩ nm = (lss ⟨l, room, fuse - 1, false⟩ k, 0) by simp [del, hit_at hk hkn hfirst, opn_at hk hkn hfirst, pow_pos _ _ _ _ h2], lss_at hk]
        exact ref_del_yes nm A n c room fuse l w hd hfu k hk hp (fuse - 1) (pow_pos _ _ _ _ h2) (hs _ (List.getElem_mem hk)) _ rfl
  · exact ref_del_off nm A n c room fuse l w hd

theorem ref_ren_any (fr tu : ByteArray) (A : Option Addr) (n c : Nat) (d : Dk) (w : World) (hd : Dsk w A n c d.fs) (hs : ∀ f ∈ d.fs, f.sf.size + f.wt.size ≤ maxLen) (hfu : d.fuse ≤ 9223372036854775807) :
    Calls Tryz.prog 44 #[dkv A n c d.room d.fuse d.off, .string fr, .string tu] w fun e w' => RetDK w A n (ren d fr tu).1 (ren d fr tu).2 e w' := by
  obtain ⟨l, room, fuse, off⟩ := d
  simp only at hd hs hfu ⊢
  cases off
  · cases hok : nmOk tu
    · rw [show ren ⟨l, room, fuse, false⟩ fr tu = (⟨l, room, fuse, false⟩, 1) by simp [ren, hok]]
      exact ref_ren_arg fr tu A n c room fuse l w hd hok
    · rcases plc_cases fr l with ⟨hp, hall⟩ | ⟨k, hk, hp, hkn, hfirst⟩
      · rw [show ren ⟨l, room, fuse, false⟩ fr tu = (⟨l, room, fuse, false⟩, 7) by simp [ren, hok, hit_none hall]]
        exact ref_ren_none fr tu A n c room fuse l w hd _ hp hok (by omega)
      · by_cases he : fr = tu
        · rw [show ren ⟨l, room, fuse, false⟩ fr tu = (⟨l, room, fuse, false⟩, 0) by subst he; simp [ren, hok, hit_at hk hkn hfirst]]
          exact ref_ren_same fr tu A n c room fuse l w hd k hp hok he
        · by_cases hz : fuse = 0
          · subst hz
            rw [show ren ⟨l, room, 0, false⟩ fr tu = (⟨l, room, 0, true⟩, 6) by simp [ren, hok, hit_at hk hkn hfirst, he, pow_zero]]
            exact ref_ren_dead fr tu A n c room l w hd k hp hok he
          · obtain ⟨f2, hpw⟩ : ∃ f2, pow ⟨l, room, fuse, false⟩ = (⟨l, room, f2, false⟩, true) := by
              rcases Int.lt_or_gt_of_ne hz with h | h
              · exact ⟨fuse, pow_neg _ _ _ _ h⟩
              · exact ⟨fuse - 1, pow_pos _ _ _ _ h⟩
            rcases plc_cases tu l with ⟨hp2, hall2⟩ | ⟨o, ho, hp2, hon, hfirst2⟩
            · rw [show ren ⟨l, room, fuse, false⟩ fr tu = (nmd ⟨l, room, f2, false⟩ k tu, 0) by simp [ren, hok, hit_at hk hkn hfirst, opn_at hk hkn hfirst, he, hpw, hit_none hall2], nmd_at hk]
              exact ref_ren_plain fr tu A n c room fuse l w hd hfu k hk hp hok he f2 hpw _ hp2 (by omega)
            · have hne : o ≠ k := by rintro rfl; exact he (hkn.symm.trans hon)
              have ho2 : o < (l.set k ⟨tu, l[k].sf, l[k].wt⟩).length := by simpa using ho
              have hge : (l.set k ⟨tu, l[k].sf, l[k].wt⟩)[o] = l[o] := List.getElem_set_ne (by omega) _
              rw [show ren ⟨l, room, fuse, false⟩ fr tu = (lss (nmd ⟨l, room, f2, false⟩ k tu) o, 0) by simp [ren, hok, hit_at hk hkn hfirst, opn_at hk hkn hfirst, he, hpw, hit_at ho hon hfirst2, opn_at ho hon hfirst2], nmd_at hk, lss_at ho2, hge]
              obtain ⟨ad, rfl⟩ : ∃ ad, A = some ad := by
                cases A with
                | none => have := hd.nil rfl; have := hd.len; omega
                | some ad => exact ⟨ad, rfl⟩
              obtain ⟨hlt, hg, hpk⟩ := erase_from (fr := fr) ho hk hne hkn hfirst (by rw [hon]; exact fun e => he e.symm)
              have h := ref_ren_over fr tu ad n c room fuse l w hd hfu k hp hok he f2 hpw o ho hp2 (hs _ (List.getElem_mem ho)) _ rfl (kk_ k o) hlt hpk
              rw [hg, erase_set hne] at h
              exact h
  · exact ref_ren_off fr tu A n c room fuse l w hd
end Go.Proofs.YtggbdhnjogalgaaGreatDoor

/- A store into a cell that holds no text leaves every list of texts, and every disk, wherever they lie. -/
namespace Go.Proofs.YtggbdhnjogalgaaGreatDoor
set_option maxRecDepth 100000
open Go.RowKit Dkm
set_option linter.unusedVariables false

/-- the cell holds something, and no text. -/
def NoTx (w : World) (p : Addr) : Prop := ∃ u, w.cell? p = some u ∧ ∀ s, u ≠ .string s
theorem NoTx.set {w : World} {p q : Addr} (h : NoTx w p) (hne : q ≠ p) (v : Value) : NoTx (w.setCell q v) p := by
  obtain ⟨u, h1, h2⟩ := h
  exact ⟨u, (World.cell?_setCell_other _ _ _ _ hne).trans h1, h2⟩
theorem Holds.odd {w : World} {B k : Nat} {A : Option Addr} {n : Nat} {xs : List Value} (h : Holds w B k A n xs) (hx : ∀ u ∈ xs, ∃ s, u = .string s) {p : Addr} (hp : NoTx w p) (v : Value) : Holds (w.setCell p v) B k A n xs :=
  ⟨h.1, fun j u hj => by
    obtain ⟨ad, e, hb, hc⟩ := h.2 j u hj
    refine ⟨ad, e, hb, ?_⟩
    have hne : p ≠ ad.add j := by
      intro e2
      obtain ⟨u2, h1, h2⟩ := hp
      rw [e2, hc] at h1
      injection h1 with h1
      obtain ⟨s, rfl⟩ := hx u (List.mem_of_getElem? hj)
      exact h2 s h1.symm
    rw [World.cell?_setCell_other _ _ _ _ hne]
    exact hc⟩
theorem rows_tx (l : List Fil) : ∀ u ∈ rows l, ∃ s, u = Value.string s := by
  induction l with
  | nil => intro u hu; cases hu
  | cons f l ih =>
    intro u hu
    rcases List.mem_append.1 hu with hu | hu
    · rcases List.mem_cons.1 hu with rfl | hu
      · exact ⟨_, rfl⟩
      rcases List.mem_cons.1 hu with rfl | hu
      · exact ⟨_, rfl⟩
      rcases List.mem_cons.1 hu with rfl | hu
      · exact ⟨_, rfl⟩
      · cases hu
    · exact ih u hu
theorem Dsk.odd {w : World} {A : Option Addr} {n c : Nat} {l : List Fil} (h : Dsk w A n c l) {p : Addr} (hp : NoTx w p) (v : Value) : Dsk (w.setCell p v) A n c l := by
  refine ⟨?_, h.nil, h.le, h.cap, h.few⟩
  have := Holds.odd h.files (rows_tx l) hp v
  rw [show w.heap.size = (w.setCell p v).heap.size by simp [World.setCell]] at this
  exact this
/-- a disk's box is written anew. -/
theorem Dsk.odd4 {w : World} {A : Option Addr} {n c : Nat} {l : List Fil} (h : Dsk w A n c l) {g : Nat} {x0 x1 x2 x3 : Value} (hb : Bx w g [x0, x1, x2, x3]) (hx : ∀ u ∈ [x0, x1, x2, x3], ∀ s, u ≠ Value.string s) (y0 y1 y2 y3 : Value) :
    Dsk ((((w.setCell ⟨g, 0, none⟩ y0).setCell ⟨g, 1, none⟩ y1).setCell ⟨g, 2, none⟩ y2).setCell ⟨g, 3, none⟩ y3) A n c l := by
  have h0 : ∀ k (hk : k < 4), NoTx w ⟨g, k, none⟩ := fun k hk => ⟨[x0, x1, x2, x3][k], (hb k _ (List.getElem?_eq_getElem hk)).1, hx _ (List.getElem_mem _)⟩
  have n0 := h0 0 (by omega)
  have n1 := (h0 1 (by omega)).set (q := ⟨g, 0, none⟩) (by simp) y0
  have n2 := ((h0 2 (by omega)).set (q := ⟨g, 0, none⟩) (by simp) y0).set (q := ⟨g, 1, none⟩) (by simp) y1
  have n3 := (((h0 3 (by omega)).set (q := ⟨g, 0, none⟩) (by simp) y0).set (q := ⟨g, 1, none⟩) (by simp) y1).set (q := ⟨g, 2, none⟩) (by simp) y2
  exact (((h.odd n0 y0).odd n1 y1).odd n2 y2).odd n3 y3
end Go.Proofs.YtggbdhnjogalgaaGreatDoor
