/- WalScan, WalScan2, WalRec, DiskRef5, DiskRef6, DiskTot, Frame, Flat, DiskIn, DiskVar, WalShown: merged. -/
import Derived.Test.YtplhkppikkbkkaaDoorA1
import Derived.RangeFuncBox
import Derived.RangeFuncNested
import Derived.RangeFuncBound
import Derived.RangeFuncCalls
import Derived.RangeFuncLeaves
import Derived.Shelf.Abstract
import Derived.Shelf.RegionOpen
import Derived.WalkKit
import Derived.OwnWalkIn
import Derived.TacticsInMore
import Derived.LoopNIn
import Derived.LoopIn
import Derived.Maps.AppendAt
import Derived.Test.YtplhkppikkbkkaaDoorA5
import Derived.Test.YtplhkppikkbkkaaDoorA3
import Derived.Deep.RegionLaw
import Derived.Deep.DeepCutAuto
import Derived.SizedLaws
import Derived.Carry
import Derived.Deep.Slices
import Derived.ChangeMaps5
import Derived.Test.YtplhkppikkbkkaaDoorA2
/- Contracts: wal.records, its iterator, wal.Scan. -/
namespace Go.Proofs.YtplhkppikkbkkaaDoor
set_option maxRecDepth 100000
open Go.RowKit Go.Shelf
set_option linter.unusedVariables false
attribute [local go_sem] Oper.semAt_some

/-! ### What comes, in plain mathematics -/
abbrev Pr := ByteArray × Int
def encP (x : Pr) : Array Value := #[.string x.1, .int .i64 x.2]
def bs (r : List UInt8) : ByteArray := ⟨r.toArray⟩
theorem bs_list (s : ByteArray) : bs s.data.toList = s := rfl
theorem list_bs (l : List UInt8) : (bs l).data.toList = l := rfl
theorem bs_size (l : List UInt8) : (bs l).size = l.length := by show l.toArray.size = _; simp
def prs : Nat → List (List UInt8) → List Pr
  | _, [] => []
  | o, r :: rs => (bs r, ((o + (sld r).length : Nat) : Int)) :: prs (o + (sld r).length) rs
theorem prs_snoc (r : List UInt8) : ∀ (us : List (List UInt8)) (o : Nat), prs o (us ++ [r]) = prs o us ++ [(bs r, ((o + (flat us).length + (sld r).length : Nat) : Int))]
  | [], o => by simp [prs, flat_nil]
  | u :: us, o => by
    simp only [List.cons_append, prs, prs_snoc r us, flat_cons, List.length_append]
    rw [show o + (sld u).length + (flat us).length + (sld r).length = o + ((sld u).length + (flat us).length) + (sld r).length by omega]
theorem prs_len : ∀ (rs : List (List UInt8)) (o : Nat), (prs o rs).length = rs.length
  | [], _ => rfl
  | r :: rs, o => by simp [prs, prs_len rs]
theorem prs_fst : ∀ (rs : List (List UInt8)) (o : Nat), (prs o rs).map (fun x => Value.string x.1) = rs.map (fun r => Value.string (bs r))
  | [], _ => rfl
  | r :: rs, o => by simp [prs, prs_fst rs]
def lastE (l : List Pr) : Int := (l.getLast?.map (·.2)).getD 0
theorem lastE_snoc (l : List Pr) (x : Pr) : lastE (l ++ [x]) = x.2 := by simp [lastE]
theorem lastE_prs (rs : List (List UInt8)) : lastE (prs 0 rs) = ((flat rs).length : Int) := by
  rcases List.eq_nil_or_concat rs with rfl | ⟨us, r, rfl⟩
  · rfl
  · rw [List.concat_eq_append, prs_snoc, lastE_snoc, flat_app, flat_cons, flat_nil]
    simp only [List.length_append, List.append_nil]
    omega

def strSize : Value → Nat
  | .string s => s.size
  | _ => 0
theorem grown_q {w w' : World} (h : Q w w') : w.grownBy w' none := ⟨h.below.os, h.below.tape, h.below.output, h.below.size, fun k hk _ => h.below.block k hk⟩

theorem records_any (s : ByteArray) (w : World) :
    Calls Tryd.prog 51 #[.string s] w fun e w' => e = .returned (.func (.func 59) #[] #[.pointer (some ⟨w.heap.size, 0, none⟩)]) ∧ w' = w.alloc (.cells #[.string s] 9) := by
  go_enter Tryd.func51, Tryd.ntmps51
  go_wp2
  go_ret
  exact ⟨rfl, rfl⟩

/-- what a round keeps: the text's box. -/
def KpB (b : Nat) (W W' : World) : Prop := ∀ v, W.cell? ⟨b, 0, none⟩ = some v → W'.cell? ⟨b, 0, none⟩ = some v
theorem kpB_t {b : Nat} {A B C : World} (h : KpB b A B) (k : KpB b B C) : KpB b A C := fun v hv => k v (h v hv)
theorem kpB_b {b : Nat} {w : World} (hb : b < w.heap.size) (W : World) (l : Nat) (o o' : Obj) (hl : w.heap.size ≤ l) (h : W.heap[l]? = some o) (_ : o.isCells = false) (_ : o.isWalk = false) : KpB b W (W.putObj l o') := fun v hv => by
  have e : (W.putObj l o').heap[b]? = W.heap[b]? := World.putObj_heap_other (by omega)
  simp only [World.cell?] at hv ⊢
  rw [e]; exact hv

set_option maxHeartbeats 1000000 in
theorem iter_any (n : Nat) (hn : 1 ≤ n) (l b : Nat) (s : ByteArray) (hs : s.size ≤ maxLen) (J Jx : List Pr → World → Prop) (W : World) (hJ : AbidesFrom W.heap.size J)
    (hY : ∀ pre x W1, J pre W1 → pre.length < (scn s.data.toList).1.length → YieldAt Fence.wide (n - 1) Tryd.prog l (encP x) W1 fun e W' =>
      (e = .returned (.bool true) ∧ J (pre ++ [x]) W' ∧ KpB b W1 W') ∨ (e = .returned (.bool false) ∧ Jx (pre ++ [x]) W'))
    (hc : W.cell? ⟨b, 0, none⟩ = some (.string s)) (hb : b < W.heap.size) (h0 : J [] W) :
    CallsIn Fence.wide n Tryd.prog 59 #[.func (.yield l) #[] #[], .pointer (some ⟨b, 0, none⟩)] W fun e W' => (∃ v, e = .returned v) ∧
      ((∃ ys, ys = prs 0 (scn s.data.toList).1 ∧ J ys W') ∨ (∃ pre, True ∧ Jx pre W')) := by
  refine callsIn_of_wp Tryd.func59 rfl trivial ?_ rfl
  simp only [Tryd.ntmps59, List.size_toArray, List.length_cons, List.length_nil, Nat.reduceAdd, Nat.reduceSub, Array.replicate_succ, Array.replicate_zero, List.push_toArray, List.append_toArray, List.nil_append, List.cons_append]
  have hS0 := scd s.data.toList
  have HY := Lib.hid hY
  have HJ := Lib.hid hJ
  have H0 := Lib.hid h0
  have HS := Lib.hid hs
  clear hY hJ h0
  gi_wp2
  gi_loopw [3] (fun p wr => ∃ us vs, p = .string (bs (flat vs ++ (scn s.data.toList).2)) ∧ (scn s.data.toList).1 = us ++ vs ∧ J (prs 0 us) wr ∧ wr.cell? ⟨b, 0, none⟩ = some (.string s)) (fun p _ => strSize p)
  case atStart =>
    exact ⟨[], (scn s.data.toList).1, by rw [← hS0.eq]; rfl, rfl, H0.out, hc⟩
  case round =>
    obtain ⟨us, vs, rfl, hx, hJs, hcs⟩ := hrel
    have hlen : (flat vs ++ (scn s.data.toList).2).length ≤ s.size := by
      have h1 := congrArg List.length hS0.eq
      rw [hx, flat_app, size_list] at h1
      simp only [List.length_append] at h1 ⊢
      omega
    have hO := sopen_any (bs (flat vs ++ (scn s.data.toList).2)) 2048 wr (by rw [bs_size]; have := HS.out; omega) (by omega) (by omega)
    rw [list_bs] at hO
    have hblt : b < wr.heap.size := block_lt_of_cell hcs
    cases vs with
    | nil =>
      rw [flat_nil, List.nil_append] at hO
      rw [flat_nil, List.nil_append]
      have hno := hS0.no
      generalize (scn s.data.toList).2 = t at hO hno
      generalize topen t 2048 = r at hO hno
      obtain ⟨x, y, k⟩ := r
      simp only [ttR] at hO
      have hk : ((k : Int) != 0) = true := by simpa using hno
      have hx' : prs 0 us = prs 0 (scn s.data.toList).1 := by rw [hx, List.append_nil]
      gi_wp2_with (fail)
      refine ⟨trivial, ?_⟩
      refine (callsIn_wide.2 hO).mono ?_
      rintro e W2 ⟨rfl, q2⟩
      have hJ2 : J (prs 0 us) W2 := HJ.out _ _ _ none hJs (grown_q q2) (by intro r e; cases e)
      gi_wp2
      refine ⟨fun _ h => (by cases h), ?_⟩
      gi_wp2
      refine bodyPost_ret (results_none rfl _ _ _) rfl ?_
      exact ⟨⟨_, rfl⟩, .inl ⟨_, hx', hJ2⟩⟩
    | cons r vs =>
      have hr : r.length ≤ 2048 := hS0.le r (by rw [hx]; simp)
      rw [flat_cons, List.append_assoc] at hO hlen ⊢
      rw [open_one r _ hr] at hO
      simp only [ttR] at hO
      have h4 := sld_four r
      have hBs := bs_size (flat vs ++ (scn s.data.toList).2)
      have hend : (s.size : Int) - ((bs (flat vs ++ (scn s.data.toList).2)).size : Int) = ((0 + (flat us).length + (sld r).length : Nat) : Int) := by
        have h1 := congrArg List.length hS0.eq
        rw [hx, flat_app, flat_cons, size_list] at h1
        rw [bs_size]
        simp only [List.length_append] at h1 ⊢
        omega
      have hend2 : wrap64 ((s.size : Int) - ((bs (flat vs ++ (scn s.data.toList).2)).size : Int)) = ((0 + (flat us).length + (sld r).length : Nat) : Int) := by
        rw [hend]; have h2 := HS.out; have h3 := congrArg List.length hS0.eq
        rw [hx, flat_app, flat_cons, size_list] at h3
        simp only [List.length_append] at h3
        unfold maxLen at h2; unfold wrap64; omega
      have HE := Lib.hid hend2
      clear hend hend2
      have hBle : (bs (flat vs ++ (scn s.data.toList).2)).size ≤ s.size := by rw [hBs]; simp only [List.length_append] at hlen ⊢; omega
      change Calls _ _ _ _ fun e w' => e = .returned (.tuple #[.string (bs r), .string (bs (flat vs ++ (scn s.data.toList).2)), .int .i64 0]) ∧ Q wr w' at hO
      have HL := Lib.hid (And.intro hlen (And.intro hBs hx))
      have hms : strSize (.string (bs (flat vs ++ (scn s.data.toList).2))) < strSize (.string (bs (sld r ++ (flat vs ++ (scn s.data.toList).2)))) := by
        simp only [strSize, bs_size, List.length_append]; omega
      clear hlen hBs hx
      gi_wp2_with (fail)
      refine ⟨trivial, ?_⟩
      refine (callsIn_wide.2 hO).mono ?_
      rintro e W2 ⟨rfl, q2⟩
      have hJ2 : J (prs 0 us) W2 := HJ.out _ _ _ none hJs (grown_q q2) (by intro r e; cases e)
      have hc2 : W2.cell? ⟨b, 0, none⟩ = some (.string s) := (q2.below.cell (p := ⟨b, 0, none⟩) hblt).trans hcs
      obtain ⟨fn, tmps, assign, body, hy, hR⟩ := HY.out (prs 0 us) (bs r, wrap64 ((s.size : Int) - ((bs (flat vs ++ (scn s.data.toList).2)).size : Int))) W2 hJ2 (by rw [prs_len, HL.out.2.2]; simp)
      dsimp only [encP] at hy
      gi_wp2
      refine hR.mono ?_
      rintro e W3 (⟨rfl, hJ3, hk3⟩ | ⟨rfl, hJx3⟩)
      · have hc3 : W3.cell? ⟨b, 0, none⟩ = some (.string s) := hk3 _ hc2
        have HM := Lib.hid hms
        clear hms
        gi_wp2
        go_roundw
        case rel => exact ⟨us ++ [r], vs, rfl, by rw [HL.out.2.2]; simp, by rw [prs_snoc, ← HE.out]; exact hJ3, hc3⟩
        case measure => exact HM.out
      · gi_wp2
        refine bodyPost_ret (results_none rfl _ _ _) rfl ?_
        exact ⟨⟨_, rfl⟩, .inr ⟨_, trivial, hJx3⟩⟩

theorem stops_any (n : Nat) (hn : 1 ≤ n) (b : Nat) (s : ByteArray) (hs : s.size ≤ maxLen) (w : World) (hb : b < w.heap.size) (hc : w.cell? ⟨b, 0, none⟩ = some (.string s)) :
    SeqStopsK Fence.wide n Tryd.prog 59 #[.pointer (some ⟨b, 0, none⟩)] encP (KpB b) (fun ys => ys = prs 0 (scn s.data.toList).1) (fun _ => True) (scn s.data.toList).1.length w := fun l J Jx W hW hJ hJx hY h0 =>
  iter_any n hn l b s hs J Jx W hJ hY ((hW.cell (p := ⟨b, 0, none⟩) hb).trans hc) (Nat.lt_of_lt_of_le hb hW.size) h0
end Go.Proofs.YtplhkppikkbkkaaDoor

/- The contract of wal.Scan. -/
namespace Go.Proofs.YtplhkppikkbkkaaDoor
set_option maxRecDepth 100000
open Go.RowKit Go.Shelf
set_option linter.unusedVariables false
attribute [local go_sem] Oper.semAt_some

theorem infoS : (Tryd.prog.info? 9).map (fun i => (i.zero, i.size, i.bytes)) = some (some (.string ⟨#[]⟩), 1, 16) := by kernel_rfl
theorem row_lower {w : World} {base b2 size n : Nat} {e : TypeId} {v : Value} {xs : List Value} (h : w.ownsRow base e size v n xs) (hb : b2 ≤ base) : w.ownsRow b2 e size v n xs := by
  refine ⟨h.1, ?_⟩
  rcases h.2 with h0 | ⟨g, cap, cur, e, hg, hh, r⟩
  · exact .inl h0
  · exact .inr ⟨g, cap, cur, e, by omega, hh, r⟩
/-- a block below the base lies as it lay, behind an append and stores elsewhere. -/
theorem cell_app {W w1 : World} {n₀ b B : Nat} {e : TypeId} {size k : Nat} {v v' u : Value} {xs : List Value} {tmp : Obj} (hrow : W.ownsRow n₀ e size v k xs) (hb : b < n₀) (hgrow : (W.alloc tmp).grownBy w1 v.ownBlock)
    (hB : B ≠ b) (hu : W.cell? ⟨b, 0, none⟩ = some u) : (w1.setCell ⟨B, 0, none⟩ v').cell? ⟨b, 0, none⟩ = some u := by
  have hlt : b < W.heap.size := block_lt_of_cell hu
  have h1 : (W.alloc tmp).cell? ⟨b, 0, none⟩ = some u := (((Below.refl _ W).alloc (Nat.le_refl _) tmp).cell (p := ⟨b, 0, none⟩) hlt).trans hu
  have h2 : w1.heap[b]? = (W.alloc tmp).heap[b]? := hgrow.block b (by simp; omega) (fun ej => by
    rcases hrow.2 with ⟨rfl, _⟩ | ⟨g, cap, cur, rfl, hg, _, _⟩
    · simp [Value.ownBlock] at ej
    · have : b = g := by simpa [Value.ownBlock] using ej
      omega)
  rw [World.cell?_setCell_other _ _ _ _ (by intro x; injection x with x; exact hB x)]
  simp only [World.cell?] at h1 ⊢
  rw [h2]; exact h1

/-- a list of texts in memory of the call's own. -/
def OwnS (w : World) (base : Nat) (A : Option Addr) (n c : Nat) (rs : List (List UInt8)) : Prop := w.ownsRow base 9 1 (.slice A n c) n (rs.map fun r => Value.string (bs r))

set_option maxHeartbeats 2000000 in
theorem scan_any (s : ByteArray) (w : World) (hs : s.size ≤ maxLen) (hbig : (scn s.data.toList).1.length * 16 ≤ 140737488355328) :
    Calls Tryd.prog 32 #[.string s] w fun e w' => ∃ A n c, e = .returned (.tuple #[.slice A n c, .int .i64 (used s.data.toList)]) ∧ OwnS w' w.heap.size A n c (scn s.data.toList).1 ∧ Q w w' := by
  obtain ⟨i0, hi, hz0, hz1, hz2⟩ := info_parts infoS
  refine (callsIn_wide (n := 6)).1 ?_
  refine callsIn_of_wp_marks Tryd.func32 rfl trivial ?_ rfl
  simp only [Tryd.ntmps32, List.size_toArray, List.length_cons, List.length_nil, Nat.reduceAdd, Nat.reduceSub, Array.replicate_succ, Array.replicate_zero, List.push_toArray, List.append_toArray, List.nil_append, List.cons_append]
  gi_wp2_with (refine ⟨trivial, ?_⟩; gi_at_call 51; refine (callsIn_wide.2 (records_any s _)).mono ?_; rintro e w' ⟨rfl, rfl⟩)
  have b1 := Boxed.new w 39 (.slice none 0 0)
  have b2 := Boxed.new (w.alloc (.cells #[.slice none 0 0] 39)) 3 (.int .i64 0)
  have b3 := Boxed.new ((w.alloc (.cells #[.slice none 0 0] 39)).alloc (.cells #[.int .i64 0] 3)) 9 (.string s)
  rw [World.size_alloc] at b2 b3
  rw [World.size_alloc] at b3
  have hml : (scn s.data.toList).1.length ≤ maxLen := by unfold maxLen; omega
  have hB0 : Below w.heap.size w (((w.alloc (.cells #[.slice none 0 0] 39)).alloc (.cells #[.int .i64 0] 3)).alloc (.cells #[.string s] 9)) := (((Q.refl w).alloc _).alloc _).alloc _
  refine wpIn_rangeFunc_ownG rfl (by omega) (gf := 59) (lb := #[.pointer (some ⟨w.heap.size + 1 + 1, 0, none⟩)]) rfl trivial (enters_of Tryd.func59 (by kernel_rfl) rfl)
    (stops_any (6 - 1) (by omega) (w.heap.size + 1 + 1) s hs _ (by simp) b3.cell) kpB_t (kpB_b (by simp)) (Below.refl _ _) (fun _ => rfl)
    (fun pre W => (∃ v, Boxed W w.heap.size 39 v ∧ W.ownsRow (w.heap.size + 3) 9 1 v pre.length (pre.map fun x => Value.string x.1) ∧ True) ∧ Boxed W (w.heap.size + 1) 3 (.int .i64 (lastE pre)) ∧ Below w.heap.size (((w.alloc (.cells #[.slice none 0 0] 39)).alloc (.cells #[.int .i64 0] 3)).alloc (.cells #[.string s] 9)) W)
    (fun _ _ _ => False)
    (OwnFrom.and (Own.from (holdsRow_own (w.heap.size + 3) w.heap.size 39 9 1 (fun pre : List Pr => pre.length) (fun pre => pre.map fun x => Value.string x.1) (fun _ _ => True)) _) (OwnFrom.and (Own.from (boxed_own (w.heap.size + 1) 3 (fun pre : List Pr => .int .i64 (lastE pre))) _) (ownFrom_below (by simp; omega) (by simp; omega))))
    (fun _ _ _ _ _ hs _ _ => hs)
    ⟨⟨_, (b1.alloc _).alloc _, World.ownsRow_nil _ _ _ _, trivial⟩, b2.alloc _, Below.refl _ _⟩
    (fun x => { tmps := #[.string s, undef, .slice none 0 0, .int .i64 0, .pointer (some ⟨w.heap.size, 0, none⟩), .pointer (some ⟨w.heap.size + 1, 0, none⟩), .string x.1, .int .i64 x.2, .string s, .func (.func 59) #[] #[.pointer (some ⟨w.heap.size + 1 + 1, 0, none⟩)], .string x.1, .int .i64 x.2, undef, undef, undef, undef, undef, undef, undef], defers := [] }) ?assign ?body ?done ?stop
  case assign =>
    intro l x W K hK
    simp only [encP]
    gi_wp2
    exact hK
  case body =>
    rintro l pre x W ⟨⟨v, hv, hrow, _⟩, hn, hB⟩ hlt
    have hc := hv.cell
    have hBs := hB.size
    have hwl := hn.lt
    have hle3 : w.heap.size + 3 ≤ W.heap.size := by have := hB.size; simp at this; omega
    have hBw : w.heap.size ≤ W.heap.size := by omega
    clear hBs
    gi_wp2_with (gi_at_builtin; refine wpListIn_append_own _ rfl _ _ 39 rfl (w.heap.size + 3) 9 i0 (.string ⟨#[]⟩) 1 16 Tryd.underlying39 hi hz0 hz1 hz2 rfl (by decide) _ _ _ rfl (hrow.alloc _) ⟨W.heap.size, 0, none⟩ 1 1 [.string x.1] rfl rfl (cell_one_new _ _ _) (by simp [Value.oneCell']) (by omega) (by omega) (by simp; omega) ?_; intro v' w1 hown' hgrow _; obtain ⟨g', cap', rfl⟩ := ownsRow_succ hown'; obtain ⟨hv1, hv2, hr2, hk2, hb2⟩ := hv.appended (by decide) (row_lower hrow (b2 := w.heap.size) (by omega)) hBw (Nat.le_refl _) (row_lower hown' (b2 := w.heap.size) (by omega)) hgrow; have hc1 := hv1.cell; have hf1 := hv1.frozen; have hn1 : Boxed w1 (w.heap.size + 1) 3 (.int .i64 (lastE pre)) := (hn.alloc _).kept hgrow (hn.not_row (by decide) hrow); have hc2 := hn1.cell; have hf2 := hn1.frozen)
    have hkp : KpB (w.heap.size + 1 + 1) W _ := fun u hu => cell_app (v' := Value.slice (some ⟨g', 0, none⟩) (pre.length + 1) cap') hrow (by omega) hgrow (B := w.heap.size) (by omega) hu
    have hn2 := (hn1.other (B' := w.heap.size) (by omega) (Value.slice (some ⟨g', 0, none⟩) (pre.length + 1) cap')).set (.int .i64 x.2)
    have hr3 : w1.ownsRow (w.heap.size + 3) 9 1 (Value.slice (some ⟨g', 0, none⟩) (pre.length + 1) cap') (pre.length + 1) (List.map (fun x => Value.string x.1) pre ++ [.string x.1]) := hown'
    have hr4 := (hr3.kept (grownBy_setCell' w1 w.heap.size (Value.slice (some ⟨g', 0, none⟩) (pre.length + 1) cap')) (.inr (hv1.not_row (by decide) hr3).symm))
    have hv3 := hv2.other (B' := w.heap.size + 1) (by omega) (.int .i64 x.2)
    have hr5 := hr4.kept (grownBy_setCell' _ (w.heap.size + 1) (.int .i64 x.2)) (.inr ((hn1.other (B' := w.heap.size) (by omega) (Value.slice (some ⟨g', 0, none⟩) (pre.length + 1) cap')).not_row (by decide) hr4).symm)
    refine ⟨(hk2.trans (KeepsOthers.setCell _ _ _)).from _, fun u hu => ?_, ⟨_, hv3, by simpa using hr5, trivial⟩, by rw [lastE_snoc]; exact hn2, hB.trans (hb2.setCell (p := ⟨w.heap.size + 1, 0, none⟩) (Nat.le_succ _) _)⟩
    rw [World.cell?_setCell_other _ _ _ _ (by intro z; injection z with z; omega)]
    exact hkp u hu
  case done =>
    rintro D ys W hD rfl ⟨⟨v, hv, hrow, _⟩, hn, hB⟩ hK
    obtain ⟨A, c, rfl⟩ : ∃ A c, v = .slice A (prs 0 (scn s.data.toList).1).length c := by
      rcases hrow.2 with ⟨e, h0⟩ | ⟨g, cap, cur, e, _⟩
      · exact ⟨none, 0, by rw [e, h0]⟩
      · exact ⟨_, _, e⟩
    have hc := hv.cell
    have hc2 := hn.cell
    have hQ : Q w W := hB0.trans hB
    have hO : OwnS W w.heap.size A (prs 0 (scn s.data.toList).1).length c (scn s.data.toList).1 := by
      unfold OwnS
      rw [← prs_fst _ 0]
      exact row_lower hrow (by omega)
    have hE : lastE (prs 0 (scn s.data.toList).1) = (used s.data.toList : Int) := by rw [lastE_prs, used_flat]
    rw [hE] at hc2
    have hDw : w.heap.size ≤ D := by simp at hD; omega
    clear hE hrow hv hn hB hD
    gi_wp2
    gi_region
    gi_wp2
    refine ⟨by simp, .inl ⟨_, _, rfl, run_takeDeferred hK, ?_⟩⟩
    exact ⟨_, results_tmp2 rfl _ _ _, A, _, c, rfl, ownsRow_putObj (hO : World.ownsRow W.drew _ _ _ _ _ _) _ hK rfl, hQ.drew.below.trans (belowK_b (w := w) (Nat.le_refl _) W.drew D _ _ hDw hK rfl rfl)⟩
  case stop =>
    rintro D c pre W _ _ h _
    exact h.elim
end Go.Proofs.YtplhkppikkbkkaaDoor

/- The contract of wal.Recover. -/
namespace Go.Proofs.YtplhkppikkbkkaaDoor
set_option maxRecDepth 100000
open Go.RowKit Dkm Wm
set_option linter.unusedVariables false

/-- a list of texts, wherever it lies. -/
def Strs (w : World) (A : Option Addr) (n : Nat) (rs : List (List UInt8)) : Prop := Holds w w.heap.size 1 A n (rs.map fun r => Value.string (bs r))
theorem Strs.q {w w' : World} {A : Option Addr} {n : Nat} {l : List (List UInt8)} (h : Strs w A n l) (hq : Q w w') : Strs w' A n l := Holds.q h hq
theorem OwnS.strs {w : World} {base : Nat} {A : Option Addr} {n c : Nat} {rs : List (List UInt8)} (h : OwnS w base A n c rs) : Strs w A n rs := by
  refine ⟨h.1, fun j u hu => ?_⟩
  rcases h.2 with ⟨e, h0⟩ | ⟨g, cap, cur, e, hb, hh, hc, hm, hs, ht⟩
  · have := (List.getElem?_eq_some_iff.1 hu).1
    rw [h.1] at this; omega
  · injection e with e1 e2 e3
    subst e1 e3
    have hj : j < n * 1 := by
      have := (List.getElem?_eq_some_iff.1 hu).1; rw [h.1] at this; exact this
    refine ⟨_, rfl, ?_, ?_⟩
    · rcases Nat.lt_or_ge g w.heap.size with hlt | hge
      · exact hlt
      · rw [Array.getElem?_eq_none hge] at hh; cases hh
    · rw [Addr.add_mid, Nat.zero_add, World.ownsRow.cellAt h j hj]; exact hu
theorem OwnS.len {w : World} {base : Nat} {A : Option Addr} {n c : Nat} {rs : List (List UInt8)} (h : OwnS w base A n c rs) : rs.length = n := by have := h.1; simpa using this
theorem OwnS.nil {w : World} {base : Nat} {A : Option Addr} {n c : Nat} {rs : List (List UInt8)} (h : OwnS w base A n c rs) : A = none → n = 0 ∧ c = 0 := by
  intro hA
  rcases h.2 with ⟨e, h0⟩ | ⟨g, cap, cur, e, _⟩
  · injection e with e1 e2 e3; exact ⟨e2, e3⟩
  · injection e with e1; rw [hA] at e1; cases e1
theorem OwnS.q {w w' : World} {base : Nat} {A : Option Addr} {n c : Nat} {rs : List (List UInt8)} (h : OwnS w base A n c rs) (hq : Q w w') : OwnS w' base A n c rs := by
  refine ⟨h.1, ?_⟩
  rcases h.2 with ⟨e, h0⟩ | ⟨g, cap, cur, e, hg, hh, r⟩
  · exact .inl ⟨e, h0⟩
  · have hlt : g < w.heap.size := by
      rcases Nat.lt_or_ge g w.heap.size with hlt | hge
      · exact hlt
      · rw [Array.getElem?_eq_none hge] at hh; cases hh
    exact .inr ⟨g, cap, cur, e, hg, (hq.below.block g hlt).trans hh, r⟩
theorem OwnS.setCell {w : World} {base : Nat} {A : Option Addr} {n c : Nat} {l : List (List UInt8)} (h : OwnS w base A n c l) {p : Addr} (hp : p.block < base) (u : Value) : OwnS (w.setCell p u) base A n c l := by
  refine ⟨h.1, ?_⟩
  rcases h.2 with ⟨e, h0⟩ | ⟨g, cap, cur, e, hg, hh, r⟩
  · exact .inl ⟨e, h0⟩
  · exact .inr ⟨g, cap, cur, e, hg, (heap_setCell_other w p g u (by omega)).trans hh, r⟩
theorem OwnS.set4 {w : World} {base : Nat} {A : Option Addr} {n c : Nat} {l : List (List UInt8)} (h : OwnS w base A n c l) {b : Nat} (hp : b < base) (x y z u : Value) : OwnS ((((w.setCell ⟨b, 0, none⟩ x).setCell ⟨b, 1, none⟩ y).setCell ⟨b, 2, none⟩ z).setCell ⟨b, 3, none⟩ u) base A n c l :=
  (((h.setCell (p := ⟨b, 0, none⟩) hp x).setCell (p := ⟨b, 1, none⟩) hp y).setCell (p := ⟨b, 2, none⟩) hp z).setCell (p := ⟨b, 3, none⟩) hp u
theorem OwnS.lower {w : World} {base b2 : Nat} {A : Option Addr} {n c : Nat} {rs : List (List UInt8)} (h : OwnS w base A n c rs) (hb : b2 ≤ base) : OwnS w b2 A n c rs := row_lower h hb
theorem ownS_nil (w : World) (base : Nat) : OwnS w base none 0 0 [] := ⟨rfl, .inl ⟨rfl, rfl⟩⟩
theorem row_ne {w : World} {base : Nat} {A : Option Addr} {n c : Nat} {rs : List (List UInt8)} (h : OwnS w base A n c rs) {b : Nat} (hb : b < base) : some b ≠ (Value.slice A n c).ownBlock := by
  rcases h.2 with ⟨e, h0⟩ | ⟨g, cap, cur, e, hg, hh, r⟩
  · rw [e]; simp [Value.ownBlock]
  · rw [e]; simp only [Value.ownBlock, ne_eq, Option.some.injEq]; omega
theorem box_g {w w' : World} {row : Option Nat} {b k : Nat} {v : Value} (hg : w.grownBy w' row) (hne : some b ≠ row) (h : w.cell? ⟨b, k, none⟩ = some v) : w'.cell? ⟨b, k, none⟩ = some v := hg.cell h hne
theorem Bx.grown {w w' : World} {row : Option Nat} {b : Nat} {vs : List Value} (h : Bx w b vs) (hg : w.grownBy w' row) (hne : some b ≠ row) : Bx w' b vs := fun j v hj => by
  have hb : b < w.heap.size := block_lt_of_cell (h j v hj).1
  have e := hg.block b hb hne
  have h1 := h j v hj
  simp only [World.cell?, World.frozen?] at h1 ⊢
  rw [e]; exact h1
theorem Below.of_own {w w' : World} {base : Nat} {A : Option Addr} {n c : Nat} {rs : List (List UInt8)} (h : OwnS w base A n c rs) (hg : w.grownBy w' (Value.slice A n c).ownBlock) (hB : base ≤ w.heap.size) : Below base w w' :=
  below_grown hg hB fun k hk => by
    rcases h.2 with ⟨e, _⟩ | ⟨g, cap, cur, e, hb, _⟩
    · rw [e] at hk; cases hk
    · rw [e] at hk; simp only [Value.ownBlock, Option.some.injEq] at hk; omega

theorem run_appSS {w : World} (base : Nat) (ty : TypeId) (A : Option Addr) (n c : Nat) (l : List (List UInt8)) (h : OwnS w base A n c l) (M : Option Addr) (m mc : Nat) (ms : List (List UInt8)) (h2 : Strs w M m ms)
    (hnil : M = none → m = 0 ∧ mc = 0) (hb : (n + m) * 16 ≤ 140737488355328) (hbase : base ≤ w.heap.size) :
    ∃ A' c' w', (Builtin.append_ #[39, 39] ty #[.slice A n c, .slice M m mc]).run Tryd.prog w = .ok (.slice A' (n + m) c') w' ∧ OwnS w' base A' (n + m) c' (l ++ ms) ∧ w.grownBy w' (Value.slice A n c).ownBlock := by
  obtain ⟨A', c', w', hr, h3, h4, h5⟩ := run_appG (P := Tryd.prog) (w := w) base 39 ty 9 (.string ⟨#[]⟩) 1 16 Tryd.underlying39 infoS rfl (by omega) A n c _ h M m mc _ h2.1
    (fun j u hu => by obtain ⟨a', e, _, hc⟩ := h2.2 j u hu; exact ⟨a', e, hc⟩) (by intro u hu; obtain ⟨_, _, rfl⟩ := List.mem_map.1 hu; rfl) hnil (by unfold maxLen; omega) hb hbase
  exact ⟨A', c', w', hr, by unfold OwnS; rw [List.map_append]; exact h3, h4⟩
theorem step_appS {ops : Array Oper} {o : Oper} {a : Act} {w : World} {K : Act → World → Prop} {R : Exit → Act → World → Prop} {E : Prop} (hgd : o.guard = none) (s x : Operand)
    (ho : o.op = .call { callee := .builtin .append, args := #[s, x], argTypes := #[39, 39] })
    (base : Nat) (A : Option Addr) (n c : Nat) (l : List (List UInt8)) (hs : a.eval s = .slice A n c) (h : OwnS w base A n c l) (M : Option Addr) (m mc : Nat) (ms : List (List UInt8)) (hx : a.eval x = .slice M m mc) (h2 : Strs w M m ms)
    (hnil : M = none → m = 0 ∧ mc = 0) (hb : (n + m) * 16 ≤ 140737488355328) (hbase : base ≤ w.heap.size)
    (hK : ∀ A' c' w', OwnS w' base A' (n + m) c' (l ++ ms) → w.grownBy w' (Value.slice A n c).ownBlock → Below base w w' → K (a.put o.dst (.slice A' (n + m) c')) w') :
    if Region.wanted o (yielded ops a.tmps) = true then Oper.wp Tryd.prog o a w K R else E := by
  rw [if_pos (wanted_plain hgd)]
  obtain ⟨A', c', w', hr, h3, h4⟩ := run_appSS base o.type A n c l h M m mc ms h2 hnil hb hbase
  unfold Oper.wp execOp
  simp only [ho, resolve, invoke, builtin, Sem.run_bind, Sem.run_pure, Result.andThen_ok, List.map_toArray, List.map_cons, List.map_nil, hs, hx, hr]
  exact hK A' c' w' h3 h4 (Below.of_own h h4 hbase)
theorem wpl_appSS {w : World} {ops : Array Oper} {rest : List Oper} {o : Oper} {a : Act} {R : Exit → Act → World → Prop} (hgd : o.guard = none) (s x : Operand)
    (ho : o.op = .call { callee := .builtin .append, args := #[s, x], argTypes := #[39, 39] })
    (base : Nat) (A : Option Addr) (n c : Nat) (l : List (List UInt8)) (hs : a.eval s = .slice A n c) (h : OwnS w base A n c l) (M : Option Addr) (m mc : Nat) (ms : List (List UInt8)) (hx : a.eval x = .slice M m mc) (h2 : Strs w M m ms)
    (hnil : M = none → m = 0 ∧ mc = 0) (hb : (n + m) * 16 ≤ 140737488355328) (hbase : base ≤ w.heap.size)
    (hk : ∀ A' c' w', OwnS w' base A' (n + m) c' (l ++ ms) → w.grownBy w' (Value.slice A n c).ownBlock → Below base w w' → wpList Tryd.prog ops R rest (a.put o.dst (.slice A' (n + m) c')) w') : wpList Tryd.prog ops R (o :: rest) a w := by
  refine wpList_plain hgd fun K hK => ?_
  obtain ⟨A', c', w', hr, h3, h4⟩ := run_appSS base o.type A n c l h M m mc ms h2 hnil hb hbase
  unfold Oper.wp execOp
  simp only [ho, resolve, invoke, builtin, Sem.run_bind, Sem.run_pure, Result.andThen_ok, List.map_toArray, List.map_cons, List.map_nil, hs, hx, hr]
  exact hK _ _ (hk A' c' w' h3 h4 (Below.of_own h h4 hbase))

/-- what Recover tells, in memory of its own. -/
def RetR (w : World) (x : Dk × List (List UInt8) × Int × Int) (e : Ending) (w' : World) : Prop :=
  ∃ A n c L ln lc, e = .returned (.tuple #[dkv A n c x.1.room x.1.fuse x.1.off, .slice L ln lc, .int .i64 x.2.2.1, .int .i64 x.2.2.2]) ∧ Dsk w' A n c x.1.fs ∧ Far w A ∧ OwnS w' w.heap.size L ln lc x.2.1 ∧ Q w w'

theorem scn_len (s : List UInt8) : (scn s).1.length * 4 ≤ s.length := by
  have h1 := flat_four (scn s).1
  have h2 := congrArg List.length (scd s).eq
  rw [List.length_append] at h2; omega
theorem redd_size {B : Nat} (nm : ByteArray) (l : List Fil) (h : ∀ f ∈ l, f.sf.size + f.wt.size ≤ B) : (redd nm l).1.size ≤ B := by
  rcases plc_cases nm l with ⟨_, h0⟩ | ⟨k, hk, _, hn, hf⟩
  · rw [redd_none h0]; exact Nat.zero_le _
  · rw [redd_at hk hn hf, ByteArray.size_append]; exact h _ (List.getElem_mem _)

theorem mx21 {d : Dk} (hB : Bnd 2097152 d) : ∀ f ∈ d.fs, f.sf.size + f.wt.size ≤ maxLen := fun f hf => Nat.le_trans (hB.sum f hf) (by unfold maxLen; omega)
theorem Wm.Bnd.more {B C : Nat} {d : Dk} (h : Bnd B d) (hBC : B ≤ C) : Bnd C d := ⟨fun f hf => Nat.le_trans (h.sum f hf) hBC, h.few, h.room, h.fuse⟩
theorem Sb.grown {w wr w2 : World} {A : Option Addr} {n c : Nat} {room fuse : Int} {off : Bool} {L : Option Addr} {m lc : Nat} {rs : List (List UInt8)} (h : Sb w A n c room fuse off wr) (hl : OwnS wr (w.heap.size + 2) L m lc rs)
    (hg : wr.grownBy w2 (Value.slice L m lc).ownBlock) (hb : Below (w.heap.size + 2) wr w2) : Sb w A n c room fuse off w2 :=
  ⟨Bx.grown h.box hg (row_ne hl (by omega)), Bx.grown h.res hg (row_ne hl (by omega)), h.q.below.trans (hb.mono (by omega))⟩
theorem rows_apart {w : World} {b1 b2 : Nat} {A L : Option Addr} {n c m lc : Nat} {l : List Fil} {rs : List (List UInt8)} (h : Own w b1 A n c l) (hl : OwnS w b2 L m lc rs) : (Value.slice L m lc).ownBlock = none ∨ (Value.slice A n c).ownBlock ≠ (Value.slice L m lc).ownBlock := by
  rcases hl.2 with ⟨e, _⟩ | ⟨g, cap, cur, e, hb, hh, _⟩
  · left; rw [e]; rfl
  · right
    rcases h.2 with ⟨e2, _⟩ | ⟨g2, cap2, cur2, e2, hb2, hh2, _⟩
    · rw [e, e2]; simp [Value.ownBlock]
    · rw [e, e2]
      intro he
      have hgg : g2 = g := by simpa [Value.ownBlock] using he
      subst hgg
      rw [hh] at hh2
      injection hh2 with hh2
      injection hh2 with _ ht _
      exact absurd ht (by decide)
theorem Own.grown {w w2 : World} {b1 b2 : Nat} {A L : Option Addr} {n c m lc : Nat} {l : List Fil} {rs : List (List UInt8)} (h : Own w b1 A n c l) (hl : OwnS w b2 L m lc rs) (hg : w.grownBy w2 (Value.slice L m lc).ownBlock) : Own w2 b1 A n c l := by
  rcases rows_apart h hl with h0 | h0
  · rw [h0] at hg
    refine World.ownsRow.kept h hg ?_
    rcases h.2 with ⟨e2, _⟩ | ⟨g2, cap2, cur2, e2, hb2, hh2, _⟩
    · left; rw [e2]; rfl
    · exact .inr (by rw [e2]; simp [Value.ownBlock])
  · exact World.ownsRow.kept h hg (.inr h0)
theorem Sd.grown {w wr w2 : World} {A : Option Addr} {n c : Nat} {room fuse : Int} {off : Bool} {F : List Fil} {L : Option Addr} {m lc : Nat} {rs : List (List UInt8)} (h : Sd w A n c room fuse off F wr) (hl : OwnS wr (w.heap.size + 2) L m lc rs)
    (hg : wr.grownBy w2 (Value.slice L m lc).ownBlock) (hb : Below (w.heap.size + 2) wr w2) : Sd w A n c room fuse off F w2 := ⟨h.sb.grown hl hg hb, h.own.grown hl hg⟩
theorem Sd.step {w wr w2 : World} {A : Option Addr} {n c : Nat} {room fuse : Int} {off : Bool} {F : List Fil} (h : Sd w A n c room fuse off F wr) (q : Q wr w2) : Sd w A n c room fuse off F w2 := ⟨h.sb.step q, h.own.q q⟩
theorem Sd.endR {w wr : World} {A : Option Addr} {n c : Nat} {d : Dk} {L : Option Addr} {m lc : Nat} {rs : List (List UInt8)} (h : Sd w A n c d.room d.fuse d.off d.fs wr) (hn : n * 48 ≤ 140737488355328) (hl : OwnS wr (w.heap.size + 2) L m lc rs) (seg er : Int) (x y z u : Value) :
    RetR w (d, rs, seg, er) (.returned (.tuple #[dkv A n c d.room d.fuse d.off, .slice L m lc, .int .i64 seg, .int .i64 er])) ((((wr.setCell ⟨w.heap.size + 1, 0, none⟩ x).setCell ⟨w.heap.size + 1, 1, none⟩ y).setCell ⟨w.heap.size + 1, 2, none⟩ z).setCell ⟨w.heap.size + 1, 3, none⟩ u) :=
  ⟨A, n, c, L, m, lc, rfl, (h.own.set4 (b := w.heap.size + 1) (by omega) _ _ _ _).dsk hn, fun ad e => by have h1 := h.own.far_ ad e; omega, (hl.set4 (b := w.heap.size + 1) (by omega) _ _ _ _).lower (by omega), h.sb.q.set4 (b := w.heap.size + 1) (by omega) _ _ _ _⟩
theorem Sv.endR {w wr : World} {A : Option Addr} {n c : Nat} {d : Dk} {L : Option Addr} {m lc : Nat} {rs : List (List UInt8)} (h : Sv w A n c d wr) (hf : Far w A) (hl : OwnS wr (w.heap.size + 2) L m lc rs) (seg er : Int) (x y z u : Value) :
    RetR w (d, rs, seg, er) (.returned (.tuple #[dkv A n c d.room d.fuse d.off, .slice L m lc, .int .i64 seg, .int .i64 er])) ((((wr.setCell ⟨w.heap.size + 1, 0, none⟩ x).setCell ⟨w.heap.size + 1, 1, none⟩ y).setCell ⟨w.heap.size + 1, 2, none⟩ z).setCell ⟨w.heap.size + 1, 3, none⟩ u) :=
  ⟨A, n, c, L, m, lc, rfl, (((h.dsk.away1 (fun hn ad e => (h.away hn ad e).2) 0 _).away1 (fun hn ad e => (h.away hn ad e).2) 1 _).away1 (fun hn ad e => (h.away hn ad e).2) 2 _).away1 (fun hn ad e => (h.away hn ad e).2) 3 _, hf, (hl.set4 (b := w.heap.size + 1) (by omega) _ _ _ _).lower (by omega), h.sb.q.set4 (b := w.heap.size + 1) (by omega) _ _ _ _⟩
theorem recF_end {n : Nat} {d : Dk} {f k last : Int} {rs : List (List UInt8)} (h : ¬ segOk k ∨ (redd (namB k) d.fs).2 ≠ 0) : recF n d f k rs last = (d, rs, last, 0) := by
  cases n with
  | zero => rfl
  | succ n =>
    unfold recF
    by_cases h0 : segOk k
    · rw [if_neg (by simpa using h0), if_pos (h.resolve_left (by simpa using h0))]
    · rw [if_pos h0]
theorem recF_more {d : Dk} {f k last : Int} {rs : List (List UInt8)} {s : ByteArray} (h0 : segOk k) (hr : redd (namB k) d.fs = (s, 0)) (hs : (scn s.data.toList).2 = []) : recF (fuelOf k) d f k rs last = recF (fuelOf (k + 1)) d f (k + 1) (rs ++ (scn s.data.toList).1) k := by
  have hf : fuelOf k = fuelOf (k + 1) + 1 := by have := h0.2; unfold fuelOf; omega
  rw [hf]
  conv => lhs; unfold recF
  rw [if_neg (by simpa using h0), hr]
  dsimp only
  rw [if_neg (by simp), if_pos hs]
theorem recF_cut {d : Dk} {f k last : Int} {rs : List (List UInt8)} {s : ByteArray} (h0 : segOk k) (hr : redd (namB k) d.fs = (s, 0)) (hs : (scn s.data.toList).2 ≠ []) {y : Dk × Int} (hy : cutM d k ⟨(flat (scn s.data.toList).1).toArray⟩ = y) :
    recF (fuelOf k) d f k rs last = if y.2 ≠ 0 then (y.1, [], f, y.2) else (y.1, rs ++ (scn s.data.toList).1, k, 0) := by
  have hf : fuelOf k = fuelOf (k + 1) + 1 := by have := h0.2; unfold fuelOf; omega
  rw [hf]
  conv => lhs; unfold recF
  rw [if_neg (by simpa using h0), hr]
  dsimp only
  rw [if_neg (by simp), if_neg hs, hy]
theorem Sv.putD {w wr w5 : World} {A A5 : Option Addr} {n c n5 c5 : Nat} {room fuse : Int} {off : Bool} {d5 : Dk} (h : Sb w A n c room fuse off wr) (q : Q wr w5) (hd : Dsk w5 A5 n5 c5 d5.fs) (hf : ∀ ad, A5 = some ad → wr.heap.size ≤ ad.block) :
    Sv w A5 n5 c5 d5 ((((w5.setCell ⟨w.heap.size, 0, none⟩ (.slice A5 n5 c5)).setCell ⟨w.heap.size, 1, none⟩ (.int .i64 d5.room)).setCell ⟨w.heap.size, 2, none⟩ (.int .i64 d5.fuse)).setCell ⟨w.heap.size, 3, none⟩ (.bool d5.off)) ∧ Far w A5 := by
  have hlt := h.res.lt
  have ha : ∀ ad, A5 = some ad → ad.block ≠ w.heap.size := fun ad e => by have := hf ad e; omega
  exact ⟨⟨(h.step q).put4 A5 n5 c5 d5.room d5.fuse d5.off, (((hd.away ha 0 _).away ha 1 _).away ha 2 _).away ha 3 _, fun _ ad e => by have := hf ad e; omega⟩, fun ad e => by have := hf ad e; omega⟩
theorem Sv.grown {w wr w2 : World} {A : Option Addr} {n c : Nat} {d : Dk} {L : Option Addr} {m lc : Nat} {rs : List (List UInt8)} (h : Sv w A n c d wr) (hl : OwnS wr (w.heap.size + 2) L m lc rs)
    (hg : wr.grownBy w2 (Value.slice L m lc).ownBlock) (hb : Below (w.heap.size + 2) wr w2) (hne : ∀ ad, A = some ad → some ad.block ≠ (Value.slice L m lc).ownBlock) : Sv w A n c d w2 :=
  ⟨h.sb.grown hl hg hb, ⟨Files.grown h.dsk.files hg hne, h.dsk.nil, h.dsk.le, h.dsk.cap, h.dsk.few⟩, h.away⟩
theorem OwnS.far_ne {w : World} {base : Nat} {A L : Option Addr} {m lc : Nat} {rs : List (List UInt8)} (h : OwnS w base L m lc rs) (hf : ∀ ad, A = some ad → w.heap.size ≤ ad.block) : ∀ ad, A = some ad → some ad.block ≠ (Value.slice L m lc).ownBlock := by
  intro ad e
  have h1 := hf ad e
  rcases h.2 with ⟨e2, _⟩ | ⟨g, cap, cur, e2, hb, hh, _⟩
  · rw [e2]; simp [Value.ownBlock]
  · rw [e2]
    have hlt : g < w.heap.size := by
      rcases Nat.lt_or_ge g w.heap.size with hlt | hge
      · exact hlt
      · rw [Array.getElem?_eq_none hge] at hh; cases hh
    simp only [Value.ownBlock, ne_eq, Option.some.injEq]; omega
theorem far_cells {w1 : World} {b : Nat} {x y z u a0 a1 a2 a3 : Value} (h : w1.cell? ⟨b, 0, none⟩ = some x ∧ w1.cell? ⟨b, 1, none⟩ = some y ∧ w1.cell? ⟨b, 2, none⟩ = some z ∧ w1.cell? ⟨b, 3, none⟩ = some u) :
    (fun w' : World => w'.cell? ⟨b, 0, none⟩ = some x ∧ w'.cell? ⟨b, 1, none⟩ = some y ∧ w'.cell? ⟨b, 2, none⟩ = some z ∧ w'.cell? ⟨b, 3, none⟩ = some u) ((((w1.setCell ⟨b + 1, 0, none⟩ a0).setCell ⟨b + 1, 1, none⟩ a1).setCell ⟨b + 1, 2, none⟩ a2).setCell ⟨b + 1, 3, none⟩ a3) := by
  have f : ∀ (W : World) (k j : Nat) (v t : Value), W.cell? ⟨b, k, none⟩ = some v → (W.setCell ⟨b + 1, j, none⟩ t).cell? ⟨b, k, none⟩ = some v := fun W k j v t h => (World.cell?_setCell_other _ _ _ _ (by intro x; injection x with x; omega)).trans h
  exact ⟨f _ _ _ _ _ (f _ _ _ _ _ (f _ _ _ _ _ (f _ _ _ _ _ h.1))), f _ _ _ _ _ (f _ _ _ _ _ (f _ _ _ _ _ (f _ _ _ _ _ h.2.1))), f _ _ _ _ _ (f _ _ _ _ _ (f _ _ _ _ _ (f _ _ _ _ _ h.2.2.1))), f _ _ _ _ _ (f _ _ _ _ _ (f _ _ _ _ _ (f _ _ _ _ _ h.2.2.2)))⟩
/-- at the head of a round. -/
def Rr (w : World) (d : Dk) (from_ : Int) (x : Dk × List (List UInt8) × Int × Int) (s8 s9 s10 : Value) (wr : World) : Prop :=
  ∃ (k last : Int) (rs : List (List UInt8)) (L : Option Addr) (lc : Nat) (A : Option Addr) (n c : Nat), s8 = .slice L rs.length lc ∧ s9 = .int .i64 last ∧ s10 = .int .i64 k ∧ 1 ≤ k ∧ k ≤ 1000001 ∧ Sd w A n c d.room d.fuse d.off d.fs wr ∧
    OwnS wr (w.heap.size + 2) L rs.length lc rs ∧ rs.length ≤ (k - 1).toNat * 524288 ∧ x = recF (fuelOf k) d from_ k rs last

set_option maxHeartbeats 8000000 in
theorem rec_good (from_ : Int) (A : Option Addr) (n c : Nat) (d : Dk) (w : World) (hT : Tab w) (hd : Dsk w A n c d.fs) (hB : Bnd 2097152 d) (h1 : segOk from_) :
    Calls Tryd.prog 13 #[dkv A n c d.room d.fuse d.off, .int .i64 from_] w fun e w' => RetR w (recM d from_) e w' := by
  have HT := Lib.hid hT
  have HD := Lib.hid hd
  have HB := Lib.hid hB
  have HM := Lib.hid (mx21 hB)
  have H1 := Lib.hid h1
  have KU := Lib.hid (numbered_yes from_ h1)
  have hx : recM d from_ = recF (fuelOf from_) d from_ from_ [] from_ := by unfold recM; rw [if_neg (by simpa using h1)]
  generalize recM d from_ = x at hx ⊢
  have HX := Lib.hid hx
  have r0 := h1.1
  have r1 := h1.2
  clear hT hd hB h1 hx
  go_enter Tryd.func13, Tryd.ntmps13
  go_wp2_with fail
  go_step3
  go_wp2_with fail
  refine (wown_any A n c d.room d.fuse d.off d.fs _ (HD.out.q (((Q.refl _).alloc _).alloc _))).mono ?_
  rintro e w1 ⟨A1, c1, rfl, ho, q1⟩
  have P := Lib.hid (Sd.new2 (room := d.room) (fuse := d.fuse) (off := d.off) (L := d.fs) (Sv.new w HD.out).sb q1 ho)
  obtain ⟨⟨e0, e1, e2, e3⟩, f0, f1, f2', f3⟩ := ((Sv.new w HD.out).sb.step q1).get
  clear ho q1
  go_upto_region 2 with (fail)
  generalize ((((w1.setCell ⟨w.heap.size, 0, none⟩ (.slice A1 n c1)).setCell ⟨w.heap.size, 1, none⟩ (.int .i64 d.room)).setCell ⟨w.heap.size, 2, none⟩ (.int .i64 d.fuse)).setCell ⟨w.heap.size, 3, none⟩ (.bool d.off)) = W at P ⊢
  clear e0 e1 e2 e3 f0 f1 f2' f3
  go_wp2_with fail
  refine (KU.out _).mono ?_
  rintro e w2 ⟨rfl, q2⟩
  have V := Lib.hid (P.out.step q2)
  clear P q2
  go_wp2
  go_step3
  go_wp2
  go_loopw [8, 9, 10] (Rr w d from_ x) (fun _ _ s10 _ => (1000002 - intOf s10).toNat)
  case atStart => exact ⟨from_, from_, [], none, 0, A1, n, c1, rfl, rfl, rfl, by omega, by omega, V.out, ownS_nil _ _, by simp, HX.out⟩
  case round =>
    obtain ⟨k, last, rs, L, lc, A2, n2, c2, rfl, rfl, rfl, hk1, hk2, hv, hol, hrl, hxx⟩ := hrel
    have V := Lib.hid hv
    have OL := Lib.hid hol
    have HXX := Lib.hid hxx
    have HRL := Lib.hid hrl
    have hn2 : n2 * 48 ≤ 140737488355328 := by have h1 := hv.own.len; have h2 := HD.out.len; have h3 := HD.out.few; omega
    clear hv hol hxx hrl
    generalize wr = W at V OL ⊢
    by_cases g1 : segOk k
    case neg =>
      have G1 := Lib.hid g1
      have KUK := Lib.hid (numbered_no k g1)
      clear g1
      go_wp2_with fail
      refine (KUK.out _).mono ?_
      rintro e w3 ⟨rfl, q3⟩
      have U := Lib.hid (V.out.step q3)
      have UL := Lib.hid (OL.out.q q3)
      clear V OL q3
      obtain ⟨⟨e0, e1, e2, e3⟩, f0, f1, f2', f3⟩ := U.out.sb.get
      obtain ⟨⟨s0, s1, s2, s3⟩, h0, h1, h2, h3⟩ := U.out.sb.getR
      go_wp2
      (try rw [Exit.noGoto_ret])
      refine bodyPost_ret (v := .tuple #[dkv A2 n2 c2 d.room d.fuse d.off, .slice L rs.length lc, .int .i64 last, .int .i64 0]) (by simp [results, Tryd.results13, go_sem, s0, s1, s2, s3]) rfl ?_
      have ex := HXX.out
      rw [recF_end ((.inl G1.out))] at ex
      rw [ex]
      exact U.out.endR hn2 UL.out last 0 _ _ _ _
    have G1 := Lib.hid g1
    have KUK := Lib.hid (numbered_yes k g1)
    have KN := Lib.hid (name_any k)
    have KR := Lib.hid (fun w hf => read_any (namB k) A2 n2 c2 d.room d.fuse d.off d.fs w hf (V.out.own.dsk hn2).max HM.out)
    have hsz := redd_size (namB k) d.fs HB.out.sum
    have hcs : (redd (namB k) d.fs).2 = 0 ∨ (redd (namB k) d.fs).2 = 7 := by unfold redd; split <;> simp
    have HXR : Hid (redd (namB k) d.fs = redd (namB k) d.fs) := Lib.hid rfl
    obtain ⟨r, hr⟩ : ∃ r, r = redd (namB k) d.fs := ⟨_, rfl⟩
    rw [← hr] at KR hsz hcs
    have HR := Lib.hid hr
    clear hr HXR g1
    obtain ⟨s, se⟩ := r
    have hsz' : s.size ≤ 2097152 := hsz
    clear hsz
    go_wp2_with fail
    refine (KUK.out _).mono ?_
    rintro e w3 ⟨rfl, q3⟩
    have U := Lib.hid (V.out.step q3)
    have UL := Lib.hid (OL.out.q q3)
    clear V OL q3
    go_upto_region 9 with (fail)
    generalize w3 = W at U UL ⊢
    obtain ⟨⟨e0, e1, e2, e3⟩, f0, f1, f2', f3⟩ := U.out.sb.get
    go_region_held3 (fun w' => w'.cell? ⟨w.heap.size, 0, none⟩ = some (.slice A2 n2 c2) ∧ w'.cell? ⟨w.heap.size, 1, none⟩ = some (.int .i64 d.room) ∧ w'.cell? ⟨w.heap.size, 2, none⟩ = some (.int .i64 d.fuse) ∧ w'.cell? ⟨w.heap.size, 3, none⟩ = some (.bool d.off))
      (first
        | go_keep
        | (go_split_ands
           (repeat' apply And.intro) <;> exact box_ ‹Q _ _› (by assumption)))
      (first
        | (go_at_call 20
           (with_reducible refine (KN.out _ (HT.out.q (U.out.sb.q.trans (Q.refl W).drew))).mono ?_)
           rintro e w4 ⟨rfl, q4⟩)
        | (go_at_call 19
           (with_reducible refine (KR.out _ (U.out.own.files.q ((Q.refl W).drew.trans q4))).mono ?_)
           rintro e w5 ⟨rfl, q5⟩))
    have V := Lib.hid (U.out.step (((Q.refl W).drew.trans q4).trans q5))
    have OL := Lib.hid (UL.out.q (((Q.refl W).drew.trans q4).trans q5))
    clear U UL q4 q5 e0 e1 e2 e3 f0 f1 f2' f3
    have hsl := scn_len s.data.toList
    rw [size_list] at hsl
    have KSC := Lib.hid (fun w => scan_any s w (by unfold maxLen; omega) (by omega))
    have hus := used_le s.data.toList
    rw [size_list] at hus
    have hrest : (scn s.data.toList).2 = [] ↔ (used s.data.toList : Int) = (s.size : Int) := by
      have h1 := congrArg List.length (scd s.data.toList).eq
      rw [List.length_append, size_list, ← used_flat] at h1
      rw [← List.length_eq_zero_iff]; omega
    have htk := take_used s.data.toList
    have HRS := Lib.hid hrest
    have HTK := Lib.hid htk
    obtain ⟨ms, hms⟩ : ∃ ms, ms = (scn s.data.toList).1 := ⟨_, rfl⟩
    obtain ⟨us, hus2⟩ : ∃ us, us = used s.data.toList := ⟨_, rfl⟩
    rw [← hms, ← hus2] at KSC
    rw [← hms] at hsl
    rw [← hus2] at hus
    have HMS := Lib.hid (And.intro hms hus2)
    clear hrest htk hms hus2
    go_wp2_with fail
    refine (KSC.out _).mono ?_
    rintro e w6 ⟨M, mn, mc, rfl, hm, q6⟩
    have hmn : ms.length = mn := hm.len
    subst hmn
    have U := Lib.hid (V.out.step q6)
    have UL := Lib.hid (OL.out.q q6)
    have hmb : w.heap.size + 2 ≤ w5.heap.size := by have := V.out.sb.res.lt; omega
    have OM := Lib.hid (hm.lower hmb)
    clear hmb
    have hMn := Lib.hid hm.nil
    clear V OL q6 hm
    have HSL := Lib.hid hsl
    rcases hcs with he | he
    case inr =>
      have he' : se = 7 := he
      clear he
      subst he'
      have hrr : (redd (namB k) d.fs).2 ≠ 0 := by rw [← HR.out]; simp
      have HRR := Lib.hid hrr
      clear hrr
      obtain ⟨⟨e0, e1, e2, e3⟩, f0, f1, f2', f3⟩ := U.out.sb.get
      obtain ⟨⟨s0, s1, s2, s3⟩, h0, h1, h2, h3⟩ := U.out.sb.getR
      go_wp2
      (try rw [Exit.noGoto_ret])
      refine bodyPost_ret (v := .tuple #[dkv A2 n2 c2 d.room d.fuse d.off, .slice L rs.length lc, .int .i64 last, .int .i64 0]) (by simp [results, Tryd.results13, go_sem, s0, s1, s2, s3]) rfl ?_
      have ex := HXX.out
      rw [recF_end ((.inr HRR.out))] at ex
      rw [ex]
      exact U.out.endR hn2 UL.out last 0 _ _ _ _
    have he' : se = 0 := he
    clear he
    subst he'
    by_cases gn : (us : Int) = (s.size : Int)
    · have hz : (scn s.data.toList).2 = [] := HRS.out.2 (by rw [← HMS.out.2]; exact gn)
      have HX2 := Lib.hid (HXX.out.trans (recF_more G1.out HR.out.symm hz))
      have hk3 : k ≤ 1000000 := G1.out.2
      have hb16 : (rs.length + ms.length) * 16 ≤ 140737488355328 := by have h1 := HRL.out; have h2 := HSL.out; omega
      have hbw : w.heap.size + 2 ≤ w6.heap.size := by have := U.out.sb.res.lt; omega
      clear hz
      go_wp2_with (at_builtin
                   refine wpl_appSS rfl (.tmp 48) (.tmp 49) rfl (w.heap.size + 2) L rs.length lc rs rfl UL.out M ms.length mc ms rfl OM.out.strs hMn.out hb16 hbw ?_
                   intro L2 lc2 w7 ho7 hg7 hb7)
      have V := Lib.hid (U.out.grown UL.out hg7 hb7)
      clear U UL
      refine ⟨⟨k + 1, k, rs ++ ms, L2, lc2, A2, n2, c2, by rw [List.length_append], rfl, rfl, by omega, by omega, V.out, by rw [List.length_append]; exact ho7, ?_, ?_⟩, by simp [intOf]; omega⟩
      · rw [List.length_append]; have h1 := HRL.out; have h2 := HSL.out; omega
      · rw [HMS.out.1]; exact HX2.out
    · have hz : (scn s.data.toList).2 ≠ [] := fun h => gn (by rw [HMS.out.2]; exact HRS.out.1 h)
      have hex : s.extract 0 us = ⟨(flat (scn s.data.toList).1).toArray⟩ := by
        rw [extract_list, HMS.out.2, HTK.out]; simp
      have hes : (s.extract 0 us).size ≤ 2305843009213693952 := by rw [ByteArray.size_extract]; omega
      have KC := Lib.hid (fun w hT hd => cut_any k (s.extract 0 us) A2 n2 c2 d w hT hd (HB.out.more (by omega)) hes G1.out)
      obtain ⟨y, hy⟩ : ∃ y, y = cutM d k (s.extract 0 us) := ⟨_, rfl⟩
      have HX2 := Lib.hid (HXX.out.trans (recF_cut G1.out HR.out.symm hz (y := y) (by rw [hy, hex])))
      rw [← hy] at KC
      have hbw : w.heap.size + 2 ≤ w6.heap.size := by have := U.out.sb.res.lt; omega
      have hb16 : (rs.length + ms.length) * 16 ≤ 140737488355328 := by have h1 := HRL.out; have h2 := HSL.out; have h3 : k ≤ 1000000 := G1.out.2; omega
      have HB2 := Lib.hid hb16
      clear hz hex hes hy hb16
      go_upto_region 14 with (fail)
      generalize w6 = W at U UL OM hbw ⊢
      have SU := Lib.hid U.out.sb
      have DU := Lib.hid (U.out.own.dsk hn2)
      obtain ⟨⟨e0, e1, e2, e3⟩, f0, f1, f2', f3⟩ := U.out.sb.get
      have QW := Lib.hid (Q.refl W)
      refine wp_region_heldL 9 (Q W) (by kernel_rfl) ?szz0 (fun hHeld => ?rzz0)
      case szz0 =>
        exact (Q.refl W).drew
      case' rzz0 => skip
      refine wpAnyL_take (i := 0) (oi := ?ozz1) (v := ?vzz1) ?hzz1 ?azz1 ?bzz1 ?czz1 ?kzz1 ?qzz1 ?yzz1 ?szz1 ?rzz1
      case hzz1 => simp only [List.getElem?_toArray, List.getElem?_cons_zero]; rfl
      case azz1 => kernel_rfl
      case bzz1 => kernel_rfl
      case czz1 => kernel_rfl
      case kzz1 => kernel_rfl
      case yzz1 =>
        refine Or.inl ⟨by rfl, ?_⟩
        intro w hSw
        have x0 := box_ hSw e0; have x1 := box_ hSw e1; have x2 := box_ hSw e2; have x3 := box_ hSw e3; clear hSw
        go_simp
        try with_reducible rfl
      case qzz1 => exact fun _ _ _ h => h
      case szz1 => first | assumption | trivial
      case' rzz1 => simp only [Act.put, List.setIfInBounds_toArray, List.set_cons_zero, List.set_cons_succ]
      refine wpAnyL_take (i := 1) (oi := ?ozz2) (v := ?vzz2) ?hzz2 ?azz2 ?bzz2 ?czz2 ?kzz2 ?qzz2 ?yzz2 ?szz2 ?rzz2
      case hzz2 => simp only [List.getElem?_toArray, List.getElem?_cons_zero, List.getElem?_cons_succ]; rfl
      case azz2 => kernel_rfl
      case bzz2 => kernel_rfl
      case czz2 => kernel_rfl
      case kzz2 => kernel_rfl
      case yzz2 =>
        refine Or.inl ⟨by rfl, ?_⟩
        intro w hSw
        skip
        go_simp
        try with_reducible rfl
      case qzz2 => exact fun _ _ _ h => h
      case szz2 => first | assumption | trivial
      case' rzz2 => simp only [Act.put, List.setIfInBounds_toArray, List.set_cons_zero, List.set_cons_succ]
      refine wpAnyL_take (i := 2) (oi := ?ozz3) (v := ?vzz3) ?hzz3 ?azz3 ?bzz3 ?czz3 ?kzz3 ?qzz3 ?yzz3 ?szz3 ?rzz3
      case hzz3 => simp only [List.getElem?_toArray, List.getElem?_cons_zero, List.getElem?_cons_succ]; rfl
      case azz3 => kernel_rfl
      case bzz3 => kernel_rfl
      case czz3 => kernel_rfl
      case kzz3 => kernel_rfl
      case yzz3 =>
        refine Or.inl ⟨by rfl, ?_⟩
        intro w hSw
        skip
        go_simp
        try with_reducible rfl
      case qzz3 => exact fun _ _ _ h => h
      case szz3 => first | assumption | trivial
      case' rzz3 => simp only [Act.put, List.setIfInBounds_toArray, List.set_cons_zero, List.set_cons_succ]
      refine wpAnyL_take (i := 3) (oi := ?ozz4) (v := ?vzz4) ?hzz4 ?azz4 ?bzz4 ?czz4 ?kzz4 ?qzz4 ?yzz4 ?szz4 ?rzz4
      case hzz4 => simp only [List.getElem?_toArray, List.getElem?_cons_zero, List.getElem?_cons_succ]; rfl
      case azz4 => kernel_rfl
      case bzz4 => kernel_rfl
      case czz4 => kernel_rfl
      case kzz4 => kernel_rfl
      case yzz4 =>
        refine Or.inl ⟨by rfl, ?_⟩
        intro w hSw
        skip
        go_simp
        try with_reducible rfl
      case qzz4 => exact fun _ _ _ h => h
      case szz4 => first | assumption | trivial
      case' rzz4 => simp only [Act.put, List.setIfInBounds_toArray, List.set_cons_zero, List.set_cons_succ]
      refine wpAnyL_take (i := 4) (oi := ?ozz5) (v := ?vzz5) ?hzz5 ?azz5 ?bzz5 ?czz5 ?kzz5 ?qzz5 ?yzz5 ?szz5 ?rzz5
      case hzz5 => simp only [List.getElem?_toArray, List.getElem?_cons_zero, List.getElem?_cons_succ]; rfl
      case azz5 => kernel_rfl
      case bzz5 => kernel_rfl
      case czz5 => kernel_rfl
      case kzz5 => kernel_rfl
      case yzz5 =>
        refine Or.inl ⟨by rfl, ?_⟩
        intro w hSw
        skip
        go_simp
        try with_reducible rfl
      case qzz5 => exact fun _ _ _ h => h
      case szz5 => first | assumption | trivial
      case' rzz5 => simp only [Act.put, List.setIfInBounds_toArray, List.set_cons_zero, List.set_cons_succ]
      refine wpAnyL_ready (rs := [5]) (by kernel_rfl) (by simp) ?_
      refine AllReadyL.cons (o := ?ozz34) ?hzz34 (fun K hK => ?kzz34) ?mzz34
      case hzz34 => simp only [List.getElem?_toArray, List.getElem?_cons_zero, List.getElem?_cons_succ]; rfl
      case kzz34 =>
        go_simp
        refine (KC.out _ (HT.out.q (SU.out.q.trans hHeld)) (DU.out.q hHeld)).mono ?_
        rintro e w5 ⟨A5, n5, c5, rfl, ho, hf5, q5⟩
        obtain ⟨⟨x0, x1, x2, x3⟩, y0, y1, y2, y3⟩ := ((SU.out.step hHeld).step q5).get
        have Z5 := Lib.hid (And.intro ho (And.intro hHeld (And.intro q5 hf5)))
        go_wp2_with fail
        refine hK.out _ _ ?Szz34 (fun hHeld => ?Rzz34)
        case Szz34 =>
          exact hHeld.trans q5
        case Rzz34 =>
          clear hK K
          try simp only [Act.put, List.setIfInBounds_toArray, List.set_cons_zero, List.set_cons_succ]
          refine wpAnyL_take (i := 6) (oi := ?ozz6) (v := ?vzz6) ?hzz6 ?azz6 ?bzz6 ?czz6 ?kzz6 ?qzz6 ?yzz6 ?szz6 ?rzz6
          case hzz6 => simp only [List.getElem?_toArray, List.getElem?_cons_zero, List.getElem?_cons_succ]; rfl
          case azz6 => kernel_rfl
          case bzz6 => kernel_rfl
          case czz6 => kernel_rfl
          case kzz6 => kernel_rfl
          case yzz6 =>
            refine Or.inl ⟨by rfl, ?_⟩
            intro w hSw
            skip
            go_simp
            try with_reducible rfl
          case qzz6 => exact fun _ _ _ h => h
          case szz6 => first | assumption | trivial
          case' rzz6 => simp only [Act.put, List.setIfInBounds_toArray, List.set_cons_zero, List.set_cons_succ]
          refine wpAnyL_take (i := 7) (oi := ?ozz7) (v := ?vzz7) ?hzz7 ?azz7 ?bzz7 ?czz7 ?kzz7 ?qzz7 ?yzz7 ?szz7 ?rzz7
          case hzz7 => simp only [List.getElem?_toArray, List.getElem?_cons_zero, List.getElem?_cons_succ]; rfl
          case azz7 => kernel_rfl
          case bzz7 => kernel_rfl
          case czz7 => kernel_rfl
          case kzz7 => kernel_rfl
          case yzz7 =>
            refine Or.inl ⟨by rfl, ?_⟩
            intro w hSw
            skip
            go_simp
            try with_reducible rfl
          case qzz7 => exact fun _ _ _ h => h
          case szz7 => first | assumption | trivial
          case' rzz7 => simp only [Act.put, List.setIfInBounds_toArray, List.set_cons_zero, List.set_cons_succ]
          refine wpAnyL_ready (rs := [8, 9]) (by kernel_rfl) (by simp) ?_
          refine AllReadyL.cons (o := ?ozz32) ?hzz32 (fun K hK => ?kzz32) ?mzz32
          case hzz32 => simp only [List.getElem?_toArray, List.getElem?_cons_zero, List.getElem?_cons_succ]; rfl
          case kzz32 =>
            go_simp
            refine hK.out _ _ ?Szz32 (fun hHeld => ?Rzz32)
            case Szz32 =>
              exact hHeld
            case Rzz32 =>
              clear hK K
              try simp only [Act.put, List.setIfInBounds_toArray, List.set_cons_zero, List.set_cons_succ]
              refine wpAnyL_ready (rs := [9]) (by kernel_rfl) (by simp) ?_
              refine AllReadyL.consK (o := ?ozz19) ?hzz19 ?lzz19 (fun K hK => ?kzz19) ?mzz19
              case hzz19 => simp only [List.getElem?_toArray, List.getElem?_cons_zero, List.getElem?_cons_succ]; rfl
              case lzz19 => kernel_rfl
              case kzz19 =>
                go_simp
                refine hK.out _ _ ?Rzz19
                case Rzz19 =>
                  clear hK K
                  try simp only [Act.put, List.setIfInBounds_toArray, List.set_cons_zero, List.set_cons_succ]
                  refine wpAnyH_take (i := 10) (oi := ?ozz8) (v := ?vzz8) ?hzz8 ?azz8 ?bzz8 ?czz8 ?qzz8 ?yzz8 ?szz8 ?rzz8
                  case hzz8 => simp only [List.getElem?_toArray, List.getElem?_cons_zero, List.getElem?_cons_succ]; rfl
                  case azz8 => kernel_rfl
                  case bzz8 => kernel_rfl
                  case czz8 => kernel_rfl
                  case yzz8 =>
                    refine Or.inl ⟨by rfl, ?_⟩
                    intro w hSw
                    skip
                    go_simp
                    try with_reducible rfl
                  case qzz8 => exact fun _ _ _ h => h
                  case szz8 => first | assumption | trivial
                  case' rzz8 => simp only [Act.put, List.setIfInBounds_toArray, List.set_cons_zero, List.set_cons_succ]
                  refine wpAnyH_done (by kernel_rfl) ?_ _
                  have P := Lib.hid (Sv.putD (SU.out.step Z5.out.2.1) Z5.out.2.2.1 Z5.out.1 Z5.out.2.2.2)
                  have HNE := Lib.hid ((UL.out.q Z5.out.2.1).far_ne Z5.out.2.2.2)
                  have hb2 : w.heap.size < w.heap.size + 2 := by omega
                  have UL2 := Lib.hid (((UL.out.q Z5.out.2.1).q Z5.out.2.2.1).set4 (b := w.heap.size) hb2 (.slice A5 n5 c5) (.int .i64 y.1.room) (.int .i64 y.1.fuse) (.bool y.1.off))
                  have OM2 := Lib.hid (((OM.out.q Z5.out.2.1).q Z5.out.2.2.1).set4 (b := w.heap.size) hb2 (.slice A5 n5 c5) (.int .i64 y.1.room) (.int .i64 y.1.fuse) (.bool y.1.off))
                  have hbw2 : w.heap.size + 2 ≤ w5.heap.size := Nat.le_trans hbw (Nat.le_trans Z5.out.2.1.size Z5.out.2.2.1.size)
                  have hbw3 : w.heap.size + 2 ≤ ((((w5.setCell ⟨w.heap.size, 0, none⟩ (.slice A5 n5 c5)).setCell ⟨w.heap.size, 1, none⟩ (.int .i64 y.1.room)).setCell ⟨w.heap.size, 2, none⟩ (.int .i64 y.1.fuse)).setCell ⟨w.heap.size, 3, none⟩ (.bool y.1.off)).heap.size := by simpa [World.setCell] using hbw2
                  clear e0 e1 e2 e3 f0 f1 f2' f3 x0 x1 x2 x3 y0 y1 y2 y3 U UL OM SU DU Z5 hHeld QW hbw hbw2 hb2
                  generalize ((((w5.setCell ⟨w.heap.size, 0, none⟩ (.slice A5 n5 c5)).setCell ⟨w.heap.size, 1, none⟩ (.int .i64 y.1.room)).setCell ⟨w.heap.size, 2, none⟩ (.int .i64 y.1.fuse)).setCell ⟨w.heap.size, 3, none⟩ (.bool y.1.off)) = W at P UL2 OM2 hbw3 ⊢
                  obtain ⟨⟨e0, e1, e2, e3⟩, f0, f1, f2', f3⟩ := P.out.1.sb.get
                  by_cases gy : y.2 = 0
                  · have GY := Lib.hid gy
                    have OL := UL2
                    have OM := OM2
                    have hW2 : w.heap.size + 2 ≤ W.drew.heap.size := hbw3
                    have RB := Lib.hid P.out.1.sb.res
                    go_upto_region 17 with (fail)
                    refine wp_region_held_drew (S := fun w' => w'.cell? ⟨w.heap.size, 0, none⟩ = some (.slice A5 n5 c5) ∧ w'.cell? ⟨w.heap.size, 1, none⟩ = some (.int .i64 y.1.room) ∧ w'.cell? ⟨w.heap.size, 2, none⟩ = some (.int .i64 y.1.fuse) ∧ w'.cell? ⟨w.heap.size, 3, none⟩ = some (.bool y.1.off)) (by kernel_rfl) ?szz9 (fun hHeld => ?rzz9)
                    case szz9 =>
                      exact ⟨e0, e1, e2, e3⟩
                    case' rzz9 => skip
                    refine wpAnyH_take (i := 0) (oi := ?ozz10) (v := ?vzz10) ?hzz10 ?azz10 ?bzz10 ?czz10 ?qzz10 ?yzz10 ?szz10 ?rzz10
                    case hzz10 => simp only [List.getElem?_toArray, List.getElem?_cons_zero]; rfl
                    case azz10 => kernel_rfl
                    case bzz10 => kernel_rfl
                    case czz10 => kernel_rfl
                    case yzz10 =>
                      refine Or.inl ⟨by rfl, ?_⟩
                      intro w hSw
                      obtain ⟨x0, x1, x2, x3⟩ := hSw
                      go_simp
                      try with_reducible rfl
                    case qzz10 => exact fun _ _ _ h => h
                    case szz10 => first | assumption | trivial
                    case' rzz10 => simp only [Act.put, List.setIfInBounds_toArray, List.set_cons_zero, List.set_cons_succ]
                    refine wpAnyH_take (i := 1) (oi := ?ozz11) (v := ?vzz11) ?hzz11 ?azz11 ?bzz11 ?czz11 ?qzz11 ?yzz11 ?szz11 ?rzz11
                    case hzz11 => simp only [List.getElem?_toArray, List.getElem?_cons_zero, List.getElem?_cons_succ]; rfl
                    case azz11 => kernel_rfl
                    case bzz11 => kernel_rfl
                    case czz11 => kernel_rfl
                    case yzz11 =>
                      refine Or.inl ⟨by rfl, ?_⟩
                      intro w hSw
                      skip
                      go_simp
                      try with_reducible rfl
                    case qzz11 => exact fun _ _ _ h => h
                    case szz11 => first | assumption | trivial
                    case' rzz11 => simp only [Act.put, List.setIfInBounds_toArray, List.set_cons_zero, List.set_cons_succ]
                    refine wpAnyH_take (i := 2) (oi := ?ozz12) (v := ?vzz12) ?hzz12 ?azz12 ?bzz12 ?czz12 ?qzz12 ?yzz12 ?szz12 ?rzz12
                    case hzz12 => simp only [List.getElem?_toArray, List.getElem?_cons_zero, List.getElem?_cons_succ]; rfl
                    case azz12 => kernel_rfl
                    case bzz12 => kernel_rfl
                    case czz12 => kernel_rfl
                    case yzz12 =>
                      refine Or.inl ⟨by rfl, ?_⟩
                      intro w hSw
                      skip
                      go_simp
                      try with_reducible rfl
                    case qzz12 => exact fun _ _ _ h => h
                    case szz12 => first | assumption | trivial
                    case' rzz12 => simp only [Act.put, List.setIfInBounds_toArray, List.set_cons_zero, List.set_cons_succ]
                    refine wpAnyH_take (i := 4) (oi := ?ozz13) (v := ?vzz13) ?hzz13 ?azz13 ?bzz13 ?czz13 ?qzz13 ?yzz13 ?szz13 ?rzz13
                    case hzz13 => simp only [List.getElem?_toArray, List.getElem?_cons_zero, List.getElem?_cons_succ]; rfl
                    case azz13 => kernel_rfl
                    case bzz13 => kernel_rfl
                    case czz13 => kernel_rfl
                    case yzz13 =>
                      refine Or.inl ⟨by rfl, ?_⟩
                      intro w hSw
                      skip
                      go_simp
                      try with_reducible rfl
                    case qzz13 => exact fun _ _ _ h => h
                    case szz13 => first | assumption | trivial
                    case' rzz13 => simp only [Act.put, List.setIfInBounds_toArray, List.set_cons_zero, List.set_cons_succ]
                    refine wpAnyH_ready (rs := [3]) (by kernel_rfl) (by simp) ?_
                    refine AllReadyH.cons (o := ?ozz18) ?hzz18 (fun K hK => ?kzz18) ?mzz18
                    case hzz18 => simp only [List.getElem?_toArray, List.getElem?_cons_zero, List.getElem?_cons_succ]; rfl
                    case kzz18 =>
                      have hne := row_ne OL.out (b := w.heap.size) (by omega)
                      have hne1 := row_ne OL.out (b := w.heap.size + 1) (by omega)
                      refine step_appS (by rfl) _ _ (by rfl) (w.heap.size + 2) L rs.length lc rs (by rfl) (show OwnS W.drew _ _ _ _ _ from OL.out) M ms.length mc ms (by rfl) (show Strs W.drew _ _ _ from OM.out.strs) hMn.out HB2.out hW2 ?_
                      intro L2 lc2 w2 ho2 hg2 hb2
                      refine hK.out _ _ ?Szz18 (fun hHeld => ?Rzz18)
                      case Szz18 =>
                        exact ⟨box_g hg2 hne hHeld.1, box_g hg2 hne hHeld.2.1, box_g hg2 hne hHeld.2.2.1, box_g hg2 hne hHeld.2.2.2⟩
                      case Rzz18 =>
                        clear hK K
                        try simp only [Act.put, List.setIfInBounds_toArray, List.set_cons_zero, List.set_cons_succ]
                        have RB2 := Lib.hid (Bx.grown (show Bx W.drew _ _ from RB.out) hg2 hne1)
                        obtain ⟨⟨s0, s1, s2, s3⟩, h0, h1, h2, h3⟩ := RB2.out.get4
                        refine wpAnyH_ready (rs := [5]) (by kernel_rfl) (by simp) ?_
                        refine AllReadyH.cons (o := ?ozz17) ?hzz17 (fun K hK => ?kzz17) ?mzz17
                        case hzz17 => simp only [List.getElem?_toArray, List.getElem?_cons_zero, List.getElem?_cons_succ]; rfl
                        case kzz17 =>
                          go_simp
                          refine hK.out _ _ ?Szz17 (fun hHeld => ?Rzz17)
                          case Szz17 =>
                            exact far_cells hHeld
                          case Rzz17 =>
                            clear hK K
                            try simp only [Act.put, List.setIfInBounds_toArray, List.set_cons_zero, List.set_cons_succ]
                            refine wpAnyH_take (i := 6) (oi := ?ozz14) (v := ?vzz14) ?hzz14 ?azz14 ?bzz14 ?czz14 ?qzz14 ?yzz14 ?szz14 ?rzz14
                            case hzz14 => simp only [List.getElem?_toArray, List.getElem?_cons_zero, List.getElem?_cons_succ]; rfl
                            case azz14 => kernel_rfl
                            case bzz14 => kernel_rfl
                            case czz14 => kernel_rfl
                            case yzz14 =>
                              refine Or.inl ⟨by rfl, ?_⟩
                              intro w hSw
                              skip
                              go_simp
                              try with_reducible rfl
                            case qzz14 => exact fun _ _ _ h => h
                            case szz14 => first | assumption | trivial
                            case' rzz14 => simp only [Act.put, List.setIfInBounds_toArray, List.set_cons_zero, List.set_cons_succ]
                            refine wpAnyH_take (i := 7) (oi := ?ozz15) (v := ?vzz15) ?hzz15 ?azz15 ?bzz15 ?czz15 ?qzz15 ?yzz15 ?szz15 ?rzz15
                            case hzz15 => simp only [List.getElem?_toArray, List.getElem?_cons_zero, List.getElem?_cons_succ]; rfl
                            case azz15 => kernel_rfl
                            case bzz15 => kernel_rfl
                            case czz15 => kernel_rfl
                            case yzz15 =>
                              refine Or.inl ⟨by rfl, ?_⟩
                              intro w hSw
                              skip
                              go_simp
                              try with_reducible rfl
                            case qzz15 => exact fun _ _ _ h => h
                            case szz15 => first | assumption | trivial
                            case' rzz15 => simp only [Act.put, List.setIfInBounds_toArray, List.set_cons_zero, List.set_cons_succ]
                            refine wpAnyH_take (i := 8) (oi := ?ozz16) (v := ?vzz16) ?hzz16 ?azz16 ?bzz16 ?czz16 ?qzz16 ?yzz16 ?szz16 ?rzz16
                            case hzz16 => simp only [List.getElem?_toArray, List.getElem?_cons_zero, List.getElem?_cons_succ]; rfl
                            case azz16 => kernel_rfl
                            case bzz16 => kernel_rfl
                            case czz16 => kernel_rfl
                            case yzz16 =>
                              refine Or.inl ⟨by rfl, ?_⟩
                              intro w hSw
                              skip
                              go_simp
                              try with_reducible rfl
                            case qzz16 => exact fun _ _ _ h => h
                            case szz16 => first | assumption | trivial
                            case' rzz16 => simp only [Act.put, List.setIfInBounds_toArray, List.set_cons_zero, List.set_cons_succ]
                            refine wpAnyH_done (by kernel_rfl) ?_ _
                            go_wp2
                            (try rw [Exit.noGoto_ret])
                            refine bodyPost_ret (v := .tuple #[dkv A5 n5 c5 y.1.room y.1.fuse y.1.off, .slice L2 (rs.length + ms.length) lc2, .int .i64 k, .int .i64 0]) (by simp [results, Tryd.results13, go_sem, s0, s1, s2, s3]) rfl ?_
                            rw [HX2.out, if_neg (by rw [GY.out]; simp), ← HMS.out.1]
                            exact (Sv.grown (P.out.1.step (Q.refl W).drew) OL.out hg2 hb2 HNE.out).endR P.out.2 ho2 k 0 _ _ _ _
                        case' mzz17 => skip
                        exact AllReadyH.nil
                    case' mzz18 => skip
                    exact AllReadyH.nil
                  · have GY := Lib.hid gy
                    obtain ⟨⟨s0, s1, s2, s3⟩, h0, h1, h2, h3⟩ := P.out.1.sb.getR
                    go_wp2
                    (try rw [Exit.noGoto_ret])
                    refine bodyPost_ret (v := .tuple #[dkv A5 n5 c5 y.1.room y.1.fuse y.1.off, .slice none 0 0, .int .i64 from_, .int .i64 y.2]) (by simp [results, Tryd.results13, go_sem, s0, s1, s2, s3]) rfl ?_
                    rw [HX2.out, if_pos GY.out]
                    exact P.out.1.endR P.out.2 (ownS_nil _ _) from_ y.2 _ _ _ _
              case' mzz19 => skip
              exact AllReadyL.nil
          case' mzz32 => skip
          refine AllReadyL.consK (o := ?ozz33) ?hzz33 ?lzz33 (fun K hK => ?kzz33) ?mzz33
          case hzz33 => simp only [List.getElem?_toArray, List.getElem?_cons_zero, List.getElem?_cons_succ]; rfl
          case lzz33 => kernel_rfl
          case kzz33 =>
            go_simp
            refine hK.out _ _ ?Rzz33
            case Rzz33 =>
              clear hK K
              try simp only [Act.put, List.setIfInBounds_toArray, List.set_cons_zero, List.set_cons_succ]
              refine wpAnyH_take (i := 8) (oi := ?ozz20) (v := ?vzz20) ?hzz20 ?azz20 ?bzz20 ?czz20 ?qzz20 ?yzz20 ?szz20 ?rzz20
              case hzz20 => simp only [List.getElem?_toArray, List.getElem?_cons_zero, List.getElem?_cons_succ]; rfl
              case azz20 => kernel_rfl
              case bzz20 => kernel_rfl
              case czz20 => kernel_rfl
              case yzz20 =>
                refine Or.inl ⟨by rfl, ?_⟩
                intro w hSw
                skip
                go_simp
                try with_reducible rfl
              case qzz20 => exact fun _ _ _ h => h
              case szz20 => first | assumption | trivial
              case' rzz20 => simp only [Act.put, List.setIfInBounds_toArray, List.set_cons_zero, List.set_cons_succ]
              refine wpAnyH_take (i := 10) (oi := ?ozz21) (v := ?vzz21) ?hzz21 ?azz21 ?bzz21 ?czz21 ?qzz21 ?yzz21 ?szz21 ?rzz21
              case hzz21 => simp only [List.getElem?_toArray, List.getElem?_cons_zero, List.getElem?_cons_succ]; rfl
              case azz21 => kernel_rfl
              case bzz21 => kernel_rfl
              case czz21 => kernel_rfl
              case yzz21 =>
                refine Or.inl ⟨by rfl, ?_⟩
                intro w hSw
                skip
                go_simp
                try with_reducible rfl
              case qzz21 => exact fun _ _ _ h => h
              case szz21 => first | assumption | trivial
              case' rzz21 => simp only [Act.put, List.setIfInBounds_toArray, List.set_cons_zero, List.set_cons_succ]
              refine wpAnyH_done (by kernel_rfl) ?_ _
              have P := Lib.hid (Sv.putD (SU.out.step Z5.out.2.1) Z5.out.2.2.1 Z5.out.1 Z5.out.2.2.2)
              have HNE := Lib.hid ((UL.out.q Z5.out.2.1).far_ne Z5.out.2.2.2)
              have hb2 : w.heap.size < w.heap.size + 2 := by omega
              have UL2 := Lib.hid (((UL.out.q Z5.out.2.1).q Z5.out.2.2.1).set4 (b := w.heap.size) hb2 (.slice A5 n5 c5) (.int .i64 y.1.room) (.int .i64 y.1.fuse) (.bool y.1.off))
              have OM2 := Lib.hid (((OM.out.q Z5.out.2.1).q Z5.out.2.2.1).set4 (b := w.heap.size) hb2 (.slice A5 n5 c5) (.int .i64 y.1.room) (.int .i64 y.1.fuse) (.bool y.1.off))
              have hbw2 : w.heap.size + 2 ≤ w5.heap.size := Nat.le_trans hbw (Nat.le_trans Z5.out.2.1.size Z5.out.2.2.1.size)
              have hbw3 : w.heap.size + 2 ≤ ((((w5.setCell ⟨w.heap.size, 0, none⟩ (.slice A5 n5 c5)).setCell ⟨w.heap.size, 1, none⟩ (.int .i64 y.1.room)).setCell ⟨w.heap.size, 2, none⟩ (.int .i64 y.1.fuse)).setCell ⟨w.heap.size, 3, none⟩ (.bool y.1.off)).heap.size := by simpa [World.setCell] using hbw2
              clear e0 e1 e2 e3 f0 f1 f2' f3 x0 x1 x2 x3 y0 y1 y2 y3 U UL OM SU DU Z5 hHeld QW hbw hbw2 hb2
              generalize ((((w5.setCell ⟨w.heap.size, 0, none⟩ (.slice A5 n5 c5)).setCell ⟨w.heap.size, 1, none⟩ (.int .i64 y.1.room)).setCell ⟨w.heap.size, 2, none⟩ (.int .i64 y.1.fuse)).setCell ⟨w.heap.size, 3, none⟩ (.bool y.1.off)) = W at P UL2 OM2 hbw3 ⊢
              obtain ⟨⟨e0, e1, e2, e3⟩, f0, f1, f2', f3⟩ := P.out.1.sb.get
              by_cases gy : y.2 = 0
              · have GY := Lib.hid gy
                have OL := UL2
                have OM := OM2
                have hW2 : w.heap.size + 2 ≤ W.drew.heap.size := hbw3
                have RB := Lib.hid P.out.1.sb.res
                go_upto_region 17 with (fail)
                refine wp_region_held_drew (S := fun w' => w'.cell? ⟨w.heap.size, 0, none⟩ = some (.slice A5 n5 c5) ∧ w'.cell? ⟨w.heap.size, 1, none⟩ = some (.int .i64 y.1.room) ∧ w'.cell? ⟨w.heap.size, 2, none⟩ = some (.int .i64 y.1.fuse) ∧ w'.cell? ⟨w.heap.size, 3, none⟩ = some (.bool y.1.off)) (by kernel_rfl) ?szz22 (fun hHeld => ?rzz22)
                case szz22 =>
                  exact ⟨e0, e1, e2, e3⟩
                case' rzz22 => skip
                refine wpAnyH_take (i := 0) (oi := ?ozz23) (v := ?vzz23) ?hzz23 ?azz23 ?bzz23 ?czz23 ?qzz23 ?yzz23 ?szz23 ?rzz23
                case hzz23 => simp only [List.getElem?_toArray, List.getElem?_cons_zero]; rfl
                case azz23 => kernel_rfl
                case bzz23 => kernel_rfl
                case czz23 => kernel_rfl
                case yzz23 =>
                  refine Or.inl ⟨by rfl, ?_⟩
                  intro w hSw
                  obtain ⟨x0, x1, x2, x3⟩ := hSw
                  go_simp
                  try with_reducible rfl
                case qzz23 => exact fun _ _ _ h => h
                case szz23 => first | assumption | trivial
                case' rzz23 => simp only [Act.put, List.setIfInBounds_toArray, List.set_cons_zero, List.set_cons_succ]
                refine wpAnyH_take (i := 1) (oi := ?ozz24) (v := ?vzz24) ?hzz24 ?azz24 ?bzz24 ?czz24 ?qzz24 ?yzz24 ?szz24 ?rzz24
                case hzz24 => simp only [List.getElem?_toArray, List.getElem?_cons_zero, List.getElem?_cons_succ]; rfl
                case azz24 => kernel_rfl
                case bzz24 => kernel_rfl
                case czz24 => kernel_rfl
                case yzz24 =>
                  refine Or.inl ⟨by rfl, ?_⟩
                  intro w hSw
                  skip
                  go_simp
                  try with_reducible rfl
                case qzz24 => exact fun _ _ _ h => h
                case szz24 => first | assumption | trivial
                case' rzz24 => simp only [Act.put, List.setIfInBounds_toArray, List.set_cons_zero, List.set_cons_succ]
                refine wpAnyH_take (i := 2) (oi := ?ozz25) (v := ?vzz25) ?hzz25 ?azz25 ?bzz25 ?czz25 ?qzz25 ?yzz25 ?szz25 ?rzz25
                case hzz25 => simp only [List.getElem?_toArray, List.getElem?_cons_zero, List.getElem?_cons_succ]; rfl
                case azz25 => kernel_rfl
                case bzz25 => kernel_rfl
                case czz25 => kernel_rfl
                case yzz25 =>
                  refine Or.inl ⟨by rfl, ?_⟩
                  intro w hSw
                  skip
                  go_simp
                  try with_reducible rfl
                case qzz25 => exact fun _ _ _ h => h
                case szz25 => first | assumption | trivial
                case' rzz25 => simp only [Act.put, List.setIfInBounds_toArray, List.set_cons_zero, List.set_cons_succ]
                refine wpAnyH_take (i := 4) (oi := ?ozz26) (v := ?vzz26) ?hzz26 ?azz26 ?bzz26 ?czz26 ?qzz26 ?yzz26 ?szz26 ?rzz26
                case hzz26 => simp only [List.getElem?_toArray, List.getElem?_cons_zero, List.getElem?_cons_succ]; rfl
                case azz26 => kernel_rfl
                case bzz26 => kernel_rfl
                case czz26 => kernel_rfl
                case yzz26 =>
                  refine Or.inl ⟨by rfl, ?_⟩
                  intro w hSw
                  skip
                  go_simp
                  try with_reducible rfl
                case qzz26 => exact fun _ _ _ h => h
                case szz26 => first | assumption | trivial
                case' rzz26 => simp only [Act.put, List.setIfInBounds_toArray, List.set_cons_zero, List.set_cons_succ]
                refine wpAnyH_ready (rs := [3]) (by kernel_rfl) (by simp) ?_
                refine AllReadyH.cons (o := ?ozz31) ?hzz31 (fun K hK => ?kzz31) ?mzz31
                case hzz31 => simp only [List.getElem?_toArray, List.getElem?_cons_zero, List.getElem?_cons_succ]; rfl
                case kzz31 =>
                  have hne := row_ne OL.out (b := w.heap.size) (by omega)
                  have hne1 := row_ne OL.out (b := w.heap.size + 1) (by omega)
                  refine step_appS (by rfl) _ _ (by rfl) (w.heap.size + 2) L rs.length lc rs (by rfl) (show OwnS W.drew _ _ _ _ _ from OL.out) M ms.length mc ms (by rfl) (show Strs W.drew _ _ _ from OM.out.strs) hMn.out HB2.out hW2 ?_
                  intro L2 lc2 w2 ho2 hg2 hb2
                  refine hK.out _ _ ?Szz31 (fun hHeld => ?Rzz31)
                  case Szz31 =>
                    exact ⟨box_g hg2 hne hHeld.1, box_g hg2 hne hHeld.2.1, box_g hg2 hne hHeld.2.2.1, box_g hg2 hne hHeld.2.2.2⟩
                  case Rzz31 =>
                    clear hK K
                    try simp only [Act.put, List.setIfInBounds_toArray, List.set_cons_zero, List.set_cons_succ]
                    have RB2 := Lib.hid (Bx.grown (show Bx W.drew _ _ from RB.out) hg2 hne1)
                    obtain ⟨⟨s0, s1, s2, s3⟩, h0, h1, h2, h3⟩ := RB2.out.get4
                    refine wpAnyH_ready (rs := [5]) (by kernel_rfl) (by simp) ?_
                    refine AllReadyH.cons (o := ?ozz30) ?hzz30 (fun K hK => ?kzz30) ?mzz30
                    case hzz30 => simp only [List.getElem?_toArray, List.getElem?_cons_zero, List.getElem?_cons_succ]; rfl
                    case kzz30 =>
                      go_simp
                      refine hK.out _ _ ?Szz30 (fun hHeld => ?Rzz30)
                      case Szz30 =>
                        exact far_cells hHeld
                      case Rzz30 =>
                        clear hK K
                        try simp only [Act.put, List.setIfInBounds_toArray, List.set_cons_zero, List.set_cons_succ]
                        refine wpAnyH_take (i := 6) (oi := ?ozz27) (v := ?vzz27) ?hzz27 ?azz27 ?bzz27 ?czz27 ?qzz27 ?yzz27 ?szz27 ?rzz27
                        case hzz27 => simp only [List.getElem?_toArray, List.getElem?_cons_zero, List.getElem?_cons_succ]; rfl
                        case azz27 => kernel_rfl
                        case bzz27 => kernel_rfl
                        case czz27 => kernel_rfl
                        case yzz27 =>
                          refine Or.inl ⟨by rfl, ?_⟩
                          intro w hSw
                          skip
                          go_simp
                          try with_reducible rfl
                        case qzz27 => exact fun _ _ _ h => h
                        case szz27 => first | assumption | trivial
                        case' rzz27 => simp only [Act.put, List.setIfInBounds_toArray, List.set_cons_zero, List.set_cons_succ]
                        refine wpAnyH_take (i := 7) (oi := ?ozz28) (v := ?vzz28) ?hzz28 ?azz28 ?bzz28 ?czz28 ?qzz28 ?yzz28 ?szz28 ?rzz28
                        case hzz28 => simp only [List.getElem?_toArray, List.getElem?_cons_zero, List.getElem?_cons_succ]; rfl
                        case azz28 => kernel_rfl
                        case bzz28 => kernel_rfl
                        case czz28 => kernel_rfl
                        case yzz28 =>
                          refine Or.inl ⟨by rfl, ?_⟩
                          intro w hSw
                          skip
                          go_simp
                          try with_reducible rfl
                        case qzz28 => exact fun _ _ _ h => h
                        case szz28 => first | assumption | trivial
                        case' rzz28 => simp only [Act.put, List.setIfInBounds_toArray, List.set_cons_zero, List.set_cons_succ]
                        refine wpAnyH_take (i := 8) (oi := ?ozz29) (v := ?vzz29) ?hzz29 ?azz29 ?bzz29 ?czz29 ?qzz29 ?yzz29 ?szz29 ?rzz29
                        case hzz29 => simp only [List.getElem?_toArray, List.getElem?_cons_zero, List.getElem?_cons_succ]; rfl
                        case azz29 => kernel_rfl
                        case bzz29 => kernel_rfl
                        case czz29 => kernel_rfl
                        case yzz29 =>
                          refine Or.inl ⟨by rfl, ?_⟩
                          intro w hSw
                          skip
                          go_simp
                          try with_reducible rfl
                        case qzz29 => exact fun _ _ _ h => h
                        case szz29 => first | assumption | trivial
                        case' rzz29 => simp only [Act.put, List.setIfInBounds_toArray, List.set_cons_zero, List.set_cons_succ]
                        refine wpAnyH_done (by kernel_rfl) ?_ _
                        go_wp2
                        (try rw [Exit.noGoto_ret])
                        refine bodyPost_ret (v := .tuple #[dkv A5 n5 c5 y.1.room y.1.fuse y.1.off, .slice L2 (rs.length + ms.length) lc2, .int .i64 k, .int .i64 0]) (by simp [results, Tryd.results13, go_sem, s0, s1, s2, s3]) rfl ?_
                        rw [HX2.out, if_neg (by rw [GY.out]; simp), ← HMS.out.1]
                        exact (Sv.grown (P.out.1.step (Q.refl W).drew) OL.out hg2 hb2 HNE.out).endR P.out.2 ho2 k 0 _ _ _ _
                    case' mzz30 => skip
                    exact AllReadyH.nil
                case' mzz31 => skip
                exact AllReadyH.nil
              · have GY := Lib.hid gy
                obtain ⟨⟨s0, s1, s2, s3⟩, h0, h1, h2, h3⟩ := P.out.1.sb.getR
                go_wp2
                (try rw [Exit.noGoto_ret])
                refine bodyPost_ret (v := .tuple #[dkv A5 n5 c5 y.1.room y.1.fuse y.1.off, .slice none 0 0, .int .i64 from_, .int .i64 y.2]) (by simp [results, Tryd.results13, go_sem, s0, s1, s2, s3]) rfl ?_
                rw [HX2.out, if_pos GY.out]
                exact P.out.1.endR P.out.2 (ownS_nil _ _) from_ y.2 _ _ _ _
          case' mzz33 => skip
          exact AllReadyL.nil
      case' mzz34 => skip
      exact AllReadyL.nil

theorem rec_bad (from_ : Int) (A : Option Addr) (n c : Nat) (d : Dk) (w : World) (hd : Dsk w A n c d.fs) (h1 : ¬ segOk from_) :
    Calls Tryd.prog 13 #[dkv A n c d.room d.fuse d.off, .int .i64 from_] w fun e w' => RetR w (d, [], from_, 1) e w' := by
  have HD := Lib.hid hd
  have KU := Lib.hid (numbered_no from_ h1)
  clear hd h1
  go_enter Tryd.func13, Tryd.ntmps13
  go_wp2_with fail
  go_step3
  go_wp2_with fail
  refine (wown_any A n c d.room d.fuse d.off d.fs _ (HD.out.q (((Q.refl _).alloc _).alloc _))).mono ?_
  rintro e w1 ⟨A1, c1, rfl, ho, q1⟩
  have P := Lib.hid (Sd.new2 (room := d.room) (fuse := d.fuse) (off := d.off) (L := d.fs) (Sv.new w HD.out).sb q1 ho)
  obtain ⟨⟨e0, e1, e2, e3⟩, f0, f1, f2', f3⟩ := ((Sv.new w HD.out).sb.step q1).get
  clear ho q1
  go_upto_region 2 with (fail)
  generalize ((((w1.setCell ⟨w.heap.size, 0, none⟩ (.slice A1 n c1)).setCell ⟨w.heap.size, 1, none⟩ (.int .i64 d.room)).setCell ⟨w.heap.size, 2, none⟩ (.int .i64 d.fuse)).setCell ⟨w.heap.size, 3, none⟩ (.bool d.off)) = W at P ⊢
  clear e0 e1 e2 e3 f0 f1 f2' f3
  go_wp2_with fail
  refine (KU.out _).mono ?_
  rintro e w2 ⟨rfl, q2⟩
  have V := Lib.hid (P.out.step q2)
  clear P q2
  obtain ⟨⟨e0, e1, e2, e3⟩, f0, f1, f2', f3⟩ := V.out.sb.get
  obtain ⟨⟨s0, s1, s2, s3⟩, h0, h1, h2, h3⟩ := V.out.sb.getR
  go_wp2
  (try rw [Exit.noGoto_ret])
  refine bodyPost_ret (v := .tuple #[dkv A1 n c1 d.room d.fuse d.off, .slice none 0 0, .int .i64 from_, .int .i64 1]) (by simp [results, Tryd.results13, go_sem, s0, s1, s2, s3]) rfl ?_
  exact V.out.endR HD.out.few (ownS_nil _ _) from_ 1 _ _ _ _
theorem recover_any (from_ : Int) (A : Option Addr) (n c : Nat) (d : Dk) (w : World) (hT : Tab w) (hd : Dsk w A n c d.fs) (hB : Bnd 2097152 d) :
    Calls Tryd.prog 13 #[dkv A n c d.room d.fuse d.off, .int .i64 from_] w fun e w' => RetR w (recM d from_) e w' := by
  by_cases h1 : segOk from_
  · exact rec_good from_ A n c d w hT hd hB h1
  · rw [show recM d from_ = (d, [], from_, 1) by unfold recM; rw [if_pos h1]]
    exact rec_bad from_ A n c d w hd h1
end Go.Proofs.YtplhkppikkbkkaaDoor

/- Contracts: the document's Rename over a file that is there; Rename and Delete whole. -/
namespace Go.Proofs.YtplhkppikkbkkaaDoor
set_option maxRecDepth 100000
open Go.RowKit Dkm
set_option linter.unusedVariables false

theorem plc_eq {nm : ByteArray} {l : List Fil} {k : Nat} (hk : k < l.length) (hn : l[k].nm = nm) (hf : ∀ j, ∀ h : j < l.length, j < k → l[j].nm ≠ nm) : plc nm l 0 = k := by
  rcases plc_cases nm l with ⟨_, hall⟩ | ⟨k2, hk2, hp, hn2, hf2⟩
  · exact absurd hn (hall _ (List.getElem_mem hk))
  · rcases Nat.lt_trichotomy k2 k with h | h | h
    · exact absurd hn2 (hf k2 hk2 h)
    · rw [hp, h]
    · exact absurd hn (hf2 k hk h)
theorem erase_get {l : List Fil} {o j : Nat} (ho : o < l.length) (hj : j < (l.eraseIdx o).length) : (l.eraseIdx o)[j] = if h : j < o then l[j]'(by omega) else l[j + 1]'(by rw [List.length_eraseIdx, if_pos ho] at hj; omega) := List.getElem_eraseIdx ..
/-- where the file from stands once another one has gone. -/
def kk_ (k o : Nat) : Nat := if k < o then k else k - 1
theorem erase_from {l : List Fil} {o k : Nat} {fr : ByteArray} (ho : o < l.length) (hk : k < l.length) (hne : o ≠ k) (hn : l[k].nm = fr) (hf : ∀ j, ∀ h : j < l.length, j < k → l[j].nm ≠ fr) (hon : l[o].nm ≠ fr) :
    ∃ h : kk_ k o < (l.eraseIdx o).length, (l.eraseIdx o)[kk_ k o] = l[k] ∧ plc fr (l.eraseIdx o) 0 = (kk_ k o : Nat) := by
  have hlen : (l.eraseIdx o).length = l.length - 1 := by rw [List.length_eraseIdx, if_pos ho]
  have hlt : kk_ k o < (l.eraseIdx o).length := by unfold kk_; split <;> omega
  have hg : (l.eraseIdx o)[kk_ k o] = l[k] := by
    rw [erase_get ho hlt]
    unfold kk_
    by_cases h : k < o
    · simp only [if_pos h, dif_pos h]
    · have h2 : ¬ k - 1 < o := by omega
      simp only [if_neg h, dif_neg h2]
      congr 1; omega
  refine ⟨hlt, hg, plc_eq hlt (by rw [hg]; exact hn) fun j hj hjk => ?_⟩
  rw [erase_get ho hj]
  have hjk2 : j < if k < o then k else k - 1 := hjk
  split
  · exact hf j (by omega) (by split at hjk2 <;> omega)
  · by_cases h : k < o
    · rw [if_pos h] at hjk2; omega
    · rw [if_neg h] at hjk2
      exact hf (j + 1) (by omega) (by omega)
theorem erase_set {l : List Fil} {o k : Nat} (hne : o ≠ k) (g : Fil) : (l.eraseIdx o).set (kk_ k o) g = (l.set k g).eraseIdx o := by
  unfold kk_
  by_cases h : k < o
  · rw [if_pos h, List.eraseIdx_set_gt h]
  · rw [if_neg h, List.eraseIdx_set_lt (by omega)]

end Go.Proofs.YtplhkppikkbkkaaDoor

/- Contracts: the document's Crash. -/
namespace Go.Proofs.YtplhkppikkbkkaaDoor
set_option maxRecDepth 100000
open Go.RowKit Dkm
set_option linter.unusedVariables false

namespace Dkm
def crd (ks : List Int) (l : List Fil) (k : Nat) : List Fil := (l.take k).mapIdx (crf ks)
theorem crd_succ (ks : List Int) (l : List Fil) (k : Nat) (h : k < l.length) : crd ks l (k + 1) = crd ks l k ++ [crf ks k l[k]] := by
  unfold crd
  rw [List.take_succ_eq_append_getElem h, List.mapIdx_append]
  simp [show min k l.length = k by omega]
theorem crd_all (ks : List Int) (l : List Fil) : crl ks l l.length = crd ks l l.length := by simp [crl, crd]
theorem wrap_less (r : Int) (a b : Nat) : wrap64 (wrap64 (r + a) - b) = wrap64 (r + ((a : Int) - (b : Int))) := by unfold wrap64; omega
theorem kp_big {ks : List Int} {i : Nat} {f : Fil} (h : i < ks.length) (h2 : (f.wt.size : Int) < ks[i]) : kp ks i f = f.wt.size := by
  have := kp_in f h; omega
theorem kp_mid {ks : List Int} {i : Nat} {f : Fil} (h : i < ks.length) (h1 : 0 < ks[i]) (h2 : ks[i] ≤ (f.wt.size : Int)) : ks[i] = (kp ks i f : Int) := by
  have := kp_in f h; omega
theorem kp_low {ks : List Int} {i : Nat} {f : Fil} (h : i < ks.length) (h1 : ks[i] ≤ 0) : kp ks i f = 0 := by
  have := kp_in f h; omega
end Dkm

/-- 'append(own, more...)' as one step of a region that draws. -/
theorem step_app {ops : Array Oper} {o : Oper} {a : Act} {w : World} {K : Act → World → Prop} {R : Exit → Act → World → Prop} {E : Prop} (hgd : o.guard = none) (s x : Operand)
    (ho : o.op = .call { callee := .builtin .append, args := #[s, x], argTypes := #[22, 22] })
    (base : Nat) (A : Option Addr) (n c : Nat) (l : List Fil) (hs : a.eval s = .slice A n c) (h : Own w base A n c l) (A2 : Option Addr) (m c2 : Nat) (l2 : List Fil) (hx : a.eval x = .slice A2 m c2) (h2 : Files w A2 m l2) (hnil : A2 = none → m = 0 ∧ c2 = 0)
    (hb : (n + m) * 48 ≤ 140737488355328) (hbase : base ≤ w.heap.size)
    (hK : ∀ A' c' w', Own w' base A' (n + m) c' (l ++ l2) → Below base w w' → K (a.put o.dst (.slice A' (n + m) c')) w') :
    if Region.wanted o (yielded ops a.tmps) = true then Oper.wp Tryd.prog o a w K R else E := by
  have hw : Region.wanted o (yielded ops a.tmps) = true := by simp [Region.wanted, hgd]
  rw [if_pos hw]
  obtain ⟨A', c', w', hr, h3, h4⟩ := run_app w base A n c l h A2 m c2 l2 h2 hnil hb hbase o.type
  unfold Oper.wp execOp
  simp only [ho, resolve, invoke, builtin, Sem.run_bind, Sem.run_pure, Result.andThen_ok, List.map_toArray, List.map_cons, List.map_nil, hs, hx, hr]
  exact hK A' c' w' h3 h4

/-- the boxes of the document's Crash: d, the result, out. -/
structure Sc (w : World) (A : Option Addr) (n c : Nat) (room fuse : Int) (off : Bool) (A2 : Option Addr) (k c2 : Nat) (room2 : Int) (m : List Fil) (wr : World) : Prop where
  dk : Bx wr w.heap.size [.slice A n c, .int .i64 room, .int .i64 fuse, .bool off]
  res : Bx wr (w.heap.size + 1) [.slice none 0 0, .int .i64 0, .int .i64 0, .bool false]
  out : Bx wr (w.heap.size + 2) [.slice A2 k c2, .int .i64 room2, .int .i64 (-1), .bool false]
  own : Own wr (w.heap.size + 3) A2 k c2 m
  q : Q w wr
section
variable {w wr : World} {A A2 : Option Addr} {n c k c2 : Nat} {room fuse room2 : Int} {off : Bool} {m : List Fil}
theorem Sc.new (w : World) (A : Option Addr) (n c : Nat) (room fuse : Int) (off : Bool) :
    Sc w A n c room fuse off none 0 0 room [] (((w.alloc (.cells #[.slice A n c, .int .i64 room, .int .i64 fuse, .bool off] 24)).alloc (.cells #[.slice none 0 0, .int .i64 0, .int .i64 0, .bool false] 24)).alloc (.cells #[.slice none 0 0, .int .i64 room, .int .i64 (-1), .bool false] 24)) := by
  have s := Sb.new w A n c room fuse off
  have b := Bx.new ((w.alloc (.cells #[.slice A n c, .int .i64 room, .int .i64 fuse, .bool off] 24)).alloc (.cells #[.slice none 0 0, .int .i64 0, .int .i64 0, .bool false] 24)) [.slice none 0 0, .int .i64 room, .int .i64 (-1), .bool false] 24
  exact ⟨s.box.alloc _, s.res.alloc _, by simpa using b, ⟨rfl, .inl ⟨rfl, rfl⟩⟩, s.q.alloc _⟩
theorem Sc.step {w2 : World} (h : Sc w A n c room fuse off A2 k c2 room2 m wr) (q : Q wr w2) : Sc w A n c room fuse off A2 k c2 room2 m w2 := ⟨h.dk.q q, h.res.q q, h.out.q q, h.own.q q, h.q.trans q⟩
theorem Sc.setRoom (h : Sc w A n c room fuse off A2 k c2 room2 m wr) (x : Int) : Sc w A n c room fuse off A2 k c2 x m (wr.setCell ⟨w.heap.size + 2, 1, none⟩ (.int .i64 x)) :=
  ⟨h.dk.far (p := ⟨w.heap.size + 2, 1, none⟩) (by simp) _, h.res.far (p := ⟨w.heap.size + 2, 1, none⟩) (by simp) _, h.out.set (k := 1) (by simp) _, h.own.setCell (p := ⟨w.heap.size + 2, 1, none⟩) (by simp) _, h.q.setCell (p := ⟨w.heap.size + 2, 1, none⟩) (by simp) _⟩
theorem Sc.wrote {w2 : World} (h : Sc w A n c room fuse off A2 k c2 room2 m wr) {A3 : Option Addr} {k3 c3 : Nat} {m3 : List Fil} (ho : Own w2 (w.heap.size + 3) A3 k3 c3 m3) (hb : Below (w.heap.size + 3) wr w2) :
    Sc w A n c room fuse off A3 k3 c3 room2 m3 (w2.setCell ⟨w.heap.size + 2, 0, none⟩ (.slice A3 k3 c3)) :=
  ⟨(h.dk.below hb (by omega)).far (p := ⟨w.heap.size + 2, 0, none⟩) (by simp) _, (h.res.below hb (by omega)).far (p := ⟨w.heap.size + 2, 0, none⟩) (by simp) _, (h.out.below hb (by omega)).set (k := 0) (by simp) _,
    ho.setCell (p := ⟨w.heap.size + 2, 0, none⟩) (by simp) _, (show Q w w2 from h.q.below.trans (hb.mono (by omega))).setCell (p := ⟨w.heap.size + 2, 0, none⟩) (by simp) _⟩
end
def Wx (W wx : World) : Prop := wx = W
/-- what the document's Crash asks to keep. -/
def vz (ks : List Int) (k : Nat) : Int := if k < ks.length ∧ 0 < ks.getD k 0 then ks.getD k 0 else 0
theorem vz_yes {ks : List Int} {k : Nat} (h : k < ks.length) (h1 : 0 < ks.getD k 0) : vz ks k = ks.getD k 0 := by unfold vz; rw [if_pos ⟨h, h1⟩]
theorem vz_no {ks : List Int} {k : Nat} (h : ¬ (k < ks.length ∧ 0 < ks.getD k 0)) : vz ks k = 0 := by unfold vz; rw [if_neg h]
theorem vz_kp (ks : List Int) (k : Nat) (f : Fil) : 0 ≤ vz ks k ∧ (kp ks k f : Int) = if (f.wt.size : Int) < vz ks k then (f.wt.size : Int) else vz ks k := by
  unfold vz kp
  by_cases h : k < ks.length
  · by_cases h1 : 0 < ks.getD k 0
    · rw [if_pos ⟨h, h1⟩, if_pos h]
      split <;> omega
    · rw [if_neg (by omega), if_pos h]
      split <;> omega
  · rw [if_neg (by omega), if_neg h]
    split <;> omega
def bz (ks : List Int) (k : Nat) : Bool := decide (k < ks.length ∧ 0 < ks.getD k 0)
theorem bz_in {ks : List Int} {k : Nat} (h : k < ks.length) : bz ks k = decide (0 < ks.getD k 0) := by
  unfold bz
  by_cases h1 : 0 < ks.getD k 0
  · rw [decide_eq_true ⟨h, h1⟩, decide_eq_true h1]
  · rw [decide_eq_false (fun x => h1 x.2), decide_eq_false h1]
theorem bz_out {ks : List Int} {k : Nat} (h : ¬ k < ks.length) : bz ks k = false := decide_eq_false (fun x => h x.1)
theorem bz_vz {ks : List Int} {k : Nat} (h : bz ks k = false) : vz ks k = 0 := vz_no (of_decide_eq_false h)
theorem bz_yes {ks : List Int} {k : Nat} (h : bz ks k = true) : k < ks.length ∧ 0 < ks.getD k 0 ∧ vz ks k = ks.getD k 0 := ⟨(of_decide_eq_true h).1, (of_decide_eq_true h).2, vz_yes (of_decide_eq_true h).1 (of_decide_eq_true h).2⟩
theorem bool_eq {a b : Bool} (h : a = b) : Value.bool a = .bool b := by rw [h]
theorem int_eq {a b : Int} (h : a = b) : Value.int .i64 a = .int .i64 b := by rw [h]

set_option maxHeartbeats 4000000 in
theorem ref_crash (A : Option Addr) (n c : Nat) (room fuse : Int) (off : Bool) (K : Option Addr) (kn kc : Nat) (ks : List Int) (l : List Fil) (w : World) (hd : Dsk w A n c l) (hk : Ints w K kn ks) (hkn : kn ≤ maxLen) (hs : ∀ f ∈ l, f.sf.size + f.wt.size ≤ maxLen) :
    Calls Tryd.prog 14 #[dkv A n c room fuse off, .slice K kn kc] w fun e w' => RetD w (crs ⟨l, room, fuse, off⟩ ks) e w' := by
  have hnm := hd.max
  have hfew := hd.few
  unfold maxLen at hnm hkn
  have HD := Lib.hid hd
  have HK := Lib.hid hk
  have HL := Lib.hid hd.len
  have HKL := Lib.hid hk.len
  have HS := Lib.hid hs
  have S0 := Lib.hid (Sc.new w A n c room fuse off)
  clear hd hk hs
  go_enter Tryd.func14, Tryd.ntmps14
  go_wp2
  generalize (((w.alloc (.cells #[.slice A n c, .int .i64 room, .int .i64 fuse, .bool off] 24)).alloc (.cells #[.slice none 0 0, .int .i64 0, .int .i64 0, .bool false] 24)).alloc (.cells #[.slice none 0 0, .int .i64 room, .int .i64 (-1), .bool false] 24)) = W at S0 ⊢
  go_loopw [6] (fun i wr => ∃ (k : Nat) (A2 : Option Addr) (c2 : Nat), k ≤ n ∧ i = .int .i64 k ∧ Sc w A n c room fuse off A2 k c2 (croom ks l room k) (crd ks l k) wr) (fun i _ => n - (intOf i).toNat)
  case atStart => exact ⟨0, none, 0, Nat.zero_le _, rfl, by simpa [croom, crd] using S0.out⟩
  case round =>
    obtain ⟨k, A2, c2, hk, rfl, hsc⟩ := hrel
    have Y := Lib.hid hsc
    clear hsc S0
    obtain ⟨⟨d0, d1, d2, d3⟩, _⟩ := Y.out.dk.get4
    by_cases hlt : k < n
    · have hkl : k < l.length := by have := HL.out; omega
      obtain ⟨ad, rfl, hb, c0, c1, c3⟩ := (HD.out.files.q Y.out.q).load hlt hkl
      have q4 : (k : Int) < (n : Int) := by omega
      have q5 : 0 ≤ (k : Int) := by omega
      have hsz := HS.out l[k] (List.getElem_mem hkl)
      unfold maxLen at hsz
      have hkp := kp_le ks k l[k]
      have z0 : w.heap.size + 2 < wr.heap.size := Y.out.out.lt
      have KF : Hid (k < kn → ∃ ka, K = some ka ∧ (wr.alloc (.cells #[.string l[k].nm, .string l[k].sf, .string l[k].wt] 65)).cell? (ka.add k) = some (.int .i64 (ks.getD k 0))) := Lib.hid (fun h => by
        have h2 : k < ks.length := by have := HKL.out; omega
        obtain ⟨ka, e, _, hc⟩ := (HK.out.q (Y.out.q.alloc (.cells #[.string l[k].nm, .string l[k].sf, .string l[k].wt] 65))).load h2
        exact ⟨ka, e, by rw [hc]; simp [h2]⟩)
      have HVK := Lib.hid (vz_kp ks k l[k])
      have v0 := (vz_kp ks k l[k]).1
      go_upto_region 7 with (fail)
      go_cut [34] (fun s34 wx => s34 = .bool (bz ks k) ∧ Wx (wr.alloc (.cells #[.string l[k].nm, .string l[k].sf, .string l[k].wt] 65)) wx)
      case first =>
        by_cases hkk : k < kn
        · obtain ⟨ka, rfl, kc0⟩ := KF.out hkk
          have hk2 : k < ks.length := by have := HKL.out; omega
          have q6 : (k : Int) < (kn : Int) := by omega
          have HB := Lib.hid (bz_in (ks := ks) hk2)
          generalize ks.getD k 0 = xx at kc0 HB
          by_cases hx : 0 < xx
          · go_wp2
            go_meet
            exact ⟨bool_eq (by rw [HB.out]; simp [hx]), rfl⟩
          · have hx2 : decide ((0 : Int) < xx) = false := by simpa using hx
            go_wp2
            go_meet
            exact ⟨bool_eq (by rw [HB.out]; simp [hx]), rfl⟩
        · have HV := Lib.hid (bz_out (ks := ks) (k := k) (by have := HKL.out; omega))
          go_wp2
          go_meet
          exact ⟨bool_eq (by rw [HV.out]), rfl⟩
      case rest =>
        obtain ⟨rfl, hw⟩ := hcut
        unfold Wx at hw
        subst hw
        go_upto_if 34 with (fail)
        go_cut [8] (fun s8 wx => s8 = .int .i64 (vz ks k) ∧ Wx (wr.alloc (.cells #[.string l[k].nm, .string l[k].sf, .string l[k].wt] 65)) wx)
        case first =>
          cases hbz : bz ks k
          · have HV := Lib.hid (bz_vz hbz)
            clear hbz
            go_wp2
            go_meet
            exact ⟨int_eq HV.out.symm, rfl⟩
          · obtain ⟨hkk, hx, hvx⟩ := bz_yes hbz
            have hkn2 : k < kn := by have := HKL.out; omega
            obtain ⟨ka, rfl, kc0⟩ := KF.out hkn2
            have q6 : (k : Int) < (kn : Int) := by omega
            have HV := Lib.hid hvx
            clear hbz hvx
            generalize ks.getD k 0 = xx at kc0 HV hx
            go_wp2
            go_meet
            exact ⟨int_eq HV.out.symm, rfl⟩
        case rest =>
          obtain ⟨rfl, hw⟩ := hcut
          unfold Wx at hw
          subst hw
          generalize vz ks k = v at HVK v0 ⊢
          clear KF
          go_upto_if 43 with (fail)
          go_cut [8] (fun s8 wx => s8 = .int .i64 (kp ks k l[k] : Int) ∧ Wx (wr.alloc (.cells #[.string l[k].nm, .string l[k].sf, .string l[k].wt] 65)) wx)
          case first =>
            by_cases hv : (l[k].wt.size : Int) < v
            · have HE := Lib.hid (HVK.out.2.trans (if_pos hv))
              go_wp2
              go_meet
              exact ⟨int_eq HE.out.symm, rfl⟩
            · have HE := Lib.hid (HVK.out.2.trans (if_neg hv))
              go_wp2
              go_meet
              exact ⟨int_eq HE.out.symm, rfl⟩
          case rest =>
            obtain ⟨rfl, hw⟩ := hcut
            unfold Wx at hw
            subst hw
            clear HVK v0
            have HF : Hid (crf ks k l[k] = ⟨l[k].nm, l[k].sf ++ l[k].wt.extract 0 (kp ks k l[k]), ⟨#[]⟩⟩) := Lib.hid rfl
            have HR := Lib.hid (croom_succ ks l room k hkl)
            have HC := Lib.hid (crd_succ ks l k hkl)
            have HWL := Lib.hid (wrap_less (croom ks l room k) l[k].wt.size (kp ks k l[k]))
            generalize kp ks k l[k] = y at hkp HF HR HWL ⊢
            obtain ⟨⟨o0, o1, o2, o3⟩, g0, g1, g2, g3⟩ := Y.out.out.get4
            have z1 : w.heap.size + 2 ≠ wr.heap.size := by omega
            go_upto_region 12 with (fail)
            rw [HWL.out, ← HR.out]
            clear HR
            generalize hr3 : croom ks l room (k + 1) = r3
            have HR3 := Lib.hid hr3
            clear hr3
            have Z : Hid (Sc w (some ad) n c room fuse off A2 k c2 r3 (crd ks l k) ((wr.setCell ⟨w.heap.size + 1 + 1, 1, none⟩ (.int .i64 r3)).alloc (.cells #[.string l[k].nm, .string l[k].sf, .string l[k].wt] 65))) := Lib.hid ((Y.out.setRoom r3).step ((Q.refl _).alloc (.cells #[.string l[k].nm, .string l[k].sf, .string l[k].wt] 65)))
            have BF : Hid (Bx ((wr.setCell ⟨w.heap.size + 1 + 1, 1, none⟩ (.int .i64 r3)).alloc (.cells #[.string l[k].nm, .string l[k].sf, .string l[k].wt] 65)) wr.heap.size [.string l[k].nm, .string l[k].sf, .string l[k].wt]) := Lib.hid (by
              have := Bx.new (wr.setCell ⟨w.heap.size + 1 + 1, 1, none⟩ (.int .i64 r3)) [.string l[k].nm, .string l[k].sf, .string l[k].wt] 65
              simpa [World.setCell] using this)
            generalize ((wr.setCell ⟨w.heap.size + 1 + 1, 1, none⟩ (.int .i64 r3)).alloc (.cells #[.string l[k].nm, .string l[k].sf, .string l[k].wt] 65)) = V at Z BF ⊢
            generalize wr.heap.size = gf at BF ⊢
            clear o0 o1 o2 o3 g0 g1 g2 g3 d0 d1 d2 d3 c0 c1 c3 hb z0 z1 Y
            have P0 : Bx V (w.heap.size + 1 + 1) [.slice A2 k c2, .int .i64 r3, .int .i64 (-1), .bool false] := Z.out.out
            obtain ⟨⟨o0, o1, o2, o3⟩, g0, g1, g2, g3⟩ := P0.get4
            clear P0
            obtain ⟨⟨b0, b1, b2⟩, _⟩ := BF.out.get3
            have q6 : (y : Int) ≤ (l[k].wt.size : Int) := by omega
            have q7 : 0 ≤ (y : Int) := by omega
            have q8 : ¬ 9223372036854775807 < l[k].sf.size + y := by omega
            have q9 : y ≤ l[k].wt.size := by omega
            have z5 : w.heap.size + 1 + 1 < V.heap.size := Z.out.out.lt
            have z6 : w.heap.size + 1 + 1 ≠ V.heap.size := by omega
            have z7 : gf < V.heap.size := BF.out.lt
            have z8 : gf ≠ V.heap.size := by omega
            have T1 : Hid (Own ((V.alloc (.cells #[.string l[k].nm, .string (l[k].sf ++ l[k].wt.extract 0 y), .string ⟨#[]⟩] 65)).drew) (w.heap.size + 3) A2 k c2 (crd ks l k)) := Lib.hid ((Z.out.own.alloc _).q (Q.refl _).drew)
            have T2 : Hid (Files ((V.alloc (.cells #[.string l[k].nm, .string (l[k].sf ++ l[k].wt.extract 0 y), .string ⟨#[]⟩] 65)).drew) (some ⟨V.heap.size, 0, none⟩) 1 [⟨l[k].nm, l[k].sf ++ l[k].wt.extract 0 y, ⟨#[]⟩⟩]) := Lib.hid ((files_lit1 V ⟨l[k].nm, l[k].sf ++ l[k].wt.extract 0 y, ⟨#[]⟩⟩).q (Q.refl _).drew)
            have T3 : Hid (w.heap.size + 3 ≤ ((V.alloc (.cells #[.string l[k].nm, .string (l[k].sf ++ l[k].wt.extract 0 y), .string ⟨#[]⟩] 65)).drew).heap.size) := Lib.hid (by have := Z.out.out.lt; simp; omega)
            have T4 : (k + 1) * 48 ≤ 140737488355328 := by omega
            go_region_law ((refine step_app (by rfl) _ _ (by rfl) (w.heap.size + 3) A2 k c2 (crd ks l k) (by rfl) T1.out (some ⟨V.heap.size, 0, none⟩) 1 1 [⟨l[k].nm, l[k].sf ++ l[k].wt.extract 0 y, ⟨#[]⟩⟩] (by rfl) T2.out (fun e => by cases e) T4 T3.out ?_
                            intro A4 c4 w4 ho4 hb4
                            obtain ⟨⟨x0, x1, x2, x3⟩, y0, y1, y2, y3⟩ := (show Bx w4 (w.heap.size + 1 + 1) [.slice A2 k c2, .int .i64 r3, .int .i64 (-1), .bool false] from (((Z.out.out.alloc _).q (Q.refl _).drew).below hb4 (by omega))).get4))
            all_goals
              have U : Hid (Sc w (some ad) n c room fuse off A4 (k + 1) c4 r3 (crd ks l (k + 1)) (w4.setCell ⟨w.heap.size + 1 + 1, 0, none⟩ (.slice A4 (k + 1) c4))) := Lib.hid (by
                rw [HC.out, HF.out]
                exact ((Z.out.step ((Q.refl _).alloc (.cells #[.string l[k].nm, .string (l[k].sf ++ l[k].wt.extract 0 y), .string ⟨#[]⟩] 65))).step (Q.refl _).drew).wrote ho4 hb4)
              clear ho4 hb4 o0 o1 o2 o3 g0 g1 g2 g3 b0 b1 b2 x0 x1 x2 x3 y0 y1 y2 y3
              go_wp2
              go_roundw
              case rel => exact ⟨k + 1, A4, c4, by omega, by go_num, by rw [HR3.out]; exact U.out⟩
              case measure => simp [intOf]; omega
    · have e : n = k := by omega
      subst e
      obtain ⟨⟨o0, o1, o2, o3⟩, _⟩ := (show Bx wr (w.heap.size + 1 + 1) [.slice A2 n c2, .int .i64 (croom ks l room n), .int .i64 (-1), .bool false] from Y.out.out).get4
      obtain ⟨⟨s0, s1, s2, s3⟩, h0, h1, h2, h3⟩ := Y.out.res.get4
      go_wp2
      refine bodyPost_ret (v := dkv A2 n c2 (croom ks l room n) (-1) false) (by simp [results, Tryd.results14, go_sem, s0, s1, s2, s3]) rfl ?_
      rw [show crs ⟨l, room, fuse, off⟩ ks = ⟨crd ks l n, croom ks l room n, -1, false⟩ by unfold crs; simp only; rw [crd_all, HL.out]]
      exact ⟨A2, n, c2, rfl, (Y.out.own.set4 (b := w.heap.size + 1) (by omega) _ _ _ _).lower (by omega), Y.out.q.set4 (b := w.heap.size + 1) (by omega) _ _ _ _⟩
end Go.Proofs.YtplhkppikkbkkaaDoor

/- Room, and the bytes of all files: together always the same. -/
namespace Go.Proofs.YtplhkppikkbkkaaDoor
set_option maxRecDepth 100000
open Go.RowKit Dkm
set_option linter.unusedVariables false
namespace Dkm
def siz (f : Fil) : Nat := f.sf.size + f.wt.size
def sumF : List Fil → Nat
  | [] => 0
  | f :: l => siz f + sumF l
theorem sum_app (a b : List Fil) : sumF (a ++ b) = sumF a + sumF b := by
  induction a with
  | nil => simp [sumF]
  | cons f a ih => simp only [List.cons_append, sumF, ih]; omega
theorem sum_set {l : List Fil} {k : Nat} (g : Fil) (hk : k < l.length) : sumF (l.set k g) + siz l[k] = sumF l + siz g := by
  have e1 : l.set k g = l.take k ++ g :: l.drop (k + 1) := List.set_eq_take_append_cons_drop.trans (by rw [if_pos hk])
  have e2 : l = l.take k ++ l[k] :: l.drop (k + 1) := by rw [← List.drop_eq_getElem_cons hk, List.take_append_drop]
  have h2 : sumF l = sumF (l.take k) + (siz l[k] + sumF (l.drop (k + 1))) := by conv => lhs; rw [e2, sum_app, sumF]
  rw [e1, sum_app, sumF]; omega
theorem sum_erase {l : List Fil} {k : Nat} (hk : k < l.length) : sumF (l.eraseIdx k) + siz l[k] = sumF l := by
  have e2 : l = l.take k ++ l[k] :: l.drop (k + 1) := by rw [← List.drop_eq_getElem_cons hk, List.take_append_drop]
  have h2 : sumF l = sumF (l.take k) + (siz l[k] + sumF (l.drop (k + 1))) := by conv => lhs; rw [e2, sum_app, sumF]
  rw [List.eraseIdx_eq_take_drop_succ, sum_app]; omega
theorem sum_take {l : List Fil} {k : Nat} (hk : k < l.length) : sumF (l.take (k + 1)) = sumF (l.take k) + siz l[k] := by
  rw [List.take_succ_eq_append_getElem hk, sum_app]; simp [sumF]
theorem sum_take_le (l : List Fil) (k : Nat) : sumF (l.take k) ≤ sumF l := by
  have : sumF l = sumF (l.take k) + sumF (l.drop k) := by rw [← sum_app, List.take_append_drop]
  omega
theorem sum_mem {l : List Fil} {k : Nat} (hk : k < l.length) : siz l[k] ≤ sumF l := by
  have := sum_take hk; have := sum_take_le l (k + 1); omega
/-- together. -/
def tot (d : Dk) : Int := d.room + sumF d.fs
theorem appd_tot (d : Dk) (nm s : ByteArray) (h0 : 0 ≤ d.room) : tot (appd d nm s).1 = tot d ∧ 0 ≤ (appd d nm s).1.room := by
  unfold appd
  split; exact ⟨rfl, h0⟩
  split; exact ⟨rfl, h0⟩
  split; exact ⟨rfl, h0⟩
  split; exact ⟨rfl, h0⟩
  rename_i _ _ h3 _
  have h4 : ¬ d.room < s.size := fun h => h3 (.inr h)
  have hc := cut_size d.fuse s
  unfold tot
  simp only
  refine ⟨?_, by omega⟩
  rcases plc_cases nm d.fs with ⟨_, hall⟩ | ⟨k, hk, _, hkn, hfirst⟩
  · rw [opn_none hall]; unfold put; rw [if_pos rfl, sum_app]
    simp only [sumF, siz, ByteArray.size_append]
    have e : (⟨#[]⟩ : ByteArray).size = 0 := rfl
    simp only [e]; omega
  · rw [opn_at hk hkn hfirst]; unfold put; simp only
    rw [if_neg (by omega)]
    have := sum_set ⟨d.fs[k].nm, d.fs[k].sf, d.fs[k].wt ++ cut d.fuse s⟩ hk
    simp only [siz, ByteArray.size_append] at this
    omega
theorem syn_tot (d : Dk) (nm : ByteArray) : tot (syn d nm).1 = tot d ∧ (syn d nm).1.room = d.room := by
  obtain ⟨l, room, fuse, off⟩ := d
  cases off
  · rcases plc_cases nm l with ⟨hp, hall⟩ | ⟨k, hk, hp, hkn, hfirst⟩
    · rw [syn_none hall]; exact ⟨rfl, rfl⟩
    · rw [syn_at hk hkn hfirst]
      refine ⟨?_, rfl⟩
      have := sum_set ⟨l[k].nm, l[k].sf ++ l[k].wt, ⟨#[]⟩⟩ hk
      have e : (⟨#[]⟩ : ByteArray).size = 0 := rfl
      simp only [siz, ByteArray.size_append, e] at this
      unfold tot; simp only; omega
  · exact ⟨rfl, rfl⟩
theorem pow_tot (d : Dk) : tot (pow d).1 = tot d ∧ (pow d).1.room = d.room := by
  unfold pow; split; exact ⟨rfl, rfl⟩
  split <;> exact ⟨rfl, rfl⟩
theorem lss_tot (d : Dk) {k : Nat} (hk : k < d.fs.length) (h0 : 0 ≤ d.room) (hb : tot d ≤ 1048576) : tot (lss d k) = tot d ∧ 0 ≤ (lss d k).room := by
  have h1 := sum_erase hk
  unfold tot at *
  unfold lss
  simp only [List.getD_eq_getElem?_getD, List.getElem?_eq_getElem hk, Option.getD_some]
  have h2 : siz d.fs[k] = d.fs[k].sf.size + d.fs[k].wt.size := rfl
  rw [wrap_in (by omega)]
  omega
theorem nmd_tot (d : Dk) {k : Nat} (hk : k < d.fs.length) (tu : ByteArray) : tot (nmd d k tu) = tot d ∧ (nmd d k tu).room = d.room := by
  refine ⟨?_, rfl⟩
  have := sum_set ⟨tu, d.fs[k].sf, d.fs[k].wt⟩ hk
  unfold tot nmd
  simp only [List.getD_eq_getElem?_getD, List.getElem?_eq_getElem hk, Option.getD_some]
  simp only [siz] at this
  omega
theorem opn_lt {nm : ByteArray} {l : List Fil} (h : (hit nm l).2 = true) : (opn nm l).2 < l.length := by
  rcases plc_cases nm l with ⟨_, hall⟩ | ⟨k, hk, _, hkn, hfirst⟩
  · rw [hit_none hall] at h; cases h
  · rw [opn_at hk hkn hfirst]; exact hk
theorem del_tot (d : Dk) (nm : ByteArray) (h0 : 0 ≤ d.room) (hb : tot d ≤ 1048576) : tot (del d nm).1 = tot d ∧ 0 ≤ (del d nm).1.room := by
  have hp := pow_tot d
  unfold del
  split; exact ⟨rfl, h0⟩
  split; exact ⟨rfl, h0⟩
  split; exact ⟨hp.1, by rw [hp.2]; exact h0⟩
  rename_i _ h2 _
  have hl := opn_lt (nm := nm) (l := d.fs) (by simpa using h2)
  have := lss_tot (pow d).1 (k := (opn nm d.fs).2) (by rw [pow_fs]; exact hl) (by rw [hp.2]; exact h0) (by rw [hp.1]; exact hb)
  exact ⟨this.1.trans hp.1, this.2⟩
theorem ren_tot (d : Dk) (fr tu : ByteArray) (h0 : 0 ≤ d.room) (hb : tot d ≤ 1048576) : tot (ren d fr tu).1 = tot d ∧ 0 ≤ (ren d fr tu).1.room := by
  have hp := pow_tot d
  unfold ren
  split; exact ⟨rfl, h0⟩
  split; exact ⟨rfl, h0⟩
  split; exact ⟨rfl, h0⟩
  split; exact ⟨rfl, h0⟩
  split; exact ⟨hp.1, by rw [hp.2]; exact h0⟩
  rename_i _ _ h3 _ _
  have hl := opn_lt (nm := fr) (l := d.fs) (by simpa using h3)
  have hn := nmd_tot (pow d).1 (k := (opn fr d.fs).2) (by rw [pow_fs]; exact hl) tu
  split
  · rename_i h5
    have hl2 := opn_lt (nm := tu) (l := d.fs) h5
    have := lss_tot (nmd (pow d).1 (opn fr d.fs).2 tu) (k := (opn tu d.fs).2) (by rw [nmd_len, pow_fs]; exact hl2) (by rw [hn.2, hp.2]; exact h0) (by rw [hn.1, hp.1]; exact hb)
    exact ⟨this.1.trans (hn.1.trans hp.1), this.2⟩
  · exact ⟨hn.1.trans hp.1, by rw [hn.2, hp.2]; exact h0⟩
theorem crl_tot (ks : List Int) (l : List Fil) (room : Int) (h0 : 0 ≤ room) (hb : room + sumF l ≤ 1048576) : ∀ k, k ≤ l.length → croom ks l room k + sumF (crl ks l k) = room + sumF l ∧ 0 ≤ croom ks l room k
  | 0, _ => by rw [crl_zero]; exact ⟨rfl, h0⟩
  | k + 1, hk => by
    have hkl : k < l.length := by omega
    obtain ⟨h1, h2⟩ := crl_tot ks l room h0 hb k (by omega)
    have hlt : k < (crl ks l k).length := by rw [crl_len]; exact hkl
    have hs := sum_set (crf ks k l[k]) hlt
    have hm := sum_mem hlt
    have hkp := kp_le ks k l[k]
    rw [crl_get ks l k hkl] at hs hm
    have e : (⟨#[]⟩ : ByteArray).size = 0 := rfl
    have e1 : siz (crf ks k l[k]) = l[k].sf.size + kp ks k l[k] := by
      unfold siz crf; simp only [ByteArray.size_append, ByteArray.size_extract, e]; omega
    have e2 : siz l[k] = l[k].sf.size + l[k].wt.size := rfl
    rw [crl_succ ks l k hkl, croom_succ ks l room k hkl, wrap_in (by omega)]
    omega
theorem crs_tot (d : Dk) (ks : List Int) (h0 : 0 ≤ d.room) (hb : tot d ≤ 1048576) : tot (crs d ks) = tot d ∧ 0 ≤ (crs d ks).room := crl_tot ks d.fs d.room h0 hb _ (Nat.le_refl _)
theorem does_tot (d : Dk) (kind num : Int) (nm s : ByteArray) (h0 : 0 ≤ d.room) (hb : tot d ≤ 1048576) : tot (doesM d kind num nm s).1 = tot d ∧ 0 ≤ (doesM d kind num nm s).1.room := by
  unfold doesM
  split; exact appd_tot d nm s h0
  split; exact ⟨(syn_tot d nm).1, by rw [(syn_tot d nm).2]; exact h0⟩
  split; exact ren_tot d nm s h0 hb
  split; exact del_tot d nm h0 hb
  split; exact crs_tot d _ h0 hb
  split <;> exact ⟨rfl, h0⟩
end Dkm
end Go.Proofs.YtplhkppikkbkkaaDoor

/- The frame of every law: what an argument reads as (with its sizes), opened by its type; a walk under that reading gives the given statement. -/
namespace Go.Proofs.YtplhkppikkbkkaaDoor
set_option maxRecDepth 100000
open Go.ChangeShapes Go.WideShapes Go.ChangeAt Go.RowKit
set_option linter.unusedVariables false

/-- the cells cs read as something of type t, and no part of it is beyond the reach. -/
def Rd (w : World) (t : TypeId) (cs : List Value) : Prop :=
  ∃ (H : Type) (enc : TypeId × Value → H) (n : Nat) (d : DataW H) (ps : List MemPlace), DataW.trod enc Tryd.prog w 0 (fun _ => true) true n t cs = some (d, ps) ∧ ∀ x ∈ d.weights Tryd.prog t, x ≤ 140737488351232

theorem Rd.int {w : World} {t : TypeId} {cs : List Value} {k : IntKind} (h : Rd w t cs) (ht : Tryd.prog.underlying t = some (.int k)) : ∃ n, cs = [.int k n] ∧ (Lit.int k n).wf = true := by
  obtain ⟨H, enc, n, d, ps, ht', hw⟩ := h
  obtain ⟨m, rfl, _, hm⟩ := DataW.trod_int ht ht'
  exact ⟨m, rfl, hm⟩
theorem Rd.bool {w : World} {t : TypeId} {cs : List Value} (h : Rd w t cs) (ht : Tryd.prog.underlying t = some .bool) : ∃ b, cs = [.bool b] := by
  obtain ⟨H, enc, n, d, ps, ht', hw⟩ := h
  obtain ⟨m, rfl, _⟩ := DataW.trod_bool ht ht'
  exact ⟨m, rfl⟩
theorem Rd.string {w : World} {t : TypeId} {cs : List Value} (h : Rd w t cs) (ht : Tryd.prog.underlying t = some .string) : ∃ s : ByteArray, cs = [.string s] ∧ s.size ≤ 140737488351232 := by
  obtain ⟨H, enc, n, d, ps, ht', hw⟩ := h
  obtain ⟨s, rfl, hx, hm⟩ := DataW.trod_string ht ht'
  injection hx with h1 h2
  subst h1
  have := hw s.data.toList.length (by simp [DataW.weights])
  exact ⟨s, rfl, by simpa using this⟩
theorem Rd.struct {w : World} {t : TypeId} {cs : List Value} {fs : Array Field} (h : Rd w t cs) (ht : Tryd.prog.underlying t = some (.struct fs)) :
    cs.length = Tryd.prog.cellsOf t ∧ ∀ (i : Nat) (f : Field), fs[i]? = some f → Rd w f.type ((cs.drop f.offset).take (Tryd.prog.cellsOf f.type)) := by
  obtain ⟨H, enc, n, d, ps, ht', hw⟩ := h
  obtain ⟨xs, m, rfl, hx, hl, hlen, hg⟩ := DataW.trod_struct ht ht'
  injection hx with h1 h2
  subst h1
  refine ⟨hl, fun i f hi => ?_⟩
  have hil : i < fs.size := (Array.getElem?_eq_some_iff.1 hi).1
  have hxi : xs[i]? = some xs[i] := List.getElem?_eq_getElem (by omega)
  refine ⟨H, enc, m, xs[i].1, xs[i].2, (hg i f hi).trans hxi, fun x hx => hw x ?_⟩
  simp only [DataW.weights, ht]
  exact DataW.weights_mem_each (j := i) (t := f.type) (d := xs[i].1) (by simp [hi]) (by simp [hxi]) x hx
theorem Rd.field {w : World} {t : TypeId} {cs : List Value} {fs : Array Field} (h : Rd w t cs) (ht : Tryd.prog.underlying t = some (.struct fs)) (i : Nat) {ty : TypeId} (off k : Nat) (hi : (fs[i]?).map (fun f => (f.type, f.offset)) = some (ty, off)) (hk : Tryd.prog.cellsOf ty = k) :
    Rd w ty ((cs.drop off).take k) := by
  obtain ⟨f, hf, he⟩ := Option.map_eq_some_iff.1 hi
  injection he with e1 e2
  subst e1 e2 hk
  exact (h.struct ht).2 i f hf
theorem weightsAll_mem {H : Type} {P : Program} {e : TypeId} {d : DataW H} : ∀ {l : List (DataW H)}, d ∈ l → ∀ x ∈ d.weights P e, x ∈ DataW.weightsAll P e l
  | d0 :: l, hd, x, hx => by
    simp only [DataW.weightsAll, List.mem_append]
    rcases List.mem_cons.1 hd with rfl | hd
    · exact .inl hx
    · exact .inr (weightsAll_mem hd x hx)
theorem Rd.slice {w : World} {t e : TypeId} {cs : List Value} (h : Rd w t cs) (ht : Tryd.prog.underlying t = some (.slice e)) :
    cs = [.slice none 0 0] ∨ ∃ (a : Addr) (len cap : Nat), cs = [.slice (some a) len cap] ∧ len ≤ cap ∧ cap ≤ maxLen ∧ cap * Tryd.prog.bytesOf e ≤ 140737488351232 ∧
      ∀ i, i < cap → ∃ cs', w.cells? 0 (a.add (i * Tryd.prog.cellsOf e)) (Tryd.prog.cellsOf e) = some cs' ∧ Rd w e cs' := by
  obtain ⟨H, enc, n, d, ps, ht', hw⟩ := h
  rcases Deep.open_slice ht ht' with ⟨h0, _⟩ | ⟨a, len, cap, m, n', D, Pl, hcs, hb, hl, hm, hmm, hx, hi⟩
  · exact .inl h0
  · right
    simp only [if_true] at hmm
    subst hmm
    injection hx with h1 h2
    subst h1
    simp only [DataW.weights, ht] at hw
    refine ⟨a, len, m, hcs, hl, hm, ?_, fun i hi' => ?_⟩
    · have := hw _ (List.mem_cons_self ..)
      simp only [List.length_map, List.length_range] at this
      rwa [show len + (m - len) = m by omega] at this
    · obtain ⟨cs', hc, htr⟩ := hi i hi'
      refine ⟨cs', hc, H, enc, n', D i, Pl i, htr, fun x hx => hw x (List.mem_cons_of_mem _ (List.mem_append.2 ?_))⟩
      by_cases hlt : i < len
      · exact .inl (weightsAll_mem (List.mem_map.2 ⟨i, by simpa using hlt, rfl⟩) x hx)
      · exact .inr (weightsAll_mem (List.mem_map.2 ⟨i - len, by simp; omega, by rw [show len + (i - len) = i by omega]⟩) x hx)

/-- the value v, an argument, reads so. -/
def RdV (w : World) (t : TypeId) (v : Value) : Prop := (∃ base, Value.okWide Tryd.prog w .any base t v) ∧ Rd w t v.cells.toList
theorem RdV.int {w : World} {t : TypeId} {v : Value} {k : IntKind} (h : RdV w t v) (ht : Tryd.prog.underlying t = some (.int k)) : ∃ n, v = .int k n ∧ (Lit.int k n).wf = true := by
  obtain ⟨⟨b, ho⟩, hr⟩ := h
  obtain ⟨n, rfl⟩ := okWide_int ht ho
  obtain ⟨m, e, hm⟩ := hr.int ht
  simp [Value.cells] at e
  subst e
  exact ⟨n, rfl, hm⟩
theorem RdV.bool {w : World} {t : TypeId} {v : Value} (h : RdV w t v) (ht : Tryd.prog.underlying t = some .bool) : ∃ b, v = .bool b := by
  obtain ⟨⟨b, ho⟩, hr⟩ := h
  obtain ⟨n, rfl⟩ := okWide_bool ht ho
  exact ⟨n, rfl⟩
theorem RdV.string {w : World} {t : TypeId} {v : Value} (h : RdV w t v) (ht : Tryd.prog.underlying t = some .string) : ∃ s : ByteArray, v = .string s ∧ s.size ≤ 140737488351232 := by
  obtain ⟨⟨b, ho⟩, hr⟩ := h
  obtain ⟨n, rfl⟩ := okWide_string ht ho
  obtain ⟨m, e, hm⟩ := hr.string ht
  simp [Value.cells] at e
  subst e
  exact ⟨n, rfl, hm⟩
theorem RdV.struct {w : World} {t : TypeId} {v : Value} {fs : Array Field} (h : RdV w t v) (ht : Tryd.prog.underlying t = some (.struct fs)) : ∃ cs : List Value, v = .agg cs.toArray ∧ Rd w t cs := by
  obtain ⟨⟨b, ho⟩, hr⟩ := h
  obtain ⟨cs, rfl, _⟩ := okWide_struct ht ho
  exact ⟨cs.toList, rfl, hr⟩
theorem RdV.slice {w : World} {t e : TypeId} {v : Value} (h : RdV w t v) (ht : Tryd.prog.underlying t = some (.slice e)) : ∃ A n c, v = .slice A n c ∧ Rd w t [.slice A n c] := by
  obtain ⟨⟨b, ho⟩, hr⟩ := h
  obtain ⟨A, n, c, rfl⟩ := okWide_slice ht ho
  exact ⟨A, n, c, rfl, hr⟩

theorem args1 {a : Array Value} (h : a.size = 1) : ∃ x, a = #[x] := by
  obtain ⟨l⟩ := a
  match l, h with
  | [x], _ => exact ⟨x, rfl⟩
theorem args2 {a : Array Value} (h : a.size = 2) : ∃ x y, a = #[x, y] := by
  obtain ⟨l⟩ := a
  match l, h with
  | [x, y], _ => exact ⟨x, y, rfl⟩
theorem args3 {a : Array Value} (h : a.size = 3) : ∃ x y z, a = #[x, y, z] := by
  obtain ⟨l⟩ := a
  match l, h with
  | [x, y, z], _ => exact ⟨x, y, z, rfl⟩
theorem args4 {a : Array Value} (h : a.size = 4) : ∃ x y z u, a = #[x, y, z, u] := by
  obtain ⟨l⟩ := a
  match l, h with
  | [x, y, z, u], _ => exact ⟨x, y, z, u, rfl⟩
theorem laidOut_ : laidOutB Tryd.prog = true := by kernel_rfl
theorem ownKnob_ : ownKnob Tryd.prog.godebug = none := by kernel_rfl

theorem trodAll_keep {H : Type} {enc : TypeId × Value → H} {W W' : World} (hb : Q W W') : ∀ (ts : List TypeId) (vs : List Value) (ds : List (DataW H)) (ps : List MemPlace), (∀ t ∈ ts, Tryd.prog.readableRec t = true ∧ t < Tryd.prog.types.size) →
    DataW.TrodAll enc Tryd.prog W 0 (fun _ => true) true ts vs ds ps → (∀ x ∈ ps, x.block < W.heap.size) → DataW.TrodAll enc Tryd.prog W' 0 (fun b => decide (b < W.heap.size)) true ts vs ds ps
  | [], vs, ds, ps, _, h, _ => by
    obtain ⟨rfl, rfl, rfl⟩ := trodAll_nil h
    exact trodAll_mk0
  | t :: ts, vs, ds, ps, ht, h, hlt => by
    obtain ⟨v, vs', d, ds', p, q, rfl, rfl, rfl, h1, h2⟩ := trodAll_cons h
    exact ⟨p, q, Below.trod laidOut_ (ht t (by simp)).1 (ht t (by simp)).2 h1 hb.below (fun x hx => hlt x (by simp [hx])), trodAll_keep hb ts vs' ds' q (fun u hu => ht u (by simp [hu])) h2 (fun x hx => hlt x (by simp [hx])), rfl⟩

theorem trodAll_len {H : Type} {enc : TypeId × Value → H} {W : World} : ∀ (ts : List TypeId) (vs : List Value) (ds : List (DataW H)) (ps : List MemPlace), DataW.TrodAll enc Tryd.prog W 0 (fun _ => true) true ts vs ds ps → vs.length = ts.length ∧ ds.length = ts.length ∧
    ∀ (j : Nat) t v, ts[j]? = some t → vs[j]? = some v → ∃ d p, ds[j]? = some d ∧ DataW.Trod enc Tryd.prog W 0 (fun _ => true) true t v d p
  | [], vs, ds, ps, h => by
    obtain ⟨rfl, rfl, rfl⟩ := trodAll_nil h
    exact ⟨rfl, rfl, fun j t v hj => by simp at hj⟩
  | t :: ts, vs, ds, ps, h => by
    obtain ⟨v, vs', d, ds', p, q, rfl, rfl, rfl, h1, h2⟩ := trodAll_cons h
    obtain ⟨e1, e2, h3⟩ := trodAll_len ts vs' ds' q h2
    refine ⟨by simp [e1], by simp [e2], fun j t' v' hj hv => ?_⟩
    cases j with
    | zero =>
      simp only [List.getElem?_cons_zero, Option.some.injEq] at hj hv
      subst hj hv
      exact ⟨d, p, rfl, h1⟩
    | succ j => exact h3 j t' v' (by simpa using hj) (by simpa using hv)

/-- A walk of a law, whatever its arguments read as, gives what its row asks. -/
theorem framed {f : FuncId} {fn : Func} {s : ChangeSpec} {conds : List PathCond} (n : Nat) (hfn : Tryd.prog.funcs[f]? = some fn) (hn : fn.params.size = n) (hvars : s.vars = []) (hrt : fn.resultTypes = #[4])
    (noInit : Tryd.prog.inits.idxOf? f = none) (hread0 : fn.params.toList.all (fun t => Tryd.prog.readableRec t && decide (t < Tryd.prog.types.size)) = true)
    (hs : ∀ (H : Type) (ds : List (DataW H)), ds.length = n → (s.fn H ds).results = [.lit (.bool true)] ∧ (s.fn H ds).args = ds ∧ (s.fn H ds).vars = [])
    (walk : ∀ (W : World) (args : Array Value), args.size = n → (∀ (j : Nat) t v, fn.params[j]? = some t → args[j]? = some v → RdV W t v) → Calls Tryd.prog f args W fun e W' => e = .returned (.bool true) ∧ Q W W')
    (os : Os) (started : os.Started) (H : Type) (enc : TypeId × Value → H)
    (witness : ∃ (w : World) (tape : Tape) (i : Input), w.os = os ∧ (w.forCall tape i).Shaped Tryd.prog ∧ i.vars = [] ∧ Input.okWide Tryd.prog (w.forCall tape i) .any w.heap.size f i ∧
      s.pre6 enc Tryd.prog fn conds false (w.forCall tape i).memory i.args ∧ ({} : Assume).holds Tryd.prog (lone (Frame.enter Tryd.prog f i.args .normal) [] (w.forCall tape i))) :
    ReturnsInHanded {} Tryd.checked os f .any (s.pre6 enc Tryd.prog fn conds false) (s.post enc Tryd.prog fn false true false false) := by
  have hread : ∀ t ∈ fn.params.toList, Tryd.prog.readableRec t = true ∧ t < Tryd.prog.types.size := fun t ht => by
    have := List.all_eq_true.1 hread0 t ht
    simpa using this
  refine returnsInHanded_of_change_sized (C := Tryd.checked) ownKnob_ started noInit hfn witness ?_
  intro W base args ds gs before hval hW hcnd hsz _
  have hW' := hW
  have hlt : ∀ x ∈ before, x.block < W.heap.size := fun x hx => by simpa using hW.lt x hx
  obtain ⟨p, q, hA, hV, rfl, hfz, hnd⟩ := hW
  rw [hvars] at hV
  obtain ⟨rfl, rfl⟩ := trodVars_none hV
  obtain ⟨e1, e2, h3⟩ := trodAll_len _ _ _ _ hA
  have hps : fn.params.toList.length = n := by simpa using hn
  have hds : ds.length = n := by omega
  have hsz2 : ∀ x ∈ DataW.weightsEach Tryd.prog (fn.params.toList ++ s.plain.varTypes Tryd.prog) (ds ++ []), x ≤ 140737488351232 := fun x hx => by
    have := List.all_eq_true.1 hsz x hx
    simpa [reachBytes] using of_decide_eq_true this
  refine (walk W args (by rw [← hps, ← e1]; simp) fun j t v hj hv => ⟨⟨base, hval j t v hj hv⟩, ?_⟩).mono fun e W' ⟨he, hg⟩ => ?_
  · obtain ⟨d, p', hd, fuel, htr⟩ := h3 j t v (by simpa using hj) (by simpa using hv)
    have hjl : j < n := by
      have := (Array.getElem?_eq_some_iff.1 hj).1; omega
    refine ⟨H, enc, fuel, d, p', htr, fun x hx => hsz2 x (DataW.weights_mem_each (j := j) (t := t) (d := d) ?_ (by simpa using hd) x hx)⟩
    rw [List.getElem?_append_left (by omega)]
    simpa using hj
  · subst he
    simp only [List.append_nil] at hW' hlt
    obtain ⟨a1, a2, a3⟩ := hs H ds hds
    refine ⟨_, rfl, ds, [], p, [], p, [], hW', ?_, ?_, ?_, hg.below.frame _, fun h => by cases h⟩
    · rw [List.append_nil, a1, hrt]
      exact trodAll_mk1 (shut_bool Tryd.underlying4 _)
    · rw [List.append_nil, a2]
      exact trodAll_keep hg _ _ _ _ hread hA hlt
    · rw [List.append_nil, a3, hvars]
      rfl
end Go.Proofs.YtplhkppikkbkkaaDoor

/- Lists whose elements lie flat in memory, out of what is known of each element. -/
namespace Go.Proofs.YtplhkppikkbkkaaDoor
set_option maxRecDepth 100000
open Go.ChangeShapes Go.WideShapes Go.RowKit
set_option linter.unusedVariables false

theorem choose_list {α : Type} {R : Nat → α → Prop} : ∀ (n : Nat), (∀ i, i < n → ∃ a, R i a) → ∃ l : List α, l.length = n ∧ ∀ i (hi : i < l.length), R i l[i]
  | 0, _ => ⟨[], rfl, fun i hi => by simp at hi⟩
  | n + 1, h => by
    obtain ⟨l, hl, hr⟩ := choose_list n (fun i hi => h i (by omega))
    obtain ⟨a, ha⟩ := h n (by omega)
    refine ⟨l ++ [a], by simp [hl], fun i hi => ?_⟩
    by_cases hlt : i < l.length
    · rw [List.getElem_append_left hlt]; exact hr i hlt
    · have e : i = l.length := by simp at hi; omega
      subst e
      rw [List.getElem_append_right (Nat.le_refl _)]
      simpa [hl] using ha

theorem flat_at {α : Type} (g : α → List Value) (k : Nat) (hg : ∀ a, (g a).length = k) : ∀ (l : List α) (j : Nat) (u : Value), (l.flatMap g)[j]? = some u → ∃ i r, ∃ hi : i < l.length, j = i * k + r ∧ r < k ∧ (g l[i])[r]? = some u
  | [], j, u, h => by simp at h
  | a :: l, j, u, h => by
    rw [List.flatMap_cons] at h
    by_cases hj : j < k
    · rw [List.getElem?_append_left (by rw [hg]; exact hj)] at h
      exact ⟨0, j, by simp, by omega, hj, by simpa using h⟩
    · rw [List.getElem?_append_right (by rw [hg]; omega), hg] at h
      obtain ⟨i, r, hi, he, hr, hu⟩ := flat_at g k hg l (j - k) u h
      refine ⟨i + 1, r, by simpa using hi, ?_, hr, by simpa using hu⟩
      rw [Nat.succ_mul]; omega
theorem flat_len {α : Type} (g : α → List Value) (k : Nat) (hg : ∀ a, (g a).length = k) : ∀ (l : List α), (l.flatMap g).length = l.length * k
  | [] => by simp
  | a :: l => by rw [List.flatMap_cons, List.length_append, hg, flat_len g k hg l, List.length_cons, Nat.succ_mul]; omega
theorem holds_flat {α : Type} (g : α → List Value) (k : Nat) (hg : ∀ a, (g a).length = k) (w : World) (ad : Addr) (l : List α) (h : ∀ i (hi : i < l.length), w.cells? 0 (ad.add (i * k)) k = some (g l[i])) :
    Holds w w.heap.size k (some ad) l.length (l.flatMap g) := by
  refine ⟨flat_len g k hg l, fun j u hu => ?_⟩
  obtain ⟨i, r, hi, rfl, hr, hv⟩ := flat_at g k hg l j u hu
  obtain ⟨_, _, hat⟩ := World.cells?_some (h i hi)
  have hc := hat r hr
  rw [hv, addr_add] at hc
  refine ⟨ad, rfl, ?_, hc⟩
  have := block_lt_of_cell hc
  rwa [addr_block] at this

theorem wf_i64 {x : Int} (h : (Lit.int .i64 x).wf = true) : -9223372036854775808 ≤ x ∧ x ≤ 9223372036854775807 := by
  simp only [Lit.wf, Bool.and_eq_true, decide_eq_true_eq] at h
  have e1 : IntKind.i64.min = -9223372036854775808 := by decide
  have e2 : IntKind.i64.max = 9223372036854775807 := by decide
  omega
end Go.Proofs.YtplhkppikkbkkaaDoor

/- What comes in: files, disks, lists of integers, opened out of a reading. -/
namespace Go.Proofs.YtplhkppikkbkkaaDoor
set_option maxRecDepth 100000
open Go.ChangeShapes Go.WideShapes Go.RowKit Dkm
set_option linter.unusedVariables false

theorem rows_flat (l : List Fil) : rows l = l.flatMap Fil.row := by
  induction l with
  | nil => rfl
  | cons f l ih => rw [rows, ih, List.flatMap_cons]

/-- a file's texts are within the reach. -/
def FilIn (f : Fil) : Prop := f.nm.size ≤ 140737488351232 ∧ f.sf.size ≤ 140737488351232 ∧ f.wt.size ≤ 140737488351232

theorem open_file {w : World} {cs : List Value} (h : Rd w 65 cs) : ∃ f : Fil, cs = f.row ∧ FilIn f := by
  obtain ⟨hl, hf⟩ := h.struct Tryd.underlying65
  rw [show Tryd.prog.cellsOf 65 = 3 by kernel_rfl] at hl
  match cs, hl with
  | [a, b, c], _ =>
    obtain ⟨s0, e0, r0⟩ := (h.field Tryd.underlying65 0 (ty := 9) 0 1 rfl (by kernel_rfl)).string Tryd.underlying9
    obtain ⟨s1, e1, r1⟩ := (h.field Tryd.underlying65 1 (ty := 9) 1 1 rfl (by kernel_rfl)).string Tryd.underlying9
    obtain ⟨s2, e2, r2⟩ := (h.field Tryd.underlying65 2 (ty := 9) 2 1 rfl (by kernel_rfl)).string Tryd.underlying9
    simp at e0 e1 e2
    subst e0 e1 e2
    exact ⟨⟨s0, s1, s2⟩, rfl, r0, r1, r2⟩

theorem open_files {w : World} {cs : List Value} (h : Rd w 22 cs) : ∃ A n c l, cs = [.slice A n c] ∧ Dsk w A n c l ∧ ∀ f ∈ l, FilIn f := by
  rcases h.slice Tryd.underlying22 with rfl | ⟨a, len, cap, rfl, hlc, hcm, hby, hi⟩
  · exact ⟨none, 0, 0, [], rfl, ⟨Holds.none_ _ _ _ _, fun _ => ⟨rfl, rfl⟩, Nat.le_refl _, Nat.zero_le _, by omega⟩, by simp⟩
  · rw [show Tryd.prog.bytesOf 65 = 48 by kernel_rfl] at hby
    rw [show Tryd.prog.cellsOf 65 = 3 by kernel_rfl] at hi
    obtain ⟨l, hl, hr⟩ := choose_list (R := fun i (f : Fil) => w.cells? 0 (a.add (i * 3)) 3 = some f.row ∧ FilIn f) len (fun i hlt => by
      obtain ⟨cs', hc, hrd⟩ := hi i (by omega)
      obtain ⟨f, rfl, hf⟩ := open_file hrd
      exact ⟨f, hc, hf⟩)
    refine ⟨some a, len, cap, l, rfl, ⟨?_, fun e => by (cases e), hlc, hcm, by omega⟩, fun f hf => ?_⟩
    · have := holds_flat Fil.row 3 (fun f => rfl) w a l (fun i hi => (hr i hi).1)
      rw [hl, ← rows_flat] at this
      exact this
    · obtain ⟨i, hi, rfl⟩ := List.getElem_of_mem hf
      exact (hr i hi).2

theorem flat_one (f : Int → Value) : ∀ (l : List Int), l.flatMap (fun x : Int => [f x]) = l.map f
  | [] => rfl
  | a :: l => by rw [List.flatMap_cons, flat_one f l]; rfl
theorem open_ints {w : World} {cs : List Value} (h : Rd w 45 cs) : ∃ A n c ks, cs = [.slice A n c] ∧ Ints w A n ks ∧ n * 8 ≤ 140737488351232 ∧ n ≤ c ∧ ∀ x ∈ ks, (Lit.int .i64 x).wf = true := by
  rcases h.slice Tryd.underlying45 with rfl | ⟨a, len, cap, rfl, hlc, hcm, hby, hi⟩
  · exact ⟨none, 0, 0, [], rfl, Holds.none_ _ _ _ _, by omega, by omega, by simp⟩
  · rw [show Tryd.prog.bytesOf 3 = 8 by kernel_rfl] at hby
    rw [show Tryd.prog.cellsOf 3 = 1 by kernel_rfl] at hi
    obtain ⟨l, hl, hr⟩ := choose_list (R := fun i (x : Int) => w.cells? 0 (a.add (i * 1)) 1 = some [.int .i64 x] ∧ (Lit.int .i64 x).wf = true) len (fun i hlt => by
      obtain ⟨cs', hc, hrd⟩ := hi i (by omega)
      obtain ⟨x, rfl, hx⟩ := hrd.int Tryd.underlying3
      exact ⟨x, hc, hx⟩)
    refine ⟨some a, len, cap, l, rfl, ?_, by omega, hlc, fun x hx => ?_⟩
    · have := holds_flat (fun x : Int => [Value.int .i64 x]) 1 (fun f => rfl) w a l (fun i hi => (hr i hi).1)
      rw [hl, flat_one] at this
      exact this
    · obtain ⟨i, hi, rfl⟩ := List.getElem_of_mem hx
      exact (hr i hi).2

/-- a disk as it comes in. -/
structure DkIn (w : World) (A : Option Addr) (n c : Nat) (d : Dk) : Prop where
  dsk : Dsk w A n c d.fs
  fil : ∀ f ∈ d.fs, FilIn f
  room : -9223372036854775808 ≤ d.room ∧ d.room ≤ 9223372036854775807
  fuse : -9223372036854775808 ≤ d.fuse ∧ d.fuse ≤ 9223372036854775807
theorem open_disk {w : World} {cs : List Value} (h : Rd w 24 cs) : ∃ A n c d, cs = [.slice A n c, .int .i64 d.room, .int .i64 d.fuse, .bool d.off] ∧ DkIn w A n c d := by
  obtain ⟨hl, hf⟩ := h.struct Tryd.underlying24
  rw [show Tryd.prog.cellsOf 24 = 4 by kernel_rfl] at hl
  match cs, hl with
  | [x, y, z, u], _ =>
    obtain ⟨A, n, c, l, e0, hd, hi⟩ := open_files (h.field Tryd.underlying24 0 (ty := 22) 0 1 rfl (by kernel_rfl))
    obtain ⟨r, e1, hr⟩ := (h.field Tryd.underlying24 1 (ty := 3) 1 1 rfl (by kernel_rfl)).int Tryd.underlying3
    obtain ⟨s, e2, hs⟩ := (h.field Tryd.underlying24 2 (ty := 3) 2 1 rfl (by kernel_rfl)).int Tryd.underlying3
    obtain ⟨b, e3⟩ := (h.field Tryd.underlying24 3 (ty := 4) 3 1 rfl (by kernel_rfl)).bool Tryd.underlying4
    simp at e0 e1 e2 e3
    subst e0 e1 e2 e3
    exact ⟨A, n, c, ⟨l, r, s, b⟩, rfl, hd, hi, wf_i64 hr, wf_i64 hs⟩

/-- an act. -/
structure Ac where
  kind : Int
  num : Int
  nm : ByteArray
  s : ByteArray
def Ac.row (a : Ac) : List Value := [.int .i64 a.kind, .int .i64 a.num, .string a.nm, .string a.s]
def AcIn (a : Ac) : Prop := (-9223372036854775808 ≤ a.num ∧ a.num ≤ 9223372036854775807) ∧ a.nm.size ≤ 140737488351232 ∧ a.s.size ≤ 140737488351232
/-- a slice of acts reads so. -/
def Acts (w : World) (A : Option Addr) (n : Nat) (l : List Ac) : Prop := Holds w w.heap.size 4 A n (l.flatMap Ac.row)
theorem Acts.q {w w' : World} {A : Option Addr} {n : Nat} {l : List Ac} (h : Acts w A n l) (hq : Q w w') : Acts w' A n l := Holds.q h hq
theorem Acts.len {w : World} {A : Option Addr} {n : Nat} {l : List Ac} (h : Acts w A n l) : l.length = n := by
  have := h.1; rw [flat_len Ac.row 4 (fun _ => rfl)] at this; omega
theorem flat_get {α : Type} (g : α → List Value) (k : Nat) (hg : ∀ a, (g a).length = k) : ∀ (l : List α) (i : Nat) (hi : i < l.length) (r : Nat), r < k → (l.flatMap g)[i * k + r]? = (g l[i])[r]?
  | a :: l, 0, hi, r, hr => by
    rw [List.flatMap_cons, Nat.zero_mul, Nat.zero_add, List.getElem?_append_left (by rw [hg]; exact hr)]; rfl
  | a :: l, i + 1, hi, r, hr => by
    rw [List.flatMap_cons, List.getElem?_append_right (by rw [hg, Nat.succ_mul]; omega), hg, show (i + 1) * k + r - k = i * k + r by rw [Nat.succ_mul]; omega]
    exact flat_get g k hg l i (by simpa using hi) r hr
theorem Acts.load {w : World} {A : Option Addr} {n : Nat} {l : List Ac} (h : Acts w A n l) {k : Nat} (hl : k < l.length) :
    ∃ ad, A = some ad ∧ ad.block < w.heap.size ∧ w.cell? (ad.add (k * 4)) = some (.int .i64 l[k].kind) ∧ w.cell? ⟨(ad.add (k * 4)).block, (ad.add (k * 4)).off + 1, none⟩ = some (.int .i64 l[k].num) ∧
      w.cell? ⟨(ad.add (k * 4)).block, (ad.add (k * 4)).off + 2, none⟩ = some (.string l[k].nm) ∧ w.cell? ⟨(ad.add (k * 4)).block, (ad.add (k * 4)).off + 3, none⟩ = some (.string l[k].s) := by
  have g := fun r hr => flat_get Ac.row 4 (fun _ => rfl) l k hl r hr
  obtain ⟨ad, rfl, hb, c0⟩ := h.2 (k * 4 + 0) _ (g 0 (by omega))
  obtain ⟨_, e1, _, c1⟩ := h.2 (k * 4 + 1) _ (g 1 (by omega))
  obtain ⟨_, e2, _, c2⟩ := h.2 (k * 4 + 2) _ (g 2 (by omega))
  obtain ⟨_, e3, _, c3⟩ := h.2 (k * 4 + 3) _ (g 3 (by omega))
  injection e1 with e1; subst e1
  injection e2 with e2; subst e2
  injection e3 with e3; subst e3
  rw [← addr_add] at c1 c2 c3
  exact ⟨ad, rfl, hb, c0, c1, c2, c3⟩
end Go.Proofs.YtplhkppikkbkkaaDoor

/- A disk in a law's variable, its list elsewhere. -/
namespace Go.Proofs.YtplhkppikkbkkaaDoor
set_option maxRecDepth 100000
open Go.RowKit Dkm
set_option linter.unusedVariables false

structure DVA (W : World) (B : Nat) (A : Option Addr) (n c : Nat) (d : Dk) : Prop where
  dv : DV W B A n c d
  away : ∀ ad, A = some ad → ad.block ≠ B
theorem DVA.q {W W' : World} {B : Nat} {A : Option Addr} {n c : Nat} {d : Dk} (h : DVA W B A n c d) (hq : Q W W') : DVA W' B A n c d := ⟨h.dv.q hq, h.away⟩
theorem DVA.put {W W' : World} {B : Nat} {A A' : Option Addr} {n c n' c' : Nat} {d d' : Dk} (h : DVA W B A n c d) (hq : Q W W') (hd : Dsk W' A' n' c' d'.fs) (ha : A' = A ∨ ∀ ad, A' = some ad → W.heap.size ≤ ad.block) :
    DVA ((((W'.setCell ⟨B, 0, none⟩ (.slice A' n' c')).setCell ⟨B, 1, none⟩ (.int .i64 d'.room)).setCell ⟨B, 2, none⟩ (.int .i64 d'.fuse)).setCell ⟨B, 3, none⟩ (.bool d'.off)) B A' n' c' d' := by
  have hlt := h.dv.box.lt
  have haw : ∀ ad, A' = some ad → ad.block ≠ B := by
    intro ad e
    rcases ha with rfl | ha
    · exact h.away ad e
    · have := ha ad e; omega
  exact ⟨⟨(h.dv.box.q hq).put4 _ _ _ _, (((hd.away haw 0 _).away haw 1 _).away haw 2 _).away haw 3 _⟩, haw⟩

/-- behind 'd, _ = does(d, ..)': the variable has what the act made of the disk. -/
def Cu (w : World) (B : Nat) (r : Dk) (wx : World) : Prop := ∃ A n c, DVA wx B A n c r ∧ Q w wx
end Go.Proofs.YtplhkppikkbkkaaDoor

/- The document's example of chapter 4. -/
namespace Go.Proofs.YtplhkppikkbkkaaDoor
set_option maxRecDepth 100000
open Go.RowKit Dkm Wm
set_option linter.unusedVariables false

namespace Wm
def W1 : ByteArray := ⟨#[119, 49]⟩
def SA : ByteArray := ⟨#[49, 59, 97, 54, 52, 50, 50, 54, 50, 54, 59]⟩
def SB : ByteArray := ⟨#[49, 59, 98, 54, 52, 56, 56, 49, 54, 51, 59]⟩
def S4 : ByteArray := ⟨#[49, 59, 97, 54, 52, 50, 50, 54, 50, 54, 59, 49, 59, 98]⟩
def EB : ByteArray := ⟨#[]⟩
theorem nam1 : namB 1 = W1 := by
  unfold namB nam
  rw [if_pos (by decide), show (1 : Int).toNat = 1 from rfl, show Dm.dg 1 = [49] by rw [Dm.dg]; rfl]; rfl
theorem nam2 : namB 2 = ⟨#[119, 50]⟩ := by
  unfold namB nam
  rw [if_pos (by decide), show (2 : Int).toNat = 2 from rfl, show Dm.dg 2 = [50] by rw [Dm.dg]; rfl]
theorem ex_b : Sm.adler [98] = 6488163 := by decide
theorem ex_sldb : sld [98] = [49, 59, 98, 54, 52, 56, 56, 49, 54, 51, 59] := by
  unfold sld Dm.num
  rw [ex_b]
  have e1 : Dm.dg 1 = [49] := by rw [Dm.dg]; rfl
  have f0 : Dm.dg 6 = [54] := by rw [Dm.dg]; rfl
  have f1 : Dm.dg 64 = [54, 52] := by rw [Dm.dg, if_neg (by omega), show 64 / 10 = 6 from rfl, f0]; rfl
  have f2 : Dm.dg 648 = [54, 52, 56] := by rw [Dm.dg, if_neg (by omega), show 648 / 10 = 64 from rfl, f1]; rfl
  have f3 : Dm.dg 6488 = [54, 52, 56, 56] := by rw [Dm.dg, if_neg (by omega), show 6488 / 10 = 648 from rfl, f2]; rfl
  have f4 : Dm.dg 64881 = [54, 52, 56, 56, 49] := by rw [Dm.dg, if_neg (by omega), show 64881 / 10 = 6488 from rfl, f3]; rfl
  have f5 : Dm.dg 648816 = [54, 52, 56, 56, 49, 54] := by rw [Dm.dg, if_neg (by omega), show 648816 / 10 = 64881 from rfl, f4]; rfl
  have f6 : Dm.dg 6488163 = [54, 52, 56, 56, 49, 54, 51] := by rw [Dm.dg, if_neg (by omega), show 6488163 / 10 = 648816 from rfl, f5]; rfl
  rw [show (6488163 : Int).toNat = 6488163 from rfl, f6, show ([98] : List UInt8).length = 1 from rfl, e1]; rfl
theorem seal1 : sealB ⟨#[97]⟩ = SA := by
  unfold sealB; rw [show (⟨#[97]⟩ : ByteArray).data.toList = [97] from rfl, ex_sld]; rfl
theorem seal2 : sealB ⟨#[98]⟩ = SB := by
  unfold sealB; rw [show (⟨#[98]⟩ : ByteArray).data.toList = [98] from rfl, ex_sldb]; rfl
def d1 : Dk := ⟨[⟨W1, EB, SA⟩], 89, -1, false⟩
def d2 : Dk := ⟨[⟨W1, SA, EB⟩], 89, -1, false⟩
def d3 : Dk := ⟨[⟨W1, SA, SB⟩], 78, -1, false⟩
def d4 : Dk := ⟨[⟨W1, S4, EB⟩], 86, -1, false⟩
theorem x1 : putM ⟨[], 100, -1, false⟩ 1 ⟨#[97]⟩ = (d1, 1, 0) := by
  unfold putM; rw [if_neg (by decide), if_neg (by decide)]
  unfold putB; rw [nam1, if_pos (by decide)]
  unfold putA; rw [nam1, seal1]; rfl
theorem x2 : syncM d1 1 = (d2, 0) := by
  unfold syncM; rw [nam1]; rfl
theorem x3 : putM d2 1 ⟨#[98]⟩ = (d3, 1, 0) := by
  unfold putM; rw [if_neg (by decide), if_neg (by decide)]
  unfold putB; rw [nam1, if_pos (by decide)]
  unfold putA; rw [nam1, seal2]; rfl
theorem x4 : crs d3 [3] = d4 := by
  simp [crs, crl, croom, crf, kp, wrap64, d3, d4]
  exact ⟨by decide, by decide⟩
theorem scn4 : scn S4.data.toList = ([[97]], [49, 59, 98]) := by
  have h := scn_part [[97]] (by simp) (q := [49, 59, 98]) ⟨[98], by decide, 3, by rw [ex_sldb]; decide, by rw [ex_sldb]; rfl⟩
  rw [flat_cons, flat_nil, ex_sld] at h
  exact h
theorem flat1 : (⟨(flat [[97]]).toArray⟩ : ByteArray) = SA := by rw [flat_cons, flat_nil, ex_sld]; rfl
theorem dels_none {n : Nat} {d : Dk} {k : Int} (h : (hit (namB k) d.fs).2 = false) : dels n d k = (d, 0) := by
  cases n with
  | zero => rfl
  | succ n => unfold dels; rw [if_neg (by rw [h]; simp)]
theorem c1 : cut1 d4 = (d4, 0) := by rfl
theorem c2 : cut2 d4 SA = (⟨[⟨W1, S4, EB⟩, ⟨freshB, EB, SA⟩], 75, -1, false⟩, 0) := by unfold cut2; rw [c1]; rfl
theorem c3 : cut3 d4 SA = (⟨[⟨W1, S4, EB⟩, ⟨freshB, SA, EB⟩], 75, -1, false⟩, 0) := by unfold cut3; rw [c2]; rfl
theorem c4 : ∃ r, cut4 d4 1 SA = (⟨[⟨W1, SA, EB⟩], r, -1, false⟩, 0) := by unfold cut4; rw [c3, nam1]; exact ⟨_, rfl⟩
theorem c5 : ∃ r, cutM d4 1 SA = (⟨[⟨W1, SA, EB⟩], r, -1, false⟩, 0) := by
  obtain ⟨r, h⟩ := c4
  refine ⟨r, ?_⟩
  unfold cutM; rw [h, if_pos rfl, show (1 : Int) + 1 = 2 from rfl]
  exact dels_none (by rw [nam2]; rfl)
theorem x5 : ∃ y, recM d4 1 = (y, [[97]], 1, 0) := by
  obtain ⟨r, h⟩ := c5
  refine ⟨⟨[⟨W1, SA, EB⟩], r, -1, false⟩, ?_⟩
  unfold recM; rw [if_neg (by decide)]
  rw [recF_cut (s := S4) (y := (⟨[⟨W1, SA, EB⟩], r, -1, false⟩, 0)) (by decide) (by rw [nam1]; rfl) (by rw [scn4]; simp) (by rw [scn4, flat1]; exact h)]
  rw [scn4]; rfl
theorem bnd0 {B : Nat} {room : Int} (h : In64 room) : Bnd B ⟨[], room, -1, false⟩ := ⟨by simp, by simp, h, by unfold In64; simp⟩
end Wm

theorem strs_one {w : World} {A : Option Addr} {n : Nat} {r : List UInt8} (h : Strs w A n [r]) : n = 1 ∧ ∃ ad, A = some ad ∧ ad.block < w.heap.size ∧ w.cell? ad = some (.string (bs r)) := by
  have h1 := h.1
  obtain ⟨ad, e, hb, hc⟩ := h.2 0 _ rfl
  exact ⟨by simpa using h1.symm, ad, e, hb, by unfold Addr.add at hc; simpa using hc⟩

set_option maxHeartbeats 4000000 in
theorem wshown_any (w : World) (hT : Tab w) : Calls Tryd.prog 5 #[] w fun e w' => e = .returned (.bool true) ∧ Q w w' := by
  have HT := Lib.hid hT
  have B0 := Lib.hid (bnd0 (B := 2305843009213693952) (room := 100) (by unfold In64; omega))
  have B1 := Lib.hid (show Bnd 2305843009213693952 d1 by have := B0.out.putM (by omega) 1 ⟨#[97]⟩; rw [x1] at this; exact this)
  have B2 := Lib.hid (show Bnd 2305843009213693952 d2 by have := B1.out.syncM 1; rw [x2] at this; exact this)
  have B4 : Hid (Bnd 2097152 d4) := Lib.hid ⟨by simp [d4]; decide, by simp [d4], by simp [In64, d4], by simp [In64, d4]⟩
  have M1 := Lib.hid (show ∀ f ∈ d1.fs, f.sf.size + f.wt.size ≤ maxLen from fun f hf => Nat.le_trans (B1.out.sum f hf) (by unfold maxLen; omega))
  clear hT
  go_enter Tryd.func5, Tryd.ntmps5
  go_wp2_with fail
  refine (ref_new_any 100 _ (by omega)).mono ?_
  rintro e w1 ⟨rfl, q1⟩
  have V1 := Lib.hid (DVA.mk (DV.new (W := w1) (d := ⟨[], 100, -1, false⟩) (dsk_nil w1)) (fun ad e => by cases e))
  have QA := Lib.hid (q1.alloc (.cells #[.slice none 0 0, .int .i64 100, .int .i64 (-1), .bool false] 24))
  have hz : w.heap.size ≤ w1.heap.size := q1.size
  clear q1
  go_upto_region 2 with (fail)
  generalize (w1.alloc (.cells #[.slice none 0 0, .int .i64 100, .int .i64 (-1), .bool false] 24)) = W at V1 QA ⊢
  generalize w1.heap.size = B at V1 hz ⊢
  obtain ⟨⟨e0, e1, e2, e3⟩, f0, f1, f2', f3⟩ := V1.out.dv.get
  go_wp2_with fail
  have k2 := put_any 1 ⟨#[97]⟩ none 0 0 ⟨[], 100, -1, false⟩ W (HT.out.q QA.out) V1.out.dv.dsk B0.out (by unfold maxLen; decide)
  rw [x1] at k2
  refine k2.mono ?_
  clear k2
  rintro e w2 ⟨A2, n2, c2, rfl, hd2, hf2, q2⟩
  clear e0 e1 e2 e3 f0 f1 f2' f3
  obtain ⟨⟨e0, e1, e2, e3⟩, f0, f1, f2', f3⟩ := (V1.out.q q2).dv.get
  have V2 := Lib.hid (V1.out.put q2 (d' := d1) hd2 (.inr hf2))
  have QB := Lib.hid ((QA.out.trans q2).set4 hz (.slice A2 n2 c2) (.int .i64 d1.room) (.int .i64 d1.fuse) (.bool d1.off))
  clear V1 QA q2 hd2 hf2
  go_upto_region 3 with (fail)
  generalize ((((w2.setCell ⟨B, 0, none⟩ (.slice A2 n2 c2)).setCell ⟨B, 1, none⟩ (.int .i64 d1.room)).setCell ⟨B, 2, none⟩ (.int .i64 d1.fuse)).setCell ⟨B, 3, none⟩ (.bool d1.off)) = W2 at V2 QB ⊢
  clear e0 e1 e2 e3 f0 f1 f2' f3
  obtain ⟨⟨e0, e1, e2, e3⟩, f0, f1, f2', f3⟩ := V2.out.dv.get
  go_wp2_with fail
  have k3 := wsync_any 1 A2 n2 c2 d1 W2 (HT.out.q QB.out) V2.out.dv.dsk M1.out
  rw [x2] at k3
  refine k3.mono ?_
  clear k3
  rintro e w3 ⟨A3, n3, c3, rfl, hd3, hf3, q3⟩
  clear e0 e1 e2 e3 f0 f1 f2' f3
  obtain ⟨⟨e0, e1, e2, e3⟩, f0, f1, f2', f3⟩ := (V2.out.q q3).dv.get
  have V3 := Lib.hid (V2.out.put q3 (d' := d2) hd3 (.inr hf3))
  have QC := Lib.hid ((QB.out.trans q3).set4 hz (.slice A3 n3 c3) (.int .i64 d2.room) (.int .i64 d2.fuse) (.bool d2.off))
  clear V2 QB q3 hd3 hf3
  go_upto_region 4 with (fail)
  generalize ((((w3.setCell ⟨B, 0, none⟩ (.slice A3 n3 c3)).setCell ⟨B, 1, none⟩ (.int .i64 d2.room)).setCell ⟨B, 2, none⟩ (.int .i64 d2.fuse)).setCell ⟨B, 3, none⟩ (.bool d2.off)) = W3 at V3 QC ⊢
  clear e0 e1 e2 e3 f0 f1 f2' f3
  obtain ⟨⟨e0, e1, e2, e3⟩, f0, f1, f2', f3⟩ := V3.out.dv.get
  go_wp2_with fail
  have k4 := put_any 1 ⟨#[98]⟩ A3 n3 c3 d2 W3 (HT.out.q QC.out) V3.out.dv.dsk B2.out (by unfold maxLen; decide)
  rw [x3] at k4
  refine k4.mono ?_
  clear k4
  rintro e w4 ⟨A4, n4, c4, rfl, hd4, hf4, q4⟩
  clear e0 e1 e2 e3 f0 f1 f2' f3
  obtain ⟨⟨e0, e1, e2, e3⟩, f0, f1, f2', f3⟩ := (V3.out.q q4).dv.get
  have V4 := Lib.hid (V3.out.put q4 (d' := d3) hd4 (.inr hf4))
  have QD := Lib.hid ((QC.out.trans q4).set4 hz (.slice A4 n4 c4) (.int .i64 d3.room) (.int .i64 d3.fuse) (.bool d3.off))
  clear V3 QC q4 hd4 hf4
  go_upto_region 5 with (fail)
  generalize ((((w4.setCell ⟨B, 0, none⟩ (.slice A4 n4 c4)).setCell ⟨B, 1, none⟩ (.int .i64 d3.room)).setCell ⟨B, 2, none⟩ (.int .i64 d3.fuse)).setCell ⟨B, 3, none⟩ (.bool d3.off)) = W4 at V4 QD ⊢
  clear e0 e1 e2 e3 f0 f1 f2' f3
  obtain ⟨⟨e0, e1, e2, e3⟩, f0, f1, f2', f3⟩ := V4.out.dv.get
  go_wp2_with fail
  have k5 := ref_crash A4 n4 c4 d3.room d3.fuse d3.off (some ⟨W4.heap.size, 0, none⟩) 1 1 [3] d3.fs _ (V4.out.dv.dsk.q ((Q.refl _).alloc (.cells #[.int .i64 3] 3))) (ints_lit1 W4 3) (by unfold maxLen; omega) (by simp [d3, maxLen]; decide)
  rw [show (⟨d3.fs, d3.room, d3.fuse, d3.off⟩ : Dk) = d3 from rfl, x4] at k5
  refine k5.mono ?_
  clear k5
  rintro e w5 ⟨A5, n5, c5, rfl, ho5, q5⟩
  have QE := Lib.hid ((QD.out.alloc (.cells #[.int .i64 3] 3)).trans q5)
  have hn5 : n5 = 1 := ho5.len.symm
  subst hn5
  have HO := Lib.hid (ho5.dsk (by omega))
  clear ho5 q5 e0 e1 e2 e3 f0 f1 f2' f3 V4 QD
  go_wp2_with fail
  have k6 := recover_any 1 A5 1 c5 d4 w5 (HT.out.q QE.out) HO.out B4.out
  obtain ⟨y6, hx5⟩ := x5
  rw [hx5] at k6
  clear hx5
  refine k6.mono ?_
  clear k6
  rintro e w6 ⟨A6, n6, c6, L, ln, lc, rfl, hd6, hf6, hl6, q6⟩
  obtain ⟨rfl, ad, rfl, hbl, hcell⟩ := strs_one hl6.strs
  have hbn : ad.block ≠ w6.heap.size := by omega
  have QF := Lib.hid (QE.out.trans q6)
  clear hd6 hf6 hl6 q6
  have hcell' : w6.cell? ad = some (.string ⟨#[97]⟩) := hcell
  clear hcell
  go_wp2
  all_goals go_ret
  all_goals exact ⟨rfl, by first | exact QF.out.alloc _ | exact (QF.out.alloc _).drew⟩
end Go.Proofs.YtplhkppikkbkkaaDoor
