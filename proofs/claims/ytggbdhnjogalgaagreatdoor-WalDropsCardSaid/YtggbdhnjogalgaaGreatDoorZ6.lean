/- Present, ErrsLaid, WalScan, WalScan2, WalRec, DiskRef5: merged. -/
import Derived.Test.YtggbdhnjogalgaaGreatDoorZ5
import Derived.Test.YtggbdhnjogalgaaGreatDoorZ3
import Derived.Lib.OwnBridge
import Derived.Test.YtggbdhnjogalgaaGreatDoorZ1
import Derived.LaidHandle
import Derived.LaidSub
import Derived.Stop.LaidTwo
import Derived.RangeFuncBox
import Derived.RangeFuncNested
import Derived.RangeFuncBound
import Derived.RangeFuncCalls
import Derived.RangeFuncLeaves
import Derived.Shelf.Abstract
import Derived.Shelf.RegionOpen
import Derived.WalkKit
import Derived.OwnWalkIn
import Derived.TacticsInMore
import Derived.LoopNIn
import Derived.LoopIn
import Derived.Maps.AppendAt
/- Contract: wal.present: the numbers of the segments that are there. -/
namespace Go.Proofs.YtggbdhnjogalgaaGreatDoor
set_option maxRecDepth 100000
open Go.RowKit Dkm Wm
set_option linter.unusedVariables false
set_option linter.unusedSimpArgs false

/-- the two errors of strconv: they hold an error. -/
structure Errs (w : World) : Prop where
  sy : ∃ ev, w.cell? ⟨0, 0, none⟩ = some ev ∧ (ev = .nilIface ∨ ∃ te pe, ev = .iface te pe)
  ra : ∃ ev, w.cell? ⟨1, 0, none⟩ = some ev ∧ (ev = .nilIface ∨ ∃ te pe, ev = .iface te pe)
theorem Errs.q {w w' : World} (h : Errs w) (q : Q w w') : Errs w' := by
  obtain ⟨⟨e, h1, h2⟩, f, h3, h4⟩ := h
  exact ⟨⟨e, box_ q h1, h2⟩, f, box_ q h3, h4⟩

theorem atoi_ok (s : ByteArray) (v : Int) (h : Lib.atoiAll s.data.toList = .ok v) (hs : s.size ≤ 140737488355328) (w : World) :
    Calls Tryz.prog 45 #[.string s] w fun e w' => e = .returned (.tuple #[.int .i64 v, .nilIface]) ∧ Q w w' := by
  refine (Tryz.strconv_Atoi_ok s (by omega) v h w).mono fun e w' hx => ?_
  obtain ⟨he, h1 | ⟨t, h1⟩⟩ := hx
  · exact ⟨he, h1 ▸ Q.refl w⟩
  · exact ⟨he, h1 ▸ Lib.bytesWorld_below w _ t⟩
theorem atoi_no (s : ByteArray) (h : ∀ v, Lib.atoiAll s.data.toList ≠ .ok v) (hs : s.size ≤ 140737488355328) (w : World) (hE : Errs w) :
    Calls Tryz.prog 45 #[.string s] w fun e w' => ∃ v t p, e = .returned (.tuple #[.int .i64 v, .iface t (.pointer (some p))]) ∧ Q w w' := by
  obtain ⟨⟨e1, g1, k1⟩, e2, g2, k2⟩ := hE
  rcases ha : Lib.atoiAll s.data.toList with v | _ | _
  · exact absurd ha (h v)
  · refine (Tryz.strconv_Atoi_syntax s (by omega) ha e1 w g1 k1).mono fun e w' hx => ?_
    obtain ⟨N, he, _, _, hb⟩ := hx
    exact ⟨_, _, _, he, hb⟩
  · refine (Tryz.strconv_Atoi_range s (by omega) ha e2 w g2 k2).mono fun e w' hx => ?_
    obtain ⟨N, he, _, _, hb⟩ := hx
    exact ⟨_, _, _, he, hb⟩

theorem num_holds {w : World} {base g n c : Nat} {l : List Int} (h : OwnK numK w base (some ⟨g, 0, none⟩) n c l) : Go.Sort.Holds (Value.int .i64) w g 0 l.toArray ∧ g < w.heap.size ∧ base ≤ g ∧ n ≤ c ∧ c ≤ maxLen ∧ l.length = n := by
  unfold OwnK at h
  rw [numK_rows] at h
  obtain ⟨g', cap, e, h1, h2, h3, h4, h5, h6⟩ := Lib.holds_of_ownsRow h (by intro e; cases e)
  injection e with e1 e2 e3
  injection e1 with e1
  injection e1 with e1
  subst e1
  exact ⟨h6, h2, h1, by omega, by omega, h5⟩
theorem num_put {w : World} {base g n c q k : Nat} {l ys : List Int} (h : OwnK numK w base (some ⟨g, 0, none⟩) n c l) (hy : ys.length = n) (hk : k ≤ n) :
    OwnK numK (Go.Sort.putRow (Value.int .i64) (Go.Sort.ahead w q) g 0 ys.toArray) base (some ⟨g, 0, none⟩) k c (ys.take k) := by
  unfold OwnK at *
  rw [numK_rows] at *
  exact Lib.ownsRow_putRow h hy hk
theorem sort_any (A : Option Addr) (n c base : Nat) (l : List Int) (w : World) (h : OwnK numK w base A n c l) (hb : base ≤ w.heap.size) (hsm : n < 4611686018427387904) :
    Calls Tryz.prog 47 #[.slice A n c] w fun e w' => e = .returned (.tuple #[]) ∧ OwnK numK w' base A n c (l.mergeSort fun x y => decide (x ≤ y)) ∧ Below base w w' := by
  have hl := h.len
  rcases h.parts with ⟨rfl, rfl, rfl, rfl⟩ | ⟨g, cur, rfl, _⟩
  · refine (Tryz.slices_Sort_int_none none 0 w).mono fun e w' hx => ?_
    obtain ⟨he, rfl⟩ := hx
    exact ⟨he, by simpa using h, Below.refl _ _⟩
  · obtain ⟨h1, h2, h3, h4, h5, h6⟩ := num_holds h
    subst h6
    refine (Tryz.slices_Sort_int g 0 c l w h1 h2 hsm).mono fun e w' hx => ?_
    obtain ⟨he, q, os, rfl⟩ := hx
    have h7 := num_put (q := q) (k := l.length) (ys := l.mergeSort fun x y => decide (x ≤ y)) h (by simp) (Nat.le_refl _)
    rw [List.take_of_length_le (by simp)] at h7
    have h8 : Below base w (Go.Sort.putRow (Value.int .i64) (Go.Sort.ahead w q) g 0 (l.mergeSort fun x y => decide (x ≤ y)).toArray) := Lib.below_putRow (Below.refl _ _) h3
    have h9 := Lib.below_grow (Go.Sort.putRow (Value.int .i64) (Go.Sort.ahead w q) g 0 (l.mergeSort fun x y => decide (x ≤ y)).toArray).heap.size _ (Nat.le_refl _) 0 os
    exact ⟨he, h7.keep h9 (Nat.le_refl _), h8.trans (h9.mono (Nat.le_trans hb h8.size))⟩
theorem compact_le (l : List Int) : (Lib.compact l).length ≤ l.length := by
  unfold Lib.compact Lib.compactUpTo
  rw [List.length_map]
  have := List.length_filter_le (Lib.keeps l.toArray) (List.range l.length)
  simpa using this
theorem compact_any (A : Option Addr) (n c base : Nat) (l : List Int) (w : World) (h : OwnK numK w base A n c l) (hb : base ≤ w.heap.size) :
    Calls Tryz.prog 48 #[.slice A n c] w fun e w' => e = .returned (.slice A (Lib.compact l).length c) ∧ OwnK numK w' base A (Lib.compact l).length c (Lib.compact l) ∧ Below base w w' := by
  have hl := h.len
  rcases h.parts with ⟨rfl, rfl, rfl, rfl⟩ | ⟨g, cur, rfl, _⟩
  · refine (Tryz.slices_Compact_int_empty none 0 w).mono fun e w' hx => ?_
    obtain ⟨he, rfl⟩ := hx
    exact ⟨he, h, Below.refl _ _⟩
  · obtain ⟨h1, h2, h3, h4, h5, h6⟩ := num_holds h
    subst h6
    refine (Tryz.slices_Compact_int g 0 c l w h1 (by unfold maxLen at h5; omega) h4).mono fun e w' hx => ?_
    obtain ⟨he, q, rfl⟩ := hx
    have hle := compact_le l
    have h7 := num_put (q := q) (k := (Lib.compact l).length) (ys := Lib.compact l ++ List.replicate (l.length - (Lib.compact l).length) 0) h (by simp; omega) hle
    rw [List.take_left' rfl] at h7
    exact ⟨he, h7, Lib.below_putRow (Below.refl _ _) h3⟩

theorem trim_le (nm : ByteArray) : (⟨(Lib.trimPrefix nm.data.toList [119]).toArray⟩ : ByteArray).size ≤ nm.size := by
  show (Lib.trimPrefix nm.data.toList [119]).toArray.size ≤ nm.data.size
  unfold Lib.trimPrefix
  split
  · simp
  · simp
set_option maxRecDepth 100000 in
set_option maxHeartbeats 4000000 in
theorem present_any (A : Option Addr) (n c : Nat) (d : Dk) (w : World) (hT : Tab w) (hE : Errs w) (hd : Dsk w A n c d.fs) (hs : ∀ f ∈ d.fs, f.nm.size ≤ 140737488355328) :
    Calls Tryz.prog 27 #[dkv A n c d.room d.fuse d.off] w (RetPr w (prsN d.fs)) := by
  have HT := Lib.hid hT
  have HE := Lib.hid hE
  have HD := Lib.hid hd
  have HS := Lib.hid hs
  have HL := Lib.hid hd.len
  have few := hd.few
  clear hT hE hd hs
  go_enter Tryz.func27, Tryz.ntmps27
  go_wp2
  have Q0 := Lib.hid ((Q.refl w).alloc (.cells #[.slice A n c, .int .i64 d.room, .int .i64 d.fuse, .bool d.off] 24))
  generalize w.alloc (.cells #[.slice A n c, .int .i64 d.room, .int .i64 d.fuse, .bool d.off] 24) = W at Q0 ⊢
  go_loopw [3, 11] (fun v i wr => ∃ j A2 k c2, j ≤ n ∧ k ≤ j ∧ i = .int .i64 (j : Nat) ∧ v = .slice A2 k c2 ∧ OwnK numK wr w.heap.size A2 k c2 (rawN (d.fs.take j)) ∧ Q w wr) (fun _ i _ => n - (intOf i).toNat)
  case atStart => exact ⟨0, none, 0, 0, Nat.zero_le _, Nat.le_refl _, rfl, rfl, OwnK.nil_ _ _ _, Q0.out⟩
  case round =>
    obtain ⟨j, A2, k, c2, hj, hkj, rfl, rfl, ho, hq⟩ := hrel
    have HO := Lib.hid ho
    have HQ := Lib.hid hq
    clear ho hq Q0
    by_cases hlt : j < n
    · have hjl : j < d.fs.length := by have := HL.out; omega
      obtain ⟨ad, hA, hb, a0, a1, a2⟩ := (HD.out.q HQ.out).files.load hlt hjl
      have HSj := Lib.hid (HS.out _ (List.getElem_mem hjl))
      have HR := Lib.hid (rawN_snoc d.fs hjl)
      have i1 : (j : Int) < (n : Int) := by omega
      have i2 : 0 ≤ (j : Int) := by omega
      have i3 : j < n := hlt
      subst hA
      generalize d.fs[j] = f at a0 a1 a2 HSj HR
      obtain ⟨nm, sf, wt⟩ := f
      simp only at a0 a1 a2 HSj HR
      have X1 := Lib.hid ((Q.refl wr).alloc (.cells #[.string nm, .string sf, .string wt] 42))
      have B1 := Lib.hid (Bx.new wr [.string nm, .string sf, .string wt] 42)
      have B1 : Hid (Bx (wr.alloc (.cells #[.string nm, .string sf, .string wt] 42)) wr.heap.size [.string nm, .string sf, .string wt]) := Lib.hid B1.out
      go_upto_region 5 with (fail)
      generalize wr.alloc (.cells #[.string nm, .string sf, .string wt] 42) = W1 at X1 B1 ⊢
      obtain ⟨⟨c0, c1, c3⟩, _⟩ := B1.out.get3
      go_wp2_with fail
      refine (Tryz.strings_TrimPrefix nm ⟨#[119]⟩ W1).mono ?_
      rintro e w1 ⟨rfl, hw1⟩
      have hw1 := hw1.symm
      subst hw1
      have HTs : Hid ((⟨(Lib.trimPrefix nm.data.toList [119]).toArray⟩ : ByteArray).size ≤ 140737488355328) := Lib.hid (Nat.le_trans (trim_le nm) HSj.out)
      rcases ha : Lib.atoiAll (Lib.trimPrefix nm.data.toList [119]) with v | _ | _
      · have KA := Lib.hid (fun W => atoi_ok ⟨(Lib.trimPrefix nm.data.toList [119]).toArray⟩ v ha HTs.out W)
        by_cases hn : nm = namB v
        · have HR2 : Hid (rawN (d.fs.take (j + 1)) = rawN (d.fs.take j) ++ [v]) := Lib.hid (by rw [HR.out, show numOf nm = some v by unfold numOf; rw [ha]; simp only; rw [if_pos hn]]; rfl)
          have es := same_str nm (namB v)
          rw [decide_eq_true hn] at es
          have KN := Lib.hid (fun W (q : Q w W) => name_any v W (HT.out.q q))
          clear ha hn
          generalize namB v = nb at KN es
          go_wp2_with fail
          refine (KA.out _).mono ?_
          rintro e W2 ⟨rfl, q2⟩
          have c0 := box_ q2 c0
          have HQ2 := Lib.hid ((HQ.out.trans X1.out).trans q2)
          go_upto_region 6 with (fail)
          refine wp_region_held_drew (S := Q W2) (by kernel_rfl) ?szz0 (fun hHeld => ?rzz0)
          case szz0 =>
            exact (Q.refl W2).drew
          case' rzz0 => skip
          refine wpAnyH_take (i := 0) (oi := ?ozz1) (v := ?vzz1) ?hzz1 ?azz1 ?bzz1 ?czz1 ?qzz1 ?yzz1 ?szz1 ?rzz1
          case hzz1 => simp only [List.getElem?_toArray, List.getElem?_cons_zero]; rfl
          case azz1 => kernel_rfl
          case bzz1 => kernel_rfl
          case czz1 => kernel_rfl
          case yzz1 =>
            refine Or.inl ⟨by rfl, ?_⟩
            intro w hSw
            skip
            go_simp
            try with_reducible rfl
          case qzz1 => exact fun _ _ _ h => h
          case szz1 => first | assumption | trivial
          case' rzz1 => simp only [Act.put, List.setIfInBounds_toArray, List.set_cons_zero, List.set_cons_succ]
          refine wpAnyH_take (i := 1) (oi := ?ozz2) (v := ?vzz2) ?hzz2 ?azz2 ?bzz2 ?czz2 ?qzz2 ?yzz2 ?szz2 ?rzz2
          case hzz2 => simp only [List.getElem?_toArray, List.getElem?_cons_zero, List.getElem?_cons_succ]; rfl
          case azz2 => kernel_rfl
          case bzz2 => kernel_rfl
          case czz2 => kernel_rfl
          case yzz2 =>
            refine Or.inl ⟨by rfl, ?_⟩
            intro w hSw
            skip
            go_simp
            try with_reducible rfl
          case qzz2 => exact fun _ _ _ h => h
          case szz2 => first | assumption | trivial
          case' rzz2 => simp only [Act.put, List.setIfInBounds_toArray, List.set_cons_zero, List.set_cons_succ]
          refine wpAnyH_take (i := 2) (oi := ?ozz3) (v := ?vzz3) ?hzz3 ?azz3 ?bzz3 ?czz3 ?qzz3 ?yzz3 ?szz3 ?rzz3
          case hzz3 => simp only [List.getElem?_toArray, List.getElem?_cons_zero, List.getElem?_cons_succ]; rfl
          case azz3 => kernel_rfl
          case bzz3 => kernel_rfl
          case czz3 => kernel_rfl
          case yzz3 =>
            refine Or.inl ⟨by rfl, ?_⟩
            intro w hSw
            skip
            go_simp
            try with_reducible rfl
          case qzz3 => exact fun _ _ _ h => h
          case szz3 => first | assumption | trivial
          case' rzz3 => simp only [Act.put, List.setIfInBounds_toArray, List.set_cons_zero, List.set_cons_succ]
          refine wpAnyH_take (i := 3) (oi := ?ozz4) (v := ?vzz4) ?hzz4 ?azz4 ?bzz4 ?czz4 ?qzz4 ?yzz4 ?szz4 ?rzz4
          case hzz4 => simp only [List.getElem?_toArray, List.getElem?_cons_zero, List.getElem?_cons_succ]; rfl
          case azz4 => kernel_rfl
          case bzz4 => kernel_rfl
          case czz4 => kernel_rfl
          case yzz4 =>
            refine Or.inl ⟨by rfl, ?_⟩
            intro w hSw
            skip
            go_simp
            try with_reducible rfl
          case qzz4 => exact fun _ _ _ h => h
          case szz4 => first | assumption | trivial
          case' rzz4 => simp only [Act.put, List.setIfInBounds_toArray, List.set_cons_zero, List.set_cons_succ]
          refine wpAnyH_take (i := 4) (oi := ?ozz5) (v := ?vzz5) ?hzz5 ?azz5 ?bzz5 ?czz5 ?qzz5 ?yzz5 ?szz5 ?rzz5
          case hzz5 => simp only [List.getElem?_toArray, List.getElem?_cons_zero, List.getElem?_cons_succ]; rfl
          case azz5 => kernel_rfl
          case bzz5 => kernel_rfl
          case czz5 => kernel_rfl
          case yzz5 =>
            refine Or.inl ⟨by rfl, ?_⟩
            intro w hSw
            have x0 := box_ hSw c0; clear hSw
            go_simp
            try with_reducible rfl
          case qzz5 => exact fun _ _ _ h => h
          case szz5 => first | assumption | trivial
          case' rzz5 => simp only [Act.put, List.setIfInBounds_toArray, List.set_cons_zero, List.set_cons_succ]
          refine wpAnyH_take (i := 5) (oi := ?ozz6) (v := ?vzz6) ?hzz6 ?azz6 ?bzz6 ?czz6 ?qzz6 ?yzz6 ?szz6 ?rzz6
          case hzz6 => simp only [List.getElem?_toArray, List.getElem?_cons_zero, List.getElem?_cons_succ]; rfl
          case azz6 => kernel_rfl
          case bzz6 => kernel_rfl
          case czz6 => kernel_rfl
          case yzz6 =>
            refine Or.inl ⟨by rfl, ?_⟩
            intro w hSw
            skip
            go_simp
            try with_reducible rfl
          case qzz6 => exact fun _ _ _ h => h
          case szz6 => first | assumption | trivial
          case' rzz6 => simp only [Act.put, List.setIfInBounds_toArray, List.set_cons_zero, List.set_cons_succ]
          refine wpAnyH_ready (rs := [6]) (by kernel_rfl) (by simp) ?_
          refine AllReadyH.cons (o := ?ozz9) ?hzz9 (fun K hK => ?kzz9) ?mzz9
          case hzz9 => simp only [List.getElem?_toArray, List.getElem?_cons_zero, List.getElem?_cons_succ]; rfl
          case kzz9 =>
            go_simp
            refine (KN.out _ (HQ2.out.trans hHeld)).mono ?_
            rintro e v3 ⟨rfl, q3⟩
            go_wp2_with fail
            refine hK.out _ _ ?Szz9 (fun hHeld => ?Rzz9)
            case Szz9 =>
              exact hHeld.trans q3
            case Rzz9 =>
              clear hK K
              try simp only [Act.put, List.setIfInBounds_toArray, List.set_cons_zero, List.set_cons_succ]
              refine wpAnyH_take (i := 7) (oi := ?ozz7) (v := ?vzz7) ?hzz7 ?azz7 ?bzz7 ?czz7 ?qzz7 ?yzz7 ?szz7 ?rzz7
              case hzz7 => simp only [List.getElem?_toArray, List.getElem?_cons_zero, List.getElem?_cons_succ]; rfl
              case azz7 => kernel_rfl
              case bzz7 => kernel_rfl
              case czz7 => kernel_rfl
              case yzz7 =>
                refine Or.inl ⟨by rfl, ?_⟩
                intro w hSw
                skip
                go_simp
                try with_reducible rfl
              case qzz7 => exact fun _ _ _ h => h
              case szz7 => first | assumption | trivial
              case' rzz7 => simp only [Act.put, List.setIfInBounds_toArray, List.set_cons_zero, List.set_cons_succ]
              refine wpAnyH_take (i := 8) (oi := ?ozz8) (v := ?vzz8) ?hzz8 ?azz8 ?bzz8 ?czz8 ?qzz8 ?yzz8 ?szz8 ?rzz8
              case hzz8 => simp only [List.getElem?_toArray, List.getElem?_cons_zero, List.getElem?_cons_succ]; rfl
              case azz8 => kernel_rfl
              case bzz8 => kernel_rfl
              case czz8 => kernel_rfl
              case yzz8 =>
                refine Or.inl ⟨by rfl, ?_⟩
                intro w hSw
                skip
                go_simp
                try with_reducible rfl
              case qzz8 => exact fun _ _ _ h => h
              case szz8 => first | assumption | trivial
              case' rzz8 => simp only [Act.put, List.setIfInBounds_toArray, List.set_cons_zero, List.set_cons_succ]
              refine wpAnyH_done (by kernel_rfl) ?_ _
              have HX := Lib.hid ((X1.out.trans q2).trans hHeld)
              go_wp2_with (at_builtin
                           refine wpl_appK numK rfl (.tmp 31) (.tmp 33) 52 rfl rfl w.heap.size A2 k c2 (rawN (d.fs.take j)) rfl ((HO.out.keep (HX.out.below) (Nat.le_refl _)).alloc (.cells #[.int .i64 v] 3)) (some ⟨v3.heap.size, 0, none⟩) 1 1 [v] rfl (lst_lit1 v3 v) (fun e => by cases e) (by show (k + 1) * 8 ≤ _; omega) (by have := (HQ.out.trans HX.out).size; simp; omega) ?_
                           intro A3 c3 w4 ho3 hb3)
              go_roundw
              case rel => exact ⟨j + 1, A3, k + 1, c3, by omega, by omega, by go_num, rfl, HR2.out ▸ ho3, ((HQ.out.trans HX.out).alloc (.cells #[.int .i64 v] 3)).below.trans hb3⟩
              case measure => simp [intOf]; omega
          case' mzz9 => skip
          exact AllReadyH.nil
        · have HR2 : Hid (rawN (d.fs.take (j + 1)) = rawN (d.fs.take j)) := Lib.hid (by rw [HR.out, show numOf nm = none by unfold numOf; rw [ha]; simp only; rw [if_neg hn]]; simp)
          have es := same_str nm (namB v)
          rw [decide_eq_false hn] at es
          have KN := Lib.hid (fun W (q : Q w W) => name_any v W (HT.out.q q))
          clear ha hn
          generalize namB v = nb at KN es
          go_wp2_with fail
          refine (KA.out _).mono ?_
          rintro e W2 ⟨rfl, q2⟩
          have c0 := box_ q2 c0
          have HQ2 := Lib.hid ((HQ.out.trans X1.out).trans q2)
          go_upto_region 6 with (fail)
          refine wp_region_held_drew (S := Q W2) (by kernel_rfl) ?szz10 (fun hHeld => ?rzz10)
          case szz10 =>
            exact (Q.refl W2).drew
          case' rzz10 => skip
          refine wpAnyH_take (i := 0) (oi := ?ozz11) (v := ?vzz11) ?hzz11 ?azz11 ?bzz11 ?czz11 ?qzz11 ?yzz11 ?szz11 ?rzz11
          case hzz11 => simp only [List.getElem?_toArray, List.getElem?_cons_zero]; rfl
          case azz11 => kernel_rfl
          case bzz11 => kernel_rfl
          case czz11 => kernel_rfl
          case yzz11 =>
            refine Or.inl ⟨by rfl, ?_⟩
            intro w hSw
            skip
            go_simp
            try with_reducible rfl
          case qzz11 => exact fun _ _ _ h => h
          case szz11 => first | assumption | trivial
          case' rzz11 => simp only [Act.put, List.setIfInBounds_toArray, List.set_cons_zero, List.set_cons_succ]
          refine wpAnyH_take (i := 1) (oi := ?ozz12) (v := ?vzz12) ?hzz12 ?azz12 ?bzz12 ?czz12 ?qzz12 ?yzz12 ?szz12 ?rzz12
          case hzz12 => simp only [List.getElem?_toArray, List.getElem?_cons_zero, List.getElem?_cons_succ]; rfl
          case azz12 => kernel_rfl
          case bzz12 => kernel_rfl
          case czz12 => kernel_rfl
          case yzz12 =>
            refine Or.inl ⟨by rfl, ?_⟩
            intro w hSw
            skip
            go_simp
            try with_reducible rfl
          case qzz12 => exact fun _ _ _ h => h
          case szz12 => first | assumption | trivial
          case' rzz12 => simp only [Act.put, List.setIfInBounds_toArray, List.set_cons_zero, List.set_cons_succ]
          refine wpAnyH_take (i := 2) (oi := ?ozz13) (v := ?vzz13) ?hzz13 ?azz13 ?bzz13 ?czz13 ?qzz13 ?yzz13 ?szz13 ?rzz13
          case hzz13 => simp only [List.getElem?_toArray, List.getElem?_cons_zero, List.getElem?_cons_succ]; rfl
          case azz13 => kernel_rfl
          case bzz13 => kernel_rfl
          case czz13 => kernel_rfl
          case yzz13 =>
            refine Or.inl ⟨by rfl, ?_⟩
            intro w hSw
            skip
            go_simp
            try with_reducible rfl
          case qzz13 => exact fun _ _ _ h => h
          case szz13 => first | assumption | trivial
          case' rzz13 => simp only [Act.put, List.setIfInBounds_toArray, List.set_cons_zero, List.set_cons_succ]
          refine wpAnyH_take (i := 3) (oi := ?ozz14) (v := ?vzz14) ?hzz14 ?azz14 ?bzz14 ?czz14 ?qzz14 ?yzz14 ?szz14 ?rzz14
          case hzz14 => simp only [List.getElem?_toArray, List.getElem?_cons_zero, List.getElem?_cons_succ]; rfl
          case azz14 => kernel_rfl
          case bzz14 => kernel_rfl
          case czz14 => kernel_rfl
          case yzz14 =>
            refine Or.inl ⟨by rfl, ?_⟩
            intro w hSw
            skip
            go_simp
            try with_reducible rfl
          case qzz14 => exact fun _ _ _ h => h
          case szz14 => first | assumption | trivial
          case' rzz14 => simp only [Act.put, List.setIfInBounds_toArray, List.set_cons_zero, List.set_cons_succ]
          refine wpAnyH_take (i := 4) (oi := ?ozz15) (v := ?vzz15) ?hzz15 ?azz15 ?bzz15 ?czz15 ?qzz15 ?yzz15 ?szz15 ?rzz15
          case hzz15 => simp only [List.getElem?_toArray, List.getElem?_cons_zero, List.getElem?_cons_succ]; rfl
          case azz15 => kernel_rfl
          case bzz15 => kernel_rfl
          case czz15 => kernel_rfl
          case yzz15 =>
            refine Or.inl ⟨by rfl, ?_⟩
            intro w hSw
            have x0 := box_ hSw c0; clear hSw
            go_simp
            try with_reducible rfl
          case qzz15 => exact fun _ _ _ h => h
          case szz15 => first | assumption | trivial
          case' rzz15 => simp only [Act.put, List.setIfInBounds_toArray, List.set_cons_zero, List.set_cons_succ]
          refine wpAnyH_take (i := 5) (oi := ?ozz16) (v := ?vzz16) ?hzz16 ?azz16 ?bzz16 ?czz16 ?qzz16 ?yzz16 ?szz16 ?rzz16
          case hzz16 => simp only [List.getElem?_toArray, List.getElem?_cons_zero, List.getElem?_cons_succ]; rfl
          case azz16 => kernel_rfl
          case bzz16 => kernel_rfl
          case czz16 => kernel_rfl
          case yzz16 =>
            refine Or.inl ⟨by rfl, ?_⟩
            intro w hSw
            skip
            go_simp
            try with_reducible rfl
          case qzz16 => exact fun _ _ _ h => h
          case szz16 => first | assumption | trivial
          case' rzz16 => simp only [Act.put, List.setIfInBounds_toArray, List.set_cons_zero, List.set_cons_succ]
          refine wpAnyH_ready (rs := [6]) (by kernel_rfl) (by simp) ?_
          refine AllReadyH.cons (o := ?ozz19) ?hzz19 (fun K hK => ?kzz19) ?mzz19
          case hzz19 => simp only [List.getElem?_toArray, List.getElem?_cons_zero, List.getElem?_cons_succ]; rfl
          case kzz19 =>
            go_simp
            refine (KN.out _ (HQ2.out.trans hHeld)).mono ?_
            rintro e v3 ⟨rfl, q3⟩
            go_wp2_with fail
            refine hK.out _ _ ?Szz19 (fun hHeld => ?Rzz19)
            case Szz19 =>
              exact hHeld.trans q3
            case Rzz19 =>
              clear hK K
              try simp only [Act.put, List.setIfInBounds_toArray, List.set_cons_zero, List.set_cons_succ]
              refine wpAnyH_take (i := 7) (oi := ?ozz17) (v := ?vzz17) ?hzz17 ?azz17 ?bzz17 ?czz17 ?qzz17 ?yzz17 ?szz17 ?rzz17
              case hzz17 => simp only [List.getElem?_toArray, List.getElem?_cons_zero, List.getElem?_cons_succ]; rfl
              case azz17 => kernel_rfl
              case bzz17 => kernel_rfl
              case czz17 => kernel_rfl
              case yzz17 =>
                refine Or.inl ⟨by rfl, ?_⟩
                intro w hSw
                skip
                go_simp
                try with_reducible rfl
              case qzz17 => exact fun _ _ _ h => h
              case szz17 => first | assumption | trivial
              case' rzz17 => simp only [Act.put, List.setIfInBounds_toArray, List.set_cons_zero, List.set_cons_succ]
              refine wpAnyH_take (i := 8) (oi := ?ozz18) (v := ?vzz18) ?hzz18 ?azz18 ?bzz18 ?czz18 ?qzz18 ?yzz18 ?szz18 ?rzz18
              case hzz18 => simp only [List.getElem?_toArray, List.getElem?_cons_zero, List.getElem?_cons_succ]; rfl
              case azz18 => kernel_rfl
              case bzz18 => kernel_rfl
              case czz18 => kernel_rfl
              case yzz18 =>
                refine Or.inl ⟨by rfl, ?_⟩
                intro w hSw
                skip
                go_simp
                try with_reducible rfl
              case qzz18 => exact fun _ _ _ h => h
              case szz18 => first | assumption | trivial
              case' rzz18 => simp only [Act.put, List.setIfInBounds_toArray, List.set_cons_zero, List.set_cons_succ]
              refine wpAnyH_done (by kernel_rfl) ?_ _
              have HX := Lib.hid ((X1.out.trans q2).trans hHeld)
              go_wp2
              go_roundw
              case rel => exact ⟨j + 1, A2, k, c2, by omega, by omega, by go_num, rfl, HR2.out ▸ HO.out.keep (HX.out.below) (Nat.le_refl _), HQ.out.trans HX.out⟩
              case measure => simp [intOf]; omega
          case' mzz19 => skip
          exact AllReadyH.nil
      · have HR2 : Hid (rawN (d.fs.take (j + 1)) = rawN (d.fs.take j)) := Lib.hid (by rw [HR.out, show numOf nm = none by unfold numOf; rw [ha]]; simp)
        have KA := Lib.hid (fun W => atoi_no ⟨(Lib.trimPrefix nm.data.toList [119]).toArray⟩ (fun v e => by rw [show (⟨(Lib.trimPrefix nm.data.toList [119]).toArray⟩ : ByteArray).data.toList = Lib.trimPrefix nm.data.toList [119] from rfl, ha] at e; cases e) HTs.out W)
        clear ha
        go_wp2_with fail
        refine (KA.out _ (HE.out.q (HQ.out.trans X1.out))).mono ?_
        rintro e W2 ⟨v, t, p, rfl, q2⟩
        have c0 := box_ q2 c0
        have HQ2 := Lib.hid ((HQ.out.trans X1.out).trans q2)
        go_upto_region 6 with (fail)
        refine wp_region_held_drew (S := Q W2) (by kernel_rfl) ?szz20 (fun hHeld => ?rzz20)
        case szz20 =>
          exact (Q.refl W2).drew
        case' rzz20 => skip
        refine wpAnyH_take (i := 0) (oi := ?ozz21) (v := ?vzz21) ?hzz21 ?azz21 ?bzz21 ?czz21 ?qzz21 ?yzz21 ?szz21 ?rzz21
        case hzz21 => simp only [List.getElem?_toArray, List.getElem?_cons_zero]; rfl
        case azz21 => kernel_rfl
        case bzz21 => kernel_rfl
        case czz21 => kernel_rfl
        case yzz21 =>
          refine Or.inl ⟨by rfl, ?_⟩
          intro w hSw
          skip
          go_simp
          try with_reducible rfl
        case qzz21 => exact fun _ _ _ h => h
        case szz21 => first | assumption | trivial
        case' rzz21 => simp only [Act.put, List.setIfInBounds_toArray, List.set_cons_zero, List.set_cons_succ]
        refine wpAnyH_take (i := 1) (oi := ?ozz22) (v := ?vzz22) ?hzz22 ?azz22 ?bzz22 ?czz22 ?qzz22 ?yzz22 ?szz22 ?rzz22
        case hzz22 => simp only [List.getElem?_toArray, List.getElem?_cons_zero, List.getElem?_cons_succ]; rfl
        case azz22 => kernel_rfl
        case bzz22 => kernel_rfl
        case czz22 => kernel_rfl
        case yzz22 =>
          refine Or.inl ⟨by rfl, ?_⟩
          intro w hSw
          skip
          go_simp
          try with_reducible rfl
        case qzz22 => exact fun _ _ _ h => h
        case szz22 => first | assumption | trivial
        case' rzz22 => simp only [Act.put, List.setIfInBounds_toArray, List.set_cons_zero, List.set_cons_succ]
        refine wpAnyH_take (i := 2) (oi := ?ozz23) (v := ?vzz23) ?hzz23 ?azz23 ?bzz23 ?czz23 ?qzz23 ?yzz23 ?szz23 ?rzz23
        case hzz23 => simp only [List.getElem?_toArray, List.getElem?_cons_zero, List.getElem?_cons_succ]; rfl
        case azz23 => kernel_rfl
        case bzz23 => kernel_rfl
        case czz23 => kernel_rfl
        case yzz23 =>
          refine Or.inl ⟨by rfl, ?_⟩
          intro w hSw
          skip
          go_simp
          try with_reducible rfl
        case qzz23 => exact fun _ _ _ h => h
        case szz23 => first | assumption | trivial
        case' rzz23 => simp only [Act.put, List.setIfInBounds_toArray, List.set_cons_zero, List.set_cons_succ]
        refine wpAnyH_take (i := 3) (oi := ?ozz24) (v := undef) ?hzz24 ?azz24 ?bzz24 ?czz24 ?qzz24 ?yzz24 ?szz24 ?rzz24
        case hzz24 => simp only [List.getElem?_toArray, List.getElem?_cons_zero, List.getElem?_cons_succ]; rfl
        case azz24 => kernel_rfl
        case bzz24 => kernel_rfl
        case czz24 => kernel_rfl
        case yzz24 => exact Or.inr ⟨by rfl, rfl⟩
        case qzz24 => exact fun _ _ _ h => h
        case szz24 => first | assumption | trivial
        case' rzz24 => simp only [Act.put, List.setIfInBounds_toArray, List.set_cons_zero, List.set_cons_succ]
        refine wpAnyH_take (i := 4) (oi := ?ozz25) (v := undef) ?hzz25 ?azz25 ?bzz25 ?czz25 ?qzz25 ?yzz25 ?szz25 ?rzz25
        case hzz25 => simp only [List.getElem?_toArray, List.getElem?_cons_zero, List.getElem?_cons_succ]; rfl
        case azz25 => kernel_rfl
        case bzz25 => kernel_rfl
        case czz25 => kernel_rfl
        case yzz25 => exact Or.inr ⟨by rfl, rfl⟩
        case qzz25 => exact fun _ _ _ h => h
        case szz25 => first | assumption | trivial
        case' rzz25 => simp only [Act.put, List.setIfInBounds_toArray, List.set_cons_zero, List.set_cons_succ]
        refine wpAnyH_take (i := 5) (oi := ?ozz26) (v := undef) ?hzz26 ?azz26 ?bzz26 ?czz26 ?qzz26 ?yzz26 ?szz26 ?rzz26
        case hzz26 => simp only [List.getElem?_toArray, List.getElem?_cons_zero, List.getElem?_cons_succ]; rfl
        case azz26 => kernel_rfl
        case bzz26 => kernel_rfl
        case czz26 => kernel_rfl
        case yzz26 => exact Or.inr ⟨by rfl, rfl⟩
        case qzz26 => exact fun _ _ _ h => h
        case szz26 => first | assumption | trivial
        case' rzz26 => simp only [Act.put, List.setIfInBounds_toArray, List.set_cons_zero, List.set_cons_succ]
        refine wpAnyH_take (i := 6) (oi := ?ozz27) (v := undef) ?hzz27 ?azz27 ?bzz27 ?czz27 ?qzz27 ?yzz27 ?szz27 ?rzz27
        case hzz27 => simp only [List.getElem?_toArray, List.getElem?_cons_zero, List.getElem?_cons_succ]; rfl
        case azz27 => kernel_rfl
        case bzz27 => kernel_rfl
        case czz27 => kernel_rfl
        case yzz27 => exact Or.inr ⟨by rfl, rfl⟩
        case qzz27 => exact fun _ _ _ h => h
        case szz27 => first | assumption | trivial
        case' rzz27 => simp only [Act.put, List.setIfInBounds_toArray, List.set_cons_zero, List.set_cons_succ]
        refine wpAnyH_take (i := 7) (oi := ?ozz28) (v := undef) ?hzz28 ?azz28 ?bzz28 ?czz28 ?qzz28 ?yzz28 ?szz28 ?rzz28
        case hzz28 => simp only [List.getElem?_toArray, List.getElem?_cons_zero, List.getElem?_cons_succ]; rfl
        case azz28 => kernel_rfl
        case bzz28 => kernel_rfl
        case czz28 => kernel_rfl
        case yzz28 => exact Or.inr ⟨by rfl, rfl⟩
        case qzz28 => exact fun _ _ _ h => h
        case szz28 => first | assumption | trivial
        case' rzz28 => simp only [Act.put, List.setIfInBounds_toArray, List.set_cons_zero, List.set_cons_succ]
        refine wpAnyH_take (i := 8) (oi := ?ozz29) (v := ?vzz29) ?hzz29 ?azz29 ?bzz29 ?czz29 ?qzz29 ?yzz29 ?szz29 ?rzz29
        case hzz29 => simp only [List.getElem?_toArray, List.getElem?_cons_zero, List.getElem?_cons_succ]; rfl
        case azz29 => kernel_rfl
        case bzz29 => kernel_rfl
        case czz29 => kernel_rfl
        case yzz29 =>
          refine Or.inl ⟨by rfl, ?_⟩
          intro w hSw
          skip
          go_simp
          try with_reducible rfl
        case qzz29 => exact fun _ _ _ h => h
        case szz29 => first | assumption | trivial
        case' rzz29 => simp only [Act.put, List.setIfInBounds_toArray, List.set_cons_zero, List.set_cons_succ]
        refine wpAnyH_done (by kernel_rfl) ?_ _
        have HX := Lib.hid ((X1.out.trans q2).trans hHeld)
        go_wp2
        go_roundw
        case rel => exact ⟨j + 1, A2, k, c2, by omega, by omega, by go_num, rfl, HR2.out ▸ HO.out.keep (HX.out.below) (Nat.le_refl _), HQ.out.trans HX.out⟩
        case measure => simp [intOf]; omega
      · have HR2 : Hid (rawN (d.fs.take (j + 1)) = rawN (d.fs.take j)) := Lib.hid (by rw [HR.out, show numOf nm = none by unfold numOf; rw [ha]]; simp)
        have KA := Lib.hid (fun W => atoi_no ⟨(Lib.trimPrefix nm.data.toList [119]).toArray⟩ (fun v e => by rw [show (⟨(Lib.trimPrefix nm.data.toList [119]).toArray⟩ : ByteArray).data.toList = Lib.trimPrefix nm.data.toList [119] from rfl, ha] at e; cases e) HTs.out W)
        clear ha
        go_wp2_with fail
        refine (KA.out _ (HE.out.q (HQ.out.trans X1.out))).mono ?_
        rintro e W2 ⟨v, t, p, rfl, q2⟩
        have c0 := box_ q2 c0
        have HQ2 := Lib.hid ((HQ.out.trans X1.out).trans q2)
        go_upto_region 6 with (fail)
        refine wp_region_held_drew (S := Q W2) (by kernel_rfl) ?szz30 (fun hHeld => ?rzz30)
        case szz30 =>
          exact (Q.refl W2).drew
        case' rzz30 => skip
        refine wpAnyH_take (i := 0) (oi := ?ozz31) (v := ?vzz31) ?hzz31 ?azz31 ?bzz31 ?czz31 ?qzz31 ?yzz31 ?szz31 ?rzz31
        case hzz31 => simp only [List.getElem?_toArray, List.getElem?_cons_zero]; rfl
        case azz31 => kernel_rfl
        case bzz31 => kernel_rfl
        case czz31 => kernel_rfl
        case yzz31 =>
          refine Or.inl ⟨by rfl, ?_⟩
          intro w hSw
          skip
          go_simp
          try with_reducible rfl
        case qzz31 => exact fun _ _ _ h => h
        case szz31 => first | assumption | trivial
        case' rzz31 => simp only [Act.put, List.setIfInBounds_toArray, List.set_cons_zero, List.set_cons_succ]
        refine wpAnyH_take (i := 1) (oi := ?ozz32) (v := ?vzz32) ?hzz32 ?azz32 ?bzz32 ?czz32 ?qzz32 ?yzz32 ?szz32 ?rzz32
        case hzz32 => simp only [List.getElem?_toArray, List.getElem?_cons_zero, List.getElem?_cons_succ]; rfl
        case azz32 => kernel_rfl
        case bzz32 => kernel_rfl
        case czz32 => kernel_rfl
        case yzz32 =>
          refine Or.inl ⟨by rfl, ?_⟩
          intro w hSw
          skip
          go_simp
          try with_reducible rfl
        case qzz32 => exact fun _ _ _ h => h
        case szz32 => first | assumption | trivial
        case' rzz32 => simp only [Act.put, List.setIfInBounds_toArray, List.set_cons_zero, List.set_cons_succ]
        refine wpAnyH_take (i := 2) (oi := ?ozz33) (v := ?vzz33) ?hzz33 ?azz33 ?bzz33 ?czz33 ?qzz33 ?yzz33 ?szz33 ?rzz33
        case hzz33 => simp only [List.getElem?_toArray, List.getElem?_cons_zero, List.getElem?_cons_succ]; rfl
        case azz33 => kernel_rfl
        case bzz33 => kernel_rfl
        case czz33 => kernel_rfl
        case yzz33 =>
          refine Or.inl ⟨by rfl, ?_⟩
          intro w hSw
          skip
          go_simp
          try with_reducible rfl
        case qzz33 => exact fun _ _ _ h => h
        case szz33 => first | assumption | trivial
        case' rzz33 => simp only [Act.put, List.setIfInBounds_toArray, List.set_cons_zero, List.set_cons_succ]
        refine wpAnyH_take (i := 3) (oi := ?ozz34) (v := undef) ?hzz34 ?azz34 ?bzz34 ?czz34 ?qzz34 ?yzz34 ?szz34 ?rzz34
        case hzz34 => simp only [List.getElem?_toArray, List.getElem?_cons_zero, List.getElem?_cons_succ]; rfl
        case azz34 => kernel_rfl
        case bzz34 => kernel_rfl
        case czz34 => kernel_rfl
        case yzz34 => exact Or.inr ⟨by rfl, rfl⟩
        case qzz34 => exact fun _ _ _ h => h
        case szz34 => first | assumption | trivial
        case' rzz34 => simp only [Act.put, List.setIfInBounds_toArray, List.set_cons_zero, List.set_cons_succ]
        refine wpAnyH_take (i := 4) (oi := ?ozz35) (v := undef) ?hzz35 ?azz35 ?bzz35 ?czz35 ?qzz35 ?yzz35 ?szz35 ?rzz35
        case hzz35 => simp only [List.getElem?_toArray, List.getElem?_cons_zero, List.getElem?_cons_succ]; rfl
        case azz35 => kernel_rfl
        case bzz35 => kernel_rfl
        case czz35 => kernel_rfl
        case yzz35 => exact Or.inr ⟨by rfl, rfl⟩
        case qzz35 => exact fun _ _ _ h => h
        case szz35 => first | assumption | trivial
        case' rzz35 => simp only [Act.put, List.setIfInBounds_toArray, List.set_cons_zero, List.set_cons_succ]
        refine wpAnyH_take (i := 5) (oi := ?ozz36) (v := undef) ?hzz36 ?azz36 ?bzz36 ?czz36 ?qzz36 ?yzz36 ?szz36 ?rzz36
        case hzz36 => simp only [List.getElem?_toArray, List.getElem?_cons_zero, List.getElem?_cons_succ]; rfl
        case azz36 => kernel_rfl
        case bzz36 => kernel_rfl
        case czz36 => kernel_rfl
        case yzz36 => exact Or.inr ⟨by rfl, rfl⟩
        case qzz36 => exact fun _ _ _ h => h
        case szz36 => first | assumption | trivial
        case' rzz36 => simp only [Act.put, List.setIfInBounds_toArray, List.set_cons_zero, List.set_cons_succ]
        refine wpAnyH_take (i := 6) (oi := ?ozz37) (v := undef) ?hzz37 ?azz37 ?bzz37 ?czz37 ?qzz37 ?yzz37 ?szz37 ?rzz37
        case hzz37 => simp only [List.getElem?_toArray, List.getElem?_cons_zero, List.getElem?_cons_succ]; rfl
        case azz37 => kernel_rfl
        case bzz37 => kernel_rfl
        case czz37 => kernel_rfl
        case yzz37 => exact Or.inr ⟨by rfl, rfl⟩
        case qzz37 => exact fun _ _ _ h => h
        case szz37 => first | assumption | trivial
        case' rzz37 => simp only [Act.put, List.setIfInBounds_toArray, List.set_cons_zero, List.set_cons_succ]
        refine wpAnyH_take (i := 7) (oi := ?ozz38) (v := undef) ?hzz38 ?azz38 ?bzz38 ?czz38 ?qzz38 ?yzz38 ?szz38 ?rzz38
        case hzz38 => simp only [List.getElem?_toArray, List.getElem?_cons_zero, List.getElem?_cons_succ]; rfl
        case azz38 => kernel_rfl
        case bzz38 => kernel_rfl
        case czz38 => kernel_rfl
        case yzz38 => exact Or.inr ⟨by rfl, rfl⟩
        case qzz38 => exact fun _ _ _ h => h
        case szz38 => first | assumption | trivial
        case' rzz38 => simp only [Act.put, List.setIfInBounds_toArray, List.set_cons_zero, List.set_cons_succ]
        refine wpAnyH_take (i := 8) (oi := ?ozz39) (v := ?vzz39) ?hzz39 ?azz39 ?bzz39 ?czz39 ?qzz39 ?yzz39 ?szz39 ?rzz39
        case hzz39 => simp only [List.getElem?_toArray, List.getElem?_cons_zero, List.getElem?_cons_succ]; rfl
        case azz39 => kernel_rfl
        case bzz39 => kernel_rfl
        case czz39 => kernel_rfl
        case yzz39 =>
          refine Or.inl ⟨by rfl, ?_⟩
          intro w hSw
          skip
          go_simp
          try with_reducible rfl
        case qzz39 => exact fun _ _ _ h => h
        case szz39 => first | assumption | trivial
        case' rzz39 => simp only [Act.put, List.setIfInBounds_toArray, List.set_cons_zero, List.set_cons_succ]
        refine wpAnyH_done (by kernel_rfl) ?_ _
        have HX := Lib.hid ((X1.out.trans q2).trans hHeld)
        go_wp2
        go_roundw
        case rel => exact ⟨j + 1, A2, k, c2, by omega, by omega, by go_num, rfl, HR2.out ▸ HO.out.keep (HX.out.below) (Nat.le_refl _), HQ.out.trans HX.out⟩
        case measure => simp [intOf]; omega
    · have ej : n = j := by omega
      subst ej
      have hnl : d.fs.take n = d.fs := List.take_of_length_le (by rw [HL.out]; exact Nat.le_refl _)
      rw [hnl] at HO
      go_wp2_with fail
      refine (sort_any A2 k c2 w.heap.size _ wr HO.out HQ.out.size (by omega)).mono ?_
      rintro e w1 ⟨rfl, ho1, q1⟩
      have HO1 := Lib.hid ho1
      have HQ1 := Lib.hid (HQ.out.below.trans q1)
      clear ho1 q1 hnl HO
      go_wp2_with fail
      refine (compact_any A2 k c2 w.heap.size _ w1 HO1.out HQ1.out.size).mono ?_
      rintro e w2 ⟨rfl, ho2, q2⟩
      have HO2 := Lib.hid ho2
      have HQ2 : Hid (Q w w2) := Lib.hid (HQ1.out.trans q2)
      clear ho2 q2
      go_wp2
      go_ret
      refine ⟨A2, _, c2, rfl, HO2.out.lst.ints, Nat.le_trans HO2.out.le HO2.out.cap, fun ad e => ?_, HQ2.out⟩
      rcases HO2.out.parts with ⟨e0, _⟩ | ⟨g, cur, e0, hb, _⟩
      · rw [e0] at e; cases e
      · rw [e0] at e; injection e with e; subst e; exact hb
end Go.Proofs.YtggbdhnjogalgaaGreatDoor

/- Out of a row's list: strconv's two errors. -/
namespace Go.Proofs.YtggbdhnjogalgaaGreatDoor
set_option maxRecDepth 100000
open Go.ChangeShapes Go.WideShapes Go.ChangeAt Go.RowKit
set_option linter.unusedVariables false

theorem stGd : Tryz.prog.globalNamed "strconv.ErrRange" = some 1 := by kernel_rfl
theorem stGdT : (Tryz.prog.globals[1]?).map (·.type) = some 80 := by kernel_rfl
theorem stGr : Tryz.prog.globalNamed "strconv.ErrSyntax" = some 0 := by kernel_rfl
theorem stGrT : (Tryz.prog.globals[0]?).map (·.type) = some 80 := by kernel_rfl
theorem stStar : "*" ++ "errors.errorString" = "*errors.errorString" := by decide
theorem stRow (u : TypeId) (h : Tryz.prog.typeName? 3 u = some "*errors.errorString") : u = 160 :=
  typeName_ptr_named (nm := "errors.errorString") (by rw [stStar]; kernel_rfl) (by kernel_rfl) (by decide) u (by rw [stStar]; exact h)
theorem stCells : Tryz.prog.cellsOf 162 = 1 := by kernel_rfl
theorem stCellsS : Tryz.prog.cellsOf 9 = 1 := by kernel_rfl
theorem errs_of {r : List (String × DataW Unit)} {W : World} (h : laidMet Tryz.prog (("strconv.ErrRange", Rows.laid_strconv_ErrRange) :: ("strconv.ErrSyntax", Rows.laid_strconv_ErrSyntax) :: r) W) : Errs W := by
  obtain ⟨a0, a1, s0, s1, c0, c1, t0, t1, v0, v1, _, _, _, _, _, _, hne, h0, h1⟩ := laid_sentinels2 h stGd stGdT stGr stGrT Tryz.underlying80 stRow Tryz.underlying160 Tryz.underlying162 rfl rfl Tryz.underlying9 stCells stCellsS
  exact ⟨⟨.iface 160 (.pointer (some a1)), by simpa using World.var?_cell stGr v1 0, .inr ⟨_, _, rfl⟩⟩, .iface 160 (.pointer (some a0)), by simpa using World.var?_cell stGd v0 0, .inr ⟨_, _, rfl⟩⟩
theorem errs_laid {x y z : String × DataW Unit} {W : World} (hp : ((x :: y :: z :: ("strconv.ErrRange", Rows.laid_strconv_ErrRange) :: ("strconv.ErrSyntax", Rows.laid_strconv_ErrSyntax) :: []).all fun z => z.2.handleName?.isNone) = true)
    (h : laidMetH Tryz.prog (x :: y :: z :: ("strconv.ErrRange", Rows.laid_strconv_ErrRange) :: ("strconv.ErrSyntax", Rows.laid_strconv_ErrSyntax) :: []) W) : Errs W := by
  rw [MakeChecks.laidMetH_plain _ _ _ hp] at h
  exact errs_of (laidMet.tail (laidMet.tail (laidMet.tail h)))
end Go.Proofs.YtggbdhnjogalgaaGreatDoor

/- Contracts: wal.records, its iterator, wal.Scan. -/
namespace Go.Proofs.YtggbdhnjogalgaaGreatDoor
set_option maxRecDepth 100000
open Go.RowKit Go.Shelf
set_option linter.unusedVariables false
attribute [local go_sem] Oper.semAt_some

/-! ### What comes, in plain mathematics -/
abbrev Pr := ByteArray × Int
def encP (x : Pr) : Array Value := #[.string x.1, .int .i64 x.2]
def bs (r : List UInt8) : ByteArray := ⟨r.toArray⟩
theorem list_bs (l : List UInt8) : (bs l).data.toList = l := rfl
theorem bs_size (l : List UInt8) : (bs l).size = l.length := by show l.toArray.size = _; simp
def prs : Nat → List (List UInt8) → List Pr
  | _, [] => []
  | o, r :: rs => (bs r, ((o + (sld r).length : Nat) : Int)) :: prs (o + (sld r).length) rs
theorem prs_snoc (r : List UInt8) : ∀ (us : List (List UInt8)) (o : Nat), prs o (us ++ [r]) = prs o us ++ [(bs r, ((o + (flat us).length + (sld r).length : Nat) : Int))]
  | [], o => by simp [prs, flat_nil]
  | u :: us, o => by
    simp only [List.cons_append, prs, prs_snoc r us, flat_cons, List.length_append]
    rw [show o + (sld u).length + (flat us).length + (sld r).length = o + ((sld u).length + (flat us).length) + (sld r).length by omega]
theorem prs_len : ∀ (rs : List (List UInt8)) (o : Nat), (prs o rs).length = rs.length
  | [], _ => rfl
  | r :: rs, o => by simp [prs, prs_len rs]
theorem prs_fst : ∀ (rs : List (List UInt8)) (o : Nat), (prs o rs).map (fun x => Value.string x.1) = rs.map (fun r => Value.string (bs r))
  | [], _ => rfl
  | r :: rs, o => by simp [prs, prs_fst rs]
def lastE (l : List Pr) : Int := (l.getLast?.map (·.2)).getD 0
theorem lastE_snoc (l : List Pr) (x : Pr) : lastE (l ++ [x]) = x.2 := by simp [lastE]
theorem lastE_prs (rs : List (List UInt8)) : lastE (prs 0 rs) = ((flat rs).length : Int) := by
  rcases List.eq_nil_or_concat rs with rfl | ⟨us, r, rfl⟩
  · rfl
  · rw [List.concat_eq_append, prs_snoc, lastE_snoc, flat_app, flat_cons, flat_nil]
    simp only [List.length_append, List.append_nil]
    omega

def strSize : Value → Nat
  | .string s => s.size
  | _ => 0
theorem grown_q {w w' : World} (h : Q w w') : w.grownBy w' none := ⟨h.below.os, h.below.tape, h.below.output, h.below.size, fun k hk _ => h.below.block k hk⟩

theorem records_any (s : ByteArray) (w : World) :
    Calls Tryz.prog 38 #[.string s] w fun e w' => e = .returned (.func (.func 63) #[] #[.pointer (some ⟨w.heap.size, 0, none⟩)]) ∧ w' = w.alloc (.cells #[.string s] 9) := by
  go_enter Tryz.func38, Tryz.ntmps38
  go_wp2
  go_ret
  exact ⟨rfl, rfl⟩

/-- what a round keeps: the text's box. -/
def KpB (b : Nat) (W W' : World) : Prop := ∀ v, W.cell? ⟨b, 0, none⟩ = some v → W'.cell? ⟨b, 0, none⟩ = some v
theorem kpB_t {b : Nat} {A B C : World} (h : KpB b A B) (k : KpB b B C) : KpB b A C := fun v hv => k v (h v hv)
theorem kpB_b {b : Nat} {w : World} (hb : b < w.heap.size) (W : World) (l : Nat) (o o' : Obj) (hl : w.heap.size ≤ l) (h : W.heap[l]? = some o) (_ : o.isCells = false) (_ : o.isWalk = false) : KpB b W (W.putObj l o') := fun v hv => by
  have e : (W.putObj l o').heap[b]? = W.heap[b]? := World.putObj_heap_other (by omega)
  simp only [World.cell?] at hv ⊢
  rw [e]; exact hv

set_option maxHeartbeats 1000000 in
theorem iter_any (n : Nat) (hn : 1 ≤ n) (l b : Nat) (s : ByteArray) (hs : s.size ≤ maxLen) (J Jx : List Pr → World → Prop) (W : World) (hJ : AbidesFrom W.heap.size J)
    (hY : ∀ pre x W1, J pre W1 → pre.length < (scn s.data.toList).1.length → YieldAt Fence.wide (n - 1) Tryz.prog l (encP x) W1 fun e W' =>
      (e = .returned (.bool true) ∧ J (pre ++ [x]) W' ∧ KpB b W1 W') ∨ (e = .returned (.bool false) ∧ Jx (pre ++ [x]) W'))
    (hc : W.cell? ⟨b, 0, none⟩ = some (.string s)) (hb : b < W.heap.size) (h0 : J [] W) :
    CallsIn Fence.wide n Tryz.prog 63 #[.func (.yield l) #[] #[], .pointer (some ⟨b, 0, none⟩)] W fun e W' => (∃ v, e = .returned v) ∧
      ((∃ ys, ys = prs 0 (scn s.data.toList).1 ∧ J ys W') ∨ (∃ pre, True ∧ Jx pre W')) := by
  refine callsIn_of_wp Tryz.func63 rfl trivial ?_ rfl
  simp only [Tryz.ntmps63, List.size_toArray, List.length_cons, List.length_nil, Nat.reduceAdd, Nat.reduceSub, Array.replicate_succ, Array.replicate_zero, List.push_toArray, List.append_toArray, List.nil_append, List.cons_append]
  have hS0 := scd s.data.toList
  have HY := Lib.hid hY
  have HJ := Lib.hid hJ
  have H0 := Lib.hid h0
  have HS := Lib.hid hs
  clear hY hJ h0
  gi_wp2
  gi_loopw [3] (fun p wr => ∃ us vs, p = .string (bs (flat vs ++ (scn s.data.toList).2)) ∧ (scn s.data.toList).1 = us ++ vs ∧ J (prs 0 us) wr ∧ wr.cell? ⟨b, 0, none⟩ = some (.string s)) (fun p _ => strSize p)
  case atStart =>
    exact ⟨[], (scn s.data.toList).1, by rw [← hS0.eq]; rfl, rfl, H0.out, hc⟩
  case round =>
    obtain ⟨us, vs, rfl, hx, hJs, hcs⟩ := hrel
    have hlen : (flat vs ++ (scn s.data.toList).2).length ≤ s.size := by
      have h1 := congrArg List.length hS0.eq
      rw [hx, flat_app, size_list] at h1
      simp only [List.length_append] at h1 ⊢
      omega
    have hO := sopen_any (bs (flat vs ++ (scn s.data.toList).2)) 2048 wr (by rw [bs_size]; have := HS.out; omega) (by omega) (by omega)
    rw [list_bs] at hO
    have hblt : b < wr.heap.size := block_lt_of_cell hcs
    cases vs with
    | nil =>
      rw [flat_nil, List.nil_append] at hO
      rw [flat_nil, List.nil_append]
      have hno := hS0.no
      generalize (scn s.data.toList).2 = t at hO hno
      generalize topen t 2048 = r at hO hno
      obtain ⟨x, y, k⟩ := r
      simp only [ttR] at hO
      have hk : ((k : Int) != 0) = true := by simpa using hno
      have hx' : prs 0 us = prs 0 (scn s.data.toList).1 := by rw [hx, List.append_nil]
      gi_wp2_with (fail)
      refine ⟨trivial, ?_⟩
      refine (callsIn_wide.2 hO).mono ?_
      rintro e W2 ⟨rfl, q2⟩
      have hJ2 : J (prs 0 us) W2 := HJ.out _ _ _ none hJs (grown_q q2) (by intro r e; cases e)
      gi_wp2
      refine ⟨fun _ h => (by cases h), ?_⟩
      gi_wp2
      refine bodyPost_ret (results_none rfl _ _ _) rfl ?_
      exact ⟨⟨_, rfl⟩, .inl ⟨_, hx', hJ2⟩⟩
    | cons r vs =>
      have hr : r.length ≤ 2048 := hS0.le r (by rw [hx]; simp)
      rw [flat_cons, List.append_assoc] at hO hlen ⊢
      rw [open_one r _ hr] at hO
      simp only [ttR] at hO
      have h4 := sld_four r
      have hBs := bs_size (flat vs ++ (scn s.data.toList).2)
      have hend : (s.size : Int) - ((bs (flat vs ++ (scn s.data.toList).2)).size : Int) = ((0 + (flat us).length + (sld r).length : Nat) : Int) := by
        have h1 := congrArg List.length hS0.eq
        rw [hx, flat_app, flat_cons, size_list] at h1
        rw [bs_size]
        simp only [List.length_append] at h1 ⊢
        omega
      have hend2 : wrap64 ((s.size : Int) - ((bs (flat vs ++ (scn s.data.toList).2)).size : Int)) = ((0 + (flat us).length + (sld r).length : Nat) : Int) := by
        rw [hend]; have h2 := HS.out; have h3 := congrArg List.length hS0.eq
        rw [hx, flat_app, flat_cons, size_list] at h3
        simp only [List.length_append] at h3
        unfold maxLen at h2; unfold wrap64; omega
      have HE := Lib.hid hend2
      clear hend hend2
      have hBle : (bs (flat vs ++ (scn s.data.toList).2)).size ≤ s.size := by rw [hBs]; simp only [List.length_append] at hlen ⊢; omega
      change Calls _ _ _ _ fun e w' => e = .returned (.tuple #[.string (bs r), .string (bs (flat vs ++ (scn s.data.toList).2)), .int .i64 0]) ∧ Q wr w' at hO
      have HL := Lib.hid (And.intro hlen (And.intro hBs hx))
      have hms : strSize (.string (bs (flat vs ++ (scn s.data.toList).2))) < strSize (.string (bs (sld r ++ (flat vs ++ (scn s.data.toList).2)))) := by
        simp only [strSize, bs_size, List.length_append]; omega
      clear hlen hBs hx
      gi_wp2_with (fail)
      refine ⟨trivial, ?_⟩
      refine (callsIn_wide.2 hO).mono ?_
      rintro e W2 ⟨rfl, q2⟩
      have hJ2 : J (prs 0 us) W2 := HJ.out _ _ _ none hJs (grown_q q2) (by intro r e; cases e)
      have hc2 : W2.cell? ⟨b, 0, none⟩ = some (.string s) := (q2.below.cell (p := ⟨b, 0, none⟩) hblt).trans hcs
      obtain ⟨fn, tmps, assign, body, hy, hR⟩ := HY.out (prs 0 us) (bs r, wrap64 ((s.size : Int) - ((bs (flat vs ++ (scn s.data.toList).2)).size : Int))) W2 hJ2 (by rw [prs_len, HL.out.2.2]; simp)
      dsimp only [encP] at hy
      gi_wp2
      refine hR.mono ?_
      rintro e W3 (⟨rfl, hJ3, hk3⟩ | ⟨rfl, hJx3⟩)
      · have hc3 : W3.cell? ⟨b, 0, none⟩ = some (.string s) := hk3 _ hc2
        have HM := Lib.hid hms
        clear hms
        gi_wp2
        go_roundw
        case rel => exact ⟨us ++ [r], vs, rfl, by rw [HL.out.2.2]; simp, by rw [prs_snoc, ← HE.out]; exact hJ3, hc3⟩
        case measure => exact HM.out
      · gi_wp2
        refine bodyPost_ret (results_none rfl _ _ _) rfl ?_
        exact ⟨⟨_, rfl⟩, .inr ⟨_, trivial, hJx3⟩⟩

theorem stops_any (n : Nat) (hn : 1 ≤ n) (b : Nat) (s : ByteArray) (hs : s.size ≤ maxLen) (w : World) (hb : b < w.heap.size) (hc : w.cell? ⟨b, 0, none⟩ = some (.string s)) :
    SeqStopsK Fence.wide n Tryz.prog 63 #[.pointer (some ⟨b, 0, none⟩)] encP (KpB b) (fun ys => ys = prs 0 (scn s.data.toList).1) (fun _ => True) (scn s.data.toList).1.length w := fun l J Jx W hW hJ hJx hY h0 =>
  iter_any n hn l b s hs J Jx W hJ hY ((hW.cell (p := ⟨b, 0, none⟩) hb).trans hc) (Nat.lt_of_lt_of_le hb hW.size) h0
end Go.Proofs.YtggbdhnjogalgaaGreatDoor

/- The contract of wal.Scan. -/
namespace Go.Proofs.YtggbdhnjogalgaaGreatDoor
set_option maxRecDepth 100000
open Go.RowKit Go.Shelf
set_option linter.unusedVariables false
attribute [local go_sem] Oper.semAt_some

theorem infoS : (Tryz.prog.info? 9).map (fun i => (i.zero, i.size, i.bytes)) = some (some (.string ⟨#[]⟩), 1, 16) := by kernel_rfl
theorem row_lower {w : World} {base b2 size n : Nat} {e : TypeId} {v : Value} {xs : List Value} (h : w.ownsRow base e size v n xs) (hb : b2 ≤ base) : w.ownsRow b2 e size v n xs := by
  refine ⟨h.1, ?_⟩
  rcases h.2 with h0 | ⟨g, cap, cur, e, hg, hh, r⟩
  · exact .inl h0
  · exact .inr ⟨g, cap, cur, e, by omega, hh, r⟩
/-- a block below the base lies as it lay, behind an append and stores elsewhere. -/
theorem cell_app {W w1 : World} {n₀ b B : Nat} {e : TypeId} {size k : Nat} {v v' u : Value} {xs : List Value} {tmp : Obj} (hrow : W.ownsRow n₀ e size v k xs) (hb : b < n₀) (hgrow : (W.alloc tmp).grownBy w1 v.ownBlock)
    (hB : B ≠ b) (hu : W.cell? ⟨b, 0, none⟩ = some u) : (w1.setCell ⟨B, 0, none⟩ v').cell? ⟨b, 0, none⟩ = some u := by
  have hlt : b < W.heap.size := block_lt_of_cell hu
  have h1 : (W.alloc tmp).cell? ⟨b, 0, none⟩ = some u := (((Below.refl _ W).alloc (Nat.le_refl _) tmp).cell (p := ⟨b, 0, none⟩) hlt).trans hu
  have h2 : w1.heap[b]? = (W.alloc tmp).heap[b]? := hgrow.block b (by simp; omega) (fun ej => by
    rcases hrow.2 with ⟨rfl, _⟩ | ⟨g, cap, cur, rfl, hg, _, _⟩
    · simp [Value.ownBlock] at ej
    · have : b = g := by simpa [Value.ownBlock] using ej
      omega)
  rw [World.cell?_setCell_other _ _ _ _ (by intro x; injection x with x; exact hB x)]
  simp only [World.cell?] at h1 ⊢
  rw [h2]; exact h1

/-- a list of texts in memory of the call's own. -/
def OwnS (w : World) (base : Nat) (A : Option Addr) (n c : Nat) (rs : List (List UInt8)) : Prop := w.ownsRow base 9 1 (.slice A n c) n (rs.map fun r => Value.string (bs r))

set_option maxHeartbeats 2000000 in
theorem scan_any (s : ByteArray) (w : World) (hs : s.size ≤ maxLen) (hbig : (scn s.data.toList).1.length * 16 ≤ 140737488355328) :
    Calls Tryz.prog 21 #[.string s] w fun e w' => ∃ A n c, e = .returned (.tuple #[.slice A n c, .int .i64 (used s.data.toList)]) ∧ OwnS w' w.heap.size A n c (scn s.data.toList).1 ∧ Q w w' := by
  obtain ⟨i0, hi, hz0, hz1, hz2⟩ := info_parts infoS
  refine (callsIn_wide (n := 6)).1 ?_
  refine callsIn_of_wp_marks Tryz.func21 rfl trivial ?_ rfl
  simp only [Tryz.ntmps21, List.size_toArray, List.length_cons, List.length_nil, Nat.reduceAdd, Nat.reduceSub, Array.replicate_succ, Array.replicate_zero, List.push_toArray, List.append_toArray, List.nil_append, List.cons_append]
  gi_wp2_with (refine ⟨trivial, ?_⟩; gi_at_call 38; refine (callsIn_wide.2 (records_any s _)).mono ?_; rintro e w' ⟨rfl, rfl⟩)
  have b1 := Boxed.new w 26 (.slice none 0 0)
  have b2 := Boxed.new (w.alloc (.cells #[.slice none 0 0] 26)) 3 (.int .i64 0)
  have b3 := Boxed.new ((w.alloc (.cells #[.slice none 0 0] 26)).alloc (.cells #[.int .i64 0] 3)) 9 (.string s)
  rw [World.size_alloc] at b2 b3
  rw [World.size_alloc] at b3
  have hml : (scn s.data.toList).1.length ≤ maxLen := by unfold maxLen; omega
  have hB0 : Below w.heap.size w (((w.alloc (.cells #[.slice none 0 0] 26)).alloc (.cells #[.int .i64 0] 3)).alloc (.cells #[.string s] 9)) := (((Q.refl w).alloc _).alloc _).alloc _
  refine wpIn_rangeFunc_ownG rfl (by omega) (gf := 63) (lb := #[.pointer (some ⟨w.heap.size + 1 + 1, 0, none⟩)]) rfl trivial (enters_of Tryz.func63 (by kernel_rfl) rfl)
    (stops_any (6 - 1) (by omega) (w.heap.size + 1 + 1) s hs _ (by simp) b3.cell) kpB_t (kpB_b (by simp)) (Below.refl _ _) (fun _ => rfl)
    (fun pre W => (∃ v, Boxed W w.heap.size 26 v ∧ W.ownsRow (w.heap.size + 3) 9 1 v pre.length (pre.map fun x => Value.string x.1) ∧ True) ∧ Boxed W (w.heap.size + 1) 3 (.int .i64 (lastE pre)) ∧ Below w.heap.size (((w.alloc (.cells #[.slice none 0 0] 26)).alloc (.cells #[.int .i64 0] 3)).alloc (.cells #[.string s] 9)) W)
    (fun _ _ _ => False)
    (OwnFrom.and (Own.from (holdsRow_own (w.heap.size + 3) w.heap.size 26 9 1 (fun pre : List Pr => pre.length) (fun pre => pre.map fun x => Value.string x.1) (fun _ _ => True)) _) (OwnFrom.and (Own.from (boxed_own (w.heap.size + 1) 3 (fun pre : List Pr => .int .i64 (lastE pre))) _) (ownFrom_below (by simp; omega) (by simp; omega))))
    (fun _ _ _ _ _ hs _ _ => hs)
    ⟨⟨_, (b1.alloc _).alloc _, World.ownsRow_nil _ _ _ _, trivial⟩, b2.alloc _, Below.refl _ _⟩
    (fun x => { tmps := #[.string s, undef, .slice none 0 0, .int .i64 0, .pointer (some ⟨w.heap.size, 0, none⟩), .pointer (some ⟨w.heap.size + 1, 0, none⟩), .string x.1, .int .i64 x.2, .string s, .func (.func 63) #[] #[.pointer (some ⟨w.heap.size + 1 + 1, 0, none⟩)], .string x.1, .int .i64 x.2, undef, undef, undef, undef, undef, undef, undef], defers := [] }) ?assign ?body ?done ?stop
  case assign =>
    intro l x W K hK
    simp only [encP]
    gi_wp2
    exact hK
  case body =>
    rintro l pre x W ⟨⟨v, hv, hrow, _⟩, hn, hB⟩ hlt
    have hc := hv.cell
    have hBs := hB.size
    have hwl := hn.lt
    have hle3 : w.heap.size + 3 ≤ W.heap.size := by have := hB.size; simp at this; omega
    have hBw : w.heap.size ≤ W.heap.size := by omega
    clear hBs
    gi_wp2_with (gi_at_builtin; refine wpListIn_append_own _ rfl _ _ 26 rfl (w.heap.size + 3) 9 i0 (.string ⟨#[]⟩) 1 16 Tryz.underlying26 hi hz0 hz1 hz2 rfl (by decide) _ _ _ rfl (hrow.alloc _) ⟨W.heap.size, 0, none⟩ 1 1 [.string x.1] rfl rfl (cell_one_new _ _ _) (by simp [Value.oneCell']) (by omega) (by omega) (by simp; omega) ?_; intro v' w1 hown' hgrow _; obtain ⟨g', cap', rfl⟩ := ownsRow_succ hown'; obtain ⟨hv1, hv2, hr2, hk2, hb2⟩ := hv.appended (by decide) (row_lower hrow (b2 := w.heap.size) (by omega)) hBw (Nat.le_refl _) (row_lower hown' (b2 := w.heap.size) (by omega)) hgrow; have hc1 := hv1.cell; have hf1 := hv1.frozen; have hn1 : Boxed w1 (w.heap.size + 1) 3 (.int .i64 (lastE pre)) := (hn.alloc _).kept hgrow (hn.not_row (by decide) hrow); have hc2 := hn1.cell; have hf2 := hn1.frozen)
    have hkp : KpB (w.heap.size + 1 + 1) W _ := fun u hu => cell_app (v' := Value.slice (some ⟨g', 0, none⟩) (pre.length + 1) cap') hrow (by omega) hgrow (B := w.heap.size) (by omega) hu
    have hn2 := (hn1.other (B' := w.heap.size) (by omega) (Value.slice (some ⟨g', 0, none⟩) (pre.length + 1) cap')).set (.int .i64 x.2)
    have hr3 : w1.ownsRow (w.heap.size + 3) 9 1 (Value.slice (some ⟨g', 0, none⟩) (pre.length + 1) cap') (pre.length + 1) (List.map (fun x => Value.string x.1) pre ++ [.string x.1]) := hown'
    have hr4 := (hr3.kept (grownBy_setCell' w1 w.heap.size (Value.slice (some ⟨g', 0, none⟩) (pre.length + 1) cap')) (.inr (hv1.not_row (by decide) hr3).symm))
    have hv3 := hv2.other (B' := w.heap.size + 1) (by omega) (.int .i64 x.2)
    have hr5 := hr4.kept (grownBy_setCell' _ (w.heap.size + 1) (.int .i64 x.2)) (.inr ((hn1.other (B' := w.heap.size) (by omega) (Value.slice (some ⟨g', 0, none⟩) (pre.length + 1) cap')).not_row (by decide) hr4).symm)
    refine ⟨(hk2.trans (KeepsOthers.setCell _ _ _)).from _, fun u hu => ?_, ⟨_, hv3, by simpa using hr5, trivial⟩, by rw [lastE_snoc]; exact hn2, hB.trans (hb2.setCell (p := ⟨w.heap.size + 1, 0, none⟩) (Nat.le_succ _) _)⟩
    rw [World.cell?_setCell_other _ _ _ _ (by intro z; injection z with z; omega)]
    exact hkp u hu
  case done =>
    rintro D ys W hD rfl ⟨⟨v, hv, hrow, _⟩, hn, hB⟩ hK
    obtain ⟨A, c, rfl⟩ : ∃ A c, v = .slice A (prs 0 (scn s.data.toList).1).length c := by
      rcases hrow.2 with ⟨e, h0⟩ | ⟨g, cap, cur, e, _⟩
      · exact ⟨none, 0, by rw [e, h0]⟩
      · exact ⟨_, _, e⟩
    have hc := hv.cell
    have hc2 := hn.cell
    have hQ : Q w W := hB0.trans hB
    have hO : OwnS W w.heap.size A (prs 0 (scn s.data.toList).1).length c (scn s.data.toList).1 := by
      unfold OwnS
      rw [← prs_fst _ 0]
      exact row_lower hrow (by omega)
    have hE : lastE (prs 0 (scn s.data.toList).1) = (used s.data.toList : Int) := by rw [lastE_prs, used_flat]
    rw [hE] at hc2
    have hDw : w.heap.size ≤ D := by simp at hD; omega
    clear hE hrow hv hn hB hD
    gi_wp2
    gi_region
    gi_wp2
    refine ⟨by simp, .inl ⟨_, _, rfl, run_takeDeferred hK, ?_⟩⟩
    exact ⟨_, results_tmp2 rfl _ _ _, A, _, c, rfl, ownsRow_putObj (hO : World.ownsRow W.drew _ _ _ _ _ _) _ hK rfl, hQ.drew.below.trans (belowK_b (w := w) (Nat.le_refl _) W.drew D _ _ hDw hK rfl rfl)⟩
  case stop =>
    rintro D c pre W _ _ h _
    exact h.elim
end Go.Proofs.YtggbdhnjogalgaaGreatDoor

/- The contract of wal.Recover. -/
namespace Go.Proofs.YtggbdhnjogalgaaGreatDoor
set_option maxRecDepth 100000
open Go.RowKit Dkm Wm
set_option linter.unusedVariables false

/-- a list of texts, wherever it lies. -/
def Strs (w : World) (A : Option Addr) (n : Nat) (rs : List (List UInt8)) : Prop := Holds w w.heap.size 1 A n (rs.map fun r => Value.string (bs r))
theorem Strs.q {w w' : World} {A : Option Addr} {n : Nat} {l : List (List UInt8)} (h : Strs w A n l) (hq : Q w w') : Strs w' A n l := Holds.q h hq
theorem OwnS.strs {w : World} {base : Nat} {A : Option Addr} {n c : Nat} {rs : List (List UInt8)} (h : OwnS w base A n c rs) : Strs w A n rs := by
  refine ⟨h.1, fun j u hu => ?_⟩
  rcases h.2 with ⟨e, h0⟩ | ⟨g, cap, cur, e, hb, hh, hc, hm, hs, ht⟩
  · have := (List.getElem?_eq_some_iff.1 hu).1
    rw [h.1] at this; omega
  · injection e with e1 e2 e3
    subst e1 e3
    have hj : j < n * 1 := by
      have := (List.getElem?_eq_some_iff.1 hu).1; rw [h.1] at this; exact this
    refine ⟨_, rfl, ?_, ?_⟩
    · rcases Nat.lt_or_ge g w.heap.size with hlt | hge
      · exact hlt
      · rw [Array.getElem?_eq_none hge] at hh; cases hh
    · rw [Addr.add_mid, Nat.zero_add, World.ownsRow.cellAt h j hj]; exact hu
theorem OwnS.len {w : World} {base : Nat} {A : Option Addr} {n c : Nat} {rs : List (List UInt8)} (h : OwnS w base A n c rs) : rs.length = n := by have := h.1; simpa using this
theorem OwnS.nil {w : World} {base : Nat} {A : Option Addr} {n c : Nat} {rs : List (List UInt8)} (h : OwnS w base A n c rs) : A = none → n = 0 ∧ c = 0 := by
  intro hA
  rcases h.2 with ⟨e, h0⟩ | ⟨g, cap, cur, e, _⟩
  · injection e with e1 e2 e3; exact ⟨e2, e3⟩
  · injection e with e1; rw [hA] at e1; cases e1
theorem OwnS.q {w w' : World} {base : Nat} {A : Option Addr} {n c : Nat} {rs : List (List UInt8)} (h : OwnS w base A n c rs) (hq : Q w w') : OwnS w' base A n c rs := by
  refine ⟨h.1, ?_⟩
  rcases h.2 with ⟨e, h0⟩ | ⟨g, cap, cur, e, hg, hh, r⟩
  · exact .inl ⟨e, h0⟩
  · have hlt : g < w.heap.size := by
      rcases Nat.lt_or_ge g w.heap.size with hlt | hge
      · exact hlt
      · rw [Array.getElem?_eq_none hge] at hh; cases hh
    exact .inr ⟨g, cap, cur, e, hg, (hq.below.block g hlt).trans hh, r⟩
theorem OwnS.setCell {w : World} {base : Nat} {A : Option Addr} {n c : Nat} {l : List (List UInt8)} (h : OwnS w base A n c l) {p : Addr} (hp : p.block < base) (u : Value) : OwnS (w.setCell p u) base A n c l := by
  refine ⟨h.1, ?_⟩
  rcases h.2 with ⟨e, h0⟩ | ⟨g, cap, cur, e, hg, hh, r⟩
  · exact .inl ⟨e, h0⟩
  · exact .inr ⟨g, cap, cur, e, hg, (heap_setCell_other w p g u (by omega)).trans hh, r⟩
theorem OwnS.set4 {w : World} {base : Nat} {A : Option Addr} {n c : Nat} {l : List (List UInt8)} (h : OwnS w base A n c l) {b : Nat} (hp : b < base) (x y z u : Value) : OwnS ((((w.setCell ⟨b, 0, none⟩ x).setCell ⟨b, 1, none⟩ y).setCell ⟨b, 2, none⟩ z).setCell ⟨b, 3, none⟩ u) base A n c l :=
  (((h.setCell (p := ⟨b, 0, none⟩) hp x).setCell (p := ⟨b, 1, none⟩) hp y).setCell (p := ⟨b, 2, none⟩) hp z).setCell (p := ⟨b, 3, none⟩) hp u
theorem OwnS.lower {w : World} {base b2 : Nat} {A : Option Addr} {n c : Nat} {rs : List (List UInt8)} (h : OwnS w base A n c rs) (hb : b2 ≤ base) : OwnS w b2 A n c rs := row_lower h hb
theorem ownS_nil (w : World) (base : Nat) : OwnS w base none 0 0 [] := ⟨rfl, .inl ⟨rfl, rfl⟩⟩
theorem row_ne {w : World} {base : Nat} {A : Option Addr} {n c : Nat} {rs : List (List UInt8)} (h : OwnS w base A n c rs) {b : Nat} (hb : b < base) : some b ≠ (Value.slice A n c).ownBlock := by
  rcases h.2 with ⟨e, h0⟩ | ⟨g, cap, cur, e, hg, hh, r⟩
  · rw [e]; simp [Value.ownBlock]
  · rw [e]; simp only [Value.ownBlock, ne_eq, Option.some.injEq]; omega
theorem box_g {w w' : World} {row : Option Nat} {b k : Nat} {v : Value} (hg : w.grownBy w' row) (hne : some b ≠ row) (h : w.cell? ⟨b, k, none⟩ = some v) : w'.cell? ⟨b, k, none⟩ = some v := hg.cell h hne
theorem Bx.grown {w w' : World} {row : Option Nat} {b : Nat} {vs : List Value} (h : Bx w b vs) (hg : w.grownBy w' row) (hne : some b ≠ row) : Bx w' b vs := fun j v hj => by
  have hb : b < w.heap.size := block_lt_of_cell (h j v hj).1
  have e := hg.block b hb hne
  have h1 := h j v hj
  simp only [World.cell?, World.frozen?] at h1 ⊢
  rw [e]; exact h1
theorem Below.of_own {w w' : World} {base : Nat} {A : Option Addr} {n c : Nat} {rs : List (List UInt8)} (h : OwnS w base A n c rs) (hg : w.grownBy w' (Value.slice A n c).ownBlock) (hB : base ≤ w.heap.size) : Below base w w' :=
  below_grown hg hB fun k hk => by
    rcases h.2 with ⟨e, _⟩ | ⟨g, cap, cur, e, hb, _⟩
    · rw [e] at hk; cases hk
    · rw [e] at hk; simp only [Value.ownBlock, Option.some.injEq] at hk; omega

theorem run_appSS {w : World} (base : Nat) (ty : TypeId) (A : Option Addr) (n c : Nat) (l : List (List UInt8)) (h : OwnS w base A n c l) (M : Option Addr) (m mc : Nat) (ms : List (List UInt8)) (h2 : Strs w M m ms)
    (hnil : M = none → m = 0 ∧ mc = 0) (hb : (n + m) * 16 ≤ 140737488355328) (hbase : base ≤ w.heap.size) :
    ∃ A' c' w', (Builtin.append_ #[26, 26] ty #[.slice A n c, .slice M m mc]).run Tryz.prog w = .ok (.slice A' (n + m) c') w' ∧ OwnS w' base A' (n + m) c' (l ++ ms) ∧ w.grownBy w' (Value.slice A n c).ownBlock := by
  obtain ⟨A', c', w', hr, h3, h4, h5⟩ := run_appG (P := Tryz.prog) (w := w) base 26 ty 9 (.string ⟨#[]⟩) 1 16 Tryz.underlying26 infoS rfl (by omega) A n c _ h M m mc _ h2.1
    (fun j u hu => by obtain ⟨a', e, _, hc⟩ := h2.2 j u hu; exact ⟨a', e, hc⟩) (by intro u hu; obtain ⟨_, _, rfl⟩ := List.mem_map.1 hu; rfl) hnil (by unfold maxLen; omega) hb hbase
  exact ⟨A', c', w', hr, by unfold OwnS; rw [List.map_append]; exact h3, h4⟩
theorem step_appS {ops : Array Oper} {o : Oper} {a : Act} {w : World} {K : Act → World → Prop} {R : Exit → Act → World → Prop} {E : Prop} (hgd : o.guard = none) (s x : Operand)
    (ho : o.op = .call { callee := .builtin .append, args := #[s, x], argTypes := #[26, 26] })
    (base : Nat) (A : Option Addr) (n c : Nat) (l : List (List UInt8)) (hs : a.eval s = .slice A n c) (h : OwnS w base A n c l) (M : Option Addr) (m mc : Nat) (ms : List (List UInt8)) (hx : a.eval x = .slice M m mc) (h2 : Strs w M m ms)
    (hnil : M = none → m = 0 ∧ mc = 0) (hb : (n + m) * 16 ≤ 140737488355328) (hbase : base ≤ w.heap.size)
    (hK : ∀ A' c' w', OwnS w' base A' (n + m) c' (l ++ ms) → w.grownBy w' (Value.slice A n c).ownBlock → Below base w w' → K (a.put o.dst (.slice A' (n + m) c')) w') :
    if Region.wanted o (yielded ops a.tmps) = true then Oper.wp Tryz.prog o a w K R else E := by
  rw [if_pos (wanted_plain hgd)]
  obtain ⟨A', c', w', hr, h3, h4⟩ := run_appSS base o.type A n c l h M m mc ms h2 hnil hb hbase
  unfold Oper.wp execOp
  simp only [ho, resolve, invoke, builtin, Sem.run_bind, Sem.run_pure, Result.andThen_ok, List.map_toArray, List.map_cons, List.map_nil, hs, hx, hr]
  exact hK A' c' w' h3 h4 (Below.of_own h h4 hbase)
theorem wpl_appSS {w : World} {ops : Array Oper} {rest : List Oper} {o : Oper} {a : Act} {R : Exit → Act → World → Prop} (hgd : o.guard = none) (s x : Operand)
    (ho : o.op = .call { callee := .builtin .append, args := #[s, x], argTypes := #[26, 26] })
    (base : Nat) (A : Option Addr) (n c : Nat) (l : List (List UInt8)) (hs : a.eval s = .slice A n c) (h : OwnS w base A n c l) (M : Option Addr) (m mc : Nat) (ms : List (List UInt8)) (hx : a.eval x = .slice M m mc) (h2 : Strs w M m ms)
    (hnil : M = none → m = 0 ∧ mc = 0) (hb : (n + m) * 16 ≤ 140737488355328) (hbase : base ≤ w.heap.size)
    (hk : ∀ A' c' w', OwnS w' base A' (n + m) c' (l ++ ms) → w.grownBy w' (Value.slice A n c).ownBlock → Below base w w' → wpList Tryz.prog ops R rest (a.put o.dst (.slice A' (n + m) c')) w') : wpList Tryz.prog ops R (o :: rest) a w := by
  refine wpList_plain hgd fun K hK => ?_
  obtain ⟨A', c', w', hr, h3, h4⟩ := run_appSS base o.type A n c l h M m mc ms h2 hnil hb hbase
  unfold Oper.wp execOp
  simp only [ho, resolve, invoke, builtin, Sem.run_bind, Sem.run_pure, Result.andThen_ok, List.map_toArray, List.map_cons, List.map_nil, hs, hx, hr]
  exact hK _ _ (hk A' c' w' h3 h4 (Below.of_own h h4 hbase))

/-- what Recover tells, in memory of its own. -/
def RetR (w : World) (x : Dk × List (List UInt8) × Int × Int) (e : Ending) (w' : World) : Prop :=
  ∃ A n c L ln lc, e = .returned (.tuple #[dkv A n c x.1.room x.1.fuse x.1.off, .slice L ln lc, .int .i64 x.2.2.1, .int .i64 x.2.2.2]) ∧ Dsk w' A n c x.1.fs ∧ Far w A ∧ OwnS w' w.heap.size L ln lc x.2.1 ∧ Q w w'

theorem scn_len (s : List UInt8) : (scn s).1.length * 4 ≤ s.length := by
  have h1 := flat_four (scn s).1
  have h2 := congrArg List.length (scd s).eq
  rw [List.length_append] at h2; omega
theorem redd_size {B : Nat} (nm : ByteArray) (l : List Fil) (h : ∀ f ∈ l, f.sf.size + f.wt.size ≤ B) : (redd nm l).1.size ≤ B := by
  rcases plc_cases nm l with ⟨_, h0⟩ | ⟨k, hk, _, hn, hf⟩
  · rw [redd_none h0]; exact Nat.zero_le _
  · rw [redd_at hk hn hf, ByteArray.size_append]; exact h _ (List.getElem_mem _)

theorem mx21 {d : Dk} (hB : Bnd 2097152 d) : ∀ f ∈ d.fs, f.sf.size + f.wt.size ≤ maxLen := fun f hf => Nat.le_trans (hB.sum f hf) (by unfold maxLen; omega)
theorem Wm.Bnd.more {B C : Nat} {d : Dk} (h : Bnd B d) (hBC : B ≤ C) : Bnd C d := ⟨fun f hf => Nat.le_trans (h.sum f hf) hBC, h.few, h.room, h.fuse⟩
theorem Sb.grown {w wr w2 : World} {A : Option Addr} {n c : Nat} {room fuse : Int} {off : Bool} {L : Option Addr} {m lc : Nat} {rs : List (List UInt8)} (h : Sb w A n c room fuse off wr) (hl : OwnS wr (w.heap.size + 2) L m lc rs)
    (hg : wr.grownBy w2 (Value.slice L m lc).ownBlock) (hb : Below (w.heap.size + 2) wr w2) : Sb w A n c room fuse off w2 :=
  ⟨Bx.grown h.box hg (row_ne hl (by omega)), Bx.grown h.res hg (row_ne hl (by omega)), h.q.below.trans (hb.mono (by omega))⟩
theorem rows_apart {w : World} {b1 b2 : Nat} {A L : Option Addr} {n c m lc : Nat} {l : List Fil} {rs : List (List UInt8)} (h : Own w b1 A n c l) (hl : OwnS w b2 L m lc rs) : (Value.slice L m lc).ownBlock = none ∨ (Value.slice A n c).ownBlock ≠ (Value.slice L m lc).ownBlock := by
  rcases hl.2 with ⟨e, _⟩ | ⟨g, cap, cur, e, hb, hh, _⟩
  · left; rw [e]; rfl
  · right
    rcases h.2 with ⟨e2, _⟩ | ⟨g2, cap2, cur2, e2, hb2, hh2, _⟩
    · rw [e, e2]; simp [Value.ownBlock]
    · rw [e, e2]
      intro he
      have hgg : g2 = g := by simpa [Value.ownBlock] using he
      subst hgg
      rw [hh] at hh2
      injection hh2 with hh2
      injection hh2 with _ ht _
      exact absurd ht (by decide)
theorem Own.grown {w w2 : World} {b1 b2 : Nat} {A L : Option Addr} {n c m lc : Nat} {l : List Fil} {rs : List (List UInt8)} (h : Own w b1 A n c l) (hl : OwnS w b2 L m lc rs) (hg : w.grownBy w2 (Value.slice L m lc).ownBlock) : Own w2 b1 A n c l := by
  rcases rows_apart h hl with h0 | h0
  · rw [h0] at hg
    refine World.ownsRow.kept h hg ?_
    rcases h.2 with ⟨e2, _⟩ | ⟨g2, cap2, cur2, e2, hb2, hh2, _⟩
    · left; rw [e2]; rfl
    · exact .inr (by rw [e2]; simp [Value.ownBlock])
  · exact World.ownsRow.kept h hg (.inr h0)
theorem Sd.grown {w wr w2 : World} {A : Option Addr} {n c : Nat} {room fuse : Int} {off : Bool} {F : List Fil} {L : Option Addr} {m lc : Nat} {rs : List (List UInt8)} (h : Sd w A n c room fuse off F wr) (hl : OwnS wr (w.heap.size + 2) L m lc rs)
    (hg : wr.grownBy w2 (Value.slice L m lc).ownBlock) (hb : Below (w.heap.size + 2) wr w2) : Sd w A n c room fuse off F w2 := ⟨h.sb.grown hl hg hb, h.own.grown hl hg⟩
theorem Sd.step {w wr w2 : World} {A : Option Addr} {n c : Nat} {room fuse : Int} {off : Bool} {F : List Fil} (h : Sd w A n c room fuse off F wr) (q : Q wr w2) : Sd w A n c room fuse off F w2 := ⟨h.sb.step q, h.own.q q⟩
theorem Sd.endR {w wr : World} {A : Option Addr} {n c : Nat} {d : Dk} {L : Option Addr} {m lc : Nat} {rs : List (List UInt8)} (h : Sd w A n c d.room d.fuse d.off d.fs wr) (hn : n * 48 ≤ 140737488355328) (hl : OwnS wr (w.heap.size + 2) L m lc rs) (seg er : Int) (x y z u : Value) :
    RetR w (d, rs, seg, er) (.returned (.tuple #[dkv A n c d.room d.fuse d.off, .slice L m lc, .int .i64 seg, .int .i64 er])) ((((wr.setCell ⟨w.heap.size + 1, 0, none⟩ x).setCell ⟨w.heap.size + 1, 1, none⟩ y).setCell ⟨w.heap.size + 1, 2, none⟩ z).setCell ⟨w.heap.size + 1, 3, none⟩ u) :=
  ⟨A, n, c, L, m, lc, rfl, (h.own.set4 (b := w.heap.size + 1) (by omega) _ _ _ _).dsk hn, fun ad e => by have h1 := h.own.far_ ad e; omega, (hl.set4 (b := w.heap.size + 1) (by omega) _ _ _ _).lower (by omega), h.sb.q.set4 (b := w.heap.size + 1) (by omega) _ _ _ _⟩
theorem Sv.endR {w wr : World} {A : Option Addr} {n c : Nat} {d : Dk} {L : Option Addr} {m lc : Nat} {rs : List (List UInt8)} (h : Sv w A n c d wr) (hf : Far w A) (hl : OwnS wr (w.heap.size + 2) L m lc rs) (seg er : Int) (x y z u : Value) :
    RetR w (d, rs, seg, er) (.returned (.tuple #[dkv A n c d.room d.fuse d.off, .slice L m lc, .int .i64 seg, .int .i64 er])) ((((wr.setCell ⟨w.heap.size + 1, 0, none⟩ x).setCell ⟨w.heap.size + 1, 1, none⟩ y).setCell ⟨w.heap.size + 1, 2, none⟩ z).setCell ⟨w.heap.size + 1, 3, none⟩ u) :=
  ⟨A, n, c, L, m, lc, rfl, (((h.dsk.away1 (fun hn ad e => (h.away hn ad e).2) 0 _).away1 (fun hn ad e => (h.away hn ad e).2) 1 _).away1 (fun hn ad e => (h.away hn ad e).2) 2 _).away1 (fun hn ad e => (h.away hn ad e).2) 3 _, hf, (hl.set4 (b := w.heap.size + 1) (by omega) _ _ _ _).lower (by omega), h.sb.q.set4 (b := w.heap.size + 1) (by omega) _ _ _ _⟩
theorem recF_end {n : Nat} {d : Dk} {f k last : Int} {rs : List (List UInt8)} (h : ¬ segOk k ∨ (redd (namB k) d.fs).2 ≠ 0) : recF n d f k rs last = (d, rs, last, 0) := by
  cases n with
  | zero => rfl
  | succ n =>
    unfold recF
    by_cases h0 : segOk k
    · rw [if_neg (by simpa using h0), if_pos (h.resolve_left (by simpa using h0))]
    · rw [if_pos h0]
theorem recF_more {d : Dk} {f k last : Int} {rs : List (List UInt8)} {s : ByteArray} (h0 : segOk k) (hr : redd (namB k) d.fs = (s, 0)) (hs : (scn s.data.toList).2 = []) : recF (fuelOf k) d f k rs last = recF (fuelOf (k + 1)) d f (k + 1) (rs ++ (scn s.data.toList).1) k := by
  have hf : fuelOf k = fuelOf (k + 1) + 1 := by have := h0.2; unfold fuelOf; omega
  rw [hf]
  conv => lhs; unfold recF
  rw [if_neg (by simpa using h0), hr]
  dsimp only
  rw [if_neg (by simp), if_pos hs]
theorem recF_cut {d : Dk} {f k last : Int} {rs : List (List UInt8)} {s : ByteArray} (h0 : segOk k) (hr : redd (namB k) d.fs = (s, 0)) (hs : (scn s.data.toList).2 ≠ []) {y : Dk × Int} (hy : cutM d k ⟨(flat (scn s.data.toList).1).toArray⟩ = y) :
    recF (fuelOf k) d f k rs last = if y.2 ≠ 0 then (y.1, [], f, y.2) else (y.1, rs ++ (scn s.data.toList).1, k, 0) := by
  have hf : fuelOf k = fuelOf (k + 1) + 1 := by have := h0.2; unfold fuelOf; omega
  rw [hf]
  conv => lhs; unfold recF
  rw [if_neg (by simpa using h0), hr]
  dsimp only
  rw [if_neg (by simp), if_neg hs, hy]
theorem Sv.putD {w wr w5 : World} {A A5 : Option Addr} {n c n5 c5 : Nat} {room fuse : Int} {off : Bool} {d5 : Dk} (h : Sb w A n c room fuse off wr) (q : Q wr w5) (hd : Dsk w5 A5 n5 c5 d5.fs) (hf : ∀ ad, A5 = some ad → wr.heap.size ≤ ad.block) :
    Sv w A5 n5 c5 d5 ((((w5.setCell ⟨w.heap.size, 0, none⟩ (.slice A5 n5 c5)).setCell ⟨w.heap.size, 1, none⟩ (.int .i64 d5.room)).setCell ⟨w.heap.size, 2, none⟩ (.int .i64 d5.fuse)).setCell ⟨w.heap.size, 3, none⟩ (.bool d5.off)) ∧ Far w A5 := by
  have hlt := h.res.lt
  have ha : ∀ ad, A5 = some ad → ad.block ≠ w.heap.size := fun ad e => by have := hf ad e; omega
  exact ⟨⟨(h.step q).put4 A5 n5 c5 d5.room d5.fuse d5.off, (((hd.away ha 0 _).away ha 1 _).away ha 2 _).away ha 3 _, fun _ ad e => by have := hf ad e; omega⟩, fun ad e => by have := hf ad e; omega⟩
theorem Sv.grown {w wr w2 : World} {A : Option Addr} {n c : Nat} {d : Dk} {L : Option Addr} {m lc : Nat} {rs : List (List UInt8)} (h : Sv w A n c d wr) (hl : OwnS wr (w.heap.size + 2) L m lc rs)
    (hg : wr.grownBy w2 (Value.slice L m lc).ownBlock) (hb : Below (w.heap.size + 2) wr w2) (hne : ∀ ad, A = some ad → some ad.block ≠ (Value.slice L m lc).ownBlock) : Sv w A n c d w2 :=
  ⟨h.sb.grown hl hg hb, ⟨Files.grown h.dsk.files hg hne, h.dsk.nil, h.dsk.le, h.dsk.cap, h.dsk.few⟩, h.away⟩
theorem OwnS.far_ne {w : World} {base : Nat} {A L : Option Addr} {m lc : Nat} {rs : List (List UInt8)} (h : OwnS w base L m lc rs) (hf : ∀ ad, A = some ad → w.heap.size ≤ ad.block) : ∀ ad, A = some ad → some ad.block ≠ (Value.slice L m lc).ownBlock := by
  intro ad e
  have h1 := hf ad e
  rcases h.2 with ⟨e2, _⟩ | ⟨g, cap, cur, e2, hb, hh, _⟩
  · rw [e2]; simp [Value.ownBlock]
  · rw [e2]
    have hlt : g < w.heap.size := by
      rcases Nat.lt_or_ge g w.heap.size with hlt | hge
      · exact hlt
      · rw [Array.getElem?_eq_none hge] at hh; cases hh
    simp only [Value.ownBlock, ne_eq, Option.some.injEq]; omega
theorem far_cells {w1 : World} {b : Nat} {x y z u a0 a1 a2 a3 : Value} (h : w1.cell? ⟨b, 0, none⟩ = some x ∧ w1.cell? ⟨b, 1, none⟩ = some y ∧ w1.cell? ⟨b, 2, none⟩ = some z ∧ w1.cell? ⟨b, 3, none⟩ = some u) :
    (fun w' : World => w'.cell? ⟨b, 0, none⟩ = some x ∧ w'.cell? ⟨b, 1, none⟩ = some y ∧ w'.cell? ⟨b, 2, none⟩ = some z ∧ w'.cell? ⟨b, 3, none⟩ = some u) ((((w1.setCell ⟨b + 1, 0, none⟩ a0).setCell ⟨b + 1, 1, none⟩ a1).setCell ⟨b + 1, 2, none⟩ a2).setCell ⟨b + 1, 3, none⟩ a3) := by
  have f : ∀ (W : World) (k j : Nat) (v t : Value), W.cell? ⟨b, k, none⟩ = some v → (W.setCell ⟨b + 1, j, none⟩ t).cell? ⟨b, k, none⟩ = some v := fun W k j v t h => (World.cell?_setCell_other _ _ _ _ (by intro x; injection x with x; omega)).trans h
  exact ⟨f _ _ _ _ _ (f _ _ _ _ _ (f _ _ _ _ _ (f _ _ _ _ _ h.1))), f _ _ _ _ _ (f _ _ _ _ _ (f _ _ _ _ _ (f _ _ _ _ _ h.2.1))), f _ _ _ _ _ (f _ _ _ _ _ (f _ _ _ _ _ (f _ _ _ _ _ h.2.2.1))), f _ _ _ _ _ (f _ _ _ _ _ (f _ _ _ _ _ (f _ _ _ _ _ h.2.2.2)))⟩
/-- at the head of a round. -/
def Rr (w : World) (d : Dk) (from_ : Int) (x : Dk × List (List UInt8) × Int × Int) (s8 s9 s10 : Value) (wr : World) : Prop :=
  ∃ (k last : Int) (rs : List (List UInt8)) (L : Option Addr) (lc : Nat) (A : Option Addr) (n c : Nat), s8 = .slice L rs.length lc ∧ s9 = .int .i64 last ∧ s10 = .int .i64 k ∧ 1 ≤ k ∧ k ≤ 1000001 ∧ Sd w A n c d.room d.fuse d.off d.fs wr ∧
    OwnS wr (w.heap.size + 2) L rs.length lc rs ∧ rs.length ≤ (k - 1).toNat * 524288 ∧ x = recF (fuelOf k) d from_ k rs last

set_option maxHeartbeats 8000000 in
theorem rec_good (from_ : Int) (A : Option Addr) (n c : Nat) (d : Dk) (w : World) (hT : Tab w) (hd : Dsk w A n c d.fs) (hB : Bnd 2097152 d) (h1 : segOk from_) :
    Calls Tryz.prog 6 #[dkv A n c d.room d.fuse d.off, .int .i64 from_] w fun e w' => RetR w (recM d from_) e w' := by
  have HT := Lib.hid hT
  have HD := Lib.hid hd
  have HB := Lib.hid hB
  have HM := Lib.hid (mx21 hB)
  have H1 := Lib.hid h1
  have KU := Lib.hid (numbered_yes from_ h1)
  have hx : recM d from_ = recF (fuelOf from_) d from_ from_ [] from_ := by unfold recM; rw [if_neg (by simpa using h1)]
  generalize recM d from_ = x at hx ⊢
  have HX := Lib.hid hx
  have r0 := h1.1
  have r1 := h1.2
  clear hT hd hB h1 hx
  go_enter Tryz.func6, Tryz.ntmps6
  go_wp2_with fail
  go_step3
  go_wp2_with fail
  refine (wown_any A n c d.room d.fuse d.off d.fs _ (HD.out.q (((Q.refl _).alloc _).alloc _))).mono ?_
  rintro e w1 ⟨A1, c1, rfl, ho, q1⟩
  have P := Lib.hid (Sd.new2 (room := d.room) (fuse := d.fuse) (off := d.off) (L := d.fs) (Sv.new w HD.out).sb q1 ho)
  obtain ⟨⟨e0, e1, e2, e3⟩, f0, f1, f2', f3⟩ := ((Sv.new w HD.out).sb.step q1).get
  clear ho q1
  go_upto_region 2 with (fail)
  generalize ((((w1.setCell ⟨w.heap.size, 0, none⟩ (.slice A1 n c1)).setCell ⟨w.heap.size, 1, none⟩ (.int .i64 d.room)).setCell ⟨w.heap.size, 2, none⟩ (.int .i64 d.fuse)).setCell ⟨w.heap.size, 3, none⟩ (.bool d.off)) = W at P ⊢
  clear e0 e1 e2 e3 f0 f1 f2' f3
  go_wp2_with fail
  refine (KU.out _).mono ?_
  rintro e w2 ⟨rfl, q2⟩
  have V := Lib.hid (P.out.step q2)
  clear P q2
  go_wp2
  go_step3
  go_wp2
  go_loopw [8, 9, 10] (Rr w d from_ x) (fun _ _ s10 _ => (1000002 - intOf s10).toNat)
  case atStart => exact ⟨from_, from_, [], none, 0, A1, n, c1, rfl, rfl, rfl, by omega, by omega, V.out, ownS_nil _ _, by simp, HX.out⟩
  case round =>
    obtain ⟨k, last, rs, L, lc, A2, n2, c2, rfl, rfl, rfl, hk1, hk2, hv, hol, hrl, hxx⟩ := hrel
    have V := Lib.hid hv
    have OL := Lib.hid hol
    have HXX := Lib.hid hxx
    have HRL := Lib.hid hrl
    have hn2 : n2 * 48 ≤ 140737488355328 := by have h1 := hv.own.len; have h2 := HD.out.len; have h3 := HD.out.few; omega
    clear hv hol hxx hrl
    generalize wr = W at V OL ⊢
    by_cases g1 : segOk k
    case neg =>
      have G1 := Lib.hid g1
      have KUK := Lib.hid (numbered_no k g1)
      clear g1
      go_wp2_with fail
      refine (KUK.out _).mono ?_
      rintro e w3 ⟨rfl, q3⟩
      have U := Lib.hid (V.out.step q3)
      have UL := Lib.hid (OL.out.q q3)
      clear V OL q3
      obtain ⟨⟨e0, e1, e2, e3⟩, f0, f1, f2', f3⟩ := U.out.sb.get
      obtain ⟨⟨s0, s1, s2, s3⟩, h0, h1, h2, h3⟩ := U.out.sb.getR
      go_wp2
      (try rw [Exit.noGoto_ret])
      refine bodyPost_ret (v := .tuple #[dkv A2 n2 c2 d.room d.fuse d.off, .slice L rs.length lc, .int .i64 last, .int .i64 0]) (by simp [results, Tryz.results6, go_sem, s0, s1, s2, s3]) rfl ?_
      have ex := HXX.out
      rw [recF_end ((.inl G1.out))] at ex
      rw [ex]
      exact U.out.endR hn2 UL.out last 0 _ _ _ _
    have G1 := Lib.hid g1
    have KUK := Lib.hid (numbered_yes k g1)
    have KN := Lib.hid (name_any k)
    have KR := Lib.hid (fun w hf => read_any (namB k) A2 n2 c2 d.room d.fuse d.off d.fs w hf (V.out.own.dsk hn2).max HM.out)
    have hsz := redd_size (namB k) d.fs HB.out.sum
    have hcs : (redd (namB k) d.fs).2 = 0 ∨ (redd (namB k) d.fs).2 = 7 := by unfold redd; split <;> simp
    have HXR : Hid (redd (namB k) d.fs = redd (namB k) d.fs) := Lib.hid rfl
    obtain ⟨r, hr⟩ : ∃ r, r = redd (namB k) d.fs := ⟨_, rfl⟩
    rw [← hr] at KR hsz hcs
    have HR := Lib.hid hr
    clear hr HXR g1
    obtain ⟨s, se⟩ := r
    have hsz' : s.size ≤ 2097152 := hsz
    clear hsz
    go_wp2_with fail
    refine (KUK.out _).mono ?_
    rintro e w3 ⟨rfl, q3⟩
    have U := Lib.hid (V.out.step q3)
    have UL := Lib.hid (OL.out.q q3)
    clear V OL q3
    go_upto_region 9 with (fail)
    generalize w3 = W at U UL ⊢
    obtain ⟨⟨e0, e1, e2, e3⟩, f0, f1, f2', f3⟩ := U.out.sb.get
    go_region_held3 (fun w' => w'.cell? ⟨w.heap.size, 0, none⟩ = some (.slice A2 n2 c2) ∧ w'.cell? ⟨w.heap.size, 1, none⟩ = some (.int .i64 d.room) ∧ w'.cell? ⟨w.heap.size, 2, none⟩ = some (.int .i64 d.fuse) ∧ w'.cell? ⟨w.heap.size, 3, none⟩ = some (.bool d.off))
      (first
        | go_keep
        | (go_split_ands
           (repeat' apply And.intro) <;> exact box_ ‹Q _ _› (by assumption)))
      (first
        | (go_at_call 13
           (with_reducible refine (KN.out _ (HT.out.q (U.out.sb.q.trans (Q.refl W).drew))).mono ?_)
           rintro e w4 ⟨rfl, q4⟩)
        | (go_at_call 20
           (with_reducible refine (KR.out _ (U.out.own.files.q ((Q.refl W).drew.trans q4))).mono ?_)
           rintro e w5 ⟨rfl, q5⟩))
    have V := Lib.hid (U.out.step (((Q.refl W).drew.trans q4).trans q5))
    have OL := Lib.hid (UL.out.q (((Q.refl W).drew.trans q4).trans q5))
    clear U UL q4 q5 e0 e1 e2 e3 f0 f1 f2' f3
    have hsl := scn_len s.data.toList
    rw [size_list] at hsl
    have KSC := Lib.hid (fun w => scan_any s w (by unfold maxLen; omega) (by omega))
    have hus := used_le s.data.toList
    rw [size_list] at hus
    have hrest : (scn s.data.toList).2 = [] ↔ (used s.data.toList : Int) = (s.size : Int) := by
      have h1 := congrArg List.length (scd s.data.toList).eq
      rw [List.length_append, size_list, ← used_flat] at h1
      rw [← List.length_eq_zero_iff]; omega
    have htk := take_used s.data.toList
    have HRS := Lib.hid hrest
    have HTK := Lib.hid htk
    obtain ⟨ms, hms⟩ : ∃ ms, ms = (scn s.data.toList).1 := ⟨_, rfl⟩
    obtain ⟨us, hus2⟩ : ∃ us, us = used s.data.toList := ⟨_, rfl⟩
    rw [← hms, ← hus2] at KSC
    rw [← hms] at hsl
    rw [← hus2] at hus
    have HMS := Lib.hid (And.intro hms hus2)
    clear hrest htk hms hus2
    go_wp2_with fail
    refine (KSC.out _).mono ?_
    rintro e w6 ⟨M, mn, mc, rfl, hm, q6⟩
    have hmn : ms.length = mn := hm.len
    subst hmn
    have U := Lib.hid (V.out.step q6)
    have UL := Lib.hid (OL.out.q q6)
    have hmb : w.heap.size + 2 ≤ w5.heap.size := by have := V.out.sb.res.lt; omega
    have OM := Lib.hid (hm.lower hmb)
    clear hmb
    have hMn := Lib.hid hm.nil
    clear V OL q6 hm
    have HSL := Lib.hid hsl
    rcases hcs with he | he
    case inr =>
      have he' : se = 7 := he
      clear he
      subst he'
      have hrr : (redd (namB k) d.fs).2 ≠ 0 := by rw [← HR.out]; simp
      have HRR := Lib.hid hrr
      clear hrr
      obtain ⟨⟨e0, e1, e2, e3⟩, f0, f1, f2', f3⟩ := U.out.sb.get
      obtain ⟨⟨s0, s1, s2, s3⟩, h0, h1, h2, h3⟩ := U.out.sb.getR
      go_wp2
      (try rw [Exit.noGoto_ret])
      refine bodyPost_ret (v := .tuple #[dkv A2 n2 c2 d.room d.fuse d.off, .slice L rs.length lc, .int .i64 last, .int .i64 0]) (by simp [results, Tryz.results6, go_sem, s0, s1, s2, s3]) rfl ?_
      have ex := HXX.out
      rw [recF_end ((.inr HRR.out))] at ex
      rw [ex]
      exact U.out.endR hn2 UL.out last 0 _ _ _ _
    have he' : se = 0 := he
    clear he
    subst he'
    by_cases gn : (us : Int) = (s.size : Int)
    · have hz : (scn s.data.toList).2 = [] := HRS.out.2 (by rw [← HMS.out.2]; exact gn)
      have HX2 := Lib.hid (HXX.out.trans (recF_more G1.out HR.out.symm hz))
      have hk3 : k ≤ 1000000 := G1.out.2
      have hb16 : (rs.length + ms.length) * 16 ≤ 140737488355328 := by have h1 := HRL.out; have h2 := HSL.out; omega
      have hbw : w.heap.size + 2 ≤ w6.heap.size := by have := U.out.sb.res.lt; omega
      clear hz
      go_wp2_with (at_builtin
                   refine wpl_appSS rfl (.tmp 48) (.tmp 49) rfl (w.heap.size + 2) L rs.length lc rs rfl UL.out M ms.length mc ms rfl OM.out.strs hMn.out hb16 hbw ?_
                   intro L2 lc2 w7 ho7 hg7 hb7)
      have V := Lib.hid (U.out.grown UL.out hg7 hb7)
      clear U UL
      refine ⟨⟨k + 1, k, rs ++ ms, L2, lc2, A2, n2, c2, by rw [List.length_append], rfl, rfl, by omega, by omega, V.out, by rw [List.length_append]; exact ho7, ?_, ?_⟩, by simp [intOf]; omega⟩
      · rw [List.length_append]; have h1 := HRL.out; have h2 := HSL.out; omega
      · rw [HMS.out.1]; exact HX2.out
    · have hz : (scn s.data.toList).2 ≠ [] := fun h => gn (by rw [HMS.out.2]; exact HRS.out.1 h)
      have hex : s.extract 0 us = ⟨(flat (scn s.data.toList).1).toArray⟩ := by
        rw [extract_list, HMS.out.2, HTK.out]; simp
      have hes : (s.extract 0 us).size ≤ 2305843009213693952 := by rw [ByteArray.size_extract]; omega
      have KC := Lib.hid (fun w hT hd => cut_any k (s.extract 0 us) A2 n2 c2 d w hT hd (HB.out.more (by omega)) hes G1.out)
      obtain ⟨y, hy⟩ : ∃ y, y = cutM d k (s.extract 0 us) := ⟨_, rfl⟩
      have HX2 := Lib.hid (HXX.out.trans (recF_cut G1.out HR.out.symm hz (y := y) (by rw [hy, hex])))
      rw [← hy] at KC
      have hbw : w.heap.size + 2 ≤ w6.heap.size := by have := U.out.sb.res.lt; omega
      have hb16 : (rs.length + ms.length) * 16 ≤ 140737488355328 := by have h1 := HRL.out; have h2 := HSL.out; have h3 : k ≤ 1000000 := G1.out.2; omega
      have HB2 := Lib.hid hb16
      clear hz hex hes hy hb16
      go_upto_region 14 with (fail)
      generalize w6 = W at U UL OM hbw ⊢
      have SU := Lib.hid U.out.sb
      have DU := Lib.hid (U.out.own.dsk hn2)
      obtain ⟨⟨e0, e1, e2, e3⟩, f0, f1, f2', f3⟩ := U.out.sb.get
      have QW := Lib.hid (Q.refl W)
      refine wp_region_heldL 9 (Q W) (by kernel_rfl) ?szz0 (fun hHeld => ?rzz0)
      case szz0 =>
        exact (Q.refl W).drew
      case' rzz0 => skip
      refine wpAnyL_take (i := 0) (oi := ?ozz1) (v := ?vzz1) ?hzz1 ?azz1 ?bzz1 ?czz1 ?kzz1 ?qzz1 ?yzz1 ?szz1 ?rzz1
      case hzz1 => simp only [List.getElem?_toArray, List.getElem?_cons_zero]; rfl
      case azz1 => kernel_rfl
      case bzz1 => kernel_rfl
      case czz1 => kernel_rfl
      case kzz1 => kernel_rfl
      case yzz1 =>
        refine Or.inl ⟨by rfl, ?_⟩
        intro w hSw
        have x0 := box_ hSw e0; have x1 := box_ hSw e1; have x2 := box_ hSw e2; have x3 := box_ hSw e3; clear hSw
        go_simp
        try with_reducible rfl
      case qzz1 => exact fun _ _ _ h => h
      case szz1 => first | assumption | trivial
      case' rzz1 => simp only [Act.put, List.setIfInBounds_toArray, List.set_cons_zero, List.set_cons_succ]
      refine wpAnyL_take (i := 1) (oi := ?ozz2) (v := ?vzz2) ?hzz2 ?azz2 ?bzz2 ?czz2 ?kzz2 ?qzz2 ?yzz2 ?szz2 ?rzz2
      case hzz2 => simp only [List.getElem?_toArray, List.getElem?_cons_zero, List.getElem?_cons_succ]; rfl
      case azz2 => kernel_rfl
      case bzz2 => kernel_rfl
      case czz2 => kernel_rfl
      case kzz2 => kernel_rfl
      case yzz2 =>
        refine Or.inl ⟨by rfl, ?_⟩
        intro w hSw
        skip
        go_simp
        try with_reducible rfl
      case qzz2 => exact fun _ _ _ h => h
      case szz2 => first | assumption | trivial
      case' rzz2 => simp only [Act.put, List.setIfInBounds_toArray, List.set_cons_zero, List.set_cons_succ]
      refine wpAnyL_take (i := 2) (oi := ?ozz3) (v := ?vzz3) ?hzz3 ?azz3 ?bzz3 ?czz3 ?kzz3 ?qzz3 ?yzz3 ?szz3 ?rzz3
      case hzz3 => simp only [List.getElem?_toArray, List.getElem?_cons_zero, List.getElem?_cons_succ]; rfl
      case azz3 => kernel_rfl
      case bzz3 => kernel_rfl
      case czz3 => kernel_rfl
      case kzz3 => kernel_rfl
      case yzz3 =>
        refine Or.inl ⟨by rfl, ?_⟩
        intro w hSw
        skip
        go_simp
        try with_reducible rfl
      case qzz3 => exact fun _ _ _ h => h
      case szz3 => first | assumption | trivial
      case' rzz3 => simp only [Act.put, List.setIfInBounds_toArray, List.set_cons_zero, List.set_cons_succ]
      refine wpAnyL_take (i := 3) (oi := ?ozz4) (v := ?vzz4) ?hzz4 ?azz4 ?bzz4 ?czz4 ?kzz4 ?qzz4 ?yzz4 ?szz4 ?rzz4
      case hzz4 => simp only [List.getElem?_toArray, List.getElem?_cons_zero, List.getElem?_cons_succ]; rfl
      case azz4 => kernel_rfl
      case bzz4 => kernel_rfl
      case czz4 => kernel_rfl
      case kzz4 => kernel_rfl
      case yzz4 =>
        refine Or.inl ⟨by rfl, ?_⟩
        intro w hSw
        skip
        go_simp
        try with_reducible rfl
      case qzz4 => exact fun _ _ _ h => h
      case szz4 => first | assumption | trivial
      case' rzz4 => simp only [Act.put, List.setIfInBounds_toArray, List.set_cons_zero, List.set_cons_succ]
      refine wpAnyL_take (i := 4) (oi := ?ozz5) (v := ?vzz5) ?hzz5 ?azz5 ?bzz5 ?czz5 ?kzz5 ?qzz5 ?yzz5 ?szz5 ?rzz5
      case hzz5 => simp only [List.getElem?_toArray, List.getElem?_cons_zero, List.getElem?_cons_succ]; rfl
      case azz5 => kernel_rfl
      case bzz5 => kernel_rfl
      case czz5 => kernel_rfl
      case kzz5 => kernel_rfl
      case yzz5 =>
        refine Or.inl ⟨by rfl, ?_⟩
        intro w hSw
        skip
        go_simp
        try with_reducible rfl
      case qzz5 => exact fun _ _ _ h => h
      case szz5 => first | assumption | trivial
      case' rzz5 => simp only [Act.put, List.setIfInBounds_toArray, List.set_cons_zero, List.set_cons_succ]
      refine wpAnyL_ready (rs := [5]) (by kernel_rfl) (by simp) ?_
      refine AllReadyL.cons (o := ?ozz34) ?hzz34 (fun K hK => ?kzz34) ?mzz34
      case hzz34 => simp only [List.getElem?_toArray, List.getElem?_cons_zero, List.getElem?_cons_succ]; rfl
      case kzz34 =>
        go_simp
        refine (KC.out _ (HT.out.q (SU.out.q.trans hHeld)) (DU.out.q hHeld)).mono ?_
        rintro e w5 ⟨A5, n5, c5, rfl, ho, hf5, q5⟩
        obtain ⟨⟨x0, x1, x2, x3⟩, y0, y1, y2, y3⟩ := ((SU.out.step hHeld).step q5).get
        have Z5 := Lib.hid (And.intro ho (And.intro hHeld (And.intro q5 hf5)))
        go_wp2_with fail
        refine hK.out _ _ ?Szz34 (fun hHeld => ?Rzz34)
        case Szz34 =>
          exact hHeld.trans q5
        case Rzz34 =>
          clear hK K
          try simp only [Act.put, List.setIfInBounds_toArray, List.set_cons_zero, List.set_cons_succ]
          refine wpAnyL_take (i := 6) (oi := ?ozz6) (v := ?vzz6) ?hzz6 ?azz6 ?bzz6 ?czz6 ?kzz6 ?qzz6 ?yzz6 ?szz6 ?rzz6
          case hzz6 => simp only [List.getElem?_toArray, List.getElem?_cons_zero, List.getElem?_cons_succ]; rfl
          case azz6 => kernel_rfl
          case bzz6 => kernel_rfl
          case czz6 => kernel_rfl
          case kzz6 => kernel_rfl
          case yzz6 =>
            refine Or.inl ⟨by rfl, ?_⟩
            intro w hSw
            skip
            go_simp
            try with_reducible rfl
          case qzz6 => exact fun _ _ _ h => h
          case szz6 => first | assumption | trivial
          case' rzz6 => simp only [Act.put, List.setIfInBounds_toArray, List.set_cons_zero, List.set_cons_succ]
          refine wpAnyL_take (i := 7) (oi := ?ozz7) (v := ?vzz7) ?hzz7 ?azz7 ?bzz7 ?czz7 ?kzz7 ?qzz7 ?yzz7 ?szz7 ?rzz7
          case hzz7 => simp only [List.getElem?_toArray, List.getElem?_cons_zero, List.getElem?_cons_succ]; rfl
          case azz7 => kernel_rfl
          case bzz7 => kernel_rfl
          case czz7 => kernel_rfl
          case kzz7 => kernel_rfl
          case yzz7 =>
            refine Or.inl ⟨by rfl, ?_⟩
            intro w hSw
            skip
            go_simp
            try with_reducible rfl
          case qzz7 => exact fun _ _ _ h => h
          case szz7 => first | assumption | trivial
          case' rzz7 => simp only [Act.put, List.setIfInBounds_toArray, List.set_cons_zero, List.set_cons_succ]
          refine wpAnyL_ready (rs := [8, 9]) (by kernel_rfl) (by simp) ?_
          refine AllReadyL.cons (o := ?ozz32) ?hzz32 (fun K hK => ?kzz32) ?mzz32
          case hzz32 => simp only [List.getElem?_toArray, List.getElem?_cons_zero, List.getElem?_cons_succ]; rfl
          case kzz32 =>
            go_simp
            refine hK.out _ _ ?Szz32 (fun hHeld => ?Rzz32)
            case Szz32 =>
              exact hHeld
            case Rzz32 =>
              clear hK K
              try simp only [Act.put, List.setIfInBounds_toArray, List.set_cons_zero, List.set_cons_succ]
              refine wpAnyL_ready (rs := [9]) (by kernel_rfl) (by simp) ?_
              refine AllReadyL.consK (o := ?ozz19) ?hzz19 ?lzz19 (fun K hK => ?kzz19) ?mzz19
              case hzz19 => simp only [List.getElem?_toArray, List.getElem?_cons_zero, List.getElem?_cons_succ]; rfl
              case lzz19 => kernel_rfl
              case kzz19 =>
                go_simp
                refine hK.out _ _ ?Rzz19
                case Rzz19 =>
                  clear hK K
                  try simp only [Act.put, List.setIfInBounds_toArray, List.set_cons_zero, List.set_cons_succ]
                  refine wpAnyH_take (i := 10) (oi := ?ozz8) (v := ?vzz8) ?hzz8 ?azz8 ?bzz8 ?czz8 ?qzz8 ?yzz8 ?szz8 ?rzz8
                  case hzz8 => simp only [List.getElem?_toArray, List.getElem?_cons_zero, List.getElem?_cons_succ]; rfl
                  case azz8 => kernel_rfl
                  case bzz8 => kernel_rfl
                  case czz8 => kernel_rfl
                  case yzz8 =>
                    refine Or.inl ⟨by rfl, ?_⟩
                    intro w hSw
                    skip
                    go_simp
                    try with_reducible rfl
                  case qzz8 => exact fun _ _ _ h => h
                  case szz8 => first | assumption | trivial
                  case' rzz8 => simp only [Act.put, List.setIfInBounds_toArray, List.set_cons_zero, List.set_cons_succ]
                  refine wpAnyH_done (by kernel_rfl) ?_ _
                  have P := Lib.hid (Sv.putD (SU.out.step Z5.out.2.1) Z5.out.2.2.1 Z5.out.1 Z5.out.2.2.2)
                  have HNE := Lib.hid ((UL.out.q Z5.out.2.1).far_ne Z5.out.2.2.2)
                  have hb2 : w.heap.size < w.heap.size + 2 := by omega
                  have UL2 := Lib.hid (((UL.out.q Z5.out.2.1).q Z5.out.2.2.1).set4 (b := w.heap.size) hb2 (.slice A5 n5 c5) (.int .i64 y.1.room) (.int .i64 y.1.fuse) (.bool y.1.off))
                  have OM2 := Lib.hid (((OM.out.q Z5.out.2.1).q Z5.out.2.2.1).set4 (b := w.heap.size) hb2 (.slice A5 n5 c5) (.int .i64 y.1.room) (.int .i64 y.1.fuse) (.bool y.1.off))
                  have hbw2 : w.heap.size + 2 ≤ w5.heap.size := Nat.le_trans hbw (Nat.le_trans Z5.out.2.1.size Z5.out.2.2.1.size)
                  have hbw3 : w.heap.size + 2 ≤ ((((w5.setCell ⟨w.heap.size, 0, none⟩ (.slice A5 n5 c5)).setCell ⟨w.heap.size, 1, none⟩ (.int .i64 y.1.room)).setCell ⟨w.heap.size, 2, none⟩ (.int .i64 y.1.fuse)).setCell ⟨w.heap.size, 3, none⟩ (.bool y.1.off)).heap.size := by simpa [World.setCell] using hbw2
                  clear e0 e1 e2 e3 f0 f1 f2' f3 x0 x1 x2 x3 y0 y1 y2 y3 U UL OM SU DU Z5 hHeld QW hbw hbw2 hb2
                  generalize ((((w5.setCell ⟨w.heap.size, 0, none⟩ (.slice A5 n5 c5)).setCell ⟨w.heap.size, 1, none⟩ (.int .i64 y.1.room)).setCell ⟨w.heap.size, 2, none⟩ (.int .i64 y.1.fuse)).setCell ⟨w.heap.size, 3, none⟩ (.bool y.1.off)) = W at P UL2 OM2 hbw3 ⊢
                  obtain ⟨⟨e0, e1, e2, e3⟩, f0, f1, f2', f3⟩ := P.out.1.sb.get
                  by_cases gy : y.2 = 0
                  · have GY := Lib.hid gy
                    have OL := UL2
                    have OM := OM2
                    have hW2 : w.heap.size + 2 ≤ W.drew.heap.size := hbw3
                    have RB := Lib.hid P.out.1.sb.res
                    go_upto_region 17 with (fail)
                    refine wp_region_held_drew (S := fun w' => w'.cell? ⟨w.heap.size, 0, none⟩ = some (.slice A5 n5 c5) ∧ w'.cell? ⟨w.heap.size, 1, none⟩ = some (.int .i64 y.1.room) ∧ w'.cell? ⟨w.heap.size, 2, none⟩ = some (.int .i64 y.1.fuse) ∧ w'.cell? ⟨w.heap.size, 3, none⟩ = some (.bool y.1.off)) (by kernel_rfl) ?szz9 (fun hHeld => ?rzz9)
                    case szz9 =>
                      exact ⟨e0, e1, e2, e3⟩
                    case' rzz9 => skip
                    refine wpAnyH_take (i := 0) (oi := ?ozz10) (v := ?vzz10) ?hzz10 ?azz10 ?bzz10 ?czz10 ?qzz10 ?yzz10 ?szz10 ?rzz10
                    case hzz10 => simp only [List.getElem?_toArray, List.getElem?_cons_zero]; rfl
                    case azz10 => kernel_rfl
                    case bzz10 => kernel_rfl
                    case czz10 => kernel_rfl
                    case yzz10 =>
                      refine Or.inl ⟨by rfl, ?_⟩
                      intro w hSw
                      obtain ⟨x0, x1, x2, x3⟩ := hSw
                      go_simp
                      try with_reducible rfl
                    case qzz10 => exact fun _ _ _ h => h
                    case szz10 => first | assumption | trivial
                    case' rzz10 => simp only [Act.put, List.setIfInBounds_toArray, List.set_cons_zero, List.set_cons_succ]
                    refine wpAnyH_take (i := 1) (oi := ?ozz11) (v := ?vzz11) ?hzz11 ?azz11 ?bzz11 ?czz11 ?qzz11 ?yzz11 ?szz11 ?rzz11
                    case hzz11 => simp only [List.getElem?_toArray, List.getElem?_cons_zero, List.getElem?_cons_succ]; rfl
                    case azz11 => kernel_rfl
                    case bzz11 => kernel_rfl
                    case czz11 => kernel_rfl
                    case yzz11 =>
                      refine Or.inl ⟨by rfl, ?_⟩
                      intro w hSw
                      skip
                      go_simp
                      try with_reducible rfl
                    case qzz11 => exact fun _ _ _ h => h
                    case szz11 => first | assumption | trivial
                    case' rzz11 => simp only [Act.put, List.setIfInBounds_toArray, List.set_cons_zero, List.set_cons_succ]
                    refine wpAnyH_take (i := 2) (oi := ?ozz12) (v := ?vzz12) ?hzz12 ?azz12 ?bzz12 ?czz12 ?qzz12 ?yzz12 ?szz12 ?rzz12
                    case hzz12 => simp only [List.getElem?_toArray, List.getElem?_cons_zero, List.getElem?_cons_succ]; rfl
                    case azz12 => kernel_rfl
                    case bzz12 => kernel_rfl
                    case czz12 => kernel_rfl
                    case yzz12 =>
                      refine Or.inl ⟨by rfl, ?_⟩
                      intro w hSw
                      skip
                      go_simp
                      try with_reducible rfl
                    case qzz12 => exact fun _ _ _ h => h
                    case szz12 => first | assumption | trivial
                    case' rzz12 => simp only [Act.put, List.setIfInBounds_toArray, List.set_cons_zero, List.set_cons_succ]
                    refine wpAnyH_take (i := 4) (oi := ?ozz13) (v := ?vzz13) ?hzz13 ?azz13 ?bzz13 ?czz13 ?qzz13 ?yzz13 ?szz13 ?rzz13
                    case hzz13 => simp only [List.getElem?_toArray, List.getElem?_cons_zero, List.getElem?_cons_succ]; rfl
                    case azz13 => kernel_rfl
                    case bzz13 => kernel_rfl
                    case czz13 => kernel_rfl
                    case yzz13 =>
                      refine Or.inl ⟨by rfl, ?_⟩
                      intro w hSw
                      skip
                      go_simp
                      try with_reducible rfl
                    case qzz13 => exact fun _ _ _ h => h
                    case szz13 => first | assumption | trivial
                    case' rzz13 => simp only [Act.put, List.setIfInBounds_toArray, List.set_cons_zero, List.set_cons_succ]
                    refine wpAnyH_ready (rs := [3]) (by kernel_rfl) (by simp) ?_
                    refine AllReadyH.cons (o := ?ozz18) ?hzz18 (fun K hK => ?kzz18) ?mzz18
                    case hzz18 => simp only [List.getElem?_toArray, List.getElem?_cons_zero, List.getElem?_cons_succ]; rfl
                    case kzz18 =>
                      have hne := row_ne OL.out (b := w.heap.size) (by omega)
                      have hne1 := row_ne OL.out (b := w.heap.size + 1) (by omega)
                      refine step_appS (by rfl) _ _ (by rfl) (w.heap.size + 2) L rs.length lc rs (by rfl) (show OwnS W.drew _ _ _ _ _ from OL.out) M ms.length mc ms (by rfl) (show Strs W.drew _ _ _ from OM.out.strs) hMn.out HB2.out hW2 ?_
                      intro L2 lc2 w2 ho2 hg2 hb2
                      refine hK.out _ _ ?Szz18 (fun hHeld => ?Rzz18)
                      case Szz18 =>
                        exact ⟨box_g hg2 hne hHeld.1, box_g hg2 hne hHeld.2.1, box_g hg2 hne hHeld.2.2.1, box_g hg2 hne hHeld.2.2.2⟩
                      case Rzz18 =>
                        clear hK K
                        try simp only [Act.put, List.setIfInBounds_toArray, List.set_cons_zero, List.set_cons_succ]
                        have RB2 := Lib.hid (Bx.grown (show Bx W.drew _ _ from RB.out) hg2 hne1)
                        obtain ⟨⟨s0, s1, s2, s3⟩, h0, h1, h2, h3⟩ := RB2.out.get4
                        refine wpAnyH_ready (rs := [5]) (by kernel_rfl) (by simp) ?_
                        refine AllReadyH.cons (o := ?ozz17) ?hzz17 (fun K hK => ?kzz17) ?mzz17
                        case hzz17 => simp only [List.getElem?_toArray, List.getElem?_cons_zero, List.getElem?_cons_succ]; rfl
                        case kzz17 =>
                          go_simp
                          refine hK.out _ _ ?Szz17 (fun hHeld => ?Rzz17)
                          case Szz17 =>
                            exact far_cells hHeld
                          case Rzz17 =>
                            clear hK K
                            try simp only [Act.put, List.setIfInBounds_toArray, List.set_cons_zero, List.set_cons_succ]
                            refine wpAnyH_take (i := 6) (oi := ?ozz14) (v := ?vzz14) ?hzz14 ?azz14 ?bzz14 ?czz14 ?qzz14 ?yzz14 ?szz14 ?rzz14
                            case hzz14 => simp only [List.getElem?_toArray, List.getElem?_cons_zero, List.getElem?_cons_succ]; rfl
                            case azz14 => kernel_rfl
                            case bzz14 => kernel_rfl
                            case czz14 => kernel_rfl
                            case yzz14 =>
                              refine Or.inl ⟨by rfl, ?_⟩
                              intro w hSw
                              skip
                              go_simp
                              try with_reducible rfl
                            case qzz14 => exact fun _ _ _ h => h
                            case szz14 => first | assumption | trivial
                            case' rzz14 => simp only [Act.put, List.setIfInBounds_toArray, List.set_cons_zero, List.set_cons_succ]
                            refine wpAnyH_take (i := 7) (oi := ?ozz15) (v := ?vzz15) ?hzz15 ?azz15 ?bzz15 ?czz15 ?qzz15 ?yzz15 ?szz15 ?rzz15
                            case hzz15 => simp only [List.getElem?_toArray, List.getElem?_cons_zero, List.getElem?_cons_succ]; rfl
                            case azz15 => kernel_rfl
                            case bzz15 => kernel_rfl
                            case czz15 => kernel_rfl
                            case yzz15 =>
                              refine Or.inl ⟨by rfl, ?_⟩
                              intro w hSw
                              skip
                              go_simp
                              try with_reducible rfl
                            case qzz15 => exact fun _ _ _ h => h
                            case szz15 => first | assumption | trivial
                            case' rzz15 => simp only [Act.put, List.setIfInBounds_toArray, List.set_cons_zero, List.set_cons_succ]
                            refine wpAnyH_take (i := 8) (oi := ?ozz16) (v := ?vzz16) ?hzz16 ?azz16 ?bzz16 ?czz16 ?qzz16 ?yzz16 ?szz16 ?rzz16
                            case hzz16 => simp only [List.getElem?_toArray, List.getElem?_cons_zero, List.getElem?_cons_succ]; rfl
                            case azz16 => kernel_rfl
                            case bzz16 => kernel_rfl
                            case czz16 => kernel_rfl
                            case yzz16 =>
                              refine Or.inl ⟨by rfl, ?_⟩
                              intro w hSw
                              skip
                              go_simp
                              try with_reducible rfl
                            case qzz16 => exact fun _ _ _ h => h
                            case szz16 => first | assumption | trivial
                            case' rzz16 => simp only [Act.put, List.setIfInBounds_toArray, List.set_cons_zero, List.set_cons_succ]
                            refine wpAnyH_done (by kernel_rfl) ?_ _
                            go_wp2
                            (try rw [Exit.noGoto_ret])
                            refine bodyPost_ret (v := .tuple #[dkv A5 n5 c5 y.1.room y.1.fuse y.1.off, .slice L2 (rs.length + ms.length) lc2, .int .i64 k, .int .i64 0]) (by simp [results, Tryz.results6, go_sem, s0, s1, s2, s3]) rfl ?_
                            rw [HX2.out, if_neg (by rw [GY.out]; simp), ← HMS.out.1]
                            exact (Sv.grown (P.out.1.step (Q.refl W).drew) OL.out hg2 hb2 HNE.out).endR P.out.2 ho2 k 0 _ _ _ _
                        case' mzz17 => skip
                        exact AllReadyH.nil
                    case' mzz18 => skip
                    exact AllReadyH.nil
                  · have GY := Lib.hid gy
                    obtain ⟨⟨s0, s1, s2, s3⟩, h0, h1, h2, h3⟩ := P.out.1.sb.getR
                    go_wp2
                    (try rw [Exit.noGoto_ret])
                    refine bodyPost_ret (v := .tuple #[dkv A5 n5 c5 y.1.room y.1.fuse y.1.off, .slice none 0 0, .int .i64 from_, .int .i64 y.2]) (by simp [results, Tryz.results6, go_sem, s0, s1, s2, s3]) rfl ?_
                    rw [HX2.out, if_pos GY.out]
                    exact P.out.1.endR P.out.2 (ownS_nil _ _) from_ y.2 _ _ _ _
              case' mzz19 => skip
              exact AllReadyL.nil
          case' mzz32 => skip
          refine AllReadyL.consK (o := ?ozz33) ?hzz33 ?lzz33 (fun K hK => ?kzz33) ?mzz33
          case hzz33 => simp only [List.getElem?_toArray, List.getElem?_cons_zero, List.getElem?_cons_succ]; rfl
          case lzz33 => kernel_rfl
          case kzz33 =>
            go_simp
            refine hK.out _ _ ?Rzz33
            case Rzz33 =>
              clear hK K
              try simp only [Act.put, List.setIfInBounds_toArray, List.set_cons_zero, List.set_cons_succ]
              refine wpAnyH_take (i := 8) (oi := ?ozz20) (v := ?vzz20) ?hzz20 ?azz20 ?bzz20 ?czz20 ?qzz20 ?yzz20 ?szz20 ?rzz20
              case hzz20 => simp only [List.getElem?_toArray, List.getElem?_cons_zero, List.getElem?_cons_succ]; rfl
              case azz20 => kernel_rfl
              case bzz20 => kernel_rfl
              case czz20 => kernel_rfl
              case yzz20 =>
                refine Or.inl ⟨by rfl, ?_⟩
                intro w hSw
                skip
                go_simp
                try with_reducible rfl
              case qzz20 => exact fun _ _ _ h => h
              case szz20 => first | assumption | trivial
              case' rzz20 => simp only [Act.put, List.setIfInBounds_toArray, List.set_cons_zero, List.set_cons_succ]
              refine wpAnyH_take (i := 10) (oi := ?ozz21) (v := ?vzz21) ?hzz21 ?azz21 ?bzz21 ?czz21 ?qzz21 ?yzz21 ?szz21 ?rzz21
              case hzz21 => simp only [List.getElem?_toArray, List.getElem?_cons_zero, List.getElem?_cons_succ]; rfl
              case azz21 => kernel_rfl
              case bzz21 => kernel_rfl
              case czz21 => kernel_rfl
              case yzz21 =>
                refine Or.inl ⟨by rfl, ?_⟩
                intro w hSw
                skip
                go_simp
                try with_reducible rfl
              case qzz21 => exact fun _ _ _ h => h
              case szz21 => first | assumption | trivial
              case' rzz21 => simp only [Act.put, List.setIfInBounds_toArray, List.set_cons_zero, List.set_cons_succ]
              refine wpAnyH_done (by kernel_rfl) ?_ _
              have P := Lib.hid (Sv.putD (SU.out.step Z5.out.2.1) Z5.out.2.2.1 Z5.out.1 Z5.out.2.2.2)
              have HNE := Lib.hid ((UL.out.q Z5.out.2.1).far_ne Z5.out.2.2.2)
              have hb2 : w.heap.size < w.heap.size + 2 := by omega
              have UL2 := Lib.hid (((UL.out.q Z5.out.2.1).q Z5.out.2.2.1).set4 (b := w.heap.size) hb2 (.slice A5 n5 c5) (.int .i64 y.1.room) (.int .i64 y.1.fuse) (.bool y.1.off))
              have OM2 := Lib.hid (((OM.out.q Z5.out.2.1).q Z5.out.2.2.1).set4 (b := w.heap.size) hb2 (.slice A5 n5 c5) (.int .i64 y.1.room) (.int .i64 y.1.fuse) (.bool y.1.off))
              have hbw2 : w.heap.size + 2 ≤ w5.heap.size := Nat.le_trans hbw (Nat.le_trans Z5.out.2.1.size Z5.out.2.2.1.size)
              have hbw3 : w.heap.size + 2 ≤ ((((w5.setCell ⟨w.heap.size, 0, none⟩ (.slice A5 n5 c5)).setCell ⟨w.heap.size, 1, none⟩ (.int .i64 y.1.room)).setCell ⟨w.heap.size, 2, none⟩ (.int .i64 y.1.fuse)).setCell ⟨w.heap.size, 3, none⟩ (.bool y.1.off)).heap.size := by simpa [World.setCell] using hbw2
              clear e0 e1 e2 e3 f0 f1 f2' f3 x0 x1 x2 x3 y0 y1 y2 y3 U UL OM SU DU Z5 hHeld QW hbw hbw2 hb2
              generalize ((((w5.setCell ⟨w.heap.size, 0, none⟩ (.slice A5 n5 c5)).setCell ⟨w.heap.size, 1, none⟩ (.int .i64 y.1.room)).setCell ⟨w.heap.size, 2, none⟩ (.int .i64 y.1.fuse)).setCell ⟨w.heap.size, 3, none⟩ (.bool y.1.off)) = W at P UL2 OM2 hbw3 ⊢
              obtain ⟨⟨e0, e1, e2, e3⟩, f0, f1, f2', f3⟩ := P.out.1.sb.get
              by_cases gy : y.2 = 0
              · have GY := Lib.hid gy
                have OL := UL2
                have OM := OM2
                have hW2 : w.heap.size + 2 ≤ W.drew.heap.size := hbw3
                have RB := Lib.hid P.out.1.sb.res
                go_upto_region 17 with (fail)
                refine wp_region_held_drew (S := fun w' => w'.cell? ⟨w.heap.size, 0, none⟩ = some (.slice A5 n5 c5) ∧ w'.cell? ⟨w.heap.size, 1, none⟩ = some (.int .i64 y.1.room) ∧ w'.cell? ⟨w.heap.size, 2, none⟩ = some (.int .i64 y.1.fuse) ∧ w'.cell? ⟨w.heap.size, 3, none⟩ = some (.bool y.1.off)) (by kernel_rfl) ?szz22 (fun hHeld => ?rzz22)
                case szz22 =>
                  exact ⟨e0, e1, e2, e3⟩
                case' rzz22 => skip
                refine wpAnyH_take (i := 0) (oi := ?ozz23) (v := ?vzz23) ?hzz23 ?azz23 ?bzz23 ?czz23 ?qzz23 ?yzz23 ?szz23 ?rzz23
                case hzz23 => simp only [List.getElem?_toArray, List.getElem?_cons_zero]; rfl
                case azz23 => kernel_rfl
                case bzz23 => kernel_rfl
                case czz23 => kernel_rfl
                case yzz23 =>
                  refine Or.inl ⟨by rfl, ?_⟩
                  intro w hSw
                  obtain ⟨x0, x1, x2, x3⟩ := hSw
                  go_simp
                  try with_reducible rfl
                case qzz23 => exact fun _ _ _ h => h
                case szz23 => first | assumption | trivial
                case' rzz23 => simp only [Act.put, List.setIfInBounds_toArray, List.set_cons_zero, List.set_cons_succ]
                refine wpAnyH_take (i := 1) (oi := ?ozz24) (v := ?vzz24) ?hzz24 ?azz24 ?bzz24 ?czz24 ?qzz24 ?yzz24 ?szz24 ?rzz24
                case hzz24 => simp only [List.getElem?_toArray, List.getElem?_cons_zero, List.getElem?_cons_succ]; rfl
                case azz24 => kernel_rfl
                case bzz24 => kernel_rfl
                case czz24 => kernel_rfl
                case yzz24 =>
                  refine Or.inl ⟨by rfl, ?_⟩
                  intro w hSw
                  skip
                  go_simp
                  try with_reducible rfl
                case qzz24 => exact fun _ _ _ h => h
                case szz24 => first | assumption | trivial
                case' rzz24 => simp only [Act.put, List.setIfInBounds_toArray, List.set_cons_zero, List.set_cons_succ]
                refine wpAnyH_take (i := 2) (oi := ?ozz25) (v := ?vzz25) ?hzz25 ?azz25 ?bzz25 ?czz25 ?qzz25 ?yzz25 ?szz25 ?rzz25
                case hzz25 => simp only [List.getElem?_toArray, List.getElem?_cons_zero, List.getElem?_cons_succ]; rfl
                case azz25 => kernel_rfl
                case bzz25 => kernel_rfl
                case czz25 => kernel_rfl
                case yzz25 =>
                  refine Or.inl ⟨by rfl, ?_⟩
                  intro w hSw
                  skip
                  go_simp
                  try with_reducible rfl
                case qzz25 => exact fun _ _ _ h => h
                case szz25 => first | assumption | trivial
                case' rzz25 => simp only [Act.put, List.setIfInBounds_toArray, List.set_cons_zero, List.set_cons_succ]
                refine wpAnyH_take (i := 4) (oi := ?ozz26) (v := ?vzz26) ?hzz26 ?azz26 ?bzz26 ?czz26 ?qzz26 ?yzz26 ?szz26 ?rzz26
                case hzz26 => simp only [List.getElem?_toArray, List.getElem?_cons_zero, List.getElem?_cons_succ]; rfl
                case azz26 => kernel_rfl
                case bzz26 => kernel_rfl
                case czz26 => kernel_rfl
                case yzz26 =>
                  refine Or.inl ⟨by rfl, ?_⟩
                  intro w hSw
                  skip
                  go_simp
                  try with_reducible rfl
                case qzz26 => exact fun _ _ _ h => h
                case szz26 => first | assumption | trivial
                case' rzz26 => simp only [Act.put, List.setIfInBounds_toArray, List.set_cons_zero, List.set_cons_succ]
                refine wpAnyH_ready (rs := [3]) (by kernel_rfl) (by simp) ?_
                refine AllReadyH.cons (o := ?ozz31) ?hzz31 (fun K hK => ?kzz31) ?mzz31
                case hzz31 => simp only [List.getElem?_toArray, List.getElem?_cons_zero, List.getElem?_cons_succ]; rfl
                case kzz31 =>
                  have hne := row_ne OL.out (b := w.heap.size) (by omega)
                  have hne1 := row_ne OL.out (b := w.heap.size + 1) (by omega)
                  refine step_appS (by rfl) _ _ (by rfl) (w.heap.size + 2) L rs.length lc rs (by rfl) (show OwnS W.drew _ _ _ _ _ from OL.out) M ms.length mc ms (by rfl) (show Strs W.drew _ _ _ from OM.out.strs) hMn.out HB2.out hW2 ?_
                  intro L2 lc2 w2 ho2 hg2 hb2
                  refine hK.out _ _ ?Szz31 (fun hHeld => ?Rzz31)
                  case Szz31 =>
                    exact ⟨box_g hg2 hne hHeld.1, box_g hg2 hne hHeld.2.1, box_g hg2 hne hHeld.2.2.1, box_g hg2 hne hHeld.2.2.2⟩
                  case Rzz31 =>
                    clear hK K
                    try simp only [Act.put, List.setIfInBounds_toArray, List.set_cons_zero, List.set_cons_succ]
                    have RB2 := Lib.hid (Bx.grown (show Bx W.drew _ _ from RB.out) hg2 hne1)
                    obtain ⟨⟨s0, s1, s2, s3⟩, h0, h1, h2, h3⟩ := RB2.out.get4
                    refine wpAnyH_ready (rs := [5]) (by kernel_rfl) (by simp) ?_
                    refine AllReadyH.cons (o := ?ozz30) ?hzz30 (fun K hK => ?kzz30) ?mzz30
                    case hzz30 => simp only [List.getElem?_toArray, List.getElem?_cons_zero, List.getElem?_cons_succ]; rfl
                    case kzz30 =>
                      go_simp
                      refine hK.out _ _ ?Szz30 (fun hHeld => ?Rzz30)
                      case Szz30 =>
                        exact far_cells hHeld
                      case Rzz30 =>
                        clear hK K
                        try simp only [Act.put, List.setIfInBounds_toArray, List.set_cons_zero, List.set_cons_succ]
                        refine wpAnyH_take (i := 6) (oi := ?ozz27) (v := ?vzz27) ?hzz27 ?azz27 ?bzz27 ?czz27 ?qzz27 ?yzz27 ?szz27 ?rzz27
                        case hzz27 => simp only [List.getElem?_toArray, List.getElem?_cons_zero, List.getElem?_cons_succ]; rfl
                        case azz27 => kernel_rfl
                        case bzz27 => kernel_rfl
                        case czz27 => kernel_rfl
                        case yzz27 =>
                          refine Or.inl ⟨by rfl, ?_⟩
                          intro w hSw
                          skip
                          go_simp
                          try with_reducible rfl
                        case qzz27 => exact fun _ _ _ h => h
                        case szz27 => first | assumption | trivial
                        case' rzz27 => simp only [Act.put, List.setIfInBounds_toArray, List.set_cons_zero, List.set_cons_succ]
                        refine wpAnyH_take (i := 7) (oi := ?ozz28) (v := ?vzz28) ?hzz28 ?azz28 ?bzz28 ?czz28 ?qzz28 ?yzz28 ?szz28 ?rzz28
                        case hzz28 => simp only [List.getElem?_toArray, List.getElem?_cons_zero, List.getElem?_cons_succ]; rfl
                        case azz28 => kernel_rfl
                        case bzz28 => kernel_rfl
                        case czz28 => kernel_rfl
                        case yzz28 =>
                          refine Or.inl ⟨by rfl, ?_⟩
                          intro w hSw
                          skip
                          go_simp
                          try with_reducible rfl
                        case qzz28 => exact fun _ _ _ h => h
                        case szz28 => first | assumption | trivial
                        case' rzz28 => simp only [Act.put, List.setIfInBounds_toArray, List.set_cons_zero, List.set_cons_succ]
                        refine wpAnyH_take (i := 8) (oi := ?ozz29) (v := ?vzz29) ?hzz29 ?azz29 ?bzz29 ?czz29 ?qzz29 ?yzz29 ?szz29 ?rzz29
                        case hzz29 => simp only [List.getElem?_toArray, List.getElem?_cons_zero, List.getElem?_cons_succ]; rfl
                        case azz29 => kernel_rfl
                        case bzz29 => kernel_rfl
                        case czz29 => kernel_rfl
                        case yzz29 =>
                          refine Or.inl ⟨by rfl, ?_⟩
                          intro w hSw
                          skip
                          go_simp
                          try with_reducible rfl
                        case qzz29 => exact fun _ _ _ h => h
                        case szz29 => first | assumption | trivial
                        case' rzz29 => simp only [Act.put, List.setIfInBounds_toArray, List.set_cons_zero, List.set_cons_succ]
                        refine wpAnyH_done (by kernel_rfl) ?_ _
                        go_wp2
                        (try rw [Exit.noGoto_ret])
                        refine bodyPost_ret (v := .tuple #[dkv A5 n5 c5 y.1.room y.1.fuse y.1.off, .slice L2 (rs.length + ms.length) lc2, .int .i64 k, .int .i64 0]) (by simp [results, Tryz.results6, go_sem, s0, s1, s2, s3]) rfl ?_
                        rw [HX2.out, if_neg (by rw [GY.out]; simp), ← HMS.out.1]
                        exact (Sv.grown (P.out.1.step (Q.refl W).drew) OL.out hg2 hb2 HNE.out).endR P.out.2 ho2 k 0 _ _ _ _
                    case' mzz30 => skip
                    exact AllReadyH.nil
                case' mzz31 => skip
                exact AllReadyH.nil
              · have GY := Lib.hid gy
                obtain ⟨⟨s0, s1, s2, s3⟩, h0, h1, h2, h3⟩ := P.out.1.sb.getR
                go_wp2
                (try rw [Exit.noGoto_ret])
                refine bodyPost_ret (v := .tuple #[dkv A5 n5 c5 y.1.room y.1.fuse y.1.off, .slice none 0 0, .int .i64 from_, .int .i64 y.2]) (by simp [results, Tryz.results6, go_sem, s0, s1, s2, s3]) rfl ?_
                rw [HX2.out, if_pos GY.out]
                exact P.out.1.endR P.out.2 (ownS_nil _ _) from_ y.2 _ _ _ _
          case' mzz33 => skip
          exact AllReadyL.nil
      case' mzz34 => skip
      exact AllReadyL.nil

theorem rec_bad (from_ : Int) (A : Option Addr) (n c : Nat) (d : Dk) (w : World) (hd : Dsk w A n c d.fs) (h1 : ¬ segOk from_) :
    Calls Tryz.prog 6 #[dkv A n c d.room d.fuse d.off, .int .i64 from_] w fun e w' => RetR w (d, [], from_, 1) e w' := by
  have HD := Lib.hid hd
  have KU := Lib.hid (numbered_no from_ h1)
  clear hd h1
  go_enter Tryz.func6, Tryz.ntmps6
  go_wp2_with fail
  go_step3
  go_wp2_with fail
  refine (wown_any A n c d.room d.fuse d.off d.fs _ (HD.out.q (((Q.refl _).alloc _).alloc _))).mono ?_
  rintro e w1 ⟨A1, c1, rfl, ho, q1⟩
  have P := Lib.hid (Sd.new2 (room := d.room) (fuse := d.fuse) (off := d.off) (L := d.fs) (Sv.new w HD.out).sb q1 ho)
  obtain ⟨⟨e0, e1, e2, e3⟩, f0, f1, f2', f3⟩ := ((Sv.new w HD.out).sb.step q1).get
  clear ho q1
  go_upto_region 2 with (fail)
  generalize ((((w1.setCell ⟨w.heap.size, 0, none⟩ (.slice A1 n c1)).setCell ⟨w.heap.size, 1, none⟩ (.int .i64 d.room)).setCell ⟨w.heap.size, 2, none⟩ (.int .i64 d.fuse)).setCell ⟨w.heap.size, 3, none⟩ (.bool d.off)) = W at P ⊢
  clear e0 e1 e2 e3 f0 f1 f2' f3
  go_wp2_with fail
  refine (KU.out _).mono ?_
  rintro e w2 ⟨rfl, q2⟩
  have V := Lib.hid (P.out.step q2)
  clear P q2
  obtain ⟨⟨e0, e1, e2, e3⟩, f0, f1, f2', f3⟩ := V.out.sb.get
  obtain ⟨⟨s0, s1, s2, s3⟩, h0, h1, h2, h3⟩ := V.out.sb.getR
  go_wp2
  (try rw [Exit.noGoto_ret])
  refine bodyPost_ret (v := .tuple #[dkv A1 n c1 d.room d.fuse d.off, .slice none 0 0, .int .i64 from_, .int .i64 1]) (by simp [results, Tryz.results6, go_sem, s0, s1, s2, s3]) rfl ?_
  exact V.out.endR HD.out.few (ownS_nil _ _) from_ 1 _ _ _ _
theorem recover_any (from_ : Int) (A : Option Addr) (n c : Nat) (d : Dk) (w : World) (hT : Tab w) (hd : Dsk w A n c d.fs) (hB : Bnd 2097152 d) :
    Calls Tryz.prog 6 #[dkv A n c d.room d.fuse d.off, .int .i64 from_] w fun e w' => RetR w (recM d from_) e w' := by
  by_cases h1 : segOk from_
  · exact rec_good from_ A n c d w hT hd hB h1
  · rw [show recM d from_ = (d, [], from_, 1) by unfold recM; rw [if_pos h1]]
    exact rec_bad from_ A n c d w hd h1
end Go.Proofs.YtggbdhnjogalgaaGreatDoor

/- Contracts: the document's Rename over a file that is there; Rename and Delete whole. -/
namespace Go.Proofs.YtggbdhnjogalgaaGreatDoor
set_option maxRecDepth 100000
open Go.RowKit Dkm
set_option linter.unusedVariables false

end Go.Proofs.YtggbdhnjogalgaaGreatDoor
