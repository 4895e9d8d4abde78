/- Contracts: package alarm's own sink, pop. -/
import Derived.Test.YtbclamfpoigneaaAlRise
namespace Go.Proofs.Ytbclamfpoigneaa
set_option maxRecDepth 100000
open Go.RowKit
set_option linter.unusedVariables false
set_option linter.unusedSimpArgs false
namespace Am

theorem bst_none {l : List Al} {i : Nat} (h : l.length ≤ 2 * i + 1) : bst l i = i := by
  rcases bst_cases l i with ⟨e, _⟩ | ⟨h0, hp, hl, _⟩
  · exact e
  · unfold par at hp; omega
theorem bst_pick {l : List Al} {i nx : Nat} (h1 : 2 * i + 1 < l.length)
    (hn : (nx = 0 ∧ (2 * i + 2 < l.length → less (g l (2 * i + 2)) (g l (2 * i + 1)) = false)) ∨ (nx = 1 ∧ 2 * i + 2 < l.length ∧ less (g l (2 * i + 2)) (g l (2 * i + 1)) = true)) :
    bst l i = if less (g l (2 * i + 1 + nx)) (g l i) = true then 2 * i + 1 + nx else i := by
  rcases hn with ⟨rfl, hn⟩ | ⟨rfl, h2, hn⟩
  · show bst l i = if less (g l (2 * i + 1)) (g l i) = true then 2 * i + 1 else i
    cases hL : less (g l (2 * i + 1)) (g l i) with
    | true =>
      have hb : bst1 l i = 2 * i + 1 := by unfold bst1; rw [if_pos ⟨h1, hL⟩]
      unfold bst
      rw [hb, if_pos rfl]
      exact if_neg fun h => by rw [hn h.1] at h; exact absurd h.2 (by simp)
    | false =>
      have hb : bst1 l i = i := by unfold bst1; exact if_neg fun h => by rw [hL] at h; exact absurd h.2 (by simp)
      unfold bst
      rw [hb]
      show _ = i
      exact if_neg fun h => by
        have hR : less (g l (2 * i + 2)) (g l i) = false := less_f.2 (le_trans (less_f.1 hL) (less_f.1 (hn h.1)))
        rw [hR] at h; exact absurd h.2 (by simp)
  · show bst l i = if less (g l (2 * i + 2)) (g l i) = true then 2 * i + 2 else i
    cases hR : less (g l (2 * i + 2)) (g l i) with
    | true =>
      rw [if_pos rfl]
      cases hL : less (g l (2 * i + 1)) (g l i) with
      | true =>
        have hb : bst1 l i = 2 * i + 1 := by unfold bst1; rw [if_pos ⟨h1, hL⟩]
        unfold bst
        rw [hb]
        exact if_pos ⟨h2, hn⟩
      | false =>
        have hb : bst1 l i = i := by unfold bst1; exact if_neg fun h => by rw [hL] at h; exact absurd h.2 (by simp)
        unfold bst
        rw [hb]
        exact if_pos ⟨h2, hR⟩
    | false =>
      have hL : less (g l (2 * i + 1)) (g l i) = false := less_f.2 (le_trans (less_f.1 hR) (le_of_less hn))
      have hb : bst1 l i = i := by unfold bst1; exact if_neg fun h => by rw [hL] at h; exact absurd h.2 (by simp)
      unfold bst
      rw [hb]
      show _ = i
      exact if_neg fun h => by rw [hR] at h; exact absurd h.2 (by simp)

set_option maxRecDepth 100000 in
set_option maxHeartbeats 8000000 in
theorem asink_any (base p n c : Nat) (l : List Al) (i f : Nat) (w : World) (ho : OwnK alK w base (some ⟨p, 0, none⟩) n c l) (hi : i ≤ n) (hn : n ≤ 1000000) (hf : n ≤ i + f) :
    Calls Try.prog 29 #[.slice (some ⟨p, 0, none⟩) n c, .int .i64 (i : Int)] w fun e w' => e = .returned (.tuple #[]) ∧ OwnK alK w' base (some ⟨p, 0, none⟩) n c (sink f l i) ∧ w.grownBy w' (some p) := by
  have HO0 := Lib.hid ho
  have HF0 := Lib.hid hf
  clear ho hf
  go_enter Try.func29, Try.ntmps29
  go_wp2
  go_step3
  go_wp2
  go_step3
  go_wp2
  go_loopw [1] (fun iv wr => ∃ (k f2 : Nat) (l2 : List Al), iv = .int .i64 (k : Nat) ∧ k ≤ n ∧ OwnK alK wr base (some ⟨p, 0, none⟩) n c l2 ∧ sink f l i = sink f2 l2 k ∧ n ≤ k + f2 ∧ w.grownBy wr (some p)) (fun i _ => n - (intOf i).toNat)
  case atStart => exact ⟨i, f, l, rfl, hi, HO0.out, rfl, HF0.out, only_refl _ _⟩
  case round =>
    obtain ⟨k, f2, l2, rfl, hk, ho, hr, hf2, hg⟩ := hrel
    have HO := Lib.hid (And.intro ho (And.intro hg (And.intro hr hf2)))
    have HL := Lib.hid ho.len
    have KB := Lib.hid (abelow_any (some ⟨p, 0, none⟩) n c l2 k wr ho.lst hk (by omega))
    clear ho hg hr HO0 HF0 hf2
    have K2 := Lib.hid (fun a b W => aless_any a b W)
    have K0 := Lib.hid (fun W (h : k ≤ 35184372088832) => aleft_any k W h)
    have hcn : cnt n k ≤ 2 := by unfold cnt; omega
    generalize hm : cnt n k = m at hcn KB
    have HM := Lib.hid hm
    have hx0 : ∀ (h : 2 * k + 1 < n), g l2 (2 * k + 1) = g l2 (2 * k + 1) := fun _ => rfl
    clear hm hx0
    go_wp2_with fail
    refine KB.out.mono ?_
    rintro e w2 ⟨rfl, q2⟩
    have q3 := (Q.refl w2).alloc (.cells #[.int .u64 ((g l2 (2 * k + 1)).at_ : Int), .int .i64 (g l2 (2 * k + 1)).id, .int .u64 ((g l2 (2 * k + 2)).at_ : Int), .int .i64 (g l2 (2 * k + 2)).id] 46)
    have Y := Lib.hid (And.intro (q2.trans q3) (Bx.new w2 [.int .u64 ((g l2 (2 * k + 1)).at_ : Int), .int .i64 (g l2 (2 * k + 1)).id, .int .u64 ((g l2 (2 * k + 2)).at_ : Int), .int .i64 (g l2 (2 * k + 2)).id] 46))
    clear q2 q3
    go_upto_region 1 with (fail)
    change Hid (_ ∧ Bx (w2.alloc (.cells #[.int .u64 ((g l2 (2 * k + 1)).at_ : Int), .int .i64 (g l2 (2 * k + 1)).id, .int .u64 ((g l2 (2 * k + 2)).at_ : Int), .int .i64 (g l2 (2 * k + 2)).id] 46)) _ _) at Y
    generalize (w2.alloc (.cells #[.int .u64 ((g l2 (2 * k + 1)).at_ : Int), .int .i64 (g l2 (2 * k + 1)).id, .int .u64 ((g l2 (2 * k + 2)).at_ : Int), .int .i64 (g l2 (2 * k + 2)).id] 46)) = w3 at Y ⊢
    generalize w2.heap.size = b5 at Y ⊢
    have O3 := Lib.hid (And.intro (HO.out.1.q Y.out.1) (HO.out.2.1.trans (only_q Y.out.1)))
    have hc3 : m = 0 ∨ m = 1 ∨ m = 2 := by omega
    clear hcn
    rcases hc3 with rfl | rfl | rfl
    · have hbn : bst l2 k = k := bst_none (by rw [HL.out]; have h := HM.out; unfold cnt at h; omega)
      have HF := Lib.hid (HO.out.2.2.1.trans (sink_end hbn))
      clear hbn
      go_wp2
      (try rw [Exit.noGoto_normal])
      go_end0
      rw [HF.out]
      exact ⟨rfl, O3.out.1, O3.out.2⟩
    · have h1 : 2 * k + 1 < n := by have h := HM.out; unfold cnt at h; omega
      have h2 : ¬ 2 * k + 2 < n := by have h := HM.out; unfold cnt at h; omega
      have hpk := bst_pick (l := l2) (i := k) (nx := 0) (by rw [HL.out]; exact h1) (.inl ⟨rfl, fun h => absurd (by rw [HL.out] at h; exact h) h2⟩)
      have HPK := Lib.hid hpk
      clear hpk
      go_upto_region 5 with (fail)
      have hkl : k < l2.length := by rw [HL.out]; omega
      have hbl : 2 * k + 1 < l2.length := by rw [HL.out]; omega
      have hkn : k < n := by omega
      have hbn : 2 * k + 1 < n := by omega
      obtain ⟨z0, z1, _, _⟩ := own_cells2 (O3.out.1) hkl
      rw [← g_lt hkl] at z0 z1
      obtain ⟨⟨d0, d1, d2, d3⟩, _⟩ := (Y.out.2).get4
      have K1 := Lib.hid (K2.out (g l2 (2 * k + 1)) (g l2 k))
      have HGR := Lib.hid (O3.out.2)
      have HOW := Lib.hid (fun W (q : Q w3 W) => own_swap ((O3.out.1).q q) hkl hbl)
      have HOC := Lib.hid (fun W (q : Q w3 W) => own_cells2 ((O3.out.1).q q) hbl)
      have hgb := g_lt hbl
      have hgk := g_lt hkl
      rw [← hgb, ← hgk] at HOW
      rw [← hgb] at HOC
      clear hgb hgk hkl hbl
      have HX := Lib.hid O3.out
      have hkI : (k : Int) < (n : Int) := by omega
      have hk0 : (0 : Int) ≤ (k : Int) := by omega
      generalize g l2 k = y at z0 z1 K1 HOW HPK
      generalize g l2 (2 * k + 1) = x at d0 d1 K1 HOW HOC HPK ⊢
      cases hlx : less x y with
      | false =>
        rw [hlx] at K1
        have hbe : bst l2 k = k := by rw [HPK.out]; simp [hlx]
        have HF := Lib.hid (HO.out.2.2.1.trans (sink_end hbe))
        clear hbe hlx HOW HOC
        refine wp_region_held_drew (S := Q w3) (by kernel_rfl) ?szz0 (fun hHeld => ?rzz0)
        case szz0 =>
          exact (Q.refl w3).drew
        case' rzz0 => skip
        refine wpAnyH_take (i := 0) (oi := ?ozz1) (v := ?vzz1) ?hzz1 ?azz1 ?bzz1 ?czz1 ?qzz1 ?yzz1 ?szz1 ?rzz1
        case hzz1 => simp only [List.getElem?_toArray, List.getElem?_cons_zero]; rfl
        case azz1 => kernel_rfl
        case bzz1 => kernel_rfl
        case czz1 => kernel_rfl
        case yzz1 =>
          refine Or.inl ⟨by rfl, ?_⟩
          intro w hSw
          skip
          go_simp
          try with_reducible rfl
        case qzz1 => exact fun _ _ _ h => h
        case szz1 => first | assumption | trivial
        case' rzz1 => simp only [Act.put, List.setIfInBounds_toArray, List.set_cons_zero, List.set_cons_succ]
        refine wpAnyH_take (i := 1) (oi := ?ozz2) (v := ?vzz2) ?hzz2 ?azz2 ?bzz2 ?czz2 ?qzz2 ?yzz2 ?szz2 ?rzz2
        case hzz2 => simp only [List.getElem?_toArray, List.getElem?_cons_zero, List.getElem?_cons_succ]; rfl
        case azz2 => kernel_rfl
        case bzz2 => kernel_rfl
        case czz2 => kernel_rfl
        case yzz2 =>
          refine Or.inl ⟨by rfl, ?_⟩
          intro w hSw
          skip
          go_simp
          try with_reducible rfl
        case qzz2 => exact fun _ _ _ h => h
        case szz2 => first | assumption | trivial
        case' rzz2 => simp only [Act.put, List.setIfInBounds_toArray, List.set_cons_zero, List.set_cons_succ]
        refine wpAnyH_take (i := 2) (oi := ?ozz3) (v := ?vzz3) ?hzz3 ?azz3 ?bzz3 ?czz3 ?qzz3 ?yzz3 ?szz3 ?rzz3
        case hzz3 => simp only [List.getElem?_toArray, List.getElem?_cons_zero, List.getElem?_cons_succ]; rfl
        case azz3 => kernel_rfl
        case bzz3 => kernel_rfl
        case czz3 => kernel_rfl
        case yzz3 =>
          refine Or.inl ⟨by rfl, ?_⟩
          intro w hSw
          have a0 := box_ hSw d0; have a1 := box_ hSw d1; clear hSw
          go_simp
          try with_reducible rfl
        case qzz3 => exact fun _ _ _ h => h
        case szz3 => first | assumption | trivial
        case' rzz3 => simp only [Act.put, List.setIfInBounds_toArray, List.set_cons_zero, List.set_cons_succ]
        refine wpAnyH_take (i := 3) (oi := ?ozz4) (v := ?vzz4) ?hzz4 ?azz4 ?bzz4 ?czz4 ?qzz4 ?yzz4 ?szz4 ?rzz4
        case hzz4 => simp only [List.getElem?_toArray, List.getElem?_cons_zero, List.getElem?_cons_succ]; rfl
        case azz4 => kernel_rfl
        case bzz4 => kernel_rfl
        case czz4 => kernel_rfl
        case yzz4 =>
          refine Or.inl ⟨by rfl, ?_⟩
          intro w hSw
          skip
          go_simp
          try with_reducible rfl
        case qzz4 => exact fun _ _ _ h => h
        case szz4 => first | assumption | trivial
        case' rzz4 => simp only [Act.put, List.setIfInBounds_toArray, List.set_cons_zero, List.set_cons_succ]
        refine wpAnyH_take (i := 4) (oi := ?ozz5) (v := ?vzz5) ?hzz5 ?azz5 ?bzz5 ?czz5 ?qzz5 ?yzz5 ?szz5 ?rzz5
        case hzz5 => simp only [List.getElem?_toArray, List.getElem?_cons_zero, List.getElem?_cons_succ]; rfl
        case azz5 => kernel_rfl
        case bzz5 => kernel_rfl
        case czz5 => kernel_rfl
        case yzz5 =>
          refine Or.inl ⟨by rfl, ?_⟩
          intro w hSw
          skip
          go_simp
          try with_reducible rfl
        case qzz5 => exact fun _ _ _ h => h
        case szz5 => first | assumption | trivial
        case' rzz5 => simp only [Act.put, List.setIfInBounds_toArray, List.set_cons_zero, List.set_cons_succ]
        refine wpAnyH_take (i := 5) (oi := ?ozz6) (v := ?vzz6) ?hzz6 ?azz6 ?bzz6 ?czz6 ?qzz6 ?yzz6 ?szz6 ?rzz6
        case hzz6 => simp only [List.getElem?_toArray, List.getElem?_cons_zero, List.getElem?_cons_succ]; rfl
        case azz6 => kernel_rfl
        case bzz6 => kernel_rfl
        case czz6 => kernel_rfl
        case yzz6 =>
          refine Or.inl ⟨by rfl, ?_⟩
          intro w hSw
          skip
          go_simp
          try with_reducible rfl
        case qzz6 => exact fun _ _ _ h => h
        case szz6 => first | assumption | trivial
        case' rzz6 => simp only [Act.put, List.setIfInBounds_toArray, List.set_cons_zero, List.set_cons_succ]
        refine wpAnyH_take (i := 6) (oi := ?ozz7) (v := ?vzz7) ?hzz7 ?azz7 ?bzz7 ?czz7 ?qzz7 ?yzz7 ?szz7 ?rzz7
        case hzz7 => simp only [List.getElem?_toArray, List.getElem?_cons_zero, List.getElem?_cons_succ]; rfl
        case azz7 => kernel_rfl
        case bzz7 => kernel_rfl
        case czz7 => kernel_rfl
        case yzz7 =>
          refine Or.inl ⟨by rfl, ?_⟩
          intro w hSw
          have a2 := box_ hSw z0; have a3 := box_ hSw z1; clear hSw
          go_simp
          try with_reducible rfl
        case qzz7 => exact fun _ _ _ h => h
        case szz7 => first | assumption | trivial
        case' rzz7 => simp only [Act.put, List.setIfInBounds_toArray, List.set_cons_zero, List.set_cons_succ]
        refine wpAnyH_ready (rs := [7]) (by kernel_rfl) (by simp) ?_
        refine AllReadyH.cons (o := ?ozz9) ?hzz9 (fun K hK => ?kzz9) ?mzz9
        case hzz9 => simp only [List.getElem?_toArray, List.getElem?_cons_zero, List.getElem?_cons_succ]; rfl
        case kzz9 =>
          go_simp
          refine (K1.out _).mono ?_
          rintro e v2 ⟨rfl, q2⟩
          go_wp2_with fail
          refine hK.out _ _ ?Szz9 (fun hHeld => ?Rzz9)
          case Szz9 =>
            exact hHeld.trans q2
          case Rzz9 =>
            clear hK K
            try simp only [Act.put, List.setIfInBounds_toArray, List.set_cons_zero, List.set_cons_succ]
            refine wpAnyH_take (i := 8) (oi := ?ozz8) (v := ?vzz8) ?hzz8 ?azz8 ?bzz8 ?czz8 ?qzz8 ?yzz8 ?szz8 ?rzz8
            case hzz8 => simp only [List.getElem?_toArray, List.getElem?_cons_zero, List.getElem?_cons_succ]; rfl
            case azz8 => kernel_rfl
            case bzz8 => kernel_rfl
            case czz8 => kernel_rfl
            case yzz8 =>
              refine Or.inl ⟨by rfl, ?_⟩
              intro w hSw
              skip
              go_simp
              try with_reducible rfl
            case qzz8 => exact fun _ _ _ h => h
            case szz8 => first | assumption | trivial
            case' rzz8 => simp only [Act.put, List.setIfInBounds_toArray, List.set_cons_zero, List.set_cons_succ]
            refine wpAnyH_done (by kernel_rfl) ?_ _
            go_wp2
            (try rw [Exit.noGoto_normal])
            go_end0
            rw [HF.out]
            exact ⟨rfl, (O3.out.1).q hHeld, HGR.out.trans (only_q hHeld)⟩
        case' mzz9 => skip
        exact AllReadyH.nil
      | true =>
        rw [hlx] at K1
        have hbe : bst l2 k = 2 * k + 1 := by rw [HPK.out]; simp [hlx]
        obtain ⟨f3, hs1, hs2⟩ := sink_step (f := f2) (l := l2) (i := k) (by rw [hbe]; omega) (by rw [HL.out]; exact HO.out.2.2.2) (by rw [HL.out]; exact hkn)
        rw [hbe] at hs1
        rw [hbe, swp_len, HL.out] at hs2
        have HF := Lib.hid (And.intro (HO.out.2.2.1.trans hs1) hs2)
        clear hbe hlx hs1 hs2
        refine wp_region_held_drew (S := Q w3) (by kernel_rfl) ?szz10 (fun hHeld => ?rzz10)
        case szz10 =>
          exact (Q.refl w3).drew
        case' rzz10 => skip
        refine wpAnyH_take (i := 0) (oi := ?ozz11) (v := ?vzz11) ?hzz11 ?azz11 ?bzz11 ?czz11 ?qzz11 ?yzz11 ?szz11 ?rzz11
        case hzz11 => simp only [List.getElem?_toArray, List.getElem?_cons_zero]; rfl
        case azz11 => kernel_rfl
        case bzz11 => kernel_rfl
        case czz11 => kernel_rfl
        case yzz11 =>
          refine Or.inl ⟨by rfl, ?_⟩
          intro w hSw
          skip
          go_simp
          try with_reducible rfl
        case qzz11 => exact fun _ _ _ h => h
        case szz11 => first | assumption | trivial
        case' rzz11 => simp only [Act.put, List.setIfInBounds_toArray, List.set_cons_zero, List.set_cons_succ]
        refine wpAnyH_take (i := 1) (oi := ?ozz12) (v := ?vzz12) ?hzz12 ?azz12 ?bzz12 ?czz12 ?qzz12 ?yzz12 ?szz12 ?rzz12
        case hzz12 => simp only [List.getElem?_toArray, List.getElem?_cons_zero, List.getElem?_cons_succ]; rfl
        case azz12 => kernel_rfl
        case bzz12 => kernel_rfl
        case czz12 => kernel_rfl
        case yzz12 =>
          refine Or.inl ⟨by rfl, ?_⟩
          intro w hSw
          skip
          go_simp
          try with_reducible rfl
        case qzz12 => exact fun _ _ _ h => h
        case szz12 => first | assumption | trivial
        case' rzz12 => simp only [Act.put, List.setIfInBounds_toArray, List.set_cons_zero, List.set_cons_succ]
        refine wpAnyH_take (i := 2) (oi := ?ozz13) (v := ?vzz13) ?hzz13 ?azz13 ?bzz13 ?czz13 ?qzz13 ?yzz13 ?szz13 ?rzz13
        case hzz13 => simp only [List.getElem?_toArray, List.getElem?_cons_zero, List.getElem?_cons_succ]; rfl
        case azz13 => kernel_rfl
        case bzz13 => kernel_rfl
        case czz13 => kernel_rfl
        case yzz13 =>
          refine Or.inl ⟨by rfl, ?_⟩
          intro w hSw
          have a0 := box_ hSw d0; have a1 := box_ hSw d1; clear hSw
          go_simp
          try with_reducible rfl
        case qzz13 => exact fun _ _ _ h => h
        case szz13 => first | assumption | trivial
        case' rzz13 => simp only [Act.put, List.setIfInBounds_toArray, List.set_cons_zero, List.set_cons_succ]
        refine wpAnyH_take (i := 3) (oi := ?ozz14) (v := ?vzz14) ?hzz14 ?azz14 ?bzz14 ?czz14 ?qzz14 ?yzz14 ?szz14 ?rzz14
        case hzz14 => simp only [List.getElem?_toArray, List.getElem?_cons_zero, List.getElem?_cons_succ]; rfl
        case azz14 => kernel_rfl
        case bzz14 => kernel_rfl
        case czz14 => kernel_rfl
        case yzz14 =>
          refine Or.inl ⟨by rfl, ?_⟩
          intro w hSw
          skip
          go_simp
          try with_reducible rfl
        case qzz14 => exact fun _ _ _ h => h
        case szz14 => first | assumption | trivial
        case' rzz14 => simp only [Act.put, List.setIfInBounds_toArray, List.set_cons_zero, List.set_cons_succ]
        refine wpAnyH_take (i := 4) (oi := ?ozz15) (v := ?vzz15) ?hzz15 ?azz15 ?bzz15 ?czz15 ?qzz15 ?yzz15 ?szz15 ?rzz15
        case hzz15 => simp only [List.getElem?_toArray, List.getElem?_cons_zero, List.getElem?_cons_succ]; rfl
        case azz15 => kernel_rfl
        case bzz15 => kernel_rfl
        case czz15 => kernel_rfl
        case yzz15 =>
          refine Or.inl ⟨by rfl, ?_⟩
          intro w hSw
          skip
          go_simp
          try with_reducible rfl
        case qzz15 => exact fun _ _ _ h => h
        case szz15 => first | assumption | trivial
        case' rzz15 => simp only [Act.put, List.setIfInBounds_toArray, List.set_cons_zero, List.set_cons_succ]
        refine wpAnyH_take (i := 5) (oi := ?ozz16) (v := ?vzz16) ?hzz16 ?azz16 ?bzz16 ?czz16 ?qzz16 ?yzz16 ?szz16 ?rzz16
        case hzz16 => simp only [List.getElem?_toArray, List.getElem?_cons_zero, List.getElem?_cons_succ]; rfl
        case azz16 => kernel_rfl
        case bzz16 => kernel_rfl
        case czz16 => kernel_rfl
        case yzz16 =>
          refine Or.inl ⟨by rfl, ?_⟩
          intro w hSw
          skip
          go_simp
          try with_reducible rfl
        case qzz16 => exact fun _ _ _ h => h
        case szz16 => first | assumption | trivial
        case' rzz16 => simp only [Act.put, List.setIfInBounds_toArray, List.set_cons_zero, List.set_cons_succ]
        refine wpAnyH_take (i := 6) (oi := ?ozz17) (v := ?vzz17) ?hzz17 ?azz17 ?bzz17 ?czz17 ?qzz17 ?yzz17 ?szz17 ?rzz17
        case hzz17 => simp only [List.getElem?_toArray, List.getElem?_cons_zero, List.getElem?_cons_succ]; rfl
        case azz17 => kernel_rfl
        case bzz17 => kernel_rfl
        case czz17 => kernel_rfl
        case yzz17 =>
          refine Or.inl ⟨by rfl, ?_⟩
          intro w hSw
          have a2 := box_ hSw z0; have a3 := box_ hSw z1; clear hSw
          go_simp
          try with_reducible rfl
        case qzz17 => exact fun _ _ _ h => h
        case szz17 => first | assumption | trivial
        case' rzz17 => simp only [Act.put, List.setIfInBounds_toArray, List.set_cons_zero, List.set_cons_succ]
        refine wpAnyH_ready (rs := [7]) (by kernel_rfl) (by simp) ?_
        refine AllReadyH.cons (o := ?ozz19) ?hzz19 (fun K hK => ?kzz19) ?mzz19
        case hzz19 => simp only [List.getElem?_toArray, List.getElem?_cons_zero, List.getElem?_cons_succ]; rfl
        case kzz19 =>
          go_simp
          refine (K1.out _).mono ?_
          rintro e v2 ⟨rfl, q2⟩
          go_wp2_with fail
          refine hK.out _ _ ?Szz19 (fun hHeld => ?Rzz19)
          case Szz19 =>
            exact hHeld.trans q2
          case Rzz19 =>
            clear hK K
            try simp only [Act.put, List.setIfInBounds_toArray, List.set_cons_zero, List.set_cons_succ]
            refine wpAnyH_take (i := 8) (oi := ?ozz18) (v := ?vzz18) ?hzz18 ?azz18 ?bzz18 ?czz18 ?qzz18 ?yzz18 ?szz18 ?rzz18
            case hzz18 => simp only [List.getElem?_toArray, List.getElem?_cons_zero, List.getElem?_cons_succ]; rfl
            case azz18 => kernel_rfl
            case bzz18 => kernel_rfl
            case czz18 => kernel_rfl
            case yzz18 =>
              refine Or.inl ⟨by rfl, ?_⟩
              intro w hSw
              skip
              go_simp
              try with_reducible rfl
            case qzz18 => exact fun _ _ _ h => h
            case szz18 => first | assumption | trivial
            case' rzz18 => simp only [Act.put, List.setIfInBounds_toArray, List.set_cons_zero, List.set_cons_succ]
            refine wpAnyH_done (by kernel_rfl) ?_ _
            have HOS2 := Lib.hid (HOW.out _ hHeld)
            have HOZ := (O3.out.1).q hHeld
            obtain ⟨r0, r1, s0, s1⟩ := HOC.out _ hHeld
            have r2 := box_ hHeld z0; have r3 := box_ hHeld z1
            have s2 := HOZ.free (k * 2); have s3 := HOZ.free (k * 2 + 1)
            have HB3 := Lib.hid (only_set (only_set (only_set (only_set (HGR.out.trans (only_q hHeld)) (k * 2) (.int .u64 (x.at_ : Int))) (k * 2 + 1) (.int .i64 x.id)) ((2 * k + 1) * 2) (.int .u64 (y.at_ : Int))) ((2 * k + 1) * 2 + 1) (.int .i64 y.id))
            have hbI : ((2 * k + 1 : Nat) : Int) < (n : Int) := by omega
            have hbJ : ((2 * k + 1 : Nat) : Int) + 0 < (n : Int) := by omega
            have hbk : k < 2 * k + 1 := by omega
            clear z0 z1 d0 d1 d2 d3 HOW HOC HOZ K1
            generalize hbq : 2 * k + 1 = bq at r0 r1 s0 s1 HB3 HOS2 HF hbI hbn hbk
            have hwb : IntKind.i64.wrap (((2 * k + 1 : Nat) : Int) + 0) = (bq : Int) := by rw [IntKind.wrap_i64]; omega
            go_wp2_with fail
            refine (K0.out _ (by omega)).mono ?_
            rintro e v3 ⟨rfl, rfl⟩
            go_wp2
            go_region
            all_goals
              generalize ((((v3.setCell ⟨p, k * 2, none⟩ (.int .u64 (x.at_ : Int))).setCell ⟨p, k * 2 + 1, none⟩ (.int .i64 x.id)).setCell ⟨p, bq * 2, none⟩ (.int .u64 (y.at_ : Int))).setCell ⟨p, bq * 2 + 1, none⟩ (.int .i64 y.id)) = W9 at HOS2 HB3 ⊢
              clear r0 r1 r2 r3 s0 s1 s2 s3
              go_wp2
              go_roundw
              case rel => exact ⟨bq, f3, swp l2 k bq, by go_num, by omega, by first | exact HOS2.out | exact HOS2.out.drew, HF.out.1, HF.out.2, by first | exact HB3.out | exact only_drew HB3.out⟩
              case measure => simp [intOf]; omega
        case' mzz19 => skip
        exact AllReadyH.nil
    · have h1 : 2 * k + 1 < n := by have h := HM.out; unfold cnt at h; omega
      have h2 : 2 * k + 2 < n := by have h := HM.out; unfold cnt at h; omega
      obtain ⟨⟨e0, e1, e2, e3⟩, _⟩ := Y.out.2.get4
      go_wp2_with fail
      refine (K2.out (g l2 (2 * k + 2)) (g l2 (2 * k + 1)) _).mono ?_
      rintro e w4 ⟨rfl, q4⟩
      cases hls : less (g l2 (2 * k + 2)) (g l2 (2 * k + 1)) with
      | false =>
        have hpk := bst_pick (l := l2) (i := k) (nx := 0) (by rw [HL.out]; exact h1) (.inl ⟨rfl, fun _ => hls⟩)
        have HPK := Lib.hid hpk
        have O4 := Lib.hid (And.intro (O3.out.1.q q4) (And.intro (O3.out.2.trans (only_q q4)) (Y.out.2.q q4)))
        clear hpk hls q4 e0 e1 e2 e3
        go_upto_region 5 with (fail)
        have hkl : k < l2.length := by rw [HL.out]; omega
        have hbl : 2 * k + 1 < l2.length := by rw [HL.out]; omega
        have hkn : k < n := by omega
        have hbn : 2 * k + 1 < n := by omega
        obtain ⟨z0, z1, _, _⟩ := own_cells2 (O4.out.1) hkl
        rw [← g_lt hkl] at z0 z1
        obtain ⟨⟨d0, d1, d2, d3⟩, _⟩ := (O4.out.2.2).get4
        have K1 := Lib.hid (K2.out (g l2 (2 * k + 1)) (g l2 k))
        have HGR := Lib.hid (O4.out.2.1)
        have HOW := Lib.hid (fun W (q : Q w4 W) => own_swap ((O4.out.1).q q) hkl hbl)
        have HOC := Lib.hid (fun W (q : Q w4 W) => own_cells2 ((O4.out.1).q q) hbl)
        have hgb := g_lt hbl
        have hgk := g_lt hkl
        rw [← hgb, ← hgk] at HOW
        rw [← hgb] at HOC
        clear hgb hgk hkl hbl
        have HX := Lib.hid O4.out
        have hkI : (k : Int) < (n : Int) := by omega
        have hk0 : (0 : Int) ≤ (k : Int) := by omega
        generalize g l2 k = y at z0 z1 K1 HOW HPK
        generalize g l2 (2 * k + 1) = x at d0 d1 K1 HOW HOC HPK ⊢
        cases hlx : less x y with
        | false =>
          rw [hlx] at K1
          have hbe : bst l2 k = k := by rw [HPK.out]; simp [hlx]
          have HF := Lib.hid (HO.out.2.2.1.trans (sink_end hbe))
          clear hbe hlx HOW HOC
          refine wp_region_held_drew (S := Q w4) (by kernel_rfl) ?szz20 (fun hHeld => ?rzz20)
          case szz20 =>
            exact (Q.refl w4).drew
          case' rzz20 => skip
          refine wpAnyH_take (i := 0) (oi := ?ozz21) (v := ?vzz21) ?hzz21 ?azz21 ?bzz21 ?czz21 ?qzz21 ?yzz21 ?szz21 ?rzz21
          case hzz21 => simp only [List.getElem?_toArray, List.getElem?_cons_zero]; rfl
          case azz21 => kernel_rfl
          case bzz21 => kernel_rfl
          case czz21 => kernel_rfl
          case yzz21 =>
            refine Or.inl ⟨by rfl, ?_⟩
            intro w hSw
            skip
            go_simp
            try with_reducible rfl
          case qzz21 => exact fun _ _ _ h => h
          case szz21 => first | assumption | trivial
          case' rzz21 => simp only [Act.put, List.setIfInBounds_toArray, List.set_cons_zero, List.set_cons_succ]
          refine wpAnyH_take (i := 1) (oi := ?ozz22) (v := ?vzz22) ?hzz22 ?azz22 ?bzz22 ?czz22 ?qzz22 ?yzz22 ?szz22 ?rzz22
          case hzz22 => simp only [List.getElem?_toArray, List.getElem?_cons_zero, List.getElem?_cons_succ]; rfl
          case azz22 => kernel_rfl
          case bzz22 => kernel_rfl
          case czz22 => kernel_rfl
          case yzz22 =>
            refine Or.inl ⟨by rfl, ?_⟩
            intro w hSw
            skip
            go_simp
            try with_reducible rfl
          case qzz22 => exact fun _ _ _ h => h
          case szz22 => first | assumption | trivial
          case' rzz22 => simp only [Act.put, List.setIfInBounds_toArray, List.set_cons_zero, List.set_cons_succ]
          refine wpAnyH_take (i := 2) (oi := ?ozz23) (v := ?vzz23) ?hzz23 ?azz23 ?bzz23 ?czz23 ?qzz23 ?yzz23 ?szz23 ?rzz23
          case hzz23 => simp only [List.getElem?_toArray, List.getElem?_cons_zero, List.getElem?_cons_succ]; rfl
          case azz23 => kernel_rfl
          case bzz23 => kernel_rfl
          case czz23 => kernel_rfl
          case yzz23 =>
            refine Or.inl ⟨by rfl, ?_⟩
            intro w hSw
            have a0 := box_ hSw d0; have a1 := box_ hSw d1; clear hSw
            go_simp
            try with_reducible rfl
          case qzz23 => exact fun _ _ _ h => h
          case szz23 => first | assumption | trivial
          case' rzz23 => simp only [Act.put, List.setIfInBounds_toArray, List.set_cons_zero, List.set_cons_succ]
          refine wpAnyH_take (i := 3) (oi := ?ozz24) (v := ?vzz24) ?hzz24 ?azz24 ?bzz24 ?czz24 ?qzz24 ?yzz24 ?szz24 ?rzz24
          case hzz24 => simp only [List.getElem?_toArray, List.getElem?_cons_zero, List.getElem?_cons_succ]; rfl
          case azz24 => kernel_rfl
          case bzz24 => kernel_rfl
          case czz24 => kernel_rfl
          case yzz24 =>
            refine Or.inl ⟨by rfl, ?_⟩
            intro w hSw
            skip
            go_simp
            try with_reducible rfl
          case qzz24 => exact fun _ _ _ h => h
          case szz24 => first | assumption | trivial
          case' rzz24 => simp only [Act.put, List.setIfInBounds_toArray, List.set_cons_zero, List.set_cons_succ]
          refine wpAnyH_take (i := 4) (oi := ?ozz25) (v := ?vzz25) ?hzz25 ?azz25 ?bzz25 ?czz25 ?qzz25 ?yzz25 ?szz25 ?rzz25
          case hzz25 => simp only [List.getElem?_toArray, List.getElem?_cons_zero, List.getElem?_cons_succ]; rfl
          case azz25 => kernel_rfl
          case bzz25 => kernel_rfl
          case czz25 => kernel_rfl
          case yzz25 =>
            refine Or.inl ⟨by rfl, ?_⟩
            intro w hSw
            skip
            go_simp
            try with_reducible rfl
          case qzz25 => exact fun _ _ _ h => h
          case szz25 => first | assumption | trivial
          case' rzz25 => simp only [Act.put, List.setIfInBounds_toArray, List.set_cons_zero, List.set_cons_succ]
          refine wpAnyH_take (i := 5) (oi := ?ozz26) (v := ?vzz26) ?hzz26 ?azz26 ?bzz26 ?czz26 ?qzz26 ?yzz26 ?szz26 ?rzz26
          case hzz26 => simp only [List.getElem?_toArray, List.getElem?_cons_zero, List.getElem?_cons_succ]; rfl
          case azz26 => kernel_rfl
          case bzz26 => kernel_rfl
          case czz26 => kernel_rfl
          case yzz26 =>
            refine Or.inl ⟨by rfl, ?_⟩
            intro w hSw
            skip
            go_simp
            try with_reducible rfl
          case qzz26 => exact fun _ _ _ h => h
          case szz26 => first | assumption | trivial
          case' rzz26 => simp only [Act.put, List.setIfInBounds_toArray, List.set_cons_zero, List.set_cons_succ]
          refine wpAnyH_take (i := 6) (oi := ?ozz27) (v := ?vzz27) ?hzz27 ?azz27 ?bzz27 ?czz27 ?qzz27 ?yzz27 ?szz27 ?rzz27
          case hzz27 => simp only [List.getElem?_toArray, List.getElem?_cons_zero, List.getElem?_cons_succ]; rfl
          case azz27 => kernel_rfl
          case bzz27 => kernel_rfl
          case czz27 => kernel_rfl
          case yzz27 =>
            refine Or.inl ⟨by rfl, ?_⟩
            intro w hSw
            have a2 := box_ hSw z0; have a3 := box_ hSw z1; clear hSw
            go_simp
            try with_reducible rfl
          case qzz27 => exact fun _ _ _ h => h
          case szz27 => first | assumption | trivial
          case' rzz27 => simp only [Act.put, List.setIfInBounds_toArray, List.set_cons_zero, List.set_cons_succ]
          refine wpAnyH_ready (rs := [7]) (by kernel_rfl) (by simp) ?_
          refine AllReadyH.cons (o := ?ozz29) ?hzz29 (fun K hK => ?kzz29) ?mzz29
          case hzz29 => simp only [List.getElem?_toArray, List.getElem?_cons_zero, List.getElem?_cons_succ]; rfl
          case kzz29 =>
            go_simp
            refine (K1.out _).mono ?_
            rintro e v2 ⟨rfl, q2⟩
            go_wp2_with fail
            refine hK.out _ _ ?Szz29 (fun hHeld => ?Rzz29)
            case Szz29 =>
              exact hHeld.trans q2
            case Rzz29 =>
              clear hK K
              try simp only [Act.put, List.setIfInBounds_toArray, List.set_cons_zero, List.set_cons_succ]
              refine wpAnyH_take (i := 8) (oi := ?ozz28) (v := ?vzz28) ?hzz28 ?azz28 ?bzz28 ?czz28 ?qzz28 ?yzz28 ?szz28 ?rzz28
              case hzz28 => simp only [List.getElem?_toArray, List.getElem?_cons_zero, List.getElem?_cons_succ]; rfl
              case azz28 => kernel_rfl
              case bzz28 => kernel_rfl
              case czz28 => kernel_rfl
              case yzz28 =>
                refine Or.inl ⟨by rfl, ?_⟩
                intro w hSw
                skip
                go_simp
                try with_reducible rfl
              case qzz28 => exact fun _ _ _ h => h
              case szz28 => first | assumption | trivial
              case' rzz28 => simp only [Act.put, List.setIfInBounds_toArray, List.set_cons_zero, List.set_cons_succ]
              refine wpAnyH_done (by kernel_rfl) ?_ _
              go_wp2
              (try rw [Exit.noGoto_normal])
              go_end0
              rw [HF.out]
              exact ⟨rfl, (O4.out.1).q hHeld, HGR.out.trans (only_q hHeld)⟩
          case' mzz29 => skip
          exact AllReadyH.nil
        | true =>
          rw [hlx] at K1
          have hbe : bst l2 k = 2 * k + 1 := by rw [HPK.out]; simp [hlx]
          obtain ⟨f3, hs1, hs2⟩ := sink_step (f := f2) (l := l2) (i := k) (by rw [hbe]; omega) (by rw [HL.out]; exact HO.out.2.2.2) (by rw [HL.out]; exact hkn)
          rw [hbe] at hs1
          rw [hbe, swp_len, HL.out] at hs2
          have HF := Lib.hid (And.intro (HO.out.2.2.1.trans hs1) hs2)
          clear hbe hlx hs1 hs2
          refine wp_region_held_drew (S := Q w4) (by kernel_rfl) ?szz30 (fun hHeld => ?rzz30)
          case szz30 =>
            exact (Q.refl w4).drew
          case' rzz30 => skip
          refine wpAnyH_take (i := 0) (oi := ?ozz31) (v := ?vzz31) ?hzz31 ?azz31 ?bzz31 ?czz31 ?qzz31 ?yzz31 ?szz31 ?rzz31
          case hzz31 => simp only [List.getElem?_toArray, List.getElem?_cons_zero]; rfl
          case azz31 => kernel_rfl
          case bzz31 => kernel_rfl
          case czz31 => kernel_rfl
          case yzz31 =>
            refine Or.inl ⟨by rfl, ?_⟩
            intro w hSw
            skip
            go_simp
            try with_reducible rfl
          case qzz31 => exact fun _ _ _ h => h
          case szz31 => first | assumption | trivial
          case' rzz31 => simp only [Act.put, List.setIfInBounds_toArray, List.set_cons_zero, List.set_cons_succ]
          refine wpAnyH_take (i := 1) (oi := ?ozz32) (v := ?vzz32) ?hzz32 ?azz32 ?bzz32 ?czz32 ?qzz32 ?yzz32 ?szz32 ?rzz32
          case hzz32 => simp only [List.getElem?_toArray, List.getElem?_cons_zero, List.getElem?_cons_succ]; rfl
          case azz32 => kernel_rfl
          case bzz32 => kernel_rfl
          case czz32 => kernel_rfl
          case yzz32 =>
            refine Or.inl ⟨by rfl, ?_⟩
            intro w hSw
            skip
            go_simp
            try with_reducible rfl
          case qzz32 => exact fun _ _ _ h => h
          case szz32 => first | assumption | trivial
          case' rzz32 => simp only [Act.put, List.setIfInBounds_toArray, List.set_cons_zero, List.set_cons_succ]
          refine wpAnyH_take (i := 2) (oi := ?ozz33) (v := ?vzz33) ?hzz33 ?azz33 ?bzz33 ?czz33 ?qzz33 ?yzz33 ?szz33 ?rzz33
          case hzz33 => simp only [List.getElem?_toArray, List.getElem?_cons_zero, List.getElem?_cons_succ]; rfl
          case azz33 => kernel_rfl
          case bzz33 => kernel_rfl
          case czz33 => kernel_rfl
          case yzz33 =>
            refine Or.inl ⟨by rfl, ?_⟩
            intro w hSw
            have a0 := box_ hSw d0; have a1 := box_ hSw d1; clear hSw
            go_simp
            try with_reducible rfl
          case qzz33 => exact fun _ _ _ h => h
          case szz33 => first | assumption | trivial
          case' rzz33 => simp only [Act.put, List.setIfInBounds_toArray, List.set_cons_zero, List.set_cons_succ]
          refine wpAnyH_take (i := 3) (oi := ?ozz34) (v := ?vzz34) ?hzz34 ?azz34 ?bzz34 ?czz34 ?qzz34 ?yzz34 ?szz34 ?rzz34
          case hzz34 => simp only [List.getElem?_toArray, List.getElem?_cons_zero, List.getElem?_cons_succ]; rfl
          case azz34 => kernel_rfl
          case bzz34 => kernel_rfl
          case czz34 => kernel_rfl
          case yzz34 =>
            refine Or.inl ⟨by rfl, ?_⟩
            intro w hSw
            skip
            go_simp
            try with_reducible rfl
          case qzz34 => exact fun _ _ _ h => h
          case szz34 => first | assumption | trivial
          case' rzz34 => simp only [Act.put, List.setIfInBounds_toArray, List.set_cons_zero, List.set_cons_succ]
          refine wpAnyH_take (i := 4) (oi := ?ozz35) (v := ?vzz35) ?hzz35 ?azz35 ?bzz35 ?czz35 ?qzz35 ?yzz35 ?szz35 ?rzz35
          case hzz35 => simp only [List.getElem?_toArray, List.getElem?_cons_zero, List.getElem?_cons_succ]; rfl
          case azz35 => kernel_rfl
          case bzz35 => kernel_rfl
          case czz35 => kernel_rfl
          case yzz35 =>
            refine Or.inl ⟨by rfl, ?_⟩
            intro w hSw
            skip
            go_simp
            try with_reducible rfl
          case qzz35 => exact fun _ _ _ h => h
          case szz35 => first | assumption | trivial
          case' rzz35 => simp only [Act.put, List.setIfInBounds_toArray, List.set_cons_zero, List.set_cons_succ]
          refine wpAnyH_take (i := 5) (oi := ?ozz36) (v := ?vzz36) ?hzz36 ?azz36 ?bzz36 ?czz36 ?qzz36 ?yzz36 ?szz36 ?rzz36
          case hzz36 => simp only [List.getElem?_toArray, List.getElem?_cons_zero, List.getElem?_cons_succ]; rfl
          case azz36 => kernel_rfl
          case bzz36 => kernel_rfl
          case czz36 => kernel_rfl
          case yzz36 =>
            refine Or.inl ⟨by rfl, ?_⟩
            intro w hSw
            skip
            go_simp
            try with_reducible rfl
          case qzz36 => exact fun _ _ _ h => h
          case szz36 => first | assumption | trivial
          case' rzz36 => simp only [Act.put, List.setIfInBounds_toArray, List.set_cons_zero, List.set_cons_succ]
          refine wpAnyH_take (i := 6) (oi := ?ozz37) (v := ?vzz37) ?hzz37 ?azz37 ?bzz37 ?czz37 ?qzz37 ?yzz37 ?szz37 ?rzz37
          case hzz37 => simp only [List.getElem?_toArray, List.getElem?_cons_zero, List.getElem?_cons_succ]; rfl
          case azz37 => kernel_rfl
          case bzz37 => kernel_rfl
          case czz37 => kernel_rfl
          case yzz37 =>
            refine Or.inl ⟨by rfl, ?_⟩
            intro w hSw
            have a2 := box_ hSw z0; have a3 := box_ hSw z1; clear hSw
            go_simp
            try with_reducible rfl
          case qzz37 => exact fun _ _ _ h => h
          case szz37 => first | assumption | trivial
          case' rzz37 => simp only [Act.put, List.setIfInBounds_toArray, List.set_cons_zero, List.set_cons_succ]
          refine wpAnyH_ready (rs := [7]) (by kernel_rfl) (by simp) ?_
          refine AllReadyH.cons (o := ?ozz39) ?hzz39 (fun K hK => ?kzz39) ?mzz39
          case hzz39 => simp only [List.getElem?_toArray, List.getElem?_cons_zero, List.getElem?_cons_succ]; rfl
          case kzz39 =>
            go_simp
            refine (K1.out _).mono ?_
            rintro e v2 ⟨rfl, q2⟩
            go_wp2_with fail
            refine hK.out _ _ ?Szz39 (fun hHeld => ?Rzz39)
            case Szz39 =>
              exact hHeld.trans q2
            case Rzz39 =>
              clear hK K
              try simp only [Act.put, List.setIfInBounds_toArray, List.set_cons_zero, List.set_cons_succ]
              refine wpAnyH_take (i := 8) (oi := ?ozz38) (v := ?vzz38) ?hzz38 ?azz38 ?bzz38 ?czz38 ?qzz38 ?yzz38 ?szz38 ?rzz38
              case hzz38 => simp only [List.getElem?_toArray, List.getElem?_cons_zero, List.getElem?_cons_succ]; rfl
              case azz38 => kernel_rfl
              case bzz38 => kernel_rfl
              case czz38 => kernel_rfl
              case yzz38 =>
                refine Or.inl ⟨by rfl, ?_⟩
                intro w hSw
                skip
                go_simp
                try with_reducible rfl
              case qzz38 => exact fun _ _ _ h => h
              case szz38 => first | assumption | trivial
              case' rzz38 => simp only [Act.put, List.setIfInBounds_toArray, List.set_cons_zero, List.set_cons_succ]
              refine wpAnyH_done (by kernel_rfl) ?_ _
              have HOS2 := Lib.hid (HOW.out _ hHeld)
              have HOZ := (O4.out.1).q hHeld
              obtain ⟨r0, r1, s0, s1⟩ := HOC.out _ hHeld
              have r2 := box_ hHeld z0; have r3 := box_ hHeld z1
              have s2 := HOZ.free (k * 2); have s3 := HOZ.free (k * 2 + 1)
              have HB3 := Lib.hid (only_set (only_set (only_set (only_set (HGR.out.trans (only_q hHeld)) (k * 2) (.int .u64 (x.at_ : Int))) (k * 2 + 1) (.int .i64 x.id)) ((2 * k + 1) * 2) (.int .u64 (y.at_ : Int))) ((2 * k + 1) * 2 + 1) (.int .i64 y.id))
              have hbI : ((2 * k + 1 : Nat) : Int) < (n : Int) := by omega
              have hbJ : ((2 * k + 1 : Nat) : Int) + 0 < (n : Int) := by omega
              have hbk : k < 2 * k + 1 := by omega
              clear z0 z1 d0 d1 d2 d3 HOW HOC HOZ K1
              generalize hbq : 2 * k + 1 = bq at r0 r1 s0 s1 HB3 HOS2 HF hbI hbn hbk
              have hwb : IntKind.i64.wrap (((2 * k + 1 : Nat) : Int) + 0) = (bq : Int) := by rw [IntKind.wrap_i64]; omega
              go_wp2_with fail
              refine (K0.out _ (by omega)).mono ?_
              rintro e v3 ⟨rfl, rfl⟩
              go_wp2
              go_region
              all_goals
                generalize ((((v3.setCell ⟨p, k * 2, none⟩ (.int .u64 (x.at_ : Int))).setCell ⟨p, k * 2 + 1, none⟩ (.int .i64 x.id)).setCell ⟨p, bq * 2, none⟩ (.int .u64 (y.at_ : Int))).setCell ⟨p, bq * 2 + 1, none⟩ (.int .i64 y.id)) = W9 at HOS2 HB3 ⊢
                clear r0 r1 r2 r3 s0 s1 s2 s3
                go_wp2
                go_roundw
                case rel => exact ⟨bq, f3, swp l2 k bq, by go_num, by omega, by first | exact HOS2.out | exact HOS2.out.drew, HF.out.1, HF.out.2, by first | exact HB3.out | exact only_drew HB3.out⟩
                case measure => simp [intOf]; omega
          case' mzz39 => skip
          exact AllReadyH.nil
      | true =>
        have hpk := bst_pick (l := l2) (i := k) (nx := 1) (by rw [HL.out]; exact h1) (.inr ⟨rfl, by rw [HL.out]; exact h2, hls⟩)
        have HPK := Lib.hid hpk
        have O4 := Lib.hid (And.intro (O3.out.1.q q4) (And.intro (O3.out.2.trans (only_q q4)) (Y.out.2.q q4)))
        clear hpk hls q4 e0 e1 e2 e3
        go_upto_region 5 with (fail)
        have hkl : k < l2.length := by rw [HL.out]; omega
        have hbl : 2 * k + 2 < l2.length := by rw [HL.out]; omega
        have hkn : k < n := by omega
        have hbn : 2 * k + 2 < n := by omega
        obtain ⟨z0, z1, _, _⟩ := own_cells2 (O4.out.1) hkl
        rw [← g_lt hkl] at z0 z1
        obtain ⟨⟨d0, d1, d2, d3⟩, _⟩ := (O4.out.2.2).get4
        have K1 := Lib.hid (K2.out (g l2 (2 * k + 2)) (g l2 k))
        have HGR := Lib.hid (O4.out.2.1)
        have HOW := Lib.hid (fun W (q : Q w4 W) => own_swap ((O4.out.1).q q) hkl hbl)
        have HOC := Lib.hid (fun W (q : Q w4 W) => own_cells2 ((O4.out.1).q q) hbl)
        have hgb := g_lt hbl
        have hgk := g_lt hkl
        rw [← hgb, ← hgk] at HOW
        rw [← hgb] at HOC
        clear hgb hgk hkl hbl
        have HX := Lib.hid O4.out
        have hkI : (k : Int) < (n : Int) := by omega
        have hk0 : (0 : Int) ≤ (k : Int) := by omega
        generalize g l2 k = y at z0 z1 K1 HOW HPK
        generalize g l2 (2 * k + 2) = x at d2 d3 K1 HOW HOC HPK ⊢
        cases hlx : less x y with
        | false =>
          rw [hlx] at K1
          have hbe : bst l2 k = k := by rw [HPK.out]; simp [hlx]
          have HF := Lib.hid (HO.out.2.2.1.trans (sink_end hbe))
          clear hbe hlx HOW HOC
          refine wp_region_held_drew (S := Q w4) (by kernel_rfl) ?szz40 (fun hHeld => ?rzz40)
          case szz40 =>
            exact (Q.refl w4).drew
          case' rzz40 => skip
          refine wpAnyH_take (i := 0) (oi := ?ozz41) (v := ?vzz41) ?hzz41 ?azz41 ?bzz41 ?czz41 ?qzz41 ?yzz41 ?szz41 ?rzz41
          case hzz41 => simp only [List.getElem?_toArray, List.getElem?_cons_zero]; rfl
          case azz41 => kernel_rfl
          case bzz41 => kernel_rfl
          case czz41 => kernel_rfl
          case yzz41 =>
            refine Or.inl ⟨by rfl, ?_⟩
            intro w hSw
            skip
            go_simp
            try with_reducible rfl
          case qzz41 => exact fun _ _ _ h => h
          case szz41 => first | assumption | trivial
          case' rzz41 => simp only [Act.put, List.setIfInBounds_toArray, List.set_cons_zero, List.set_cons_succ]
          refine wpAnyH_take (i := 1) (oi := ?ozz42) (v := ?vzz42) ?hzz42 ?azz42 ?bzz42 ?czz42 ?qzz42 ?yzz42 ?szz42 ?rzz42
          case hzz42 => simp only [List.getElem?_toArray, List.getElem?_cons_zero, List.getElem?_cons_succ]; rfl
          case azz42 => kernel_rfl
          case bzz42 => kernel_rfl
          case czz42 => kernel_rfl
          case yzz42 =>
            refine Or.inl ⟨by rfl, ?_⟩
            intro w hSw
            skip
            go_simp
            try with_reducible rfl
          case qzz42 => exact fun _ _ _ h => h
          case szz42 => first | assumption | trivial
          case' rzz42 => simp only [Act.put, List.setIfInBounds_toArray, List.set_cons_zero, List.set_cons_succ]
          refine wpAnyH_take (i := 2) (oi := ?ozz43) (v := ?vzz43) ?hzz43 ?azz43 ?bzz43 ?czz43 ?qzz43 ?yzz43 ?szz43 ?rzz43
          case hzz43 => simp only [List.getElem?_toArray, List.getElem?_cons_zero, List.getElem?_cons_succ]; rfl
          case azz43 => kernel_rfl
          case bzz43 => kernel_rfl
          case czz43 => kernel_rfl
          case yzz43 =>
            refine Or.inl ⟨by rfl, ?_⟩
            intro w hSw
            have a0 := box_ hSw d2; have a1 := box_ hSw d3; clear hSw
            go_simp
            try with_reducible rfl
          case qzz43 => exact fun _ _ _ h => h
          case szz43 => first | assumption | trivial
          case' rzz43 => simp only [Act.put, List.setIfInBounds_toArray, List.set_cons_zero, List.set_cons_succ]
          refine wpAnyH_take (i := 3) (oi := ?ozz44) (v := ?vzz44) ?hzz44 ?azz44 ?bzz44 ?czz44 ?qzz44 ?yzz44 ?szz44 ?rzz44
          case hzz44 => simp only [List.getElem?_toArray, List.getElem?_cons_zero, List.getElem?_cons_succ]; rfl
          case azz44 => kernel_rfl
          case bzz44 => kernel_rfl
          case czz44 => kernel_rfl
          case yzz44 =>
            refine Or.inl ⟨by rfl, ?_⟩
            intro w hSw
            skip
            go_simp
            try with_reducible rfl
          case qzz44 => exact fun _ _ _ h => h
          case szz44 => first | assumption | trivial
          case' rzz44 => simp only [Act.put, List.setIfInBounds_toArray, List.set_cons_zero, List.set_cons_succ]
          refine wpAnyH_take (i := 4) (oi := ?ozz45) (v := ?vzz45) ?hzz45 ?azz45 ?bzz45 ?czz45 ?qzz45 ?yzz45 ?szz45 ?rzz45
          case hzz45 => simp only [List.getElem?_toArray, List.getElem?_cons_zero, List.getElem?_cons_succ]; rfl
          case azz45 => kernel_rfl
          case bzz45 => kernel_rfl
          case czz45 => kernel_rfl
          case yzz45 =>
            refine Or.inl ⟨by rfl, ?_⟩
            intro w hSw
            skip
            go_simp
            try with_reducible rfl
          case qzz45 => exact fun _ _ _ h => h
          case szz45 => first | assumption | trivial
          case' rzz45 => simp only [Act.put, List.setIfInBounds_toArray, List.set_cons_zero, List.set_cons_succ]
          refine wpAnyH_take (i := 5) (oi := ?ozz46) (v := ?vzz46) ?hzz46 ?azz46 ?bzz46 ?czz46 ?qzz46 ?yzz46 ?szz46 ?rzz46
          case hzz46 => simp only [List.getElem?_toArray, List.getElem?_cons_zero, List.getElem?_cons_succ]; rfl
          case azz46 => kernel_rfl
          case bzz46 => kernel_rfl
          case czz46 => kernel_rfl
          case yzz46 =>
            refine Or.inl ⟨by rfl, ?_⟩
            intro w hSw
            skip
            go_simp
            try with_reducible rfl
          case qzz46 => exact fun _ _ _ h => h
          case szz46 => first | assumption | trivial
          case' rzz46 => simp only [Act.put, List.setIfInBounds_toArray, List.set_cons_zero, List.set_cons_succ]
          refine wpAnyH_take (i := 6) (oi := ?ozz47) (v := ?vzz47) ?hzz47 ?azz47 ?bzz47 ?czz47 ?qzz47 ?yzz47 ?szz47 ?rzz47
          case hzz47 => simp only [List.getElem?_toArray, List.getElem?_cons_zero, List.getElem?_cons_succ]; rfl
          case azz47 => kernel_rfl
          case bzz47 => kernel_rfl
          case czz47 => kernel_rfl
          case yzz47 =>
            refine Or.inl ⟨by rfl, ?_⟩
            intro w hSw
            have a2 := box_ hSw z0; have a3 := box_ hSw z1; clear hSw
            go_simp
            try with_reducible rfl
          case qzz47 => exact fun _ _ _ h => h
          case szz47 => first | assumption | trivial
          case' rzz47 => simp only [Act.put, List.setIfInBounds_toArray, List.set_cons_zero, List.set_cons_succ]
          refine wpAnyH_ready (rs := [7]) (by kernel_rfl) (by simp) ?_
          refine AllReadyH.cons (o := ?ozz49) ?hzz49 (fun K hK => ?kzz49) ?mzz49
          case hzz49 => simp only [List.getElem?_toArray, List.getElem?_cons_zero, List.getElem?_cons_succ]; rfl
          case kzz49 =>
            go_simp
            refine (K1.out _).mono ?_
            rintro e v2 ⟨rfl, q2⟩
            go_wp2_with fail
            refine hK.out _ _ ?Szz49 (fun hHeld => ?Rzz49)
            case Szz49 =>
              exact hHeld.trans q2
            case Rzz49 =>
              clear hK K
              try simp only [Act.put, List.setIfInBounds_toArray, List.set_cons_zero, List.set_cons_succ]
              refine wpAnyH_take (i := 8) (oi := ?ozz48) (v := ?vzz48) ?hzz48 ?azz48 ?bzz48 ?czz48 ?qzz48 ?yzz48 ?szz48 ?rzz48
              case hzz48 => simp only [List.getElem?_toArray, List.getElem?_cons_zero, List.getElem?_cons_succ]; rfl
              case azz48 => kernel_rfl
              case bzz48 => kernel_rfl
              case czz48 => kernel_rfl
              case yzz48 =>
                refine Or.inl ⟨by rfl, ?_⟩
                intro w hSw
                skip
                go_simp
                try with_reducible rfl
              case qzz48 => exact fun _ _ _ h => h
              case szz48 => first | assumption | trivial
              case' rzz48 => simp only [Act.put, List.setIfInBounds_toArray, List.set_cons_zero, List.set_cons_succ]
              refine wpAnyH_done (by kernel_rfl) ?_ _
              go_wp2
              (try rw [Exit.noGoto_normal])
              go_end0
              rw [HF.out]
              exact ⟨rfl, (O4.out.1).q hHeld, HGR.out.trans (only_q hHeld)⟩
          case' mzz49 => skip
          exact AllReadyH.nil
        | true =>
          rw [hlx] at K1
          have hbe : bst l2 k = 2 * k + 2 := by rw [HPK.out]; simp [hlx]
          obtain ⟨f3, hs1, hs2⟩ := sink_step (f := f2) (l := l2) (i := k) (by rw [hbe]; omega) (by rw [HL.out]; exact HO.out.2.2.2) (by rw [HL.out]; exact hkn)
          rw [hbe] at hs1
          rw [hbe, swp_len, HL.out] at hs2
          have HF := Lib.hid (And.intro (HO.out.2.2.1.trans hs1) hs2)
          clear hbe hlx hs1 hs2
          refine wp_region_held_drew (S := Q w4) (by kernel_rfl) ?szz50 (fun hHeld => ?rzz50)
          case szz50 =>
            exact (Q.refl w4).drew
          case' rzz50 => skip
          refine wpAnyH_take (i := 0) (oi := ?ozz51) (v := ?vzz51) ?hzz51 ?azz51 ?bzz51 ?czz51 ?qzz51 ?yzz51 ?szz51 ?rzz51
          case hzz51 => simp only [List.getElem?_toArray, List.getElem?_cons_zero]; rfl
          case azz51 => kernel_rfl
          case bzz51 => kernel_rfl
          case czz51 => kernel_rfl
          case yzz51 =>
            refine Or.inl ⟨by rfl, ?_⟩
            intro w hSw
            skip
            go_simp
            try with_reducible rfl
          case qzz51 => exact fun _ _ _ h => h
          case szz51 => first | assumption | trivial
          case' rzz51 => simp only [Act.put, List.setIfInBounds_toArray, List.set_cons_zero, List.set_cons_succ]
          refine wpAnyH_take (i := 1) (oi := ?ozz52) (v := ?vzz52) ?hzz52 ?azz52 ?bzz52 ?czz52 ?qzz52 ?yzz52 ?szz52 ?rzz52
          case hzz52 => simp only [List.getElem?_toArray, List.getElem?_cons_zero, List.getElem?_cons_succ]; rfl
          case azz52 => kernel_rfl
          case bzz52 => kernel_rfl
          case czz52 => kernel_rfl
          case yzz52 =>
            refine Or.inl ⟨by rfl, ?_⟩
            intro w hSw
            skip
            go_simp
            try with_reducible rfl
          case qzz52 => exact fun _ _ _ h => h
          case szz52 => first | assumption | trivial
          case' rzz52 => simp only [Act.put, List.setIfInBounds_toArray, List.set_cons_zero, List.set_cons_succ]
          refine wpAnyH_take (i := 2) (oi := ?ozz53) (v := ?vzz53) ?hzz53 ?azz53 ?bzz53 ?czz53 ?qzz53 ?yzz53 ?szz53 ?rzz53
          case hzz53 => simp only [List.getElem?_toArray, List.getElem?_cons_zero, List.getElem?_cons_succ]; rfl
          case azz53 => kernel_rfl
          case bzz53 => kernel_rfl
          case czz53 => kernel_rfl
          case yzz53 =>
            refine Or.inl ⟨by rfl, ?_⟩
            intro w hSw
            have a0 := box_ hSw d2; have a1 := box_ hSw d3; clear hSw
            go_simp
            try with_reducible rfl
          case qzz53 => exact fun _ _ _ h => h
          case szz53 => first | assumption | trivial
          case' rzz53 => simp only [Act.put, List.setIfInBounds_toArray, List.set_cons_zero, List.set_cons_succ]
          refine wpAnyH_take (i := 3) (oi := ?ozz54) (v := ?vzz54) ?hzz54 ?azz54 ?bzz54 ?czz54 ?qzz54 ?yzz54 ?szz54 ?rzz54
          case hzz54 => simp only [List.getElem?_toArray, List.getElem?_cons_zero, List.getElem?_cons_succ]; rfl
          case azz54 => kernel_rfl
          case bzz54 => kernel_rfl
          case czz54 => kernel_rfl
          case yzz54 =>
            refine Or.inl ⟨by rfl, ?_⟩
            intro w hSw
            skip
            go_simp
            try with_reducible rfl
          case qzz54 => exact fun _ _ _ h => h
          case szz54 => first | assumption | trivial
          case' rzz54 => simp only [Act.put, List.setIfInBounds_toArray, List.set_cons_zero, List.set_cons_succ]
          refine wpAnyH_take (i := 4) (oi := ?ozz55) (v := ?vzz55) ?hzz55 ?azz55 ?bzz55 ?czz55 ?qzz55 ?yzz55 ?szz55 ?rzz55
          case hzz55 => simp only [List.getElem?_toArray, List.getElem?_cons_zero, List.getElem?_cons_succ]; rfl
          case azz55 => kernel_rfl
          case bzz55 => kernel_rfl
          case czz55 => kernel_rfl
          case yzz55 =>
            refine Or.inl ⟨by rfl, ?_⟩
            intro w hSw
            skip
            go_simp
            try with_reducible rfl
          case qzz55 => exact fun _ _ _ h => h
          case szz55 => first | assumption | trivial
          case' rzz55 => simp only [Act.put, List.setIfInBounds_toArray, List.set_cons_zero, List.set_cons_succ]
          refine wpAnyH_take (i := 5) (oi := ?ozz56) (v := ?vzz56) ?hzz56 ?azz56 ?bzz56 ?czz56 ?qzz56 ?yzz56 ?szz56 ?rzz56
          case hzz56 => simp only [List.getElem?_toArray, List.getElem?_cons_zero, List.getElem?_cons_succ]; rfl
          case azz56 => kernel_rfl
          case bzz56 => kernel_rfl
          case czz56 => kernel_rfl
          case yzz56 =>
            refine Or.inl ⟨by rfl, ?_⟩
            intro w hSw
            skip
            go_simp
            try with_reducible rfl
          case qzz56 => exact fun _ _ _ h => h
          case szz56 => first | assumption | trivial
          case' rzz56 => simp only [Act.put, List.setIfInBounds_toArray, List.set_cons_zero, List.set_cons_succ]
          refine wpAnyH_take (i := 6) (oi := ?ozz57) (v := ?vzz57) ?hzz57 ?azz57 ?bzz57 ?czz57 ?qzz57 ?yzz57 ?szz57 ?rzz57
          case hzz57 => simp only [List.getElem?_toArray, List.getElem?_cons_zero, List.getElem?_cons_succ]; rfl
          case azz57 => kernel_rfl
          case bzz57 => kernel_rfl
          case czz57 => kernel_rfl
          case yzz57 =>
            refine Or.inl ⟨by rfl, ?_⟩
            intro w hSw
            have a2 := box_ hSw z0; have a3 := box_ hSw z1; clear hSw
            go_simp
            try with_reducible rfl
          case qzz57 => exact fun _ _ _ h => h
          case szz57 => first | assumption | trivial
          case' rzz57 => simp only [Act.put, List.setIfInBounds_toArray, List.set_cons_zero, List.set_cons_succ]
          refine wpAnyH_ready (rs := [7]) (by kernel_rfl) (by simp) ?_
          refine AllReadyH.cons (o := ?ozz59) ?hzz59 (fun K hK => ?kzz59) ?mzz59
          case hzz59 => simp only [List.getElem?_toArray, List.getElem?_cons_zero, List.getElem?_cons_succ]; rfl
          case kzz59 =>
            go_simp
            refine (K1.out _).mono ?_
            rintro e v2 ⟨rfl, q2⟩
            go_wp2_with fail
            refine hK.out _ _ ?Szz59 (fun hHeld => ?Rzz59)
            case Szz59 =>
              exact hHeld.trans q2
            case Rzz59 =>
              clear hK K
              try simp only [Act.put, List.setIfInBounds_toArray, List.set_cons_zero, List.set_cons_succ]
              refine wpAnyH_take (i := 8) (oi := ?ozz58) (v := ?vzz58) ?hzz58 ?azz58 ?bzz58 ?czz58 ?qzz58 ?yzz58 ?szz58 ?rzz58
              case hzz58 => simp only [List.getElem?_toArray, List.getElem?_cons_zero, List.getElem?_cons_succ]; rfl
              case azz58 => kernel_rfl
              case bzz58 => kernel_rfl
              case czz58 => kernel_rfl
              case yzz58 =>
                refine Or.inl ⟨by rfl, ?_⟩
                intro w hSw
                skip
                go_simp
                try with_reducible rfl
              case qzz58 => exact fun _ _ _ h => h
              case szz58 => first | assumption | trivial
              case' rzz58 => simp only [Act.put, List.setIfInBounds_toArray, List.set_cons_zero, List.set_cons_succ]
              refine wpAnyH_done (by kernel_rfl) ?_ _
              have HOS2 := Lib.hid (HOW.out _ hHeld)
              have HOZ := (O4.out.1).q hHeld
              obtain ⟨r0, r1, s0, s1⟩ := HOC.out _ hHeld
              have r2 := box_ hHeld z0; have r3 := box_ hHeld z1
              have s2 := HOZ.free (k * 2); have s3 := HOZ.free (k * 2 + 1)
              have HB3 := Lib.hid (only_set (only_set (only_set (only_set (HGR.out.trans (only_q hHeld)) (k * 2) (.int .u64 (x.at_ : Int))) (k * 2 + 1) (.int .i64 x.id)) ((2 * k + 2) * 2) (.int .u64 (y.at_ : Int))) ((2 * k + 2) * 2 + 1) (.int .i64 y.id))
              have hbI : ((2 * k + 2 : Nat) : Int) < (n : Int) := by omega
              have hbJ : ((2 * k + 1 : Nat) : Int) + 1 < (n : Int) := by omega
              have hbk : k < 2 * k + 2 := by omega
              clear z0 z1 d0 d1 d2 d3 HOW HOC HOZ K1
              generalize hbq : 2 * k + 2 = bq at r0 r1 s0 s1 HB3 HOS2 HF hbI hbn hbk
              have hwb : IntKind.i64.wrap (((2 * k + 1 : Nat) : Int) + 1) = (bq : Int) := by rw [IntKind.wrap_i64]; omega
              go_wp2_with fail
              refine (K0.out _ (by omega)).mono ?_
              rintro e v3 ⟨rfl, rfl⟩
              go_wp2
              go_region
              all_goals
                generalize ((((v3.setCell ⟨p, k * 2, none⟩ (.int .u64 (x.at_ : Int))).setCell ⟨p, k * 2 + 1, none⟩ (.int .i64 x.id)).setCell ⟨p, bq * 2, none⟩ (.int .u64 (y.at_ : Int))).setCell ⟨p, bq * 2 + 1, none⟩ (.int .i64 y.id)) = W9 at HOS2 HB3 ⊢
                clear r0 r1 r2 r3 s0 s1 s2 s3
                go_wp2
                go_roundw
                case rel => exact ⟨bq, f3, swp l2 k bq, by go_num, by omega, by first | exact HOS2.out | exact HOS2.out.drew, HF.out.1, HF.out.2, by first | exact HB3.out | exact only_drew HB3.out⟩
                case measure => simp [intOf]; omega
          case' mzz59 => skip
          exact AllReadyH.nil

end Am
end Go.Proofs.Ytbclamfpoigneaa
