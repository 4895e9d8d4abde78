/- Contracts: package alarm's own rise, put, Put. -/
import Derived.Test.YtbclamfpoigneaaAlBelow
import Derived.Test.YtbclamfpoigneaaGrow
import Derived.BigQuiet
namespace Go.Proofs.Ytbclamfpoigneaa
set_option maxRecDepth 100000
open Go.RowKit
set_option linter.unusedVariables false
set_option linter.unusedSimpArgs false
namespace Am

theorem own_swap {w : World} {base g n c : Nat} {l : List Al} (h : OwnK alK w base (some ⟨g, 0, none⟩) n c l) {i k : Nat} (hi : i < l.length) (hk : k < l.length) :
    OwnK alK ((((w.setCell ⟨g, i * 2, none⟩ (.int .u64 ((l[k]).at_ : Int))).setCell ⟨g, i * 2 + 1, none⟩ (.int .i64 (l[k]).id)).setCell ⟨g, k * 2, none⟩ (.int .u64 ((l[i]).at_ : Int))).setCell ⟨g, k * 2 + 1, none⟩ (.int .i64 (l[i]).id)) base (some ⟨g, 0, none⟩) n c (swp l i k) := by
  have hs : swp l i k = (l.set i l[k]).set k l[i] := by unfold swp; rw [g_lt hi, g_lt hk]
  rw [hs]
  exact own_put2 (own_put2 h hi l[k]) (k := k) (by simpa using hk) l[i]
theorem below_swap {a w : World} {base g : Nat} (h : Below base a w) (hg : base ≤ g) (i k : Nat) (x y u v : Value) :
    Below base a ((((w.setCell ⟨g, i * 2, none⟩ x).setCell ⟨g, i * 2 + 1, none⟩ y).setCell ⟨g, k * 2, none⟩ u).setCell ⟨g, k * 2 + 1, none⟩ v) :=
  (((h.setCell (p := ⟨g, i * 2, none⟩) hg x).setCell (p := ⟨g, i * 2 + 1, none⟩) hg y).setCell (p := ⟨g, k * 2, none⟩) hg u).setCell (p := ⟨g, k * 2 + 1, none⟩) hg v

set_option maxHeartbeats 4000000 in
theorem arise_any (base g n c : Nat) (l : List Al) (i : Nat) (w : World) (ho : OwnK alK w base (some ⟨g, 0, none⟩) n c l) (hi : i < n) (hn : n ≤ 1000000) (hbs : base ≤ w.heap.size) :
    Calls Try.prog 28 #[.slice (some ⟨g, 0, none⟩) n c, .int .i64 (i : Int)] w fun e w' => e = .returned (.tuple #[]) ∧ OwnK alK w' base (some ⟨g, 0, none⟩) n c (rise i l i) ∧ Below base w w' := by
  have HO0 := Lib.hid ho
  clear ho
  go_enter Try.func28, Try.ntmps28
  go_wp2
  go_loopw [1] (fun iv wr => ∃ (k : Nat) (l2 : List Al), iv = .int .i64 (k : Nat) ∧ k < n ∧ OwnK alK wr base (some ⟨g, 0, none⟩) n c l2 ∧ rise i l i = rise k l2 k ∧ Below base w wr) (fun i _ => (intOf i).toNat)
  case atStart => exact ⟨i, l, rfl, hi, HO0.out, rfl, Below.refl _ _⟩
  case round =>
    obtain ⟨k, l2, rfl, hk, ho, hr, hb⟩ := hrel
    have HO := Lib.hid (And.intro ho (And.intro hb hr))
    clear ho hr hb HO0
    by_cases hk0 : k = 0
    · subst hk0
      have HF := Lib.hid (HO.out.2.2.trans (rise_zero 0 l2))
      go_wp2
      go_end0
      rw [HF.out]
      exact ⟨rfl, HO.out.1, HO.out.2.1⟩
    · obtain ⟨m, hm⟩ : ∃ m, k = m + 1 := ⟨k - 1, by omega⟩
      obtain ⟨d, hd⟩ : ∃ d, m / 2 = d := ⟨_, rfl⟩
      have hln := HO.out.1.len
      have hm1 : k < l2.length := by omega
      have hm2 : d < l2.length := by omega
      have hdn : d < n := by omega
      obtain ⟨y0, y1, f0, f1⟩ := own_cells2 HO.out.1 hm1
      obtain ⟨z0, z1, f2, f3⟩ := own_cells2 HO.out.1 hm2
      have K1 := Lib.hid (fun W => aless_any (l2[k]) (l2[d]) W)
      have hg1 := g_lt hm1
      have hg2 := g_lt hm2
      have hq0 : IntKind.i64.wrap ((k : Int) - 1) = (m : Int) := by rw [IntKind.wrap_i64]; omega
      have hq1 : Int.tdiv (m : Int) 2 = (d : Int) := by subst hd; rfl
      have hq2 : IntKind.i64.wrap (d : Int) = (d : Int) := by rw [IntKind.wrap_i64]; omega
      have hi3 : 0 < k := by omega
      have hi1 : (0 : Int) < (k : Int) := by omega
      have hi2 : (k : Int) < (n : Int) := by omega
      have hd2 : (d : Int) < (n : Int) := by omega
      have hid : d < k := by omega
      have HMD := Lib.hid (And.intro hm hd)
      have HOS := Lib.hid (fun W (q : Q wr W) => own_swap (HO.out.1.q q) hm1 hm2)
      clear hm hd
      cases hb : less (l2[k]) (l2[d]) with
      | false =>
        rw [hb] at K1
        have hst : rise k l2 k = l2 := by rw [HMD.out.1]; exact rise_end (m + 1) (by rw [HMD.out.2, ← HMD.out.1, hg1, hg2]; exact hb)
        have HF := Lib.hid (HO.out.2.2.trans hst)
        clear hst HOS
        generalize l2[k] = x at y0 y1 K1
        generalize l2[d] = y at z0 z1 K1
        clear hg1 hg2 hb hm1 hm2 hln
        go_wp2
        refine wp_region_held_drew (S := Q wr) (by kernel_rfl) ?szz0 (fun hHeld => ?rzz0)
        case szz0 =>
          exact (Q.refl wr).drew
        case' rzz0 => skip
        refine wpAnyH_take (i := 0) (oi := ?ozz1) (v := ?vzz1) ?hzz1 ?azz1 ?bzz1 ?czz1 ?qzz1 ?yzz1 ?szz1 ?rzz1
        case hzz1 => simp only [List.getElem?_toArray, List.getElem?_cons_zero]; rfl
        case azz1 => kernel_rfl
        case bzz1 => kernel_rfl
        case czz1 => kernel_rfl
        case yzz1 =>
          refine Or.inl ⟨by rfl, ?_⟩
          intro w hSw
          skip
          go_simp
          try with_reducible rfl
        case qzz1 => exact fun _ _ _ h => h
        case szz1 => first | assumption | trivial
        case' rzz1 => simp only [Act.put, List.setIfInBounds_toArray, List.set_cons_zero, List.set_cons_succ]
        refine wpAnyH_take (i := 1) (oi := ?ozz2) (v := ?vzz2) ?hzz2 ?azz2 ?bzz2 ?czz2 ?qzz2 ?yzz2 ?szz2 ?rzz2
        case hzz2 => simp only [List.getElem?_toArray, List.getElem?_cons_zero, List.getElem?_cons_succ]; rfl
        case azz2 => kernel_rfl
        case bzz2 => kernel_rfl
        case czz2 => kernel_rfl
        case yzz2 =>
          refine Or.inl ⟨by rfl, ?_⟩
          intro w hSw
          skip
          go_simp
          try with_reducible rfl
        case qzz2 => exact fun _ _ _ h => h
        case szz2 => first | assumption | trivial
        case' rzz2 => simp only [Act.put, List.setIfInBounds_toArray, List.set_cons_zero, List.set_cons_succ]
        refine wpAnyH_take (i := 2) (oi := ?ozz3) (v := ?vzz3) ?hzz3 ?azz3 ?bzz3 ?czz3 ?qzz3 ?yzz3 ?szz3 ?rzz3
        case hzz3 => simp only [List.getElem?_toArray, List.getElem?_cons_zero, List.getElem?_cons_succ]; rfl
        case azz3 => kernel_rfl
        case bzz3 => kernel_rfl
        case czz3 => kernel_rfl
        case yzz3 =>
          refine Or.inl ⟨by rfl, ?_⟩
          intro w hSw
          skip
          go_simp
          try with_reducible rfl
        case qzz3 => exact fun _ _ _ h => h
        case szz3 => first | assumption | trivial
        case' rzz3 => simp only [Act.put, List.setIfInBounds_toArray, List.set_cons_zero, List.set_cons_succ]
        refine wpAnyH_take (i := 3) (oi := ?ozz4) (v := ?vzz4) ?hzz4 ?azz4 ?bzz4 ?czz4 ?qzz4 ?yzz4 ?szz4 ?rzz4
        case hzz4 => simp only [List.getElem?_toArray, List.getElem?_cons_zero, List.getElem?_cons_succ]; rfl
        case azz4 => kernel_rfl
        case bzz4 => kernel_rfl
        case czz4 => kernel_rfl
        case yzz4 =>
          refine Or.inl ⟨by rfl, ?_⟩
          intro w hSw
          have a0 := box_ hSw y0; have a1 := box_ hSw y1; clear hSw
          go_simp
          try with_reducible rfl
        case qzz4 => exact fun _ _ _ h => h
        case szz4 => first | assumption | trivial
        case' rzz4 => simp only [Act.put, List.setIfInBounds_toArray, List.set_cons_zero, List.set_cons_succ]
        refine wpAnyH_take (i := 4) (oi := ?ozz5) (v := ?vzz5) ?hzz5 ?azz5 ?bzz5 ?czz5 ?qzz5 ?yzz5 ?szz5 ?rzz5
        case hzz5 => simp only [List.getElem?_toArray, List.getElem?_cons_zero, List.getElem?_cons_succ]; rfl
        case azz5 => kernel_rfl
        case bzz5 => kernel_rfl
        case czz5 => kernel_rfl
        case yzz5 =>
          refine Or.inl ⟨by rfl, ?_⟩
          intro w hSw
          skip
          go_simp
          try with_reducible rfl
        case qzz5 => exact fun _ _ _ h => h
        case szz5 => first | assumption | trivial
        case' rzz5 => simp only [Act.put, List.setIfInBounds_toArray, List.set_cons_zero, List.set_cons_succ]
        refine wpAnyH_take (i := 5) (oi := ?ozz6) (v := ?vzz6) ?hzz6 ?azz6 ?bzz6 ?czz6 ?qzz6 ?yzz6 ?szz6 ?rzz6
        case hzz6 => simp only [List.getElem?_toArray, List.getElem?_cons_zero, List.getElem?_cons_succ]; rfl
        case azz6 => kernel_rfl
        case bzz6 => kernel_rfl
        case czz6 => kernel_rfl
        case yzz6 =>
          refine Or.inl ⟨by rfl, ?_⟩
          intro w hSw
          skip
          go_simp
          try with_reducible rfl
        case qzz6 => exact fun _ _ _ h => h
        case szz6 => first | assumption | trivial
        case' rzz6 => simp only [Act.put, List.setIfInBounds_toArray, List.set_cons_zero, List.set_cons_succ]
        refine wpAnyH_take (i := 6) (oi := ?ozz7) (v := ?vzz7) ?hzz7 ?azz7 ?bzz7 ?czz7 ?qzz7 ?yzz7 ?szz7 ?rzz7
        case hzz7 => simp only [List.getElem?_toArray, List.getElem?_cons_zero, List.getElem?_cons_succ]; rfl
        case azz7 => kernel_rfl
        case bzz7 => kernel_rfl
        case czz7 => kernel_rfl
        case yzz7 =>
          refine Or.inl ⟨by rfl, ?_⟩
          intro w hSw
          skip
          go_simp
          try with_reducible rfl
        case qzz7 => exact fun _ _ _ h => h
        case szz7 => first | assumption | trivial
        case' rzz7 => simp only [Act.put, List.setIfInBounds_toArray, List.set_cons_zero, List.set_cons_succ]
        refine wpAnyH_take (i := 7) (oi := ?ozz8) (v := ?vzz8) ?hzz8 ?azz8 ?bzz8 ?czz8 ?qzz8 ?yzz8 ?szz8 ?rzz8
        case hzz8 => simp only [List.getElem?_toArray, List.getElem?_cons_zero, List.getElem?_cons_succ]; rfl
        case azz8 => kernel_rfl
        case bzz8 => kernel_rfl
        case czz8 => kernel_rfl
        case yzz8 =>
          refine Or.inl ⟨by rfl, ?_⟩
          intro w hSw
          have a2 := box_ hSw z0; have a3 := box_ hSw z1; clear hSw
          go_simp
          try with_reducible rfl
        case qzz8 => exact fun _ _ _ h => h
        case szz8 => first | assumption | trivial
        case' rzz8 => simp only [Act.put, List.setIfInBounds_toArray, List.set_cons_zero, List.set_cons_succ]
        refine wpAnyH_ready (rs := [8]) (by kernel_rfl) (by simp) ?_
        refine AllReadyH.cons (o := ?ozz10) ?hzz10 (fun K hK => ?kzz10) ?mzz10
        case hzz10 => simp only [List.getElem?_toArray, List.getElem?_cons_zero, List.getElem?_cons_succ]; rfl
        case kzz10 =>
          go_simp
          refine (K1.out _).mono ?_
          rintro e v2 ⟨rfl, q2⟩
          go_wp2_with fail
          refine hK.out _ _ ?Szz10 (fun hHeld => ?Rzz10)
          case Szz10 =>
            exact hHeld.trans q2
          case Rzz10 =>
            clear hK K
            try simp only [Act.put, List.setIfInBounds_toArray, List.set_cons_zero, List.set_cons_succ]
            refine wpAnyH_take (i := 9) (oi := ?ozz9) (v := ?vzz9) ?hzz9 ?azz9 ?bzz9 ?czz9 ?qzz9 ?yzz9 ?szz9 ?rzz9
            case hzz9 => simp only [List.getElem?_toArray, List.getElem?_cons_zero, List.getElem?_cons_succ]; rfl
            case azz9 => kernel_rfl
            case bzz9 => kernel_rfl
            case czz9 => kernel_rfl
            case yzz9 =>
              refine Or.inl ⟨by rfl, ?_⟩
              intro w hSw
              skip
              go_simp
              try with_reducible rfl
            case qzz9 => exact fun _ _ _ h => h
            case szz9 => first | assumption | trivial
            case' rzz9 => simp only [Act.put, List.setIfInBounds_toArray, List.set_cons_zero, List.set_cons_succ]
            refine wpAnyH_done (by kernel_rfl) ?_ _
            go_wp2
            refine bodyPost_ret (results_none rfl _ _ _) rfl ?_
            rw [HF.out]
            exact ⟨rfl, HO.out.1.q hHeld, HO.out.2.1.trans (Below.mono (Q.below hHeld) (Nat.le_trans hbs HO.out.2.1.size))⟩
        case' mzz10 => skip
        exact AllReadyH.nil
      | true =>
        rw [hb] at K1
        have hst : rise k l2 k = rise d (swp l2 k d) d := by
          rw [HMD.out.1, rise_step (by rw [HMD.out.2, ← HMD.out.1, hg1, hg2]; exact hb), HMD.out.2]
          exact rise_fuel m _ _ (by have := HMD.out.2; omega)
        have HF := Lib.hid (HO.out.2.2.trans hst)
        generalize l2[k] = x at y0 y1 K1 HOS
        generalize l2[d] = y at z0 z1 K1 HOS
        clear hg1 hg2 hb hm1 hm2 hln hst
        go_wp2
        refine wp_region_held_drew (S := Q wr) (by kernel_rfl) ?szz11 (fun hHeld => ?rzz11)
        case szz11 =>
          exact (Q.refl wr).drew
        case' rzz11 => skip
        refine wpAnyH_take (i := 0) (oi := ?ozz12) (v := ?vzz12) ?hzz12 ?azz12 ?bzz12 ?czz12 ?qzz12 ?yzz12 ?szz12 ?rzz12
        case hzz12 => simp only [List.getElem?_toArray, List.getElem?_cons_zero]; rfl
        case azz12 => kernel_rfl
        case bzz12 => kernel_rfl
        case czz12 => kernel_rfl
        case yzz12 =>
          refine Or.inl ⟨by rfl, ?_⟩
          intro w hSw
          skip
          go_simp
          try with_reducible rfl
        case qzz12 => exact fun _ _ _ h => h
        case szz12 => first | assumption | trivial
        case' rzz12 => simp only [Act.put, List.setIfInBounds_toArray, List.set_cons_zero, List.set_cons_succ]
        refine wpAnyH_take (i := 1) (oi := ?ozz13) (v := ?vzz13) ?hzz13 ?azz13 ?bzz13 ?czz13 ?qzz13 ?yzz13 ?szz13 ?rzz13
        case hzz13 => simp only [List.getElem?_toArray, List.getElem?_cons_zero, List.getElem?_cons_succ]; rfl
        case azz13 => kernel_rfl
        case bzz13 => kernel_rfl
        case czz13 => kernel_rfl
        case yzz13 =>
          refine Or.inl ⟨by rfl, ?_⟩
          intro w hSw
          skip
          go_simp
          try with_reducible rfl
        case qzz13 => exact fun _ _ _ h => h
        case szz13 => first | assumption | trivial
        case' rzz13 => simp only [Act.put, List.setIfInBounds_toArray, List.set_cons_zero, List.set_cons_succ]
        refine wpAnyH_take (i := 2) (oi := ?ozz14) (v := ?vzz14) ?hzz14 ?azz14 ?bzz14 ?czz14 ?qzz14 ?yzz14 ?szz14 ?rzz14
        case hzz14 => simp only [List.getElem?_toArray, List.getElem?_cons_zero, List.getElem?_cons_succ]; rfl
        case azz14 => kernel_rfl
        case bzz14 => kernel_rfl
        case czz14 => kernel_rfl
        case yzz14 =>
          refine Or.inl ⟨by rfl, ?_⟩
          intro w hSw
          skip
          go_simp
          try with_reducible rfl
        case qzz14 => exact fun _ _ _ h => h
        case szz14 => first | assumption | trivial
        case' rzz14 => simp only [Act.put, List.setIfInBounds_toArray, List.set_cons_zero, List.set_cons_succ]
        refine wpAnyH_take (i := 3) (oi := ?ozz15) (v := ?vzz15) ?hzz15 ?azz15 ?bzz15 ?czz15 ?qzz15 ?yzz15 ?szz15 ?rzz15
        case hzz15 => simp only [List.getElem?_toArray, List.getElem?_cons_zero, List.getElem?_cons_succ]; rfl
        case azz15 => kernel_rfl
        case bzz15 => kernel_rfl
        case czz15 => kernel_rfl
        case yzz15 =>
          refine Or.inl ⟨by rfl, ?_⟩
          intro w hSw
          have a0 := box_ hSw y0; have a1 := box_ hSw y1; clear hSw
          go_simp
          try with_reducible rfl
        case qzz15 => exact fun _ _ _ h => h
        case szz15 => first | assumption | trivial
        case' rzz15 => simp only [Act.put, List.setIfInBounds_toArray, List.set_cons_zero, List.set_cons_succ]
        refine wpAnyH_take (i := 4) (oi := ?ozz16) (v := ?vzz16) ?hzz16 ?azz16 ?bzz16 ?czz16 ?qzz16 ?yzz16 ?szz16 ?rzz16
        case hzz16 => simp only [List.getElem?_toArray, List.getElem?_cons_zero, List.getElem?_cons_succ]; rfl
        case azz16 => kernel_rfl
        case bzz16 => kernel_rfl
        case czz16 => kernel_rfl
        case yzz16 =>
          refine Or.inl ⟨by rfl, ?_⟩
          intro w hSw
          skip
          go_simp
          try with_reducible rfl
        case qzz16 => exact fun _ _ _ h => h
        case szz16 => first | assumption | trivial
        case' rzz16 => simp only [Act.put, List.setIfInBounds_toArray, List.set_cons_zero, List.set_cons_succ]
        refine wpAnyH_take (i := 5) (oi := ?ozz17) (v := ?vzz17) ?hzz17 ?azz17 ?bzz17 ?czz17 ?qzz17 ?yzz17 ?szz17 ?rzz17
        case hzz17 => simp only [List.getElem?_toArray, List.getElem?_cons_zero, List.getElem?_cons_succ]; rfl
        case azz17 => kernel_rfl
        case bzz17 => kernel_rfl
        case czz17 => kernel_rfl
        case yzz17 =>
          refine Or.inl ⟨by rfl, ?_⟩
          intro w hSw
          skip
          go_simp
          try with_reducible rfl
        case qzz17 => exact fun _ _ _ h => h
        case szz17 => first | assumption | trivial
        case' rzz17 => simp only [Act.put, List.setIfInBounds_toArray, List.set_cons_zero, List.set_cons_succ]
        refine wpAnyH_take (i := 6) (oi := ?ozz18) (v := ?vzz18) ?hzz18 ?azz18 ?bzz18 ?czz18 ?qzz18 ?yzz18 ?szz18 ?rzz18
        case hzz18 => simp only [List.getElem?_toArray, List.getElem?_cons_zero, List.getElem?_cons_succ]; rfl
        case azz18 => kernel_rfl
        case bzz18 => kernel_rfl
        case czz18 => kernel_rfl
        case yzz18 =>
          refine Or.inl ⟨by rfl, ?_⟩
          intro w hSw
          skip
          go_simp
          try with_reducible rfl
        case qzz18 => exact fun _ _ _ h => h
        case szz18 => first | assumption | trivial
        case' rzz18 => simp only [Act.put, List.setIfInBounds_toArray, List.set_cons_zero, List.set_cons_succ]
        refine wpAnyH_take (i := 7) (oi := ?ozz19) (v := ?vzz19) ?hzz19 ?azz19 ?bzz19 ?czz19 ?qzz19 ?yzz19 ?szz19 ?rzz19
        case hzz19 => simp only [List.getElem?_toArray, List.getElem?_cons_zero, List.getElem?_cons_succ]; rfl
        case azz19 => kernel_rfl
        case bzz19 => kernel_rfl
        case czz19 => kernel_rfl
        case yzz19 =>
          refine Or.inl ⟨by rfl, ?_⟩
          intro w hSw
          have a2 := box_ hSw z0; have a3 := box_ hSw z1; clear hSw
          go_simp
          try with_reducible rfl
        case qzz19 => exact fun _ _ _ h => h
        case szz19 => first | assumption | trivial
        case' rzz19 => simp only [Act.put, List.setIfInBounds_toArray, List.set_cons_zero, List.set_cons_succ]
        refine wpAnyH_ready (rs := [8]) (by kernel_rfl) (by simp) ?_
        refine AllReadyH.cons (o := ?ozz21) ?hzz21 (fun K hK => ?kzz21) ?mzz21
        case hzz21 => simp only [List.getElem?_toArray, List.getElem?_cons_zero, List.getElem?_cons_succ]; rfl
        case kzz21 =>
          go_simp
          refine (K1.out _).mono ?_
          rintro e v2 ⟨rfl, q2⟩
          go_wp2_with fail
          refine hK.out _ _ ?Szz21 (fun hHeld => ?Rzz21)
          case Szz21 =>
            exact hHeld.trans q2
          case Rzz21 =>
            clear hK K
            try simp only [Act.put, List.setIfInBounds_toArray, List.set_cons_zero, List.set_cons_succ]
            refine wpAnyH_take (i := 9) (oi := ?ozz20) (v := ?vzz20) ?hzz20 ?azz20 ?bzz20 ?czz20 ?qzz20 ?yzz20 ?szz20 ?rzz20
            case hzz20 => simp only [List.getElem?_toArray, List.getElem?_cons_zero, List.getElem?_cons_succ]; rfl
            case azz20 => kernel_rfl
            case bzz20 => kernel_rfl
            case czz20 => kernel_rfl
            case yzz20 =>
              refine Or.inl ⟨by rfl, ?_⟩
              intro w hSw
              skip
              go_simp
              try with_reducible rfl
            case qzz20 => exact fun _ _ _ h => h
            case szz20 => first | assumption | trivial
            case' rzz20 => simp only [Act.put, List.setIfInBounds_toArray, List.set_cons_zero, List.set_cons_succ]
            refine wpAnyH_done (by kernel_rfl) ?_ _
            have HOS2 := Lib.hid (HOS.out _ hHeld)
            have HB3 := Lib.hid (below_swap (HO.out.2.1.trans (Below.mono (Q.below hHeld) (Nat.le_trans hbs HO.out.2.1.size))) HO.out.1.block_lt.1 k d (.int .u64 (y.at_ : Int)) (.int .i64 y.id) (.int .u64 (x.at_ : Int)) (.int .i64 x.id))
            have r0 := box_ hHeld y0; have r1 := box_ hHeld y1; have r2 := box_ hHeld z0; have r3 := box_ hHeld z1
            have s0 := HO.out.1.q hHeld |>.free (k * 2); have s1 := HO.out.1.q hHeld |>.free (k * 2 + 1); have s2 := HO.out.1.q hHeld |>.free (d * 2); have s3 := HO.out.1.q hHeld |>.free (d * 2 + 1)
            clear y0 y1 z0 z1 f0 f1 f2 f3
            go_wp2
            go_region
            all_goals
              generalize ((((v2.setCell ⟨g, k * 2, none⟩ (.int .u64 (y.at_ : Int))).setCell ⟨g, k * 2 + 1, none⟩ (.int .i64 y.id)).setCell ⟨g, d * 2, none⟩ (.int .u64 (x.at_ : Int))).setCell ⟨g, d * 2 + 1, none⟩ (.int .i64 x.id)) = W9 at HOS2 HB3 ⊢
              clear r0 r1 r2 r3 s0 s1 s2 s3
              go_wp2
              go_roundw
              case rel => exact ⟨d, swp l2 k d, by go_num, hdn, by first | exact HOS2.out | exact HOS2.out.drew, HF.out, by first | exact HB3.out | exact HB3.out.drew⟩
              case measure => simp [intOf]; omega
        case' mzz21 => skip
        exact AllReadyH.nil

set_option maxHeartbeats 4000000 in
theorem aputo_any (base : Nat) (A : Option Addr) (n c : Nat) (l : List Al) (a : Al) (w : World) (ho : OwnK alK w base A n c l) (hn : n ≤ 900000) (hbs : base ≤ w.heap.size) :
    Calls Try.prog 23 #[.slice A n c, alV a] w fun e w' => ∃ A' c', e = .returned (.slice A' (n + 1) c') ∧ OwnK alK w' base A' (n + 1) c' (put l a) ∧ Below base w w' := by
  have HO := Lib.hid ho
  have HL := Lib.hid ho.len
  have hb2 : (n + 1) * alK.bs ≤ 140737488355328 := by show (n + 1) * 16 ≤ _; omega
  have q0 := (Q.refl w).alloc (.cells #[.int .u64 (a.at_ : Int), .int .i64 a.id] 25)
  have B0 := Lib.hid (And.intro (Bx.new w [.int .u64 (a.at_ : Int), .int .i64 a.id] 25) q0)
  have hpu : put l a = rise n (l ++ [a]) n := by unfold put; rw [HL.out]
  have HP := Lib.hid hpu
  clear ho q0 hpu
  unfold alV
  go_enter Try.func23, Try.ntmps23
  go_upto_region 1 with (fail)
  change Hid (Bx (w.alloc (.cells #[.int .u64 (a.at_ : Int), .int .i64 a.id] 25)) _ _ ∧ _) at B0
  generalize (w.alloc (.cells #[.int .u64 (a.at_ : Int), .int .i64 a.id] 25)) = W0 at B0 ⊢
  have hw0 : w.heap.size < W0.heap.size := B0.out.1.lt
  obtain ⟨⟨x0, x1⟩, _⟩ := B0.out.1.get2
  go_upto_region 2 with (at_builtin
                         refine wpl_appK alK rfl (.tmp 5) (.tmp 7) 22 rfl rfl base A n c l rfl ((HO.out.q B0.out.2).alloc _) (some ⟨W0.heap.size, 0, none⟩) 1 1 [a] rfl ((OwnK.lit1 alK W0 W0.heap.size (Nat.le_refl _) a).lst) (fun e => by cases e) hb2 (by simp; omega) ?_
                         intro A3 c3 w3 o3 b3
                         have O3 := Lib.hid (And.intro o3 ((Below.mono (B0.out.2.alloc (.cells #[.int .u64 (a.at_ : Int), .int .i64 a.id] 25)).below hbs).trans b3))
                         clear o3 b3)
  obtain ⟨g, rfl⟩ := own_some O3.out.1 (by omega)
  have hwn : IntKind.i64.wrap (((n + 1 : Nat) : Int) - 1) = (n : Int) := by rw [IntKind.wrap_i64]; omega
  have K1 := Lib.hid (arise_any base g (n + 1) c3 (l ++ [a]) n w3 O3.out.1 (by omega) (by omega) (Nat.le_trans hbs O3.out.2.size))
  have hN1 : n + 1 ≤ 1000000 := by omega
  clear x0 x1
  go_wp2_with fail
  refine K1.out.mono ?_
  rintro e w4 ⟨rfl, o4, b4⟩
  have R := Lib.hid (And.intro o4 b4)
  clear o4 b4
  go_wp2
  go_ret
  exact ⟨some ⟨g, 0, none⟩, c3, rfl, by rw [HP.out]; exact R.out.1, Below.trans O3.out.2 R.out.2⟩

set_option maxHeartbeats 4000000 in
theorem aputi_any (A : Option Addr) (n : Nat) (l : List Al) (a : Al) (w : World) (ho : In_ alK w A n n l) (hn : n ≤ 900000) :
    Calls Try.prog 23 #[.slice A n n, alV a] w fun e w' => ∃ A' c', e = .returned (.slice A' (n + 1) c') ∧ OwnK alK w' w.heap.size A' (n + 1) c' (put l a) ∧ Below w.heap.size w w' := by
  have HO := Lib.hid ho
  have HL := Lib.hid ho.len
  have hb2 : (n + 1) * alK.bs ≤ 140737488355328 := by show (n + 1) * 16 ≤ _; omega
  have q0 := (Q.refl w).alloc (.cells #[.int .u64 (a.at_ : Int), .int .i64 a.id] 25)
  have B0 := Lib.hid (And.intro (Bx.new w [.int .u64 (a.at_ : Int), .int .i64 a.id] 25) q0)
  have hpu : put l a = rise n (l ++ [a]) n := by unfold put; rw [HL.out]
  have HP := Lib.hid hpu
  clear ho q0 hpu
  unfold alV
  go_enter Try.func23, Try.ntmps23
  go_upto_region 1 with (fail)
  change Hid (Bx (w.alloc (.cells #[.int .u64 (a.at_ : Int), .int .i64 a.id] 25)) _ _ ∧ _) at B0
  generalize (w.alloc (.cells #[.int .u64 (a.at_ : Int), .int .i64 a.id] 25)) = W0 at B0 ⊢
  have hw0 : w.heap.size < W0.heap.size := B0.out.1.lt
  obtain ⟨⟨x0, x1⟩, _⟩ := B0.out.1.get2
  go_upto_region 2 with (at_builtin
                         refine wpl_growK alK rfl (.tmp 5) (.tmp 7) 22 rfl rfl w.heap.size A n n l rfl ((HO.out.lst.q B0.out.2).q ((Q.refl W0).alloc _)) (fun e => (HO.out.nil e).1) ⟨W0.heap.size, 0, none⟩ 1 1 [a] rfl ((OwnK.lit1 alK W0 W0.heap.size (Nat.le_refl _) a).lst) (by omega) hb2 (by simp; omega) ?_
                         intro A3 c3 w3 o3 b3
                         have O3 := Lib.hid (And.intro o3 ((B0.out.2.alloc (.cells #[.int .u64 (a.at_ : Int), .int .i64 a.id] 25)).trans b3))
                         clear o3 b3)
  obtain ⟨g, rfl⟩ := own_some O3.out.1 (by omega)
  have hwn : IntKind.i64.wrap (((n + 1 : Nat) : Int) - 1) = (n : Int) := by rw [IntKind.wrap_i64]; omega
  have K1 := Lib.hid (arise_any w.heap.size g (n + 1) c3 (l ++ [a]) n w3 O3.out.1 (by omega) (by omega) (Nat.le_trans (Nat.le_refl _) O3.out.2.size))
  have hN1 : n + 1 ≤ 1000000 := by omega
  clear x0 x1
  go_wp2_with fail
  refine K1.out.mono ?_
  rintro e w4 ⟨rfl, o4, b4⟩
  have R := Lib.hid (And.intro o4 b4)
  clear o4 b4
  go_wp2
  go_ret
  exact ⟨some ⟨g, 0, none⟩, c3, rfl, by rw [HP.out]; exact R.out.1, Below.trans O3.out.2 R.out.2⟩

set_option maxHeartbeats 4000000 in
theorem aput_any (A : Option Addr) (n c : Nat) (h : List Al) (a : Al) (w : World) (hA : In_ alK w A n c h) (hn : n ≤ 900000) :
    Calls Try.prog 10 #[.slice A n c, alV a] w (RetI alK w (put h a)) := by
  have hpl := put_len h a
  rw [hA.len] at hpl
  have K1 := Lib.hid (fun W (q : Q w W) => aputi_any A n h a W ⟨hA.lst.q q, fun e => ⟨(hA.nil e).1, (hA.nil e).1⟩, Nat.le_refl _, Nat.le_trans hA.le hA.cap, hA.few⟩ hn)
  have q0 := (Q.refl w).alloc (.cells #[.int .u64 (a.at_ : Int), .int .i64 a.id] 25)
  have B0 := Lib.hid (And.intro (Bx.new w [.int .u64 (a.at_ : Int), .int .i64 a.id] 25) q0)
  have hle := hA.le
  have hnil : A = none → n = 0 := fun e => (hA.nil e).1
  have HN := Lib.hid (And.intro hpl hnil)
  clear hA q0 hpl hnil
  unfold RetI alV
  go_enter Try.func10, Try.ntmps10
  go_upto_region 1 with (fail)
  change Hid (Bx (w.alloc (.cells #[.int .u64 (a.at_ : Int), .int .i64 a.id] 25)) _ _ ∧ _) at B0
  generalize (w.alloc (.cells #[.int .u64 (a.at_ : Int), .int .i64 a.id] 25)) = W0 at B0 ⊢
  obtain ⟨⟨x0, x1⟩, _⟩ := B0.out.1.get2
  refine wp_region_held_drew (S := Q W0) (by kernel_rfl) ?szz22 (fun hHeld => ?rzz22)
  case szz22 =>
    exact (Q.refl W0).drew
  case' rzz22 => skip
  refine wpAnyH_take (i := 0) (oi := ?ozz23) (v := ?vzz23) ?hzz23 ?azz23 ?bzz23 ?czz23 ?qzz23 ?yzz23 ?szz23 ?rzz23
  case hzz23 => simp only [List.getElem?_toArray, List.getElem?_cons_zero]; rfl
  case azz23 => kernel_rfl
  case bzz23 => kernel_rfl
  case czz23 => kernel_rfl
  case yzz23 =>
    refine Or.inl ⟨by rfl, ?_⟩
    intro w hSw
    skip
    go_simp
    try with_reducible rfl
  case qzz23 => exact fun _ _ _ h => h
  case szz23 => first | assumption | trivial
  case' rzz23 => simp only [Act.put, List.setIfInBounds_toArray, List.set_cons_zero, List.set_cons_succ]
  refine wpAnyH_take (i := 1) (oi := ?ozz24) (v := ?vzz24) ?hzz24 ?azz24 ?bzz24 ?czz24 ?qzz24 ?yzz24 ?szz24 ?rzz24
  case hzz24 => simp only [List.getElem?_toArray, List.getElem?_cons_zero, List.getElem?_cons_succ]; rfl
  case azz24 => kernel_rfl
  case bzz24 => kernel_rfl
  case czz24 => kernel_rfl
  case yzz24 =>
    refine Or.inl ⟨by rfl, ?_⟩
    intro w hSw
    skip
    go_simp
    try with_reducible rfl
  case qzz24 => exact fun _ _ _ h => h
  case szz24 => first | assumption | trivial
  case' rzz24 => simp only [Act.put, List.setIfInBounds_toArray, List.set_cons_zero, List.set_cons_succ]
  refine wpAnyH_take (i := 2) (oi := ?ozz25) (v := ?vzz25) ?hzz25 ?azz25 ?bzz25 ?czz25 ?qzz25 ?yzz25 ?szz25 ?rzz25
  case hzz25 => simp only [List.getElem?_toArray, List.getElem?_cons_zero, List.getElem?_cons_succ]; rfl
  case azz25 => kernel_rfl
  case bzz25 => kernel_rfl
  case czz25 => kernel_rfl
  case yzz25 =>
    refine Or.inl ⟨by rfl, ?_⟩
    intro w hSw
    skip
    go_simp
    try with_reducible rfl
  case qzz25 => exact fun _ _ _ h => h
  case szz25 => first | assumption | trivial
  case' rzz25 => simp only [Act.put, List.setIfInBounds_toArray, List.set_cons_zero, List.set_cons_succ]
  refine wpAnyH_take (i := 3) (oi := ?ozz26) (v := ?vzz26) ?hzz26 ?azz26 ?bzz26 ?czz26 ?qzz26 ?yzz26 ?szz26 ?rzz26
  case hzz26 => simp only [List.getElem?_toArray, List.getElem?_cons_zero, List.getElem?_cons_succ]; rfl
  case azz26 => kernel_rfl
  case bzz26 => kernel_rfl
  case czz26 => kernel_rfl
  case yzz26 =>
    refine Or.inl ⟨by rfl, ?_⟩
    intro w hSw
    skip
    go_simp
    try with_reducible rfl
  case qzz26 => exact fun _ _ _ h => h
  case szz26 => first | assumption | trivial
  case' rzz26 => simp only [Act.put, List.setIfInBounds_toArray, List.set_cons_zero, List.set_cons_succ]
  refine wpAnyH_take (i := 4) (oi := ?ozz27) (v := ?vzz27) ?hzz27 ?azz27 ?bzz27 ?czz27 ?qzz27 ?yzz27 ?szz27 ?rzz27
  case hzz27 => simp only [List.getElem?_toArray, List.getElem?_cons_zero, List.getElem?_cons_succ]; rfl
  case azz27 => kernel_rfl
  case bzz27 => kernel_rfl
  case czz27 => kernel_rfl
  case yzz27 =>
    refine Or.inl ⟨by rfl, ?_⟩
    intro w hSw
    skip
    go_simp
    try with_reducible rfl
  case qzz27 => exact fun _ _ _ h => h
  case szz27 => first | assumption | trivial
  case' rzz27 => simp only [Act.put, List.setIfInBounds_toArray, List.set_cons_zero, List.set_cons_succ]
  refine wpAnyH_take (i := 5) (oi := ?ozz28) (v := ?vzz28) ?hzz28 ?azz28 ?bzz28 ?czz28 ?qzz28 ?yzz28 ?szz28 ?rzz28
  case hzz28 => simp only [List.getElem?_toArray, List.getElem?_cons_zero, List.getElem?_cons_succ]; rfl
  case azz28 => kernel_rfl
  case bzz28 => kernel_rfl
  case czz28 => kernel_rfl
  case yzz28 =>
    refine Or.inl ⟨by rfl, ?_⟩
    intro w hSw
    skip
    go_simp
    try with_reducible rfl
  case qzz28 => exact fun _ _ _ h => h
  case szz28 => first | assumption | trivial
  case' rzz28 => simp only [Act.put, List.setIfInBounds_toArray, List.set_cons_zero, List.set_cons_succ]
  refine wpAnyH_take (i := 6) (oi := ?ozz29) (v := ?vzz29) ?hzz29 ?azz29 ?bzz29 ?czz29 ?qzz29 ?yzz29 ?szz29 ?rzz29
  case hzz29 => simp only [List.getElem?_toArray, List.getElem?_cons_zero, List.getElem?_cons_succ]; rfl
  case azz29 => kernel_rfl
  case bzz29 => kernel_rfl
  case czz29 => kernel_rfl
  case yzz29 =>
    refine Or.inl ⟨by rfl, ?_⟩
    intro w hSw
    have a0 := box_ hSw x0; have a1 := box_ hSw x1; clear hSw
    go_simp
    try with_reducible rfl
  case qzz29 => exact fun _ _ _ h => h
  case szz29 => first | assumption | trivial
  case' rzz29 => simp only [Act.put, List.setIfInBounds_toArray, List.set_cons_zero, List.set_cons_succ]
  refine wpAnyH_ready (rs := [7]) (by kernel_rfl) (by simp) ?_
  refine AllReadyH.cons (o := ?ozz31) ?hzz31 (fun K hK => ?kzz31) ?mzz31
  case hzz31 => simp only [List.getElem?_toArray, List.getElem?_cons_zero, List.getElem?_cons_succ]; rfl
  case kzz31 =>
    go_simp
    refine (K1.out _ (B0.out.2.trans hHeld)).mono ?_
    rintro e v2 ⟨A5, c5, rfl, o5, q5⟩
    go_wp2_with fail
    refine hK.out _ _ ?Szz31 (fun hHeld => ?Rzz31)
    case Szz31 =>
      exact hHeld.trans q5
    case Rzz31 =>
      clear hK K
      try simp only [Act.put, List.setIfInBounds_toArray, List.set_cons_zero, List.set_cons_succ]
      refine wpAnyH_take (i := 8) (oi := ?ozz30) (v := ?vzz30) ?hzz30 ?azz30 ?bzz30 ?czz30 ?qzz30 ?yzz30 ?szz30 ?rzz30
      case hzz30 => simp only [List.getElem?_toArray, List.getElem?_cons_zero, List.getElem?_cons_succ]; rfl
      case azz30 => kernel_rfl
      case bzz30 => kernel_rfl
      case czz30 => kernel_rfl
      case yzz30 =>
        refine Or.inl ⟨by rfl, ?_⟩
        intro w hSw
        skip
        go_simp
        try with_reducible rfl
      case qzz30 => exact fun _ _ _ h => h
      case szz30 => first | assumption | trivial
      case' rzz30 => simp only [Act.put, List.setIfInBounds_toArray, List.set_cons_zero, List.set_cons_succ]
      refine wpAnyH_done (by kernel_rfl) ?_ _
      have O5 := Lib.hid o5
      have Q5 := Lib.hid (B0.out.2.trans hHeld)
      clear x0 x1 o5
      go_wp2
      go_ret
      refine ⟨A5, c5, by rw [HN.out.1]; rfl, ?_, Q5.out⟩
      rw [HN.out.1]
      exact O5.out.in_ (by show (n + 1) * 16 ≤ _; omega)
  case' mzz31 => skip
  exact AllReadyH.nil
end Am
end Go.Proofs.Ytbclamfpoigneaa
