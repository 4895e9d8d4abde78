/- Contracts: the document's Heap. -/
import Derived.Test.YtbclamfpoigneaaAlRef
import Derived.Test.YtbclamfpoigneaaHeldL
import Derived.Deep.DeepCutAuto
namespace Go.Proofs.Ytbclamfpoigneaa
set_option maxRecDepth 100000
open Go.RowKit
set_option linter.unusedVariables false
set_option linter.unusedSimpArgs false
namespace Am

theorem heapB_no {h : List Al} {i k : Nat} (hk : k < h.length) (h0 : 0 < k) (hp : par k = i) (hl : less (g h k) (g h i) = true) : heapB h = false := by
  rw [Bool.eq_false_iff]
  intro H
  have := (heapB_iff h).1 H k h0 hk
  rw [hp, ← less_f, hl] at this
  cases this
theorem heapB_yes {h : List Al} (H : ∀ k, 0 < k → k < h.length → par k < h.length → less (g h k) (g h (par k)) = false) : heapB h = true := by
  rw [heapB_iff]
  intro k h0 hk
  exact less_f.1 (H k h0 hk (by unfold par; omega))
set_option maxHeartbeats 4000000 in
theorem rheap_any (A : Option Addr) (n c : Nat) (h : List Al) (w : World) (hA : Lst alK w A n h) (hn : n ≤ 17592186044416) :
    Calls Try.prog 20 #[.slice A n c] w fun e w' => e = .returned (.bool (heapB h)) ∧ Q w w' := by
  have HA := Lib.hid hA
  have HL := Lib.hid hA.len
  clear hA
  go_enter Try.func20, Try.ntmps20
  go_wp2
  go_loopw [3] (fun i wr => ∃ j : Nat, j ≤ n ∧ i = .int .i64 (j : Nat) ∧ (∀ k, 0 < k → k < n → par k < j → less (g h k) (g h (par k)) = false) ∧ Q w wr) (fun i _ => n - (intOf i).toNat)
  case atStart => exact ⟨0, Nat.zero_le _, rfl, fun k _ _ h => by omega, Q.refl _⟩
  case round =>
    obtain ⟨j, hj, rfl, hok, hq⟩ := hrel
    have HOK := Lib.hid hok
    have HQ := Lib.hid hq
    clear hok hq
    by_cases hlt : j < n
    case neg =>
      have hfin : heapB h = true := heapB_yes fun k h0 hk hp => HOK.out k h0 (by rw [← HL.out]; exact hk) (by rw [HL.out] at hp; omega)
      have hjn : ¬ (j : Int) < (n : Int) := by omega
      have HF := Lib.hid hfin
      clear hfin
      go_wp2
      go_ret
      exact ⟨by rw [HF.out]; rfl, HQ.out⟩
    have hjn : (j : Int) < (n : Int) := by omega
    go_wp2
    generalize wr = v0 at HQ ⊢
    go_loopw [4] (fun kv wr => ∃ k : Nat, 2 * j + 1 ≤ k ∧ k ≤ 2 * j + 3 ∧ kv = .int .i64 (k : Nat) ∧ (∀ k', 2 * j + 1 ≤ k' → k' < k → k' < n → less (g h k') (g h j) = false) ∧ Q w wr) (fun i _ => 2 * j + 3 - (intOf i).toNat)
    case atStart => exact ⟨2 * j + 1, by omega, by omega, by go_num, fun k h1 h2 => by omega, HQ.out⟩
    case round =>
      obtain ⟨k, hk1, hk2, rfl, hok, hq⟩ := hrel
      have HOK2 := Lib.hid hok
      have HQ2 := Lib.hid hq
      clear hok hq HQ
      have hnx : ∀ (_ : k = 2 * j + 3 ∨ n ≤ k), ∀ k', 0 < k' → k' < n → par k' < j + 1 → less (g h k') (g h (par k')) = false := by
        intro hor k' h0 h1 h2
        by_cases hp : par k' < j
        · exact HOK.out k' h0 h1 hp
        · have hp2 : par k' = j := by omega
          rw [hp2]
          unfold par at hp2
          exact HOK2.out k' (by omega) (by omega) h1
      have HNX := Lib.hid hnx
      clear hnx
      by_cases h3 : k = 2 * j + 3
      · have hc : ¬ (k : Int) ≤ 2 * (j : Int) + 2 := by omega
        have HN2 := Lib.hid (HNX.out (.inl h3))
        go_wp2
        go_roundw
        case rel => exact ⟨j + 1, by omega, by go_num, HN2.out, HQ2.out⟩
        case measure => simp [intOf]; omega
      have hc : (k : Int) ≤ 2 * (j : Int) + 2 := by omega
      by_cases hkn : k < n
      case neg =>
        have hkn2 : ¬ (k : Int) < (n : Int) := by omega
        have HN2 := Lib.hid (HNX.out (.inr (by omega)))
        go_wp2
        go_roundw
        case rel => exact ⟨j + 1, by omega, by go_num, HN2.out, HQ2.out⟩
        case measure => simp [intOf]; omega
      have hkn2 : (k : Int) < (n : Int) := by omega
      have hkl : k < h.length := by rw [HL.out]; exact hkn
      have hjl : j < h.length := by rw [HL.out]; exact hlt
      obtain ⟨ad, rfl, hab, y0, y1⟩ := load_al (HA.out.q HQ2.out) hkn hkl
      obtain ⟨ad2, he2, hab2, z0, z1⟩ := load_al (HA.out.q HQ2.out) hlt hjl
      injection he2 with he2
      subst he2
      have K1 := Lib.hid (fun W => rless_any (h[k]) (h[j]) W)
      have hgk := g_lt hkl
      have hgj := g_lt hjl
      cases hb : less (h[k]) (h[j]) with
      | true =>
        rw [hb] at K1
        have hno : heapB h = false := heapB_no (i := j) hkl (by omega) (by unfold par; omega) (by rw [hgk, hgj, hb])
        have HF := Lib.hid hno
        generalize h[k] = x at y0 y1 K1
        generalize h[j] = y at z0 z1 K1
        clear hgk hgj hno hb hkl hjl
        go_upto_region 7 with (fail)
        refine wp_region_held_drew (S := Q wr) (by kernel_rfl) ?szz0 (fun hHeld => ?rzz0)
        case szz0 =>
          exact (Q.refl wr).drew
        case' rzz0 => skip
        refine wpAnyH_take (i := 0) (oi := ?ozz1) (v := ?vzz1) ?hzz1 ?azz1 ?bzz1 ?czz1 ?qzz1 ?yzz1 ?szz1 ?rzz1
        case hzz1 => simp only [List.getElem?_toArray, List.getElem?_cons_zero]; rfl
        case azz1 => kernel_rfl
        case bzz1 => kernel_rfl
        case czz1 => kernel_rfl
        case yzz1 =>
          refine Or.inl ⟨by rfl, ?_⟩
          intro w hSw
          skip
          go_simp
          try with_reducible rfl
        case qzz1 => exact fun _ _ _ h => h
        case szz1 => first | assumption | trivial
        case' rzz1 => simp only [Act.put, List.setIfInBounds_toArray, List.set_cons_zero, List.set_cons_succ]
        refine wpAnyH_take (i := 1) (oi := ?ozz2) (v := ?vzz2) ?hzz2 ?azz2 ?bzz2 ?czz2 ?qzz2 ?yzz2 ?szz2 ?rzz2
        case hzz2 => simp only [List.getElem?_toArray, List.getElem?_cons_zero, List.getElem?_cons_succ]; rfl
        case azz2 => kernel_rfl
        case bzz2 => kernel_rfl
        case czz2 => kernel_rfl
        case yzz2 =>
          refine Or.inl ⟨by rfl, ?_⟩
          intro w hSw
          skip
          go_simp
          try with_reducible rfl
        case qzz2 => exact fun _ _ _ h => h
        case szz2 => first | assumption | trivial
        case' rzz2 => simp only [Act.put, List.setIfInBounds_toArray, List.set_cons_zero, List.set_cons_succ]
        refine wpAnyH_take (i := 2) (oi := ?ozz3) (v := ?vzz3) ?hzz3 ?azz3 ?bzz3 ?czz3 ?qzz3 ?yzz3 ?szz3 ?rzz3
        case hzz3 => simp only [List.getElem?_toArray, List.getElem?_cons_zero, List.getElem?_cons_succ]; rfl
        case azz3 => kernel_rfl
        case bzz3 => kernel_rfl
        case czz3 => kernel_rfl
        case yzz3 =>
          refine Or.inl ⟨by rfl, ?_⟩
          intro w hSw
          skip
          go_simp
          try with_reducible rfl
        case qzz3 => exact fun _ _ _ h => h
        case szz3 => first | assumption | trivial
        case' rzz3 => simp only [Act.put, List.setIfInBounds_toArray, List.set_cons_zero, List.set_cons_succ]
        refine wpAnyH_take (i := 3) (oi := ?ozz4) (v := ?vzz4) ?hzz4 ?azz4 ?bzz4 ?czz4 ?qzz4 ?yzz4 ?szz4 ?rzz4
        case hzz4 => simp only [List.getElem?_toArray, List.getElem?_cons_zero, List.getElem?_cons_succ]; rfl
        case azz4 => kernel_rfl
        case bzz4 => kernel_rfl
        case czz4 => kernel_rfl
        case yzz4 =>
          refine Or.inl ⟨by rfl, ?_⟩
          intro w hSw
          have a0 := box_ hSw y0; have a1 := box_ hSw y1; clear hSw
          go_simp
          try with_reducible rfl
        case qzz4 => exact fun _ _ _ h => h
        case szz4 => first | assumption | trivial
        case' rzz4 => simp only [Act.put, List.setIfInBounds_toArray, List.set_cons_zero, List.set_cons_succ]
        refine wpAnyH_take (i := 4) (oi := ?ozz5) (v := ?vzz5) ?hzz5 ?azz5 ?bzz5 ?czz5 ?qzz5 ?yzz5 ?szz5 ?rzz5
        case hzz5 => simp only [List.getElem?_toArray, List.getElem?_cons_zero, List.getElem?_cons_succ]; rfl
        case azz5 => kernel_rfl
        case bzz5 => kernel_rfl
        case czz5 => kernel_rfl
        case yzz5 =>
          refine Or.inl ⟨by rfl, ?_⟩
          intro w hSw
          skip
          go_simp
          try with_reducible rfl
        case qzz5 => exact fun _ _ _ h => h
        case szz5 => first | assumption | trivial
        case' rzz5 => simp only [Act.put, List.setIfInBounds_toArray, List.set_cons_zero, List.set_cons_succ]
        refine wpAnyH_take (i := 5) (oi := ?ozz6) (v := ?vzz6) ?hzz6 ?azz6 ?bzz6 ?czz6 ?qzz6 ?yzz6 ?szz6 ?rzz6
        case hzz6 => simp only [List.getElem?_toArray, List.getElem?_cons_zero, List.getElem?_cons_succ]; rfl
        case azz6 => kernel_rfl
        case bzz6 => kernel_rfl
        case czz6 => kernel_rfl
        case yzz6 =>
          refine Or.inl ⟨by rfl, ?_⟩
          intro w hSw
          skip
          go_simp
          try with_reducible rfl
        case qzz6 => exact fun _ _ _ h => h
        case szz6 => first | assumption | trivial
        case' rzz6 => simp only [Act.put, List.setIfInBounds_toArray, List.set_cons_zero, List.set_cons_succ]
        refine wpAnyH_take (i := 6) (oi := ?ozz7) (v := ?vzz7) ?hzz7 ?azz7 ?bzz7 ?czz7 ?qzz7 ?yzz7 ?szz7 ?rzz7
        case hzz7 => simp only [List.getElem?_toArray, List.getElem?_cons_zero, List.getElem?_cons_succ]; rfl
        case azz7 => kernel_rfl
        case bzz7 => kernel_rfl
        case czz7 => kernel_rfl
        case yzz7 =>
          refine Or.inl ⟨by rfl, ?_⟩
          intro w hSw
          skip
          go_simp
          try with_reducible rfl
        case qzz7 => exact fun _ _ _ h => h
        case szz7 => first | assumption | trivial
        case' rzz7 => simp only [Act.put, List.setIfInBounds_toArray, List.set_cons_zero, List.set_cons_succ]
        refine wpAnyH_take (i := 7) (oi := ?ozz8) (v := ?vzz8) ?hzz8 ?azz8 ?bzz8 ?czz8 ?qzz8 ?yzz8 ?szz8 ?rzz8
        case hzz8 => simp only [List.getElem?_toArray, List.getElem?_cons_zero, List.getElem?_cons_succ]; rfl
        case azz8 => kernel_rfl
        case bzz8 => kernel_rfl
        case czz8 => kernel_rfl
        case yzz8 =>
          refine Or.inl ⟨by rfl, ?_⟩
          intro w hSw
          have a2 := box_ hSw z0; have a3 := box_ hSw z1; clear hSw
          go_simp
          try with_reducible rfl
        case qzz8 => exact fun _ _ _ h => h
        case szz8 => first | assumption | trivial
        case' rzz8 => simp only [Act.put, List.setIfInBounds_toArray, List.set_cons_zero, List.set_cons_succ]
        refine wpAnyH_ready (rs := [8]) (by kernel_rfl) (by simp) ?_
        refine AllReadyH.cons (o := ?ozz10) ?hzz10 (fun K hK => ?kzz10) ?mzz10
        case hzz10 => simp only [List.getElem?_toArray, List.getElem?_cons_zero, List.getElem?_cons_succ]; rfl
        case kzz10 =>
          go_simp
          refine (K1.out _).mono ?_
          rintro e v2 ⟨rfl, q2⟩
          go_wp2_with fail
          refine hK.out _ _ ?Szz10 (fun hHeld => ?Rzz10)
          case Szz10 =>
            exact hHeld.trans q2
          case Rzz10 =>
            clear hK K
            try simp only [Act.put, List.setIfInBounds_toArray, List.set_cons_zero, List.set_cons_succ]
            refine wpAnyH_take (i := 9) (oi := ?ozz9) (v := ?vzz9) ?hzz9 ?azz9 ?bzz9 ?czz9 ?qzz9 ?yzz9 ?szz9 ?rzz9
            case hzz9 => simp only [List.getElem?_toArray, List.getElem?_cons_zero, List.getElem?_cons_succ]; rfl
            case azz9 => kernel_rfl
            case bzz9 => kernel_rfl
            case czz9 => kernel_rfl
            case yzz9 =>
              refine Or.inl ⟨by rfl, ?_⟩
              intro w hSw
              skip
              go_simp
              try with_reducible rfl
            case qzz9 => exact fun _ _ _ h => h
            case szz9 => first | assumption | trivial
            case' rzz9 => simp only [Act.put, List.setIfInBounds_toArray, List.set_cons_zero, List.set_cons_succ]
            refine wpAnyH_done (by kernel_rfl) ?_ _
            go_wp2
            go_ret
            exact ⟨by rw [HF.out]; rfl, HQ2.out.trans hHeld⟩
        case' mzz10 => skip
        exact AllReadyH.nil
      | false =>
        rw [hb] at K1
        have hst : ∀ k', 2 * j + 1 ≤ k' → k' < k + 1 → k' < n → less (g h k') (g h j) = false := by
          intro k' h1 h2 h3
          by_cases he : k' = k
          · subst he; rw [hgk, hgj, hb]
          · exact HOK2.out k' h1 (by omega) h3
        have HST := Lib.hid hst
        generalize h[k] = x at y0 y1 K1
        generalize h[j] = y at z0 z1 K1
        clear hgk hgj hst hb hkl hjl
        go_upto_region 7 with (fail)
        refine wp_region_held_drew (S := Q wr) (by kernel_rfl) ?szz11 (fun hHeld => ?rzz11)
        case szz11 =>
          exact (Q.refl wr).drew
        case' rzz11 => skip
        refine wpAnyH_take (i := 0) (oi := ?ozz12) (v := ?vzz12) ?hzz12 ?azz12 ?bzz12 ?czz12 ?qzz12 ?yzz12 ?szz12 ?rzz12
        case hzz12 => simp only [List.getElem?_toArray, List.getElem?_cons_zero]; rfl
        case azz12 => kernel_rfl
        case bzz12 => kernel_rfl
        case czz12 => kernel_rfl
        case yzz12 =>
          refine Or.inl ⟨by rfl, ?_⟩
          intro w hSw
          skip
          go_simp
          try with_reducible rfl
        case qzz12 => exact fun _ _ _ h => h
        case szz12 => first | assumption | trivial
        case' rzz12 => simp only [Act.put, List.setIfInBounds_toArray, List.set_cons_zero, List.set_cons_succ]
        refine wpAnyH_take (i := 1) (oi := ?ozz13) (v := ?vzz13) ?hzz13 ?azz13 ?bzz13 ?czz13 ?qzz13 ?yzz13 ?szz13 ?rzz13
        case hzz13 => simp only [List.getElem?_toArray, List.getElem?_cons_zero, List.getElem?_cons_succ]; rfl
        case azz13 => kernel_rfl
        case bzz13 => kernel_rfl
        case czz13 => kernel_rfl
        case yzz13 =>
          refine Or.inl ⟨by rfl, ?_⟩
          intro w hSw
          skip
          go_simp
          try with_reducible rfl
        case qzz13 => exact fun _ _ _ h => h
        case szz13 => first | assumption | trivial
        case' rzz13 => simp only [Act.put, List.setIfInBounds_toArray, List.set_cons_zero, List.set_cons_succ]
        refine wpAnyH_take (i := 2) (oi := ?ozz14) (v := ?vzz14) ?hzz14 ?azz14 ?bzz14 ?czz14 ?qzz14 ?yzz14 ?szz14 ?rzz14
        case hzz14 => simp only [List.getElem?_toArray, List.getElem?_cons_zero, List.getElem?_cons_succ]; rfl
        case azz14 => kernel_rfl
        case bzz14 => kernel_rfl
        case czz14 => kernel_rfl
        case yzz14 =>
          refine Or.inl ⟨by rfl, ?_⟩
          intro w hSw
          skip
          go_simp
          try with_reducible rfl
        case qzz14 => exact fun _ _ _ h => h
        case szz14 => first | assumption | trivial
        case' rzz14 => simp only [Act.put, List.setIfInBounds_toArray, List.set_cons_zero, List.set_cons_succ]
        refine wpAnyH_take (i := 3) (oi := ?ozz15) (v := ?vzz15) ?hzz15 ?azz15 ?bzz15 ?czz15 ?qzz15 ?yzz15 ?szz15 ?rzz15
        case hzz15 => simp only [List.getElem?_toArray, List.getElem?_cons_zero, List.getElem?_cons_succ]; rfl
        case azz15 => kernel_rfl
        case bzz15 => kernel_rfl
        case czz15 => kernel_rfl
        case yzz15 =>
          refine Or.inl ⟨by rfl, ?_⟩
          intro w hSw
          have a0 := box_ hSw y0; have a1 := box_ hSw y1; clear hSw
          go_simp
          try with_reducible rfl
        case qzz15 => exact fun _ _ _ h => h
        case szz15 => first | assumption | trivial
        case' rzz15 => simp only [Act.put, List.setIfInBounds_toArray, List.set_cons_zero, List.set_cons_succ]
        refine wpAnyH_take (i := 4) (oi := ?ozz16) (v := ?vzz16) ?hzz16 ?azz16 ?bzz16 ?czz16 ?qzz16 ?yzz16 ?szz16 ?rzz16
        case hzz16 => simp only [List.getElem?_toArray, List.getElem?_cons_zero, List.getElem?_cons_succ]; rfl
        case azz16 => kernel_rfl
        case bzz16 => kernel_rfl
        case czz16 => kernel_rfl
        case yzz16 =>
          refine Or.inl ⟨by rfl, ?_⟩
          intro w hSw
          skip
          go_simp
          try with_reducible rfl
        case qzz16 => exact fun _ _ _ h => h
        case szz16 => first | assumption | trivial
        case' rzz16 => simp only [Act.put, List.setIfInBounds_toArray, List.set_cons_zero, List.set_cons_succ]
        refine wpAnyH_take (i := 5) (oi := ?ozz17) (v := ?vzz17) ?hzz17 ?azz17 ?bzz17 ?czz17 ?qzz17 ?yzz17 ?szz17 ?rzz17
        case hzz17 => simp only [List.getElem?_toArray, List.getElem?_cons_zero, List.getElem?_cons_succ]; rfl
        case azz17 => kernel_rfl
        case bzz17 => kernel_rfl
        case czz17 => kernel_rfl
        case yzz17 =>
          refine Or.inl ⟨by rfl, ?_⟩
          intro w hSw
          skip
          go_simp
          try with_reducible rfl
        case qzz17 => exact fun _ _ _ h => h
        case szz17 => first | assumption | trivial
        case' rzz17 => simp only [Act.put, List.setIfInBounds_toArray, List.set_cons_zero, List.set_cons_succ]
        refine wpAnyH_take (i := 6) (oi := ?ozz18) (v := ?vzz18) ?hzz18 ?azz18 ?bzz18 ?czz18 ?qzz18 ?yzz18 ?szz18 ?rzz18
        case hzz18 => simp only [List.getElem?_toArray, List.getElem?_cons_zero, List.getElem?_cons_succ]; rfl
        case azz18 => kernel_rfl
        case bzz18 => kernel_rfl
        case czz18 => kernel_rfl
        case yzz18 =>
          refine Or.inl ⟨by rfl, ?_⟩
          intro w hSw
          skip
          go_simp
          try with_reducible rfl
        case qzz18 => exact fun _ _ _ h => h
        case szz18 => first | assumption | trivial
        case' rzz18 => simp only [Act.put, List.setIfInBounds_toArray, List.set_cons_zero, List.set_cons_succ]
        refine wpAnyH_take (i := 7) (oi := ?ozz19) (v := ?vzz19) ?hzz19 ?azz19 ?bzz19 ?czz19 ?qzz19 ?yzz19 ?szz19 ?rzz19
        case hzz19 => simp only [List.getElem?_toArray, List.getElem?_cons_zero, List.getElem?_cons_succ]; rfl
        case azz19 => kernel_rfl
        case bzz19 => kernel_rfl
        case czz19 => kernel_rfl
        case yzz19 =>
          refine Or.inl ⟨by rfl, ?_⟩
          intro w hSw
          have a2 := box_ hSw z0; have a3 := box_ hSw z1; clear hSw
          go_simp
          try with_reducible rfl
        case qzz19 => exact fun _ _ _ h => h
        case szz19 => first | assumption | trivial
        case' rzz19 => simp only [Act.put, List.setIfInBounds_toArray, List.set_cons_zero, List.set_cons_succ]
        refine wpAnyH_ready (rs := [8]) (by kernel_rfl) (by simp) ?_
        refine AllReadyH.cons (o := ?ozz21) ?hzz21 (fun K hK => ?kzz21) ?mzz21
        case hzz21 => simp only [List.getElem?_toArray, List.getElem?_cons_zero, List.getElem?_cons_succ]; rfl
        case kzz21 =>
          go_simp
          refine (K1.out _).mono ?_
          rintro e v2 ⟨rfl, q2⟩
          go_wp2_with fail
          refine hK.out _ _ ?Szz21 (fun hHeld => ?Rzz21)
          case Szz21 =>
            exact hHeld.trans q2
          case Rzz21 =>
            clear hK K
            try simp only [Act.put, List.setIfInBounds_toArray, List.set_cons_zero, List.set_cons_succ]
            refine wpAnyH_take (i := 9) (oi := ?ozz20) (v := ?vzz20) ?hzz20 ?azz20 ?bzz20 ?czz20 ?qzz20 ?yzz20 ?szz20 ?rzz20
            case hzz20 => simp only [List.getElem?_toArray, List.getElem?_cons_zero, List.getElem?_cons_succ]; rfl
            case azz20 => kernel_rfl
            case bzz20 => kernel_rfl
            case czz20 => kernel_rfl
            case yzz20 =>
              refine Or.inl ⟨by rfl, ?_⟩
              intro w hSw
              skip
              go_simp
              try with_reducible rfl
            case qzz20 => exact fun _ _ _ h => h
            case szz20 => first | assumption | trivial
            case' rzz20 => simp only [Act.put, List.setIfInBounds_toArray, List.set_cons_zero, List.set_cons_succ]
            refine wpAnyH_done (by kernel_rfl) ?_ _
            have HQ3 := Lib.hid (HQ2.out.trans hHeld)
            go_wp2
            go_roundw
            case rel => exact ⟨k + 1, by omega, by omega, by go_num, HST.out, HQ3.out⟩
            case measure => simp [intOf]; omega
        case' mzz21 => skip
        exact AllReadyH.nil
end Am
end Go.Proofs.Ytbclamfpoigneaa
