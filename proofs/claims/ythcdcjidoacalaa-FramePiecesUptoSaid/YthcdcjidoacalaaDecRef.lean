/- Contracts of the document's own TakeNum, TakeText. -/
import Derived.Test.YthcdcjidoacalaaDecTakeNum
namespace Go.Proofs.Ythcdcjidoacalaa
set_option maxRecDepth 100000
open Go.RowKit
set_option linter.unusedVariables false

/-- how the figures end. -/
theorem figs_end (l : List UInt8) : (Dm.figs l).length = l.length ∨ ∃ h : (Dm.figs l).length < l.length, Dm.isD (l[(Dm.figs l).length]) = false := by
  rcases Nat.lt_or_ge (Dm.figs l).length l.length with h | h
  · right
    refine ⟨h, ?_⟩
    have hr : Dm.rest l = l[(Dm.figs l).length] :: l.drop ((Dm.figs l).length + 1) := by rw [Dm.rest_eq, List.drop_eq_getElem_cons h]
    have hne : Dm.rest l ≠ [] := by rw [hr]; exact List.cons_ne_nil _ _
    have := List.head_dropWhile_not Dm.isD hne
    have e : (List.dropWhile Dm.isD l).head hne = l[(Dm.figs l).length] := by
      show (Dm.rest l).head hne = _
      simp only [hr, List.head_cons]
    rw [e] at this
    simpa using this
  · left; have := Dm.figs_len l; omega
theorem figs_get (l : List UInt8) (i : Nat) (h : i < (Dm.figs l).length) (h' : i < l.length) : Dm.isD l[i] = true := by
  have := Dm.figs_all l _ (List.getElem_mem h)
  have e := Dm.figs_eq l
  have e2 : (Dm.figs l)[i] = l[i] := by
    have : (Dm.figs l)[i]? = (l.take (Dm.figs l).length)[i]? := by rw [← e]
    rw [List.getElem?_take, if_pos h, List.getElem?_eq_getElem h, List.getElem?_eq_getElem h'] at this
    injection this
  rw [← e2]; exact this
theorem bad_long (l : List UInt8) (h : 20 < (Dm.figs l).length) : Dm.bad l = true := by
  cases hl : l with
  | nil => rw [hl] at h; simp [Dm.figs] at h
  | cons c r =>
    rw [← hl]
    have hh : l.head? = some c := by rw [hl]; rfl
    by_cases h0 : c.toNat = 48
    · have hc : c = 48 := UInt8.toNat_inj.1 (by rw [h0]; rfl)
      unfold Dm.bad; rw [decide_eq_true (show 1 < (Dm.figs l).length by omega), hh, hc]; rfl
    · have hl0 : 0 < l.length := by rw [hl]; simp
      have hd := figs_get l 0 (by omega) hl0
      have e : l[0] = c := by simp [hl]
      rw [e] at hd
      cases hf : Dm.figs l with
      | nil => rw [hf] at h; simp at h
      | cons c2 r2 =>
        have hc2 : c2 = c := by
          have := Dm.figs_rest l
          rw [hf, hl] at this
          simp at this; exact this.1
        have := Dm.val_big (Dm.figs l) c2 r2 hf (by rw [hc2]; exact hd) (by rw [hc2]; exact h0) h
        unfold Dm.bad; rw [decide_eq_true this, Bool.or_true]
theorem bad_lead (l : List UInt8) (h : 1 < (Dm.figs l).length) (h0 : l.head? = some 48) : Dm.bad l = true := by
  unfold Dm.bad; rw [decide_eq_true h, h0]; rfl
theorem tnum_bad (l : List UInt8) (h : Dm.bad l = true) : Dm.tnum l = (0, [], 3) := by unfold Dm.tnum; rw [if_pos h]

theorem tnum_more (l : List UInt8) (hb : Dm.bad l = false) (h : (Dm.figs l).length = l.length) : Dm.tnum l = (0, [], 2) := by
  unfold Dm.tnum
  rw [hb, if_neg (by simp), if_pos (by rw [Dm.rest_eq, h, List.drop_length])]
theorem rest_cons (l : List UInt8) (h : (Dm.figs l).length < l.length) : Dm.rest l = l[(Dm.figs l).length] :: l.drop ((Dm.figs l).length + 1) := by
  rw [Dm.rest_eq, List.drop_eq_getElem_cons h]
theorem tnum_other (l : List UInt8) (hb : Dm.bad l = false) (h : (Dm.figs l).length < l.length) (hc : l[(Dm.figs l).length] ≠ 59 ∨ (Dm.figs l).length = 0) : Dm.tnum l = (0, [], 3) := by
  unfold Dm.tnum
  rw [hb, if_neg (by simp), rest_cons l h, if_neg (List.cons_ne_nil _ _), if_pos]
  rcases hc with hc | hc
  · left; rw [List.head?_cons]; intro e; injection e with e; exact hc e
  · right; exact List.length_eq_zero_iff.1 hc
theorem tnum_ok (l : List UInt8) (hb : Dm.bad l = false) (h : (Dm.figs l).length < l.length) (hc : l[(Dm.figs l).length] = 59) (h0 : (Dm.figs l).length ≠ 0) :
    Dm.tnum l = (Dm.val (Dm.figs l), l.drop ((Dm.figs l).length + 1), 0) := by
  unfold Dm.tnum
  rw [hb, if_neg (by simp), rest_cons l h, if_neg (List.cons_ne_nil _ _), if_neg]
  · rfl
  · rintro (e | e)
    · simp [hc] at e
    · exact h0 (List.length_eq_zero_iff.2 e)

set_option maxHeartbeats 1000000 in
theorem refTakeNum_any (s : ByteArray) (w : World) (hs : s.size ≤ maxLen) :
    Calls Try.prog 28 #[.string s] w fun e w' => e = .returned (tnR (Dm.tnum s.data.toList)) ∧ Q w w' := by
  unfold maxLen at hs
  have hend0 := figs_end s.data.toList
  have hle : (Dm.figs s.data.toList).length ≤ s.size := by have := Dm.figs_len s.data.toList; rw [size_list] at this; exact this
  have hget := figs_get s.data.toList
  have hfe := Dm.figs_eq s.data.toList
  have hbl := bad_long s.data.toList
  have hbz := bad_lead s.data.toList
  have hbb := tnum_bad s.data.toList
  have hrest := Dm.rest_eq s.data.toList
  have hnil : Dm.figs s.data.toList = [] ↔ (Dm.figs s.data.toList).length = 0 := List.length_eq_zero_iff.symm
  obtain ⟨N, hN⟩ : ∃ N, N = (Dm.figs s.data.toList).length := ⟨_, rfl⟩
  rw [← hN] at hle hget hbl hbz hrest hnil
  have hdig : ∀ i (h : i < N) (h' : i < s.size), 48 ≤ s[i].toNat ∧ s[i].toNat ≤ 57 := by
    intro i h h'
    have := hget i h (by rw [size_list]; exact h')
    rw [get_list, Dm.isD_iff] at this; exact this
  have hend : s.size ≤ N ∨ (∃ h : N < s.size, s[N].toNat < 48) ∨ (∃ h : N < s.size, 57 < s[N].toNat) := by
    rcases hend0 with h | ⟨h, h2⟩
    · left; rw [hN, h, size_list]; exact Nat.le_refl _
    · right
      have h3 : N < s.size := by rw [hN]; rw [size_list] at h; exact h
      have h4 : Dm.isD s[N] = false := by
        have : s[N] = s.data.toList[(Dm.figs s.data.toList).length] := by simp only [hN]; rfl
        rw [this]; exact h2
      unfold Dm.isD at h4
      simp only [Bool.and_eq_false_iff, decide_eq_false_iff_not] at h4
      rcases h4 with h4 | h4
      · left; exact ⟨h3, by omega⟩
      · right; exact ⟨h3, by omega⟩
  have HDIG := Lib.hid hdig
  have HFE := Lib.hid hfe
  have HNIL := Lib.hid hnil
  have HREST := Lib.hid hrest
  have HBB := Lib.hid hbb
  have HN := Lib.hid hN
  clear hend0 hget hfe hdig hnil hrest hbb
  by_cases cL : 20 < N ∨ (1 < N ∧ ∃ h : 0 < s.size, s[0].toNat = 48)
  · have hbad : Dm.bad s.data.toList = true := by
      rcases cL with h | ⟨h, h1, h2⟩
      · exact hbl h
      · exact hbz h (by rw [head_list s h1]; congr 1; exact UInt8.toNat_inj.1 (by rw [h2]; rfl))
    have ht := HBB.out hbad
    have HT := Lib.hid ht
    have CL := Lib.hid cL
    clear ht hbl hbz cL hbad hN
    rcases hend with hend | ⟨hlt, hend⟩ | ⟨hlt, hend⟩
    all_goals
      go_enter Try.func28, Try.ntmps28
      go_wp2
      go_loop [5] (fun n => ∃ k : Nat, k ≤ N ∧ n = .int .i64 k) (fun n => N - (intOf n).toNat)
      case atStart => exact ⟨0, Nat.zero_le _, rfl⟩
      case round =>
        obtain ⟨k, hk, rfl⟩ := hrel
        by_cases c : k < N
        · have hks : k < s.size := by omega
          obtain ⟨d1, d2⟩ := HDIG.out k c hks
          go_wp2
          go_round
          case rel => exact ⟨k + 1, by omega, by go_num⟩
          case measure => simp [intOf]; omega
        · obtain rfl : k = N := by omega
          by_cases cN : 20 < k
          · have dN : decide (20 < (k : Int)) = true := by simp; omega
            go_wp2
            go_ret3
            exact ⟨by rw [HT.out]; rfl, Q.refl _⟩
          · have h1 : 1 < k := by have := CL.out; omega
            have h0s : 0 < s.size := by omega
            have hb : ((s[0].toNat : Int) == 48) = true := by
              rcases CL.out with h | ⟨_, _, h⟩
              · omega
              · simp; omega
            go_wp2
            go_ret3
            exact ⟨by rw [HT.out]; rfl, Q.refl _⟩
  have cN : N ≤ 20 := by
    rcases Nat.lt_or_ge 20 N with h | h
    · exact absurd (.inl h) cL
    · exact h
  have hz : 1 < N → ∀ h : 0 < s.size, ((s[0].toNat : Int) == 48) = false := by
    intro h1 h2
    have : ¬ s[0].toNat = 48 := fun e => cL (.inr ⟨h1, h2, e⟩)
    simp; omega
  have HZ := Lib.hid hz
  have dN : decide (20 < (N : Int)) = false := by simp; omega
  have hvl : Dm.val (s.data.toList.take N) = Dm.val (Dm.figs s.data.toList) := by rw [HN.out]; rw [← HFE.out]
  have HVL := Lib.hid hvl
  have hmono : ∀ k, k < N → Dm.maxU < Dm.val (s.data.toList.take (k + 1)) → Dm.tnum s.data.toList = (0, [], 3) := by
    intro k hk h
    apply HBB.out
    refine Dm.bad_big s.data.toList k (by rw [size_list]; omega) ?_ h
    intro i hi
    rw [get_list, Dm.isD_iff]; exact HDIG.out i (by omega) (by omega)
  have HM := Lib.hid hmono
  have hgood : Dm.val (Dm.figs s.data.toList) ≤ Dm.maxU → Dm.bad s.data.toList = false := by
    intro h
    refine Dm.bad_not s.data.toList N (by rw [HN.out]; exact HFE.out) (by rw [size_list]; exact hle) ?_ (by rw [hvl]; exact h)
    intro h1 e
    have h2 : 0 < s.size := by omega
    rw [head_list s h2] at e
    injection e with e
    have := hz h1 h2
    rw [e] at this
    exact absurd this (by decide)
  have HG := Lib.hid hgood
  clear hbl hbz cL hz hN hvl hmono hgood
  rcases hend with hend | ⟨hlt, hend⟩ | ⟨hlt, hend⟩
  all_goals
    go_enter Try.func28, Try.ntmps28
    go_wp2
    go_loop [5] (fun n => ∃ k : Nat, k ≤ N ∧ n = .int .i64 k) (fun n => N - (intOf n).toNat)
    case atStart => exact ⟨0, Nat.zero_le _, rfl⟩
    case round =>
      obtain ⟨k, hk, rfl⟩ := hrel
      by_cases c : k < N
      · have hks : k < s.size := by omega
        obtain ⟨d1, d2⟩ := HDIG.out k c hks
        go_wp2
        go_round
        case rel => exact ⟨k + 1, by omega, by go_num⟩
        case measure => simp [intOf]; omega
      · obtain rfl : k = N := by omega
        have hcase : k ≤ 1 ∨ (1 < k ∧ ∃ h : 0 < s.size, ((s[0].toNat : Int) == 48) = false) := by
          rcases Nat.lt_or_ge 1 k with h | h
          · exact .inr ⟨h, by omega, HZ.out h (by omega)⟩
          · exact .inl h
        rcases hcase with h1 | ⟨h1, h0s, hb0⟩
        all_goals
          go_wp2
          go_loop [6, 7] (fun v i => ∃ j : Nat, j ≤ k ∧ i = .int .i64 j ∧ v = .int .u64 (Dm.val (s.data.toList.take j)) ∧ Dm.val (s.data.toList.take j) ≤ Dm.maxU) (fun _ i => k - (intOf i).toNat)
          case atStart => exact ⟨0, Nat.zero_le _, rfl, rfl, Nat.zero_le _⟩
          case round =>
            obtain ⟨j, hj, rfl, rfl, hv⟩ := hrel
            by_cases c2 : j < k
            · have hjs : j < s.size := by omega
              obtain ⟨d1, d2⟩ := HDIG.out j c2 hjs
              have e1 := Dm.val_snoc (s.data.toList.take j) s[j]
              rw [← take_snoc' s j hjs] at e1
              have hov := HM.out j c2
              generalize hA : Dm.val (s.data.toList.take j) = A at *
              rw [e1] at hov
              have hdv : Dm.dv s[j] = s[j].toNat - 48 := rfl
              rw [hdv] at e1 hov
              have H1 := Lib.hid e1
              have HO := Lib.hid hov
              unfold Dm.maxU at hv
              clear e1 hov hdv hA
              by_cases c3 : 1844674407370955161 < A
              · have HT := Lib.hid (HO.out (by unfold Dm.maxU; omega))
                have c3' : decide ((1844674407370955161 : Int) < (A : Int)) = true := by simp; omega
                go_wp2
                go_ret3
                exact ⟨by rw [HT.out]; rfl, Q.refl _⟩
              have c3' : decide ((1844674407370955161 : Int) < (A : Int)) = false := by simp; omega
              by_cases c4 : A = 1844674407370955161
              · have c4' : ((A : Int) == 1844674407370955161) = true := by simp; omega
                by_cases c5 : 53 < s[j].toNat
                · have HT := Lib.hid (HO.out (by unfold Dm.maxU; omega))
                  clear c4
                  go_wp2
                  go_ret3
                  exact ⟨by rw [HT.out]; rfl, Q.refl _⟩
                · have c5' : s[j].toNat ≤ 53 := by omega
                  have hle2 : 10 * A + (s[j].toNat - 48) ≤ 18446744073709551615 := by omega
                  have hle3 : 10 * (A : Int) + ((s[j].toNat : Int) - 48) ≤ 18446744073709551615 := by omega
                  have HN2 := Lib.hid (show ((10 * A + (s[j].toNat - 48) : Nat) : Int) = 10 * (A : Int) + ((s[j].toNat : Int) - 48) by omega)
                  have HL2 := Lib.hid hle2
                  clear c4 hle2
                  go_wp2
                  go_round
                  case rel => exact ⟨j + 1, by omega, by go_num, by rw [H1.out, HN2.out], by rw [H1.out]; exact HL2.out⟩
                  case measure => simp [intOf]; omega
              · have c4' : ((A : Int) == 1844674407370955161) = false := by simp; omega
                have hle2 : 10 * A + (s[j].toNat - 48) ≤ 18446744073709551615 := by omega
                have hle3 : 10 * (A : Int) + ((s[j].toNat : Int) - 48) ≤ 18446744073709551615 := by omega
                have HN2 := Lib.hid (show ((10 * A + (s[j].toNat - 48) : Nat) : Int) = 10 * (A : Int) + ((s[j].toNat : Int) - 48) by omega)
                have HL2 := Lib.hid hle2
                clear c4 hle2
                go_wp2
                go_round
                case rel => exact ⟨j + 1, by omega, by go_num, by rw [H1.out, HN2.out], by rw [H1.out]; exact HL2.out⟩
                case measure => simp [intOf]; omega
            · obtain rfl : j = k := by omega
              have hg := HG.out (by rw [← HVL.out]; exact hv)
              by_cases c6 : j = s.size
              · have HT := Lib.hid (tnum_more s.data.toList hg (by rw [size_list, ← HN.out]; exact c6))
                have hbe : ((j : Int) == (s.size : Int)) = true := by simp; omega
                clear hg
                first
                  | (exfalso; omega)
                  | (clear c6
                     go_wp2
                     go_ret3
                     exact ⟨by rw [HT.out]; rfl, Q.refl _⟩)
              · have hbe : ((j : Int) == (s.size : Int)) = false := by simp; omega
                have hjs : j < s.size := by omega
                have hgt : s.data.toList[(Dm.figs s.data.toList).length]'(by rw [size_list, ← HN.out]; exact hjs) = s[j] := by
                  simp only [← HN.out]; rfl
                all_goals (try (exfalso; omega))
                all_goals
                  by_cases c7 : s[j].toNat = 59 ∧ j ≠ 0
                  · obtain ⟨c7, c8⟩ := c7
                    have ht := tnum_ok s.data.toList hg (by rw [size_list, ← HN.out]; exact hjs) (by rw [hgt]; exact UInt8.toNat_inj.1 (by rw [c7]; rfl)) (by rw [← HN.out]; exact c8)
                    rw [← HN.out, ← HVL.out] at ht
                    have he := extract_list s (j + 1) s.size
                    rw [List.take_of_length_le (by rw [size_list]; omega)] at he
                    have HT := Lib.hid ht
                    have HE := Lib.hid he
                    have hne : ((s[j].toNat : Int) != 59) = false := by simp; omega
                    have h0 : ((j : Int) == 0) = false := by simp; omega
                    have e1 : IntKind.i64.wrap ((j : Int) + 1) = (j : Int) + 1 := IntWalk.i64_in _ (by omega)
                    have e2 : 0 ≤ (j : Int) + 1 := by omega
                    have e3 : ((j : Int) + 1).toNat = j + 1 := by omega
                    have e4 : (j : Int) + 1 ≤ (s.size : Int) := by omega
                    clear ht he hg hgt c7 c8 c6 hend
                    generalize Dm.val (s.data.toList.take j) = A at *
                    go_wp2
                    go_quiet (fail)
                    go_wp2
                    go_ret3
                    refine ⟨?_, (Q.refl _).drewN _⟩
                    rw [HT.out]; unfold tnR
                    simp only [← HE.out]; rfl
                  · have HT := Lib.hid (tnum_other s.data.toList hg (by rw [size_list, ← HN.out]; exact hjs) (by
                      rw [hgt, ← HN.out]
                      rcases Nat.eq_zero_or_pos j with e | e
                      · exact .inr e
                      · left; intro e2; exact c7 ⟨by rw [e2]; rfl, by omega⟩))
                    have C7 := Lib.hid c7
                    clear hg hgt c7 c6
                    by_cases c8 : s[j].toNat = 59
                    · have hne : ((s[j].toNat : Int) != 59) = false := by simp; omega
                      have h0 : ((j : Int) == 0) = true := by have := C7.out; simp; omega
                      clear c8
                      go_wp2
                      go_ret3
                      exact ⟨by rw [HT.out]; rfl, Q.refl _⟩
                    · have hne : ((s[j].toNat : Int) != 59) = true := by simp; omega
                      clear c8
                      go_wp2
                      go_ret3
                      exact ⟨by rw [HT.out]; rfl, Q.refl _⟩
end Go.Proofs.Ythcdcjidoacalaa
