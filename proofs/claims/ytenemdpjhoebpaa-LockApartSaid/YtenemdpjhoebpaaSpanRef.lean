/- Contracts: the document's spans. -/
import Derived.Test.YtenemdpjhoebpaaSpan3
namespace Go.Proofs.Ytenemdpjhoebpaa
set_option maxRecDepth 100000
open Go.RowKit Prm Sm
set_option linter.unusedVariables false
set_option linter.unusedSimpArgs false

def WnS (x : Wn) : Prop := x.lo.size ≤ maxLen ∧ x.hi.size ≤ maxLen

theorem rmay_any (x : Wn) (w : World) (hs : WnS x) :
    Calls Try.prog 35 #[wnV x] w fun e w' => e = .returned (.bool (may x)) ∧ Q w w' := by
  have B := Lib.hid (fun W => less_any x.lo x.hi W hs.1 hs.2)
  rw [may_eq]
  unfold rmay bel
  clear hs
  obtain ⟨m, lo, hi⟩ := x
  unfold wnV ok at *
  simp only at B ⊢
  by_cases h1 : hi = ⟨#[]⟩
  · subst h1
    simp only [decide_true, Bool.true_or, Bool.true_and]
    by_cases h2 : m = 1
    · subst h2
      go_enter Try.func35, Try.ntmps35
      go_wp2
      go_ret
      exact ⟨rfl, (Q.refl w).alloc _⟩
    · have e1 : (m == 1) = false := by simpa using h2
      rw [show (decide (m = 1) || decide (m = 2)) = (m == 2) by simp [h2]; rfl]
      clear h2
      go_enter Try.func35, Try.ntmps35
      go_wp2
      all_goals go_ret
      all_goals exact ⟨by first | rfl | (simp; done) | simp_all, (Q.refl w).alloc _⟩
  · obtain ⟨n1, n2, n3⟩ := no_empty h1
    rw [show decide (hi = (⟨#[]⟩ : ByteArray)) = false by simp [h1], Bool.false_or]
    clear h1
    cases hl : lt lo hi with
    | false =>
      rw [hl] at B
      clear hl
      simp only [Bool.false_and]
      go_enter Try.func35, Try.ntmps35
      go_wp2_with fail
      refine (B.out _).mono ?_
      rintro e w1 ⟨rfl, k1, rfl⟩
      go_wp2
      go_ret
      exact ⟨rfl, ((Q.refl w).alloc _).drewN _⟩
    | true =>
      rw [hl] at B
      clear hl
      simp only [Bool.true_and]
      by_cases h2 : m = 1
      · subst h2
        go_enter Try.func35, Try.ntmps35
        go_wp2_with fail
        refine (B.out _).mono ?_
        rintro e w1 ⟨rfl, k1, rfl⟩
        go_wp2
        go_ret
        exact ⟨rfl, ((Q.refl w).alloc _).drewN _⟩
      · have e1 : (m == 1) = false := by simpa using h2
        rw [show (decide (m = 1) || decide (m = 2)) = (m == 2) by simp [h2]; rfl]
        clear h2
        go_enter Try.func35, Try.ntmps35
        go_wp2_with fail
        refine (B.out _).mono ?_
        rintro e w1 ⟨rfl, k1, rfl⟩
        go_wp2
        all_goals go_ret
        all_goals exact ⟨by first | rfl | (simp; done) | simp_all, ((Q.refl w).alloc _).drewN _⟩

theorem rin_any (x : Wn) (k : ByteArray) (w : World) (hs : WnS x) (hk : k.size ≤ maxLen) :
    Calls Try.prog 51 #[wnV x, .string k] w fun e w' => e = .returned (.bool (inS x k)) ∧ Q w w' := by
  have B := Lib.hid (fun W => less_any k x.lo W hk hs.1)
  have C := Lib.hid (fun W => less_any k x.hi W hk hs.2)
  unfold inS bel
  clear hs hk
  obtain ⟨m, lo, hi⟩ := x
  unfold wnV at *
  simp only at B C ⊢
  cases h0 : lt k lo with
  | true =>
    rw [h0] at B
    clear h0
    simp only [Bool.not_true, Bool.false_and]
    go_enter Try.func51, Try.ntmps51
    go_wp2_with fail
    refine (B.out _).mono ?_
    rintro e w1 ⟨rfl, k1, rfl⟩
    go_wp2
    go_ret
    exact ⟨rfl, ((Q.refl w).alloc _).drewN _⟩
  | false =>
    rw [h0] at B
    clear h0
    simp only [Bool.not_false, Bool.true_and]
    by_cases h1 : hi = ⟨#[]⟩
    · subst h1
      simp only [decide_true, Bool.true_or]
      go_enter Try.func51, Try.ntmps51
      go_wp2_with fail
      refine (B.out _).mono ?_
      rintro e w1 ⟨rfl, k1, rfl⟩
      go_wp2
      go_ret
      exact ⟨rfl, ((Q.refl w).alloc _).drewN _⟩
    · obtain ⟨n1, n2, n3⟩ := no_empty h1
      rw [show decide (hi = (⟨#[]⟩ : ByteArray)) = false by simp [h1], Bool.false_or]
      generalize lt k hi = r at C
      clear h1
      go_enter Try.func51, Try.ntmps51
      go_wp2_with fail
      refine (B.out _).mono ?_
      rintro e w1 ⟨rfl, k1, rfl⟩
      go_wp2_with fail
      refine (C.out _).mono ?_
      rintro e w2 ⟨rfl, k2, rfl⟩
      go_wp2
      go_ret
      exact ⟨by first | rfl | (simp; done), ((Q.refl w).alloc _).drewN _⟩

set_option maxHeartbeats 1000000 in
theorem rover_any (a b : Wn) (w : World) (ha : WnS a) (hb : WnS b) :
    Calls Try.prog 50 #[wnV a, wnV b] w fun e w' => e = .returned (.bool (over a b)) ∧ Q w w' := by
  have hm : (mx a.lo b.lo).size ≤ maxLen := by
    rcases mx_or a.lo b.lo with e | e
    · rw [e]; exact ha.1
    · rw [e]; exact hb.1
  have B := Lib.hid (fun W => less_any a.lo b.lo W ha.1 hb.1)
  have C := Lib.hid (fun W => rin_any a (mx a.lo b.lo) W ha hm)
  have D := Lib.hid (fun W => rin_any b (mx a.lo b.lo) W hb hm)
  rw [over_eq]
  unfold rover
  clear hm ha hb
  generalize inS a (mx a.lo b.lo) = r1 at C
  generalize inS b (mx a.lo b.lo) = r2 at D
  unfold mx at C D
  obtain ⟨m, lo, hi⟩ := a
  obtain ⟨n, bo, bi⟩ := b
  unfold wnV at *
  simp only at B C D ⊢
  have B0 := wn_boxes w m lo hi n bo bi
  cases h0 : lt lo bo
  all_goals
    rw [h0] at B C D
    simp only [Bool.false_eq_true, if_false, if_true] at C D
    clear h0
    cases r1
    all_goals
      go_enter Try.func50, Try.ntmps50
      go_wp2_with fail
      generalize (w.alloc (.cells #[.int .i64 m, .string lo, .string hi] 27)).alloc (.cells #[.int .i64 n, .string bo, .string bi] 27) = W at B0 ⊢
      obtain ⟨c, d, bq⟩ := B0
      refine (B.out _).mono ?_
      rintro e w1 ⟨rfl, k1, rfl⟩
      have q1 := (Q.refl W).drewN k1
      obtain ⟨c0, c1, c2⟩ := c.q q1
      obtain ⟨d0, d1, d2⟩ := d.q q1
      have BQ := Lib.hid (bq.trans q1)
      clear bq q1 c d
      generalize W.drewN k1 = W1 at *
      go_wp2_with fail
      refine (C.out _).mono ?_
      rintro e w2 ⟨rfl, q2⟩
      have d0 := box_ q2 d0
      have d1 := box_ q2 d1
      have d2 := box_ q2 d2
      have BQ := Lib.hid (BQ.out.trans q2)
      clear q2
      first
        | (go_wp2
           go_ret
           exact ⟨by first | rfl | (simp; done), BQ.out⟩)
        | (go_wp2_with fail
           refine (D.out _).mono ?_
           rintro e w3 ⟨rfl, q3⟩
           go_wp2
           go_ret
           exact ⟨by first | rfl | (simp; done), BQ.out.trans q3⟩)
end Go.Proofs.Ytenemdpjhoebpaa
