/- Contracts: the document's clashes, and what covers. -/
import Derived.Test.YtenemdpjhoebpaaSpanRef
namespace Go.Proofs.Ytenemdpjhoebpaa
set_option maxRecDepth 100000
open Go.RowKit Prm Sm
set_option linter.unusedVariables false
set_option linter.unusedSimpArgs false

theorem int2 (m : Int) (h : ¬ m = 2) : (m == 2) = false ∧ (m != 2) = true := by simpa using h
set_option maxHeartbeats 1000000 in
theorem rclash_any (a b : Wn) (w : World) (ha : WnS a) (hb : WnS b) :
    Calls Try.prog 28 #[wnV a, wnV b] w fun e w' => e = .returned (.bool (clash a b)) ∧ Q w w' := by
  have B := Lib.hid (fun W => rover_any a b W ha hb)
  unfold clash xs
  clear ha hb
  generalize over a b = r at B
  obtain ⟨m, lo, hi⟩ := a
  obtain ⟨n, bo, bi⟩ := b
  unfold wnV at *
  simp only at B ⊢
  have B0 := wn_boxes w m lo hi n bo bi
  by_cases h1 : m = 2
  · subst h1
    simp only [decide_true, Bool.true_or, Bool.true_and]
    cases r
    all_goals
      go_enter Try.func28, Try.ntmps28
      go_wp2_with fail
      generalize (w.alloc (.cells #[.int .i64 2, .string lo, .string hi] 27)).alloc (.cells #[.int .i64 n, .string bo, .string bi] 27) = W at B0 ⊢
      obtain ⟨⟨c0, c1, c2⟩, ⟨d0, d1, d2⟩, bq⟩ := B0
      have BQ := Lib.hid bq
      clear bq
      refine (B.out _).mono ?_
      rintro e w1 ⟨rfl, q1⟩
      have c0 := box_ q1 c0
      have d0 := box_ q1 d0
      go_wp2
      go_ret
      exact ⟨by first | rfl | (simp; done), BQ.out.trans q1⟩
  · obtain ⟨e1, e2⟩ := int2 m h1
    by_cases h2 : n = 2
    · subst h2
      simp only [decide_true, Bool.or_true, Bool.true_and]
      cases r
      all_goals
        clear h1
        go_enter Try.func28, Try.ntmps28
        go_wp2_with fail
        generalize (w.alloc (.cells #[.int .i64 m, .string lo, .string hi] 27)).alloc (.cells #[.int .i64 2, .string bo, .string bi] 27) = W at B0 ⊢
        obtain ⟨⟨c0, c1, c2⟩, ⟨d0, d1, d2⟩, bq⟩ := B0
        have BQ := Lib.hid bq
        clear bq
        refine (B.out _).mono ?_
        rintro e w1 ⟨rfl, q1⟩
        have c0 := box_ q1 c0
        have d0 := box_ q1 d0
        go_wp2
        go_ret
        exact ⟨by first | rfl | (simp; done), BQ.out.trans q1⟩
    · obtain ⟨e3, e4⟩ := int2 n h2
      rw [show (decide (m = 2) || decide (n = 2)) = false by simp [h1, h2], Bool.false_and]
      cases r
      all_goals
        clear h1 h2
        go_enter Try.func28, Try.ntmps28
        go_wp2_with fail
        generalize (w.alloc (.cells #[.int .i64 m, .string lo, .string hi] 27)).alloc (.cells #[.int .i64 n, .string bo, .string bi] 27) = W at B0 ⊢
        obtain ⟨⟨c0, c1, c2⟩, ⟨d0, d1, d2⟩, bq⟩ := B0
        have BQ := Lib.hid bq
        clear bq
        refine (B.out _).mono ?_
        rintro e w1 ⟨rfl, q1⟩
        have c0 := box_ q1 c0
        have d0 := box_ q1 d0
        go_wp2
        go_ret
        exact ⟨by first | rfl | (simp; done), BQ.out.trans q1⟩

set_option maxHeartbeats 4000000 in
theorem rcovers_any (a b : Wn) (w : World) (ha : WnS a) (hb : WnS b) :
    Calls Try.prog 29 #[wnV a, wnV b] w fun e w' => e = .returned (.bool (covers a b)) ∧ Q w w' := by
  have B := Lib.hid (fun W => rmay_any b W hb)
  have C := Lib.hid (fun W => rin_any a b.lo W ha hb.1)
  have D := Lib.hid (fun W => less_any a.hi b.hi W ha.2 hb.2)
  rw [covers_eq]
  unfold rcovers
  rw [← may_eq]
  clear ha hb
  generalize may b = r1 at B
  generalize inS a b.lo = r2 at C
  generalize lt a.hi b.hi = r3 at D
  obtain ⟨m, lo, hi⟩ := a
  obtain ⟨n, bo, bi⟩ := b
  unfold wnV at *
  simp only at B C D ⊢
  have B0 := wn_boxes w m lo hi n bo bi
  -- what stands first: may it be?
  cases r1 with
  | false =>
    simp only [Bool.false_and]
    go_enter Try.func29, Try.ntmps29
    go_wp2_with fail
    refine (B.out _).mono ?_
    rintro e w1 ⟨rfl, q1⟩
    go_wp2
    go_ret
    exact ⟨rfl, B0.2.2.trans q1⟩
  | true =>
    simp only [Bool.true_and]
    by_cases hm : (decide (m = 2) || !decide (n = 2)) = false
    · rw [hm]
      have h1 : ¬ m = 2 := fun e => by simp [e] at hm
      have h2 : n = 2 := by simp [h1] at hm; exact hm
      obtain ⟨e1, e2⟩ := int2 m h1
      subst h2
      clear h1 hm
      simp only [Bool.false_and]
      go_enter Try.func29, Try.ntmps29
      go_wp2_with fail
      generalize (w.alloc (.cells #[.int .i64 m, .string lo, .string hi] 27)).alloc (.cells #[.int .i64 2, .string bo, .string bi] 27) = W at B0 ⊢
      obtain ⟨⟨c0, c1, c2⟩, ⟨d0, d1, d2⟩, bq⟩ := B0
      have BQ := Lib.hid bq
      clear bq
      refine (B.out _).mono ?_
      rintro e w1 ⟨rfl, q1⟩
      have c0 := box_ q1 c0
      have d0 := box_ q1 d0
      go_wp2
      go_ret
      exact ⟨rfl, BQ.out.trans q1⟩
    · have hm' : (decide (m = 2) || !decide (n = 2)) = true := (by revert hm; cases (decide (m = 2) || !decide (n = 2)) <;> simp)
      rw [hm', Bool.true_and]
      clear hm
      have hw : (m == 2) = true ∧ (m != 2) = false ∨ (m == 2) = false ∧ (m != 2) = true ∧ (n == 2) = false := by
        by_cases h1 : m = 2
        · left; simp [h1]
        · right
          obtain ⟨e1, e2⟩ := int2 m h1
          have h2 : ¬ n = 2 := fun e => by simp [h1, e] at hm'
          exact ⟨e1, e2, (int2 n h2).1⟩
      clear hm'
      cases r2 with
      | false =>
        simp only [Bool.false_and]
        rcases hw with ⟨e1, e2⟩ | ⟨e1, e2, e3⟩
        all_goals
          go_enter Try.func29, Try.ntmps29
          go_wp2_with fail
          generalize (w.alloc (.cells #[.int .i64 m, .string lo, .string hi] 27)).alloc (.cells #[.int .i64 n, .string bo, .string bi] 27) = W at B0 ⊢
          obtain ⟨⟨c0, c1, c2⟩, ⟨d0, d1, d2⟩, bq⟩ := B0
          have BQ := Lib.hid bq
          clear bq
          refine (B.out _).mono ?_
          rintro e w1 ⟨rfl, q1⟩
          have c0 := box_ q1 c0
          have c1 := box_ q1 c1
          have c2 := box_ q1 c2
          have d0 := box_ q1 d0
          have d1 := box_ q1 d1
          have d2 := box_ q1 d2
          have BQ := Lib.hid (BQ.out.trans q1)
          clear q1
          go_wp2_with fail
          refine (C.out _).mono ?_
          rintro e w2 ⟨rfl, q2⟩
          go_wp2
          go_ret
          exact ⟨rfl, BQ.out.trans q2⟩
      | true =>
        simp only [Bool.true_and]
        by_cases h1 : hi = ⟨#[]⟩
        · subst h1
          simp only [decide_true, Bool.true_or]
          rcases hw with ⟨e1, e2⟩ | ⟨e1, e2, e3⟩
          all_goals
            go_enter Try.func29, Try.ntmps29
            go_wp2_with fail
            generalize (w.alloc (.cells #[.int .i64 m, .string lo, .string ⟨#[]⟩] 27)).alloc (.cells #[.int .i64 n, .string bo, .string bi] 27) = W at B0 ⊢
            obtain ⟨⟨c0, c1, c2⟩, ⟨d0, d1, d2⟩, bq⟩ := B0
            have BQ := Lib.hid bq
            clear bq
            refine (B.out _).mono ?_
            rintro e w1 ⟨rfl, q1⟩
            have c0 := box_ q1 c0
            have c1 := box_ q1 c1
            have c2 := box_ q1 c2
            have d0 := box_ q1 d0
            have d1 := box_ q1 d1
            have d2 := box_ q1 d2
            have BQ := Lib.hid (BQ.out.trans q1)
            clear q1
            go_wp2_with fail
            refine (C.out _).mono ?_
            rintro e w2 ⟨rfl, q2⟩
            have c2 := box_ q2 c2
            go_wp2
            go_ret
            exact ⟨rfl, BQ.out.trans q2⟩
        · obtain ⟨n1, n2, n3⟩ := no_empty h1
          rw [show decide (hi = (⟨#[]⟩ : ByteArray)) = false by simp [h1], Bool.false_or]
          clear h1
          by_cases h2 : bi = ⟨#[]⟩
          · subst h2
            simp only [decide_true, Bool.not_true, Bool.false_and]
            rcases hw with ⟨e1, e2⟩ | ⟨e1, e2, e3⟩
            all_goals
              go_enter Try.func29, Try.ntmps29
              go_wp2_with fail
              generalize (w.alloc (.cells #[.int .i64 m, .string lo, .string hi] 27)).alloc (.cells #[.int .i64 n, .string bo, .string ⟨#[]⟩] 27) = W at B0 ⊢
              obtain ⟨⟨c0, c1, c2⟩, ⟨d0, d1, d2⟩, bq⟩ := B0
              have BQ := Lib.hid bq
              clear bq
              refine (B.out _).mono ?_
              rintro e w1 ⟨rfl, q1⟩
              have c0 := box_ q1 c0
              have c1 := box_ q1 c1
              have c2 := box_ q1 c2
              have d0 := box_ q1 d0
              have d1 := box_ q1 d1
              have d2 := box_ q1 d2
              have BQ := Lib.hid (BQ.out.trans q1)
              clear q1
              go_wp2_with fail
              refine (C.out _).mono ?_
              rintro e w2 ⟨rfl, q2⟩
              have c2 := box_ q2 c2
              have d2 := box_ q2 d2
              have BQ := Lib.hid (BQ.out.trans q2)
              clear q2
              go_wp2_with fail
              refine (D.out _).mono ?_
              rintro e w3 ⟨rfl, k3, rfl⟩
              have c2 := box_ ((Q.refl _).drewN k3) c2
              have d2 := box_ ((Q.refl _).drewN k3) d2
              go_wp2
              go_ret
              exact ⟨by first | rfl | (simp; done), BQ.out.drewN _⟩
          · obtain ⟨p1, p2, p3⟩ := no_empty h2
            rw [show decide (bi = (⟨#[]⟩ : ByteArray)) = false by simp [h2], Bool.not_false, Bool.true_and]
            clear h2
            rcases hw with ⟨e1, e2⟩ | ⟨e1, e2, e3⟩
            all_goals
              go_enter Try.func29, Try.ntmps29
              go_wp2_with fail
              generalize (w.alloc (.cells #[.int .i64 m, .string lo, .string hi] 27)).alloc (.cells #[.int .i64 n, .string bo, .string bi] 27) = W at B0 ⊢
              obtain ⟨⟨c0, c1, c2⟩, ⟨d0, d1, d2⟩, bq⟩ := B0
              have BQ := Lib.hid bq
              clear bq
              refine (B.out _).mono ?_
              rintro e w1 ⟨rfl, q1⟩
              have c0 := box_ q1 c0
              have c1 := box_ q1 c1
              have c2 := box_ q1 c2
              have d0 := box_ q1 d0
              have d1 := box_ q1 d1
              have d2 := box_ q1 d2
              have BQ := Lib.hid (BQ.out.trans q1)
              clear q1
              go_wp2_with fail
              refine (C.out _).mono ?_
              rintro e w2 ⟨rfl, q2⟩
              have c2 := box_ q2 c2
              have d2 := box_ q2 d2
              have BQ := Lib.hid (BQ.out.trans q2)
              clear q2
              go_wp2_with fail
              refine (D.out _).mono ?_
              rintro e w3 ⟨rfl, k3, rfl⟩
              have c2 := box_ ((Q.refl _).drewN k3) c2
              have d2 := box_ ((Q.refl _).drewN k3) d2
              go_wp2
              go_ret
              exact ⟨by first | rfl | (simp; done), BQ.out.drewN _⟩
end Go.Proofs.Ytenemdpjhoebpaa
