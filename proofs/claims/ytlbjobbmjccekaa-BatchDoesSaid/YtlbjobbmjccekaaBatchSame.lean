/- Contracts: slices.Equal of pairs; batch.data, toks, Same; the document's Same. -/
import Derived.Test.YtlbjobbmjccekaaBatchDo
import Derived.Test.YtlbjobbmjccekaaTableRef
namespace Go.Proofs.Ytlbjobbmjccekaa
set_option maxRecDepth 100000
open Go.RowKit Prm
set_option linter.unusedVariables false
set_option linter.unusedSimpArgs false

set_option maxHeartbeats 1000000 in
theorem equalPairs (A B : Option Addr) (n c m d : Nat) (l l2 : List Pr) (w : World) (h1 : Lst pairK w A n l) (h2 : Lst pairK w B m l2) (hn : n ≤ maxLen) (hm : m ≤ maxLen) :
    Calls Try.prog 56 #[.slice A n c, .slice B m d] w fun e w' => e = .returned (.bool (decide (l = l2))) ∧ Q w w' := by
  unfold maxLen at hn hm
  have H1 := Lib.hid h1
  have H2 := Lib.hid h2
  have L1 := Lib.hid h1.len
  have L2 := Lib.hid h2.len
  clear h1 h2
  by_cases hnm : n = m
  · subst hnm
    go_enter Try.func56, Try.ntmps56
    go_wp2
    go_loopw [13] (fun i wr => ∃ k : Nat, k ≤ n ∧ i = .int .i64 k ∧ Q w wr ∧ l.take k = l2.take k) (fun i _ => n - (intOf i).toNat)
    case atStart => exact ⟨0, Nat.zero_le _, rfl, Q.refl _, by simp⟩
    case round =>
      obtain ⟨k, hk, rfl, hq, ht⟩ := hrel
      have HT := Lib.hid ht
      clear ht
      by_cases hlt : k < n
      · have k1 : k < l.length := by have := L1.out; omega
        have k2 : k < l2.length := by have := L2.out; omega
        obtain ⟨ad, rfl, hb, c0, c1⟩ := load_pair (H1.out.q hq) hlt k1
        obtain ⟨ae, rfl, he, d0, d1⟩ := load_pair (H2.out.q hq) hlt k2
        have hne := fun W => neq_pair W l[k] l2[k]
        have hkn : (k : Int) < (n : Int) := by omega
        by_cases heq : l[k] = l2[k]
        · have hd : decide (l[k] = l2[k]) = true := by simpa using heq
          have HE := Lib.hid heq
          clear heq
          go_wp2
          go_quiet (fail)
          go_wp2
          go_roundw
          case rel => exact ⟨k + 1, by omega, by go_num, hq.drewN _, by rw [List.take_succ_eq_append_getElem k1, List.take_succ_eq_append_getElem k2, HT.out, HE.out]⟩
          case measure => simp [intOf]; omega
        · have hd : decide (l[k] = l2[k]) = false := by simpa using heq
          have HE := Lib.hid heq
          clear heq
          go_wp2
          go_quiet (fail)
          go_wp2
          go_ret
          exact ⟨ret_bool (by symm; simp only [decide_eq_false_iff_not]; rintro rfl; exact HE.out rfl), hq.drewN _⟩
      · go_wp2
        go_ret
        exact ⟨ret_bool (by symm; simp only [decide_eq_true_eq]; have h1 := HT.out; rwa [List.take_of_length_le (by have := L1.out; omega), List.take_of_length_le (by have := L2.out; omega)] at h1), hq⟩
  · have n1 : ((n : Int) != (m : Int)) = true := by simp; omega
    have n2 : (n != m) = true := by simp; omega
    have n3 : (n == m) = false := by simp; omega
    have n4 : ((n : Int) == (m : Int)) = false := by simp; omega
    have n5 : ¬ (n : Int) = m := by omega
    have HN := Lib.hid hnm
    go_enter Try.func56, Try.ntmps56
    go_wp2
    go_ret
    exact ⟨ret_bool (by symm; simp only [decide_eq_false_iff_not]; rintro rfl; exact HN.out (L1.out.symm.trans L2.out)), Q.refl _⟩


theorem data_any (A B : Option Addr) (n c m d : Nat) (w : World) : Calls Try.prog 57 #[staV A n c B m d] w fun e w' => e = .returned (.slice A n c) ∧ Q w w' := by
  go_enter Try.func57, Try.ntmps57
  go_wp2
  go_ret
  exact ⟨rfl, (Q.refl _).alloc _⟩
theorem toks_any (A B : Option Addr) (n c m d : Nat) (w : World) : Calls Try.prog 58 #[staV A n c B m d] w fun e w' => e = .returned (.slice B m d) ∧ Q w w' := by
  go_enter Try.func58, Try.ntmps58
  go_wp2
  go_ret
  exact ⟨rfl, (Q.refl _).alloc _⟩

set_option maxHeartbeats 2000000 in
theorem same1_data (A B C D : Option Addr) (n c m d p q r s : Nat) (l l2 : List Pr) (g h : Nat) (w : World) (b1 : Bx w g [.slice A n c, .slice B m d]) (b2 : Bx w h [.slice C p q, .slice D r s]) (h1 : Lst pairK w A n l) (h2 : Lst pairK w C p l2) (hn : n ≤ maxLen) (hm : p ≤ maxLen) :
    Calls Try.prog 55 #[.func (.func 57) #[] #[], .pointer (some ⟨g, 0, none⟩), .pointer (some ⟨h, 0, none⟩)] w fun e w' => e = .returned (.bool (decide (l = l2))) ∧ Q w w' := by
  have KE := Lib.hid (fun W y => equalPairs A C n c p q l l2 W (h1.q y) (h2.q y) hn hm)
  obtain ⟨c0, c1⟩ := b1.get2.1
  obtain ⟨d0, d1⟩ := b2.get2.1
  clear h1 h2 b1 b2
  go_enter Try.func55, Try.ntmps55
  go_wp2
  go_region_held3 (fun w' => w'.cell? ⟨g, 0, none⟩ = some (.slice A n c) ∧ w'.cell? ⟨g, 1, none⟩ = some (.slice B m d) ∧ w'.cell? ⟨h, 0, none⟩ = some (.slice C p q) ∧ w'.cell? ⟨h, 1, none⟩ = some (.slice D r s))
    (first
      | go_keep
      | (go_split_ands
         (repeat' apply And.intro) <;> exact box_ ‹Q _ _› (by assumption)))
    (first
      | (go_at_call 57
         (with_reducible refine (data_any A B n c m d _).mono ?_)
         rintro e w3 ⟨rfl, y3⟩)
      | (go_at_call 57
         (with_reducible refine (data_any C D p q r s _).mono ?_)
         rintro e w4 ⟨rfl, y4⟩)
      | (go_at_call 56
         refine (KE.out _ (((Q.refl w).drew.trans y3).trans y4)).mono ?_
         rintro e w5 ⟨rfl, y5⟩))
  have HY := Lib.hid ((((Q.refl w).drew.trans y3).trans y4).trans y5)
  clear y3 y4 y5
  go_wp2
  go_ret
  exact ⟨rfl, HY.out⟩

set_option maxHeartbeats 2000000 in
theorem same1_toks (A B C D : Option Addr) (n c m d p q r s : Nat) (l l2 : List Pr) (g h : Nat) (w : World) (b1 : Bx w g [.slice A n c, .slice B m d]) (b2 : Bx w h [.slice C p q, .slice D r s]) (h1 : Lst pairK w B m l) (h2 : Lst pairK w D r l2) (hn : m ≤ maxLen) (hm : r ≤ maxLen) :
    Calls Try.prog 55 #[.func (.func 58) #[] #[], .pointer (some ⟨g, 0, none⟩), .pointer (some ⟨h, 0, none⟩)] w fun e w' => e = .returned (.bool (decide (l = l2))) ∧ Q w w' := by
  have KE := Lib.hid (fun W y => equalPairs B D m d r s l l2 W (h1.q y) (h2.q y) hn hm)
  obtain ⟨c0, c1⟩ := b1.get2.1
  obtain ⟨d0, d1⟩ := b2.get2.1
  clear h1 h2 b1 b2
  go_enter Try.func55, Try.ntmps55
  go_wp2
  go_region_held3 (fun w' => w'.cell? ⟨g, 0, none⟩ = some (.slice A n c) ∧ w'.cell? ⟨g, 1, none⟩ = some (.slice B m d) ∧ w'.cell? ⟨h, 0, none⟩ = some (.slice C p q) ∧ w'.cell? ⟨h, 1, none⟩ = some (.slice D r s))
    (first
      | go_keep
      | (go_split_ands
         (repeat' apply And.intro) <;> exact box_ ‹Q _ _› (by assumption)))
    (first
      | (go_at_call 58
         (with_reducible refine (toks_any A B n c m d _).mono ?_)
         rintro e w3 ⟨rfl, y3⟩)
      | (go_at_call 58
         (with_reducible refine (toks_any C D p q r s _).mono ?_)
         rintro e w4 ⟨rfl, y4⟩)
      | (go_at_call 56
         refine (KE.out _ (((Q.refl w).drew.trans y3).trans y4)).mono ?_
         rintro e w5 ⟨rfl, y5⟩))
  have HY := Lib.hid ((((Q.refl w).drew.trans y3).trans y4).trans y5)
  clear y3 y4 y5
  go_wp2
  go_ret
  exact ⟨rfl, HY.out⟩

set_option maxHeartbeats 2000000 in
theorem bsame_any (A B C D : Option Addr) (n c m d p q r s : Nat) (x y : Bm.Sta) (w : World) (h1 : In_ pairK w A n c x.data) (h2 : In_ pairK w B m d x.toks) (h3 : In_ pairK w C p q y.data) (h4 : In_ pairK w D r s y.toks) :
    Calls Try.prog 24 #[staV A n c B m d, staV C p q D r s] w fun e w' => e = .returned (.bool (decide (x = y))) ∧ Q w w' := by
  obtain ⟨xd, xt⟩ := x
  obtain ⟨yd, yt⟩ := y
  simp only at h1 h2 h3 h4
  have KD := Lib.hid (fun W z b1 b2 => same1_data A B C D n c m d p q r s xd yd w.heap.size (w.heap.size + 1) W b1 b2 (h1.lst.q z) (h3.lst.q z) h1.max h3.max)
  have KT := Lib.hid (fun W z b1 b2 => same1_toks A B C D n c m d p q r s xt yt w.heap.size (w.heap.size + 1) W b1 b2 (h2.lst.q z) (h4.lst.q z) h2.max h4.max)
  have hE : decide (Bm.Sta.mk xd xt = ⟨yd, yt⟩) = (decide (xd = yd) && decide (xt = yt)) := by
    by_cases e1 : xd = yd <;> by_cases e2 : xt = yt <;> simp [e1, e2]
  have HE := Lib.hid hE
  clear h1 h2 h3 h4 hE
  generalize decide (Bm.Sta.mk xd xt = ⟨yd, yt⟩) = R at HE ⊢
  generalize decide (xd = yd) = r1 at KD HE
  generalize decide (xt = yt) = r2 at KT HE
  go_enter Try.func24, Try.ntmps24
  go_upto_region 1 with (fail)
  have X : Hid (Bx ((w.alloc (.cells #[.slice A n c, .slice B m d] 40)).alloc (.cells #[.slice C p q, .slice D r s] 40)) w.heap.size [.slice A n c, .slice B m d] ∧
      Bx ((w.alloc (.cells #[.slice A n c, .slice B m d] 40)).alloc (.cells #[.slice C p q, .slice D r s] 40)) (w.heap.size + 1) [.slice C p q, .slice D r s] ∧
      Q w ((w.alloc (.cells #[.slice A n c, .slice B m d] 40)).alloc (.cells #[.slice C p q, .slice D r s] 40))) := by
    refine Lib.hid ⟨(Bx.new w [.slice A n c, .slice B m d] 40).alloc _, ?_, ((Q.refl w).alloc _).alloc _⟩
    have := Bx.new (w.alloc (.cells #[.slice A n c, .slice B m d] 40)) [.slice C p q, .slice D r s] 40
    simpa using this
  generalize ((w.alloc (.cells #[.slice A n c, .slice B m d] 40)).alloc (.cells #[.slice C p q, .slice D r s] 40)) = w2 at X ⊢
  cases r1 with
  | false =>
    go_wp2_with fail
    refine (KD.out _ X.out.2.2 X.out.1 X.out.2.1).mono ?_
    rintro e w3 ⟨rfl, y3⟩
    have Y3 := Lib.hid (X.out.2.2.trans y3)
    clear y3
    go_wp2_with fail
    go_ret
    exact ⟨ret_bool (by rw [HE.out]; rfl), Y3.out⟩
  | true =>
    go_wp2_with fail
    refine (KD.out _ X.out.2.2 X.out.1 X.out.2.1).mono ?_
    rintro e w3 ⟨rfl, y3⟩
    have Y3 := Lib.hid (And.intro (X.out.2.2.trans y3) (And.intro (X.out.1.q y3) (X.out.2.1.q y3)))
    clear y3
    go_wp2_with fail
    refine (KT.out _ Y3.out.1 Y3.out.2.1 Y3.out.2.2).mono ?_
    rintro e w4 ⟨rfl, y4⟩
    have Y4 := Lib.hid (Y3.out.1.trans y4)
    clear y4
    cases r2
    all_goals
      go_wp2_with fail
      go_ret
      exact ⟨ret_bool (by rw [HE.out]; rfl), Y4.out⟩

set_option maxHeartbeats 2000000 in
theorem refSameS_any (A B C D : Option Addr) (n c m d p q r s : Nat) (x y : Bm.Sta) (w : World) (h1 : In_ pairK w A n c x.data) (h2 : In_ pairK w B m d x.toks) (h3 : In_ pairK w C p q y.data) (h4 : In_ pairK w D r s y.toks) :
    Calls Try.prog 21 #[staV A n c B m d, staV C p q D r s] w fun e w' => e = .returned (.bool (decide (x = y))) ∧ Q w w' := by
  obtain ⟨xd, xt⟩ := x
  obtain ⟨yd, yt⟩ := y
  simp only at h1 h2 h3 h4
  have KD := Lib.hid (fun W z => refSame_any A C n c p q xd yd W (h1.lst.q z) (h3.lst.q z) h1.max h3.max)
  have KT := Lib.hid (fun W z => refSame_any B D m d r s xt yt W (h2.lst.q z) (h4.lst.q z) h2.max h4.max)
  have hE : decide (Bm.Sta.mk xd xt = ⟨yd, yt⟩) = (decide (xd = yd) && decide (xt = yt)) := by
    by_cases e1 : xd = yd <;> by_cases e2 : xt = yt <;> simp [e1, e2]
  have HE := Lib.hid hE
  clear h1 h2 h3 h4 hE
  generalize decide (Bm.Sta.mk xd xt = ⟨yd, yt⟩) = R at HE ⊢
  generalize decide (xd = yd) = r1 at KD HE
  generalize decide (xt = yt) = r2 at KT HE
  go_enter Try.func21, Try.ntmps21
  go_upto_region 1 with (fail)
  have X : Hid (Bx ((w.alloc (.cells #[.slice A n c, .slice B m d] 40)).alloc (.cells #[.slice C p q, .slice D r s] 40)) w.heap.size [.slice A n c, .slice B m d] ∧
      Bx ((w.alloc (.cells #[.slice A n c, .slice B m d] 40)).alloc (.cells #[.slice C p q, .slice D r s] 40)) (w.heap.size + 1) [.slice C p q, .slice D r s] ∧
      Q w ((w.alloc (.cells #[.slice A n c, .slice B m d] 40)).alloc (.cells #[.slice C p q, .slice D r s] 40))) := by
    refine Lib.hid ⟨(Bx.new w [.slice A n c, .slice B m d] 40).alloc _, ?_, ((Q.refl w).alloc _).alloc _⟩
    have := Bx.new (w.alloc (.cells #[.slice A n c, .slice B m d] 40)) [.slice C p q, .slice D r s] 40
    simpa using this
  generalize ((w.alloc (.cells #[.slice A n c, .slice B m d] 40)).alloc (.cells #[.slice C p q, .slice D r s] 40)) = w2 at X ⊢
  obtain ⟨c0, c1⟩ := X.out.1.get2.1
  obtain ⟨d0, d1⟩ := X.out.2.1.get2.1
  cases r1 with
  | false =>
    go_wp2_with fail
    refine (KD.out _ X.out.2.2).mono ?_
    rintro e w3 ⟨rfl, y3⟩
    have Y3 := Lib.hid (X.out.2.2.trans y3)
    clear y3
    go_wp2_with fail
    go_ret
    exact ⟨ret_bool (by rw [HE.out]; rfl), Y3.out⟩
  | true =>
    go_wp2_with fail
    refine (KD.out _ X.out.2.2).mono ?_
    rintro e w3 ⟨rfl, y3⟩
    have Y3 := Lib.hid (And.intro (X.out.2.2.trans y3) (And.intro (X.out.1.q y3) (X.out.2.1.q y3)))
    clear y3 c0 c1 d0 d1
    obtain ⟨c0, c1⟩ := Y3.out.2.1.get2.1
    obtain ⟨d0, d1⟩ := Y3.out.2.2.get2.1
    go_wp2_with fail
    refine (KT.out _ Y3.out.1).mono ?_
    rintro e w4 ⟨rfl, y4⟩
    have Y4 := Lib.hid (Y3.out.1.trans y4)
    clear y4
    cases r2
    all_goals
      go_wp2_with fail
      go_ret
      exact ⟨ret_bool (by rw [HE.out]; rfl), Y4.out⟩
end Go.Proofs.Ytlbjobbmjccekaa
