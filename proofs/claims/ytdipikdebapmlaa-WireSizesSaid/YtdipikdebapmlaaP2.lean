/- WiMayO, Held, HeldL, WiReq, Builder, WiNums: merged. -/
import Derived.Test.YtdipikdebapmlaaP1
import Derived.Deep.RegionHeld3
import Derived.Deep.DeepCutAuto
import Derived.Test.YtdipikdebapmlaaShelf
import Derived.Lib.Builder
import Derived.Lib.AppendStr
import Derived.OwnWalk
/- Contracts: the package's mayToken, mayOp, MayReq, mayReply. -/
namespace Go.Proofs.Ytdipikdebapmlaa
set_option maxRecDepth 100000
open Go.RowKit Prm
set_option linter.unusedVariables false
set_option linter.unusedSimpArgs false
namespace Wi

def tokOk (k : Int) (t : ByteArray) : Bool := if k = 4 ∨ k = 6 then decide (t.size ≤ 16) else decide (t = ⟨#[]⟩)
def opOk (k : Int) (o : Op) : Bool := if k = 5 then decide (1 ≤ o.kind) && decide (o.kind ≤ 6) && !([o.key, o.lo, o.hi].any longK) && decide (o.val.size ≤ 64) && !([o.most].any big) else decide (o = op0)
theorem small_big (n : Int) : (!([n].any big)) = small n := by simp [big]
theorem longK3 (a b c : ByteArray) : (!([a, b, c].any longK)) = (decide (a.size ≤ 32) && decide (b.size ≤ 32) && decide (c.size ≤ 32)) := by
  rw [Bool.eq_iff_iff]
  simp [longK, and_assoc]
theorem opOk_iff {k : Int} {o : Op} : opOk k o = true ↔ (k ≠ 5 → o = op0) ∧ (k = 5 → mayOp o = true ∧ small o.most = true) := by
  unfold opOk
  by_cases h : k = 5
  · rw [if_pos h, mayOp_iff, longK3, small_big]
    simp only [Bool.and_eq_true, decide_eq_true_eq]
    constructor
    · rintro ⟨⟨⟨⟨a, b⟩, ⟨c, d⟩, e⟩, f⟩, g⟩
      exact ⟨fun h2 => absurd h h2, fun _ => ⟨⟨a, b, c, d, e, f⟩, g⟩⟩
    · rintro ⟨_, h2⟩
      obtain ⟨⟨a, b, c, d, e, f⟩, g⟩ := h2 h
      exact ⟨⟨⟨⟨a, b⟩, ⟨c, d⟩, e⟩, f⟩, g⟩
  · rw [if_neg h]
    simp only [decide_eq_true_eq]
    exact ⟨fun h2 => ⟨fun _ => h2, fun h3 => absurd h3 h⟩, fun h2 => h2.1 h⟩
theorem tokOk_iff {k : Int} {t : ByteArray} : tokOk k t = true ↔ t.size ≤ 16 ∧ (k ≠ 4 → k ≠ 6 → t.size = 0) := by
  unfold tokOk
  by_cases h : k = 4 ∨ k = 6
  · rw [if_pos h, decide_eq_true_eq]
    exact ⟨fun h2 => ⟨h2, fun h4 h6 => absurd h (by omega)⟩, fun h2 => h2.1⟩
  · rw [if_neg h, decide_eq_true_eq]
    constructor
    · rintro rfl; exact ⟨by decide, fun _ _ => rfl⟩
    · intro h2
      have := h2.2 (by omega) (by omega)
      apply ByteArray.ext
      apply Array.eq_empty_of_size_eq_zero
      exact this
/-- which requests may be, as the package tells it. -/
theorem mayO_eq (k e s n : Int) (t : ByteArray) (o : Op) : (decide (1 ≤ k) && decide (k ≤ 6) && !([e, s, n].any big) && tokOk k t && opOk k o) = may ⟨k, e, s, n, t, o⟩ := by
  rw [Bool.eq_iff_iff]
  have hb : (!([e, s, n].any big)) = (small e && small s && small n) := by rw [Bool.eq_iff_iff]; simp [big, and_assoc]
  rw [hb]
  simp only [Bool.and_eq_true, decide_eq_true_eq, tokOk_iff, opOk_iff]
  constructor
  · rintro ⟨⟨⟨⟨h1, h2⟩, ⟨h3, h4⟩, h5⟩, h6, h7⟩, h8, h9⟩
    have hm : small o.most = true := by
      by_cases hk : k = 5
      · exact (h9 hk).2
      · rw [h8 hk]; rfl
    unfold may
    simp only
    rw [if_neg (by simp only [not_or, Decidable.not_not]; exact ⟨by omega, by omega, ⟨h3, h4⟩, ⟨h5, hm⟩, by omega⟩), if_neg (by rintro ⟨a, b, c⟩; have := h7 a b; omega)]
    by_cases hk : k = 5
    · rw [if_neg (by simpa using hk)]; exact (h9 hk).1
    · rw [if_pos hk]; exact decide_eq_true (h8 hk)
  · intro h
    have M := may_of h
    have a1 := M.k1
    have a2 := M.k2
    have a3 := M.e
    have a4 := M.s
    have a5 := M.n
    have a6 := M.m
    have a7 := M.t
    simp only at a1 a2 a3 a4 a5 a6 a7
    refine ⟨⟨⟨⟨a1, a2⟩, ⟨a3, a4⟩, a5⟩, a7, fun h4 h6 => ?_⟩, fun hk => M.o hk, fun hk => ⟨M.o5 hk, a6⟩⟩
    unfold may at h
    simp only at h
    split at h
    · cases h
    split at h
    · cases h
    · rename_i h8
      simp only [not_and] at h8
      have := h8 h4 h6
      omega

set_option maxHeartbeats 1000000 in
theorem mayToken_any (k e s n : Int) (t : ByteArray) (ok : Int) (ky vl lo hi : ByteArray) (m : Int) (w : World) : Calls Try.prog 13 #[.agg #[.int .i64 k, .int .i64 e, .int .i64 s, .int .i64 n, .string t, .int .i64 ok, .string ky, .string vl, .string lo, .string hi, .int .i64 m]] w fun e' w' => e' = .returned (.bool (tokOk k t)) ∧ Q w w' := by
  have X1 : Hid (Bx (w.alloc (.cells #[.int .i64 k, .int .i64 e, .int .i64 s, .int .i64 n, .string t, .int .i64 ok, .string ky, .string vl, .string lo, .string hi, .int .i64 m] 25)) w.heap.size [.int .i64 k, .int .i64 e, .int .i64 s, .int .i64 n, .string t, .int .i64 ok, .string ky, .string vl, .string lo, .string hi, .int .i64 m]) := Lib.hid (Bx.new w [.int .i64 k, .int .i64 e, .int .i64 s, .int .i64 n, .string t, .int .i64 ok, .string ky, .string vl, .string lo, .string hi, .int .i64 m] 25)
  have QF := Lib.hid ((Q.refl w).alloc (.cells #[.int .i64 k, .int .i64 e, .int .i64 s, .int .i64 n, .string t, .int .i64 ok, .string ky, .string vl, .string lo, .string hi, .int .i64 m] 25))
  have hcmp : (t.toList == (⟨#[]⟩ : ByteArray).toList) = decide (t = ⟨#[]⟩) := same_str _ _
  have hnil : (⟨#[]⟩ : ByteArray).toList = [] := by rw [ByteArray.toList_eq]
  have hcmp2 : (t.toList == []) = decide (t = ⟨#[]⟩) := by rw [← hcmp, hnil]
  have HT : Hid (tokOk k t = if k = 4 ∨ k = 6 then decide (t.size ≤ 16) else decide (t = ⟨#[]⟩)) := Lib.hid rfl
  clear hnil
  generalize tokOk k t = res at HT ⊢
  generalize decide (t = ⟨#[]⟩) = b2 at HT hcmp hcmp2
  by_cases h4 : k = 4
  · subst h4
    rw [if_pos (.inl rfl)] at HT
    by_cases hz : t.size ≤ 16
    · have hzi : (t.size : Int) ≤ 16 := by omega
      rw [decide_eq_true hz] at HT
      go_enter Try.func13, Try.ntmps13
      go_upto_region 1 with (fail)
      generalize w.alloc (.cells #[.int .i64 4, .int .i64 e, .int .i64 s, .int .i64 n, .string t, .int .i64 ok, .string ky, .string vl, .string lo, .string hi, .int .i64 m] 25) = W0 at X1 QF ⊢
      generalize w.heap.size = b1 at X1 ⊢
      have x0 := (X1.out 0 _ rfl).1
      have x4 := (X1.out 4 _ rfl).1
      go_wp2
      go_ret
      exact ⟨ret_bool (by rw [HT.out] <;> (first | (first | rfl | simp; done) | (simp; intros; omega))), QF.out⟩
    · have hzi : ¬ (t.size : Int) ≤ 16 := by omega
      rw [decide_eq_false hz] at HT
      go_enter Try.func13, Try.ntmps13
      go_upto_region 1 with (fail)
      generalize w.alloc (.cells #[.int .i64 4, .int .i64 e, .int .i64 s, .int .i64 n, .string t, .int .i64 ok, .string ky, .string vl, .string lo, .string hi, .int .i64 m] 25) = W0 at X1 QF ⊢
      generalize w.heap.size = b1 at X1 ⊢
      have x0 := (X1.out 0 _ rfl).1
      have x4 := (X1.out 4 _ rfl).1
      go_wp2
      go_ret
      exact ⟨ret_bool (by rw [HT.out] <;> (first | (first | rfl | (simp; omega); done) | (simp; intros; omega))), QF.out⟩
  · by_cases h6 : k = 6
    · subst h6
      rw [if_pos (.inr rfl)] at HT
      by_cases hz : t.size ≤ 16
      · have hzi : (t.size : Int) ≤ 16 := by omega
        rw [decide_eq_true hz] at HT
        go_enter Try.func13, Try.ntmps13
        go_upto_region 1 with (fail)
        generalize w.alloc (.cells #[.int .i64 6, .int .i64 e, .int .i64 s, .int .i64 n, .string t, .int .i64 ok, .string ky, .string vl, .string lo, .string hi, .int .i64 m] 25) = W0 at X1 QF ⊢
        generalize w.heap.size = b1 at X1 ⊢
        have x0 := (X1.out 0 _ rfl).1
        have x4 := (X1.out 4 _ rfl).1
        go_wp2
        go_ret
        exact ⟨ret_bool (by rw [HT.out] <;> (first | (first | rfl | simp; done) | (simp; intros; omega))), QF.out⟩
      · have hzi : ¬ (t.size : Int) ≤ 16 := by omega
        rw [decide_eq_false hz] at HT
        go_enter Try.func13, Try.ntmps13
        go_upto_region 1 with (fail)
        generalize w.alloc (.cells #[.int .i64 6, .int .i64 e, .int .i64 s, .int .i64 n, .string t, .int .i64 ok, .string ky, .string vl, .string lo, .string hi, .int .i64 m] 25) = W0 at X1 QF ⊢
        generalize w.heap.size = b1 at X1 ⊢
        have x0 := (X1.out 0 _ rfl).1
        have x4 := (X1.out 4 _ rfl).1
        go_wp2
        go_ret
        exact ⟨ret_bool (by rw [HT.out] <;> (first | (first | rfl | (simp; omega); done) | (simp; intros; omega))), QF.out⟩
    · have k4 : (k == 4) = false := by simpa using h4
      have k6 : (k == 6) = false := by simpa using h6
      rw [if_neg (by omega)] at HT
      go_enter Try.func13, Try.ntmps13
      go_upto_region 1 with (fail)
      generalize w.alloc (.cells #[.int .i64 k, .int .i64 e, .int .i64 s, .int .i64 n, .string t, .int .i64 ok, .string ky, .string vl, .string lo, .string hi, .int .i64 m] 25) = W0 at X1 QF ⊢
      generalize w.heap.size = b1 at X1 ⊢
      have x0 := (X1.out 0 _ rfl).1
      have x4 := (X1.out 4 _ rfl).1
      go_wp2
      go_ret
      exact ⟨ret_bool (by rw [HT.out] <;> (first | (first | rfl | simp; done) | (simp; intros; omega))), QF.out⟩

set_option maxHeartbeats 4000000 in
theorem mayOpO_any (k e s n : Int) (t : ByteArray) (ok : Int) (ky vl lo hi : ByteArray) (m : Int) (w : World) : Calls Try.prog 14 #[.agg #[.int .i64 k, .int .i64 e, .int .i64 s, .int .i64 n, .string t, .int .i64 ok, .string ky, .string vl, .string lo, .string hi, .int .i64 m]] w fun e' w' => e' = .returned (.bool (opOk k ⟨ok, ky, vl, lo, hi, m⟩)) ∧ Q w w' := by
  have X1 : Hid (Bx (w.alloc (.cells #[.int .i64 k, .int .i64 e, .int .i64 s, .int .i64 n, .string t, .int .i64 ok, .string ky, .string vl, .string lo, .string hi, .int .i64 m] 25)) w.heap.size [.int .i64 k, .int .i64 e, .int .i64 s, .int .i64 n, .string t, .int .i64 ok, .string ky, .string vl, .string lo, .string hi, .int .i64 m]) := Lib.hid (Bx.new w [.int .i64 k, .int .i64 e, .int .i64 s, .int .i64 n, .string t, .int .i64 ok, .string ky, .string vl, .string lo, .string hi, .int .i64 m] 25)
  have QF := Lib.hid ((Q.refl w).alloc (.cells #[.int .i64 k, .int .i64 e, .int .i64 s, .int .i64 n, .string t, .int .i64 ok, .string ky, .string vl, .string lo, .string hi, .int .i64 m] 25))
  have HT : Hid (opOk k ⟨ok, ky, vl, lo, hi, m⟩ = if k = 5 then decide (1 ≤ ok) && decide (ok ≤ 6) && !([ky, lo, hi].any longK) && decide (vl.size ≤ 64) && !([m].any big) else decide ((⟨ok, ky, vl, lo, hi, m⟩ : Op) = op0)) := Lib.hid rfl
  generalize opOk k ⟨ok, ky, vl, lo, hi, m⟩ = res at HT ⊢
  have KK := Lib.hid (fun W => keys_any (some ⟨W.heap.size, 0, none⟩) 3 3 [ky, lo, hi] (W.alloc (.cells #[.string ky, .string lo, .string hi] 9)) (lst_lits W [ky, lo, hi]) (by unfold maxLen; omega))
  have KN := Lib.hid (fun W => nums_any (some ⟨W.heap.size, 0, none⟩) 1 1 [m] (W.alloc (.cells #[.int .i64 m] 3)) (lst_litn W [m]) (by unfold maxLen; omega))
  generalize [ky, lo, hi].any longK = ak at KK HT
  generalize [m].any big = am at KN HT
  by_cases h5 : k = 5
  · subst h5
    rw [if_pos rfl] at HT
    by_cases c1 : 1 ≤ ok
    · have c1i : (1 : Int) ≤ ok := by omega
      by_cases c2 : ok ≤ 6
      · have c2i : ok ≤ (6 : Int) := by omega
        cases ak with
        | true =>
          go_enter Try.func14, Try.ntmps14
          go_upto_region 1 with (fail)
          generalize w.alloc (.cells #[.int .i64 5, .int .i64 e, .int .i64 s, .int .i64 n, .string t, .int .i64 ok, .string ky, .string vl, .string lo, .string hi, .int .i64 m] 25) = W0 at X1 QF ⊢
          generalize w.heap.size = b1 at X1 ⊢
          have x5 := (X1.out 5 _ rfl).1
          have x6 := (X1.out 6 _ rfl).1
          have x7 := (X1.out 7 _ rfl).1
          have x8 := (X1.out 8 _ rfl).1
          have x9 := (X1.out 9 _ rfl).1
          have x10 := (X1.out 10 _ rfl).1
          have x0 := (X1.out 0 _ rfl).1
          have qa := (Q.refl W0).alloc (.cells #[.int .i64 ok, .string ky, .string vl, .string lo, .string hi, .int .i64 m] 23)
          replace X1 := Lib.hid ((X1.out).q qa)
          replace QF := Lib.hid ((QF.out).trans qa)
          have X3 : Hid (Bx (W0.alloc (.cells #[.int .i64 ok, .string ky, .string vl, .string lo, .string hi, .int .i64 m] 23)) W0.heap.size [.int .i64 ok, .string ky, .string vl, .string lo, .string hi, .int .i64 m]) := Lib.hid (Bx.new W0 [.int .i64 ok, .string ky, .string vl, .string lo, .string hi, .int .i64 m] 23)
          clear qa
          go_upto_region 2 with (fail)
          generalize W0.alloc (.cells #[.int .i64 ok, .string ky, .string vl, .string lo, .string hi, .int .i64 m] 23) = W3 at X1 X3 QF ⊢
          generalize W0.heap.size = b3 at X3 ⊢
          clear x5
          clear x6
          clear x7
          clear x8
          clear x9
          clear x10
          clear x0
          have x0 := (X1.out 0 _ rfl).1
          have y0 := (X3.out 0 _ rfl).1
          have y1 := (X3.out 1 _ rfl).1
          have y2 := (X3.out 2 _ rfl).1
          have y3 := (X3.out 3 _ rfl).1
          have y4 := (X3.out 4 _ rfl).1
          have y5 := (X3.out 5 _ rfl).1
          go_wp2_with fail
          refine (KK.out _).mono ?_
          rintro e1 w1 ⟨rfl, q1⟩
          have q2 := ((Q.refl W3).alloc (.cells #[.string ky, .string lo, .string hi] 9)).trans q1
          have X3 := Lib.hid (X3.out.q q2)
          replace QF := Lib.hid (QF.out.trans q2)
          clear q1 q2 x0 X1 y0 y1 y2 y3 y4 y5
          have y0 := (X3.out 0 _ rfl).1
          have y1 := (X3.out 1 _ rfl).1
          have y2 := (X3.out 2 _ rfl).1
          have y3 := (X3.out 3 _ rfl).1
          have y4 := (X3.out 4 _ rfl).1
          have y5 := (X3.out 5 _ rfl).1
          go_wp2
          go_ret
          exact ⟨ret_bool (by rw [HT.out] <;> (first | (simp [c1, c2]; done) | (simp; intros; omega))), QF.out⟩
        | false =>
          by_cases c4 : vl.size ≤ 64
          · have c4i : (vl.size : Int) ≤ 64 := by omega
            cases am with
            | true =>
              go_enter Try.func14, Try.ntmps14
              go_upto_region 1 with (fail)
              generalize w.alloc (.cells #[.int .i64 5, .int .i64 e, .int .i64 s, .int .i64 n, .string t, .int .i64 ok, .string ky, .string vl, .string lo, .string hi, .int .i64 m] 25) = W0 at X1 QF ⊢
              generalize w.heap.size = b1 at X1 ⊢
              have x5 := (X1.out 5 _ rfl).1
              have x6 := (X1.out 6 _ rfl).1
              have x7 := (X1.out 7 _ rfl).1
              have x8 := (X1.out 8 _ rfl).1
              have x9 := (X1.out 9 _ rfl).1
              have x10 := (X1.out 10 _ rfl).1
              have x0 := (X1.out 0 _ rfl).1
              have qa := (Q.refl W0).alloc (.cells #[.int .i64 ok, .string ky, .string vl, .string lo, .string hi, .int .i64 m] 23)
              replace X1 := Lib.hid ((X1.out).q qa)
              replace QF := Lib.hid ((QF.out).trans qa)
              have X3 : Hid (Bx (W0.alloc (.cells #[.int .i64 ok, .string ky, .string vl, .string lo, .string hi, .int .i64 m] 23)) W0.heap.size [.int .i64 ok, .string ky, .string vl, .string lo, .string hi, .int .i64 m]) := Lib.hid (Bx.new W0 [.int .i64 ok, .string ky, .string vl, .string lo, .string hi, .int .i64 m] 23)
              clear qa
              go_upto_region 2 with (fail)
              generalize W0.alloc (.cells #[.int .i64 ok, .string ky, .string vl, .string lo, .string hi, .int .i64 m] 23) = W3 at X1 X3 QF ⊢
              generalize W0.heap.size = b3 at X3 ⊢
              clear x5
              clear x6
              clear x7
              clear x8
              clear x9
              clear x10
              clear x0
              have x0 := (X1.out 0 _ rfl).1
              have y0 := (X3.out 0 _ rfl).1
              have y1 := (X3.out 1 _ rfl).1
              have y2 := (X3.out 2 _ rfl).1
              have y3 := (X3.out 3 _ rfl).1
              have y4 := (X3.out 4 _ rfl).1
              have y5 := (X3.out 5 _ rfl).1
              go_wp2_with fail
              refine (KK.out _).mono ?_
              rintro e1 w1 ⟨rfl, q1⟩
              have q2 := ((Q.refl W3).alloc (.cells #[.string ky, .string lo, .string hi] 9)).trans q1
              have X3 := Lib.hid (X3.out.q q2)
              replace QF := Lib.hid (QF.out.trans q2)
              clear q1 q2 x0 X1 y0 y1 y2 y3 y4 y5
              have y0 := (X3.out 0 _ rfl).1
              have y1 := (X3.out 1 _ rfl).1
              have y2 := (X3.out 2 _ rfl).1
              have y3 := (X3.out 3 _ rfl).1
              have y4 := (X3.out 4 _ rfl).1
              have y5 := (X3.out 5 _ rfl).1
              go_wp2_with fail
              refine (KN.out _).mono ?_
              rintro e2 w2 ⟨rfl, q1⟩
              have q2 := ((Q.refl w1).alloc (.cells #[.int .i64 m] 3)).trans q1
              replace QF := Lib.hid (QF.out.trans q2)
              clear q1 q2
              go_wp2
              go_ret
              exact ⟨ret_bool (by rw [HT.out] <;> (first | (simp [c1, c2, c4]; done) | (simp; intros; omega))), QF.out⟩
            | false =>
              go_enter Try.func14, Try.ntmps14
              go_upto_region 1 with (fail)
              generalize w.alloc (.cells #[.int .i64 5, .int .i64 e, .int .i64 s, .int .i64 n, .string t, .int .i64 ok, .string ky, .string vl, .string lo, .string hi, .int .i64 m] 25) = W0 at X1 QF ⊢
              generalize w.heap.size = b1 at X1 ⊢
              have x5 := (X1.out 5 _ rfl).1
              have x6 := (X1.out 6 _ rfl).1
              have x7 := (X1.out 7 _ rfl).1
              have x8 := (X1.out 8 _ rfl).1
              have x9 := (X1.out 9 _ rfl).1
              have x10 := (X1.out 10 _ rfl).1
              have x0 := (X1.out 0 _ rfl).1
              have qa := (Q.refl W0).alloc (.cells #[.int .i64 ok, .string ky, .string vl, .string lo, .string hi, .int .i64 m] 23)
              replace X1 := Lib.hid ((X1.out).q qa)
              replace QF := Lib.hid ((QF.out).trans qa)
              have X3 : Hid (Bx (W0.alloc (.cells #[.int .i64 ok, .string ky, .string vl, .string lo, .string hi, .int .i64 m] 23)) W0.heap.size [.int .i64 ok, .string ky, .string vl, .string lo, .string hi, .int .i64 m]) := Lib.hid (Bx.new W0 [.int .i64 ok, .string ky, .string vl, .string lo, .string hi, .int .i64 m] 23)
              clear qa
              go_upto_region 2 with (fail)
              generalize W0.alloc (.cells #[.int .i64 ok, .string ky, .string vl, .string lo, .string hi, .int .i64 m] 23) = W3 at X1 X3 QF ⊢
              generalize W0.heap.size = b3 at X3 ⊢
              clear x5
              clear x6
              clear x7
              clear x8
              clear x9
              clear x10
              clear x0
              have x0 := (X1.out 0 _ rfl).1
              have y0 := (X3.out 0 _ rfl).1
              have y1 := (X3.out 1 _ rfl).1
              have y2 := (X3.out 2 _ rfl).1
              have y3 := (X3.out 3 _ rfl).1
              have y4 := (X3.out 4 _ rfl).1
              have y5 := (X3.out 5 _ rfl).1
              go_wp2_with fail
              refine (KK.out _).mono ?_
              rintro e1 w1 ⟨rfl, q1⟩
              have q2 := ((Q.refl W3).alloc (.cells #[.string ky, .string lo, .string hi] 9)).trans q1
              have X3 := Lib.hid (X3.out.q q2)
              replace QF := Lib.hid (QF.out.trans q2)
              clear q1 q2 x0 X1 y0 y1 y2 y3 y4 y5
              have y0 := (X3.out 0 _ rfl).1
              have y1 := (X3.out 1 _ rfl).1
              have y2 := (X3.out 2 _ rfl).1
              have y3 := (X3.out 3 _ rfl).1
              have y4 := (X3.out 4 _ rfl).1
              have y5 := (X3.out 5 _ rfl).1
              go_wp2_with fail
              refine (KN.out _).mono ?_
              rintro e2 w2 ⟨rfl, q1⟩
              have q2 := ((Q.refl w1).alloc (.cells #[.int .i64 m] 3)).trans q1
              replace QF := Lib.hid (QF.out.trans q2)
              clear q1 q2
              go_wp2
              go_ret
              exact ⟨ret_bool (by rw [HT.out] <;> (first | (first | rfl | simp [c1, c2, c4]; done) | (simp; intros; omega))), QF.out⟩
          · have c4i : ¬ (vl.size : Int) ≤ 64 := by omega
            go_enter Try.func14, Try.ntmps14
            go_upto_region 1 with (fail)
            generalize w.alloc (.cells #[.int .i64 5, .int .i64 e, .int .i64 s, .int .i64 n, .string t, .int .i64 ok, .string ky, .string vl, .string lo, .string hi, .int .i64 m] 25) = W0 at X1 QF ⊢
            generalize w.heap.size = b1 at X1 ⊢
            have x5 := (X1.out 5 _ rfl).1
            have x6 := (X1.out 6 _ rfl).1
            have x7 := (X1.out 7 _ rfl).1
            have x8 := (X1.out 8 _ rfl).1
            have x9 := (X1.out 9 _ rfl).1
            have x10 := (X1.out 10 _ rfl).1
            have x0 := (X1.out 0 _ rfl).1
            have qa := (Q.refl W0).alloc (.cells #[.int .i64 ok, .string ky, .string vl, .string lo, .string hi, .int .i64 m] 23)
            replace X1 := Lib.hid ((X1.out).q qa)
            replace QF := Lib.hid ((QF.out).trans qa)
            have X3 : Hid (Bx (W0.alloc (.cells #[.int .i64 ok, .string ky, .string vl, .string lo, .string hi, .int .i64 m] 23)) W0.heap.size [.int .i64 ok, .string ky, .string vl, .string lo, .string hi, .int .i64 m]) := Lib.hid (Bx.new W0 [.int .i64 ok, .string ky, .string vl, .string lo, .string hi, .int .i64 m] 23)
            clear qa
            go_upto_region 2 with (fail)
            generalize W0.alloc (.cells #[.int .i64 ok, .string ky, .string vl, .string lo, .string hi, .int .i64 m] 23) = W3 at X1 X3 QF ⊢
            generalize W0.heap.size = b3 at X3 ⊢
            clear x5
            clear x6
            clear x7
            clear x8
            clear x9
            clear x10
            clear x0
            have x0 := (X1.out 0 _ rfl).1
            have y0 := (X3.out 0 _ rfl).1
            have y1 := (X3.out 1 _ rfl).1
            have y2 := (X3.out 2 _ rfl).1
            have y3 := (X3.out 3 _ rfl).1
            have y4 := (X3.out 4 _ rfl).1
            have y5 := (X3.out 5 _ rfl).1
            go_wp2_with fail
            refine (KK.out _).mono ?_
            rintro e1 w1 ⟨rfl, q1⟩
            have q2 := ((Q.refl W3).alloc (.cells #[.string ky, .string lo, .string hi] 9)).trans q1
            have X3 := Lib.hid (X3.out.q q2)
            replace QF := Lib.hid (QF.out.trans q2)
            clear q1 q2 x0 X1 y0 y1 y2 y3 y4 y5
            have y0 := (X3.out 0 _ rfl).1
            have y1 := (X3.out 1 _ rfl).1
            have y2 := (X3.out 2 _ rfl).1
            have y3 := (X3.out 3 _ rfl).1
            have y4 := (X3.out 4 _ rfl).1
            have y5 := (X3.out 5 _ rfl).1
            go_wp2
            go_ret
            exact ⟨ret_bool (by rw [HT.out] <;> (first | (simp [c1, c2, c4]; done) | (simp; intros; omega))), QF.out⟩
      · have c2i : ¬ ok ≤ (6 : Int) := by omega
        go_enter Try.func14, Try.ntmps14
        go_upto_region 1 with (fail)
        generalize w.alloc (.cells #[.int .i64 5, .int .i64 e, .int .i64 s, .int .i64 n, .string t, .int .i64 ok, .string ky, .string vl, .string lo, .string hi, .int .i64 m] 25) = W0 at X1 QF ⊢
        generalize w.heap.size = b1 at X1 ⊢
        have x5 := (X1.out 5 _ rfl).1
        have x6 := (X1.out 6 _ rfl).1
        have x7 := (X1.out 7 _ rfl).1
        have x8 := (X1.out 8 _ rfl).1
        have x9 := (X1.out 9 _ rfl).1
        have x10 := (X1.out 10 _ rfl).1
        have x0 := (X1.out 0 _ rfl).1
        have qa := (Q.refl W0).alloc (.cells #[.int .i64 ok, .string ky, .string vl, .string lo, .string hi, .int .i64 m] 23)
        replace X1 := Lib.hid ((X1.out).q qa)
        replace QF := Lib.hid ((QF.out).trans qa)
        have X3 : Hid (Bx (W0.alloc (.cells #[.int .i64 ok, .string ky, .string vl, .string lo, .string hi, .int .i64 m] 23)) W0.heap.size [.int .i64 ok, .string ky, .string vl, .string lo, .string hi, .int .i64 m]) := Lib.hid (Bx.new W0 [.int .i64 ok, .string ky, .string vl, .string lo, .string hi, .int .i64 m] 23)
        clear qa
        go_upto_region 2 with (fail)
        generalize W0.alloc (.cells #[.int .i64 ok, .string ky, .string vl, .string lo, .string hi, .int .i64 m] 23) = W3 at X1 X3 QF ⊢
        generalize W0.heap.size = b3 at X3 ⊢
        clear x5
        clear x6
        clear x7
        clear x8
        clear x9
        clear x10
        clear x0
        have x0 := (X1.out 0 _ rfl).1
        have y0 := (X3.out 0 _ rfl).1
        have y1 := (X3.out 1 _ rfl).1
        have y2 := (X3.out 2 _ rfl).1
        have y3 := (X3.out 3 _ rfl).1
        have y4 := (X3.out 4 _ rfl).1
        have y5 := (X3.out 5 _ rfl).1
        go_wp2
        go_ret
        exact ⟨ret_bool (by rw [HT.out] <;> (first | (simp [c1, c2]; done) | (simp; intros; omega))), QF.out⟩
    · have c1i : ¬ (1 : Int) ≤ ok := by omega
      go_enter Try.func14, Try.ntmps14
      go_upto_region 1 with (fail)
      generalize w.alloc (.cells #[.int .i64 5, .int .i64 e, .int .i64 s, .int .i64 n, .string t, .int .i64 ok, .string ky, .string vl, .string lo, .string hi, .int .i64 m] 25) = W0 at X1 QF ⊢
      generalize w.heap.size = b1 at X1 ⊢
      have x5 := (X1.out 5 _ rfl).1
      have x6 := (X1.out 6 _ rfl).1
      have x7 := (X1.out 7 _ rfl).1
      have x8 := (X1.out 8 _ rfl).1
      have x9 := (X1.out 9 _ rfl).1
      have x10 := (X1.out 10 _ rfl).1
      have x0 := (X1.out 0 _ rfl).1
      have qa := (Q.refl W0).alloc (.cells #[.int .i64 ok, .string ky, .string vl, .string lo, .string hi, .int .i64 m] 23)
      replace X1 := Lib.hid ((X1.out).q qa)
      replace QF := Lib.hid ((QF.out).trans qa)
      have X3 : Hid (Bx (W0.alloc (.cells #[.int .i64 ok, .string ky, .string vl, .string lo, .string hi, .int .i64 m] 23)) W0.heap.size [.int .i64 ok, .string ky, .string vl, .string lo, .string hi, .int .i64 m]) := Lib.hid (Bx.new W0 [.int .i64 ok, .string ky, .string vl, .string lo, .string hi, .int .i64 m] 23)
      clear qa
      go_upto_region 2 with (fail)
      generalize W0.alloc (.cells #[.int .i64 ok, .string ky, .string vl, .string lo, .string hi, .int .i64 m] 23) = W3 at X1 X3 QF ⊢
      generalize W0.heap.size = b3 at X3 ⊢
      clear x5
      clear x6
      clear x7
      clear x8
      clear x9
      clear x10
      clear x0
      have x0 := (X1.out 0 _ rfl).1
      have y0 := (X3.out 0 _ rfl).1
      have y1 := (X3.out 1 _ rfl).1
      have y2 := (X3.out 2 _ rfl).1
      have y3 := (X3.out 3 _ rfl).1
      have y4 := (X3.out 4 _ rfl).1
      have y5 := (X3.out 5 _ rfl).1
      go_wp2
      go_ret
      exact ⟨ret_bool (by rw [HT.out] <;> (first | (simp [c1]; done) | (simp; intros; omega))), QF.out⟩
  · rw [if_neg h5] at HT
    have hk5 : (k == 5) = false := by simpa using h5
    go_enter Try.func14, Try.ntmps14
    go_upto_region 1 with (fail)
    generalize w.alloc (.cells #[.int .i64 k, .int .i64 e, .int .i64 s, .int .i64 n, .string t, .int .i64 ok, .string ky, .string vl, .string lo, .string hi, .int .i64 m] 25) = W0 at X1 QF ⊢
    generalize w.heap.size = b1 at X1 ⊢
    have x5 := (X1.out 5 _ rfl).1
    have x6 := (X1.out 6 _ rfl).1
    have x7 := (X1.out 7 _ rfl).1
    have x8 := (X1.out 8 _ rfl).1
    have x9 := (X1.out 9 _ rfl).1
    have x10 := (X1.out 10 _ rfl).1
    have x0 := (X1.out 0 _ rfl).1
    have qa := (Q.refl W0).alloc (.cells #[.int .i64 ok, .string ky, .string vl, .string lo, .string hi, .int .i64 m] 23)
    replace X1 := Lib.hid ((X1.out).q qa)
    replace QF := Lib.hid ((QF.out).trans qa)
    have X3 : Hid (Bx (W0.alloc (.cells #[.int .i64 ok, .string ky, .string vl, .string lo, .string hi, .int .i64 m] 23)) W0.heap.size [.int .i64 ok, .string ky, .string vl, .string lo, .string hi, .int .i64 m]) := Lib.hid (Bx.new W0 [.int .i64 ok, .string ky, .string vl, .string lo, .string hi, .int .i64 m] 23)
    clear qa
    go_upto_region 2 with (fail)
    generalize W0.alloc (.cells #[.int .i64 ok, .string ky, .string vl, .string lo, .string hi, .int .i64 m] 23) = W3 at X1 X3 QF ⊢
    generalize W0.heap.size = b3 at X3 ⊢
    clear x5
    clear x6
    clear x7
    clear x8
    clear x9
    clear x10
    clear x0
    have x0 := (X1.out 0 _ rfl).1
    have y0 := (X3.out 0 _ rfl).1
    have y1 := (X3.out 1 _ rfl).1
    have y2 := (X3.out 2 _ rfl).1
    have y3 := (X3.out 3 _ rfl).1
    have y4 := (X3.out 4 _ rfl).1
    have y5 := (X3.out 5 _ rfl).1
    go_wp2
    go_ret
    exact ⟨ret_bool (by rw [HT.out] <;> (first | (rfl; done) | (simp; intros; omega))), QF.out⟩

set_option maxHeartbeats 4000000 in
theorem pmay_any (q : Rq) (w : World) : Calls Try.prog 7 #[rqV q] w fun e' w' => e' = .returned (.bool (may q)) ∧ Q w w' := by
  obtain ⟨k, e, s, n, t, ⟨ok, ky, vl, lo, hi, m⟩⟩ := q
  show Calls _ _ #[.agg #[.int .i64 k, .int .i64 e, .int .i64 s, .int .i64 n, .string t, .int .i64 ok, .string ky, .string vl, .string lo, .string hi, .int .i64 m]] _ _
  have X1 : Hid (Bx (w.alloc (.cells #[.int .i64 k, .int .i64 e, .int .i64 s, .int .i64 n, .string t, .int .i64 ok, .string ky, .string vl, .string lo, .string hi, .int .i64 m] 25)) w.heap.size [.int .i64 k, .int .i64 e, .int .i64 s, .int .i64 n, .string t, .int .i64 ok, .string ky, .string vl, .string lo, .string hi, .int .i64 m]) := Lib.hid (Bx.new w [.int .i64 k, .int .i64 e, .int .i64 s, .int .i64 n, .string t, .int .i64 ok, .string ky, .string vl, .string lo, .string hi, .int .i64 m] 25)
  have QF := Lib.hid ((Q.refl w).alloc (.cells #[.int .i64 k, .int .i64 e, .int .i64 s, .int .i64 n, .string t, .int .i64 ok, .string ky, .string vl, .string lo, .string hi, .int .i64 m] 25))
  have HT : Hid ((decide (1 ≤ k) && decide (k ≤ 6) && !([e, s, n].any big) && tokOk k t && opOk k ⟨ok, ky, vl, lo, hi, m⟩) = may ⟨k, e, s, n, t, ⟨ok, ky, vl, lo, hi, m⟩⟩) := Lib.hid (mayO_eq _ _ _ _ _ _)
  have KN := Lib.hid (fun W => nums_any (some ⟨W.heap.size, 0, none⟩) 3 3 [e, s, n] (W.alloc (.cells #[.int .i64 e, .int .i64 s, .int .i64 n] 3)) (lst_litn W [e, s, n]) (by unfold maxLen; omega))
  have KT := Lib.hid (fun W => mayToken_any k e s n t ok ky vl lo hi m W)
  have KO := Lib.hid (fun W => mayOpO_any k e s n t ok ky vl lo hi m W)
  generalize may ⟨k, e, s, n, t, ⟨ok, ky, vl, lo, hi, m⟩⟩ = res at HT ⊢
  generalize [e, s, n].any big = an at KN HT
  generalize tokOk k t = tt at KT HT
  generalize opOk k ⟨ok, ky, vl, lo, hi, m⟩ = oo at KO HT
  by_cases c1 : 1 ≤ k
  · have c1i : (1 : Int) ≤ k := by omega
    by_cases c2 : k ≤ 6
    · have c2i : k ≤ (6 : Int) := by omega
      cases an with
      | true =>
        go_enter Try.func7, Try.ntmps7
        go_upto_region 1 with (fail)
        generalize w.alloc (.cells #[.int .i64 k, .int .i64 e, .int .i64 s, .int .i64 n, .string t, .int .i64 ok, .string ky, .string vl, .string lo, .string hi, .int .i64 m] 25) = W0 at X1 QF ⊢
        generalize w.heap.size = b1 at X1 ⊢
        have x0 := (X1.out 0 _ rfl).1
        have x1 := (X1.out 1 _ rfl).1
        have x2 := (X1.out 2 _ rfl).1
        have x3 := (X1.out 3 _ rfl).1
        go_wp2_with fail
        refine (KN.out _).mono ?_
        rintro e1 w1 ⟨rfl, q1⟩
        have q2 := ((Q.refl W0).alloc (.cells #[.int .i64 e, .int .i64 s, .int .i64 n] 3)).trans q1
        replace X1 := Lib.hid (X1.out.q q2)
        replace QF := Lib.hid (QF.out.trans q2)
        clear q1 q2 x0 x1 x2 x3
        have x0 := (X1.out 0 _ rfl).1
        have x1 := (X1.out 1 _ rfl).1
        have x2 := (X1.out 2 _ rfl).1
        have x3 := (X1.out 3 _ rfl).1
        have x4 := (X1.out 4 _ rfl).1
        have x5 := (X1.out 5 _ rfl).1
        have x6 := (X1.out 6 _ rfl).1
        have x7 := (X1.out 7 _ rfl).1
        have x8 := (X1.out 8 _ rfl).1
        have x9 := (X1.out 9 _ rfl).1
        have x10 := (X1.out 10 _ rfl).1
        go_wp2
        go_ret
        exact ⟨ret_bool (by rw [← HT.out] <;> (first | (simp [c1, c2]; done) | (simp; intros; omega))), QF.out⟩
      | false =>
        cases tt with
        | false =>
          go_enter Try.func7, Try.ntmps7
          go_upto_region 1 with (fail)
          generalize w.alloc (.cells #[.int .i64 k, .int .i64 e, .int .i64 s, .int .i64 n, .string t, .int .i64 ok, .string ky, .string vl, .string lo, .string hi, .int .i64 m] 25) = W0 at X1 QF ⊢
          generalize w.heap.size = b1 at X1 ⊢
          have x0 := (X1.out 0 _ rfl).1
          have x1 := (X1.out 1 _ rfl).1
          have x2 := (X1.out 2 _ rfl).1
          have x3 := (X1.out 3 _ rfl).1
          go_wp2_with fail
          refine (KN.out _).mono ?_
          rintro e1 w1 ⟨rfl, q1⟩
          have q2 := ((Q.refl W0).alloc (.cells #[.int .i64 e, .int .i64 s, .int .i64 n] 3)).trans q1
          replace X1 := Lib.hid (X1.out.q q2)
          replace QF := Lib.hid (QF.out.trans q2)
          clear q1 q2 x0 x1 x2 x3
          have x0 := (X1.out 0 _ rfl).1
          have x1 := (X1.out 1 _ rfl).1
          have x2 := (X1.out 2 _ rfl).1
          have x3 := (X1.out 3 _ rfl).1
          have x4 := (X1.out 4 _ rfl).1
          have x5 := (X1.out 5 _ rfl).1
          have x6 := (X1.out 6 _ rfl).1
          have x7 := (X1.out 7 _ rfl).1
          have x8 := (X1.out 8 _ rfl).1
          have x9 := (X1.out 9 _ rfl).1
          have x10 := (X1.out 10 _ rfl).1
          go_wp2_with fail
          refine (KT.out _).mono ?_
          rintro e2 w2 ⟨rfl, q2⟩
          replace X1 := Lib.hid (X1.out.q q2)
          replace QF := Lib.hid (QF.out.trans q2)
          clear q2 x0 x1 x2 x3 x4 x5 x6 x7 x8 x9 x10
          have x0 := (X1.out 0 _ rfl).1
          have x1 := (X1.out 1 _ rfl).1
          have x2 := (X1.out 2 _ rfl).1
          have x3 := (X1.out 3 _ rfl).1
          have x4 := (X1.out 4 _ rfl).1
          have x5 := (X1.out 5 _ rfl).1
          have x6 := (X1.out 6 _ rfl).1
          have x7 := (X1.out 7 _ rfl).1
          have x8 := (X1.out 8 _ rfl).1
          have x9 := (X1.out 9 _ rfl).1
          have x10 := (X1.out 10 _ rfl).1
          go_wp2
          go_ret
          exact ⟨ret_bool (by rw [← HT.out] <;> (first | (simp [c1, c2]; done) | (simp; intros; omega))), QF.out⟩
        | true =>
          cases oo with
          | false =>
            go_enter Try.func7, Try.ntmps7
            go_upto_region 1 with (fail)
            generalize w.alloc (.cells #[.int .i64 k, .int .i64 e, .int .i64 s, .int .i64 n, .string t, .int .i64 ok, .string ky, .string vl, .string lo, .string hi, .int .i64 m] 25) = W0 at X1 QF ⊢
            generalize w.heap.size = b1 at X1 ⊢
            have x0 := (X1.out 0 _ rfl).1
            have x1 := (X1.out 1 _ rfl).1
            have x2 := (X1.out 2 _ rfl).1
            have x3 := (X1.out 3 _ rfl).1
            go_wp2_with fail
            refine (KN.out _).mono ?_
            rintro e1 w1 ⟨rfl, q1⟩
            have q2 := ((Q.refl W0).alloc (.cells #[.int .i64 e, .int .i64 s, .int .i64 n] 3)).trans q1
            replace X1 := Lib.hid (X1.out.q q2)
            replace QF := Lib.hid (QF.out.trans q2)
            clear q1 q2 x0 x1 x2 x3
            have x0 := (X1.out 0 _ rfl).1
            have x1 := (X1.out 1 _ rfl).1
            have x2 := (X1.out 2 _ rfl).1
            have x3 := (X1.out 3 _ rfl).1
            have x4 := (X1.out 4 _ rfl).1
            have x5 := (X1.out 5 _ rfl).1
            have x6 := (X1.out 6 _ rfl).1
            have x7 := (X1.out 7 _ rfl).1
            have x8 := (X1.out 8 _ rfl).1
            have x9 := (X1.out 9 _ rfl).1
            have x10 := (X1.out 10 _ rfl).1
            go_wp2_with fail
            refine (KT.out _).mono ?_
            rintro e2 w2 ⟨rfl, q2⟩
            replace X1 := Lib.hid (X1.out.q q2)
            replace QF := Lib.hid (QF.out.trans q2)
            clear q2 x0 x1 x2 x3 x4 x5 x6 x7 x8 x9 x10
            have x0 := (X1.out 0 _ rfl).1
            have x1 := (X1.out 1 _ rfl).1
            have x2 := (X1.out 2 _ rfl).1
            have x3 := (X1.out 3 _ rfl).1
            have x4 := (X1.out 4 _ rfl).1
            have x5 := (X1.out 5 _ rfl).1
            have x6 := (X1.out 6 _ rfl).1
            have x7 := (X1.out 7 _ rfl).1
            have x8 := (X1.out 8 _ rfl).1
            have x9 := (X1.out 9 _ rfl).1
            have x10 := (X1.out 10 _ rfl).1
            go_wp2_with fail
            refine (KO.out _).mono ?_
            rintro e3 w3 ⟨rfl, q2⟩
            replace QF := Lib.hid (QF.out.trans q2)
            clear q2
            go_wp2
            go_ret
            exact ⟨ret_bool (by rw [← HT.out] <;> (first | (simp [c1, c2]; done) | (simp; intros; omega))), QF.out⟩
          | true =>
            go_enter Try.func7, Try.ntmps7
            go_upto_region 1 with (fail)
            generalize w.alloc (.cells #[.int .i64 k, .int .i64 e, .int .i64 s, .int .i64 n, .string t, .int .i64 ok, .string ky, .string vl, .string lo, .string hi, .int .i64 m] 25) = W0 at X1 QF ⊢
            generalize w.heap.size = b1 at X1 ⊢
            have x0 := (X1.out 0 _ rfl).1
            have x1 := (X1.out 1 _ rfl).1
            have x2 := (X1.out 2 _ rfl).1
            have x3 := (X1.out 3 _ rfl).1
            go_wp2_with fail
            refine (KN.out _).mono ?_
            rintro e1 w1 ⟨rfl, q1⟩
            have q2 := ((Q.refl W0).alloc (.cells #[.int .i64 e, .int .i64 s, .int .i64 n] 3)).trans q1
            replace X1 := Lib.hid (X1.out.q q2)
            replace QF := Lib.hid (QF.out.trans q2)
            clear q1 q2 x0 x1 x2 x3
            have x0 := (X1.out 0 _ rfl).1
            have x1 := (X1.out 1 _ rfl).1
            have x2 := (X1.out 2 _ rfl).1
            have x3 := (X1.out 3 _ rfl).1
            have x4 := (X1.out 4 _ rfl).1
            have x5 := (X1.out 5 _ rfl).1
            have x6 := (X1.out 6 _ rfl).1
            have x7 := (X1.out 7 _ rfl).1
            have x8 := (X1.out 8 _ rfl).1
            have x9 := (X1.out 9 _ rfl).1
            have x10 := (X1.out 10 _ rfl).1
            go_wp2_with fail
            refine (KT.out _).mono ?_
            rintro e2 w2 ⟨rfl, q2⟩
            replace X1 := Lib.hid (X1.out.q q2)
            replace QF := Lib.hid (QF.out.trans q2)
            clear q2 x0 x1 x2 x3 x4 x5 x6 x7 x8 x9 x10
            have x0 := (X1.out 0 _ rfl).1
            have x1 := (X1.out 1 _ rfl).1
            have x2 := (X1.out 2 _ rfl).1
            have x3 := (X1.out 3 _ rfl).1
            have x4 := (X1.out 4 _ rfl).1
            have x5 := (X1.out 5 _ rfl).1
            have x6 := (X1.out 6 _ rfl).1
            have x7 := (X1.out 7 _ rfl).1
            have x8 := (X1.out 8 _ rfl).1
            have x9 := (X1.out 9 _ rfl).1
            have x10 := (X1.out 10 _ rfl).1
            go_wp2_with fail
            refine (KO.out _).mono ?_
            rintro e3 w3 ⟨rfl, q2⟩
            replace QF := Lib.hid (QF.out.trans q2)
            clear q2
            go_wp2
            go_ret
            exact ⟨ret_bool (by rw [← HT.out] <;> (first | (simp [c1, c2]; done) | (simp; intros; omega))), QF.out⟩
    · have c2i : ¬ k ≤ (6 : Int) := by omega
      go_enter Try.func7, Try.ntmps7
      go_upto_region 1 with (fail)
      generalize w.alloc (.cells #[.int .i64 k, .int .i64 e, .int .i64 s, .int .i64 n, .string t, .int .i64 ok, .string ky, .string vl, .string lo, .string hi, .int .i64 m] 25) = W0 at X1 QF ⊢
      generalize w.heap.size = b1 at X1 ⊢
      have x0 := (X1.out 0 _ rfl).1
      have x1 := (X1.out 1 _ rfl).1
      have x2 := (X1.out 2 _ rfl).1
      have x3 := (X1.out 3 _ rfl).1
      go_wp2
      go_ret
      exact ⟨ret_bool (by rw [← HT.out] <;> (first | (simp [c1, c2]; done) | (simp; intros; omega))), QF.out⟩
  · have c1i : ¬ (1 : Int) ≤ k := by omega
    go_enter Try.func7, Try.ntmps7
    go_upto_region 1 with (fail)
    generalize w.alloc (.cells #[.int .i64 k, .int .i64 e, .int .i64 s, .int .i64 n, .string t, .int .i64 ok, .string ky, .string vl, .string lo, .string hi, .int .i64 m] 25) = W0 at X1 QF ⊢
    generalize w.heap.size = b1 at X1 ⊢
    have x0 := (X1.out 0 _ rfl).1
    have x1 := (X1.out 1 _ rfl).1
    have x2 := (X1.out 2 _ rfl).1
    have x3 := (X1.out 3 _ rfl).1
    go_wp2
    go_ret
    exact ⟨ret_bool (by rw [← HT.out] <;> (first | (simp [c1]; done) | (simp; intros; omega))), QF.out⟩

theorem mayPO_eq (p : Rp) : (!([p.epoch, p.sess, p.seq].any big) && decide (0 ≤ p.err) && decide (p.err ≤ 16) && decide (p.val.size ≤ 64) && (decide (p.rows.length ≤ 16) && right p.rows && !p.rows.any longP)) = mayP p := by
  have hb : (!([p.epoch, p.sess, p.seq].any big)) = (small p.epoch && small p.sess && small p.seq) := by rw [Bool.eq_iff_iff]; simp [big, and_assoc]
  have hl : (!p.rows.any longP) = p.rows.all rowOk := by
    rw [Bool.eq_iff_iff]
    simp only [Bool.not_eq_true', List.any_eq_false, List.all_eq_true]
    constructor
    · intro h x hx
      have := h x hx
      unfold longP longK at this
      unfold rowOk
      simp at this ⊢
      exact this
    · intro h x hx
      have := h x hx
      unfold rowOk at this
      unfold longP longK
      simp at this ⊢
      exact this
  rw [hb, hl]
  unfold mayP
  cases small p.epoch <;> cases small p.sess <;> cases small p.seq <;> cases right p.rows <;> simp
  by_cases h1 : p.err < 0
  · simp [h1]; intro h; omega
  by_cases h2 : 16 < p.err
  · simp [h2]; intro _ h; omega
  by_cases h3 : 64 < p.val.size
  · simp [h1, h2, h3]; intro _ _ h; omega
  by_cases h4 : 16 < p.rows.length
  · simp [h1, h2, h3, h4]; intros; omega
  · simp [h1, h2, h3, h4]
    rw [Bool.eq_iff_iff]; simp
    exact ⟨fun h => h.2.2, fun h => ⟨⟨⟨by omega, by omega⟩, by omega⟩, by omega, h⟩⟩
set_option maxHeartbeats 4000000 in
theorem pmayP_any (p : Rp) (A : Option Addr) (N c : Nat) (w : World) (hA : Lst pairK w A N p.rows) (hmx : N ≤ maxLen) :
    Calls Try.prog 10 #[rpV p A N c] w fun e w' => e = .returned (.bool (mayP p)) ∧ Q w w' := by
  show Calls _ _ #[.agg #[.int .i64 p.epoch, .int .i64 p.sess, .int .i64 p.seq, .int .i64 p.err, .string p.val, .bool p.found, .slice A N c, .bool p.over]] _ _
  have X1 : Hid (Bx (w.alloc (.cells #[.int .i64 p.epoch, .int .i64 p.sess, .int .i64 p.seq, .int .i64 p.err, .string p.val, .bool p.found, .slice A N c, .bool p.over] 29)) w.heap.size [.int .i64 p.epoch, .int .i64 p.sess, .int .i64 p.seq, .int .i64 p.err, .string p.val, .bool p.found, .slice A N c, .bool p.over]) := Lib.hid (Bx.new w [.int .i64 p.epoch, .int .i64 p.sess, .int .i64 p.seq, .int .i64 p.err, .string p.val, .bool p.found, .slice A N c, .bool p.over] 29)
  have QF := Lib.hid ((Q.refl w).alloc (.cells #[.int .i64 p.epoch, .int .i64 p.sess, .int .i64 p.seq, .int .i64 p.err, .string p.val, .bool p.found, .slice A N c, .bool p.over] 29))
  have HT : Hid ((!([p.epoch, p.sess, p.seq].any big) && decide (0 ≤ p.err) && decide (p.err ≤ 16) && decide (p.val.size ≤ 64) && (decide (p.rows.length ≤ 16) && right p.rows && !p.rows.any longP)) = mayP p) := Lib.hid (mayPO_eq p)
  have KN := Lib.hid (fun W => nums_any (some ⟨W.heap.size, 0, none⟩) 3 3 [p.epoch, p.sess, p.seq] (W.alloc (.cells #[.int .i64 p.epoch, .int .i64 p.sess, .int .i64 p.seq] 3)) (lst_litn W [p.epoch, p.sess, p.seq]) (by unfold maxLen; omega))
  have KR := Lib.hid (fun W (q : Q w W) => rows_any A N c p.rows W (hA.q q) hmx)
  generalize mayP p = res at HT ⊢
  generalize [p.epoch, p.sess, p.seq].any big = an at KN HT
  generalize (decide (p.rows.length ≤ 16) && right p.rows && !p.rows.any longP) = rr at KR HT
  clear hA hmx
  cases an with
  | true =>
    go_enter Try.func10, Try.ntmps10
    go_upto_region 1 with (fail)
    generalize w.alloc (.cells #[.int .i64 p.epoch, .int .i64 p.sess, .int .i64 p.seq, .int .i64 p.err, .string p.val, .bool p.found, .slice A N c, .bool p.over] 29) = W0 at X1 QF ⊢
    generalize w.heap.size = b1 at X1 ⊢
    have x0 := (X1.out 0 _ rfl).1
    have x1 := (X1.out 1 _ rfl).1
    have x2 := (X1.out 2 _ rfl).1
    go_wp2_with fail
    refine (KN.out _).mono ?_
    rintro e1 w1 ⟨rfl, q1⟩
    have q2 := ((Q.refl W0).alloc (.cells #[.int .i64 p.epoch, .int .i64 p.sess, .int .i64 p.seq] 3)).trans q1
    replace X1 := Lib.hid (X1.out.q q2)
    replace QF := Lib.hid (QF.out.trans q2)
    clear q1 q2 x0 x1 x2
    have x3 := (X1.out 3 _ rfl).1
    have x4 := (X1.out 4 _ rfl).1
    have x6 := (X1.out 6 _ rfl).1
    go_wp2
    go_ret
    exact ⟨ret_bool (by rw [← HT.out] <;> (first | (simp; done) | (simp; intros; omega))), QF.out⟩
  | false =>
    by_cases c1 : 0 ≤ p.err
    · by_cases c2 : p.err ≤ 16
      · by_cases c3 : p.val.size ≤ 64
        · have c3i : (p.val.size : Int) ≤ 64 := by omega
          cases rr with
          | true =>
            go_enter Try.func10, Try.ntmps10
            go_upto_region 1 with (fail)
            generalize w.alloc (.cells #[.int .i64 p.epoch, .int .i64 p.sess, .int .i64 p.seq, .int .i64 p.err, .string p.val, .bool p.found, .slice A N c, .bool p.over] 29) = W0 at X1 QF ⊢
            generalize w.heap.size = b1 at X1 ⊢
            have x0 := (X1.out 0 _ rfl).1
            have x1 := (X1.out 1 _ rfl).1
            have x2 := (X1.out 2 _ rfl).1
            go_wp2_with fail
            refine (KN.out _).mono ?_
            rintro e1 w1 ⟨rfl, q1⟩
            have q2 := ((Q.refl W0).alloc (.cells #[.int .i64 p.epoch, .int .i64 p.sess, .int .i64 p.seq] 3)).trans q1
            replace X1 := Lib.hid (X1.out.q q2)
            replace QF := Lib.hid (QF.out.trans q2)
            clear q1 q2 x0 x1 x2
            have x3 := (X1.out 3 _ rfl).1
            have x4 := (X1.out 4 _ rfl).1
            have x6 := (X1.out 6 _ rfl).1
            go_wp2_with fail
            refine (KR.out _ QF.out).mono ?_
            rintro e2 w2 ⟨rfl, q2⟩
            replace QF := Lib.hid (QF.out.trans q2)
            clear q2
            go_wp2
            go_ret
            exact ⟨ret_bool (by rw [← HT.out] <;> (first | (simp [c1, c2, c3]; done) | (simp; intros; omega))), QF.out⟩
          | false =>
            go_enter Try.func10, Try.ntmps10
            go_upto_region 1 with (fail)
            generalize w.alloc (.cells #[.int .i64 p.epoch, .int .i64 p.sess, .int .i64 p.seq, .int .i64 p.err, .string p.val, .bool p.found, .slice A N c, .bool p.over] 29) = W0 at X1 QF ⊢
            generalize w.heap.size = b1 at X1 ⊢
            have x0 := (X1.out 0 _ rfl).1
            have x1 := (X1.out 1 _ rfl).1
            have x2 := (X1.out 2 _ rfl).1
            go_wp2_with fail
            refine (KN.out _).mono ?_
            rintro e1 w1 ⟨rfl, q1⟩
            have q2 := ((Q.refl W0).alloc (.cells #[.int .i64 p.epoch, .int .i64 p.sess, .int .i64 p.seq] 3)).trans q1
            replace X1 := Lib.hid (X1.out.q q2)
            replace QF := Lib.hid (QF.out.trans q2)
            clear q1 q2 x0 x1 x2
            have x3 := (X1.out 3 _ rfl).1
            have x4 := (X1.out 4 _ rfl).1
            have x6 := (X1.out 6 _ rfl).1
            go_wp2_with fail
            refine (KR.out _ QF.out).mono ?_
            rintro e2 w2 ⟨rfl, q2⟩
            replace QF := Lib.hid (QF.out.trans q2)
            clear q2
            go_wp2
            go_ret
            exact ⟨ret_bool (by rw [← HT.out] <;> (first | (simp [c1, c2, c3]; done) | (simp; intros; omega))), QF.out⟩
        · have c3i : ¬ (p.val.size : Int) ≤ 64 := by omega
          go_enter Try.func10, Try.ntmps10
          go_upto_region 1 with (fail)
          generalize w.alloc (.cells #[.int .i64 p.epoch, .int .i64 p.sess, .int .i64 p.seq, .int .i64 p.err, .string p.val, .bool p.found, .slice A N c, .bool p.over] 29) = W0 at X1 QF ⊢
          generalize w.heap.size = b1 at X1 ⊢
          have x0 := (X1.out 0 _ rfl).1
          have x1 := (X1.out 1 _ rfl).1
          have x2 := (X1.out 2 _ rfl).1
          go_wp2_with fail
          refine (KN.out _).mono ?_
          rintro e1 w1 ⟨rfl, q1⟩
          have q2 := ((Q.refl W0).alloc (.cells #[.int .i64 p.epoch, .int .i64 p.sess, .int .i64 p.seq] 3)).trans q1
          replace X1 := Lib.hid (X1.out.q q2)
          replace QF := Lib.hid (QF.out.trans q2)
          clear q1 q2 x0 x1 x2
          have x3 := (X1.out 3 _ rfl).1
          have x4 := (X1.out 4 _ rfl).1
          have x6 := (X1.out 6 _ rfl).1
          go_wp2
          go_ret
          exact ⟨ret_bool (by rw [← HT.out] <;> (first | (simp [c1, c2, c3]; done) | (simp; intros; omega))), QF.out⟩
      · have c2i : ¬ p.err ≤ (16 : Int) := by omega
        go_enter Try.func10, Try.ntmps10
        go_upto_region 1 with (fail)
        generalize w.alloc (.cells #[.int .i64 p.epoch, .int .i64 p.sess, .int .i64 p.seq, .int .i64 p.err, .string p.val, .bool p.found, .slice A N c, .bool p.over] 29) = W0 at X1 QF ⊢
        generalize w.heap.size = b1 at X1 ⊢
        have x0 := (X1.out 0 _ rfl).1
        have x1 := (X1.out 1 _ rfl).1
        have x2 := (X1.out 2 _ rfl).1
        go_wp2_with fail
        refine (KN.out _).mono ?_
        rintro e1 w1 ⟨rfl, q1⟩
        have q2 := ((Q.refl W0).alloc (.cells #[.int .i64 p.epoch, .int .i64 p.sess, .int .i64 p.seq] 3)).trans q1
        replace X1 := Lib.hid (X1.out.q q2)
        replace QF := Lib.hid (QF.out.trans q2)
        clear q1 q2 x0 x1 x2
        have x3 := (X1.out 3 _ rfl).1
        have x4 := (X1.out 4 _ rfl).1
        have x6 := (X1.out 6 _ rfl).1
        go_wp2
        go_ret
        exact ⟨ret_bool (by rw [← HT.out] <;> (first | (simp [c1, c2]; done) | (simp; intros; omega))), QF.out⟩
    · have c1i : ¬ (0 : Int) ≤ p.err := by omega
      go_enter Try.func10, Try.ntmps10
      go_upto_region 1 with (fail)
      generalize w.alloc (.cells #[.int .i64 p.epoch, .int .i64 p.sess, .int .i64 p.seq, .int .i64 p.err, .string p.val, .bool p.found, .slice A N c, .bool p.over] 29) = W0 at X1 QF ⊢
      generalize w.heap.size = b1 at X1 ⊢
      have x0 := (X1.out 0 _ rfl).1
      have x1 := (X1.out 1 _ rfl).1
      have x2 := (X1.out 2 _ rfl).1
      go_wp2_with fail
      refine (KN.out _).mono ?_
      rintro e1 w1 ⟨rfl, q1⟩
      have q2 := ((Q.refl W0).alloc (.cells #[.int .i64 p.epoch, .int .i64 p.sess, .int .i64 p.seq] 3)).trans q1
      replace X1 := Lib.hid (X1.out.q q2)
      replace QF := Lib.hid (QF.out.trans q2)
      clear q1 q2 x0 x1 x2
      have x3 := (X1.out 3 _ rfl).1
      have x4 := (X1.out 4 _ rfl).1
      have x6 := (X1.out 6 _ rfl).1
      go_wp2
      go_ret
      exact ⟨ret_bool (by rw [← HT.out] <;> (first | (simp [c1]; done) | (simp; intros; omega))), QF.out⟩
end Wi
end Go.Proofs.Ytdipikdebapmlaa

/- A region that draws its order: the condition on the world may be made stronger on the way. -/
namespace Go
set_option maxRecDepth 100000
section
variable {P : Program} {ops : Array Oper} {Q : Exit → Act → World → Prop} {md : Region.Mode} {S S' : World → Prop}
end
end Go

/- A region that draws its order and stores, as its operation k, into a cell that it loads: what is known of the world is asked only till k comes up; a load may be taken first if k waits for it. -/
namespace Go.Proofs.Ytdipikdebapmlaa
set_option maxRecDepth 100000
section
variable {P : Program} {ops : Array Oper} {Q : Exit → Act → World → Prop} {md : Region.Mode} {k : Nat}

variable {S S' : World → Prop}
end
end Go.Proofs.Ytdipikdebapmlaa

/- The contracts of the document's num, text, Req (chapter 16). -/
namespace Go.Proofs.Ytdipikdebapmlaa
set_option maxRecDepth 100000
open Go.RowKit
set_option linter.unusedVariables false
set_option linter.unusedSimpArgs false
namespace Wi

theorem ba_app (a b : List UInt8) : ba a ++ ba b = ba (a ++ b) := by
  apply ByteArray.ext
  apply Array.ext'
  unfold ba
  simp
theorem ptx_eq (s : ByteArray) : (⟨(Dm.num s.size ++ s.data.toList).toArray⟩ : ByteArray) = ba (ptx s) := by
  unfold ba ptx Rn.ptx
  rw [Rn.size_data]
end Wi
end Go.Proofs.Ytdipikdebapmlaa

/- Contracts: strings.Builder's copyCheck, WriteString, String, at a builder that the call has made. -/
namespace Go.Proofs.Ytdipikdebapmlaa
set_option maxRecDepth 100000
open Go.RowKit
set_option linter.unusedVariables false

theorem bld_size : (Try.prog.info? 47).map (fun i => i.size) = some 2 := by kernel_rfl
theorem bld_lies : liesAt Try.prog Try.prog.depth 47 (2 / Try.prog.cellsOf 47) 0 47 1 = true := by kernel_rfl
theorem byte_info : (Try.prog.info? 5).map (fun i => (i.zero, i.size, i.bytes)) = some (some (.int .u8 0), 1, 1) := by kernel_rfl

set_option maxHeartbeats 1000000 in
set_option maxRecDepth 100000 in
theorem check_used (b : Nat) (w : World) (h0 : w.cell? ⟨b, 0, none⟩ = some (.pointer (some ⟨b, 0, none⟩))) :
    Calls Try.prog 23 #[.pointer (some ⟨b, 0, none⟩)] w fun e w' => e = .returned (.tuple #[]) ∧ w' = w := by
  obtain ⟨j, hj, _⟩ := Option.map_eq_some_iff.1 bld_size
  go_enter Try.func23, Try.ntmps23
  go_wp2
  rw [Lib.run_neq_ptr_same w _ Try.underlying44 hj]
  go_wp2
  go_end0
  exact ⟨rfl, rfl⟩

set_option maxHeartbeats 1000000 in
set_option maxRecDepth 100000 in
theorem check_fresh (b : Nat) (w : World) (h0 : w.cell? ⟨b, 0, none⟩ = some (.pointer none)) (hsh : w.shape? b = some (47, 2)) (hfz : w.frozen? ⟨b, 0, none⟩ = false) :
    Calls Try.prog 23 #[.pointer (some ⟨b, 0, none⟩)] w fun e w' => e = .returned (.tuple #[]) ∧ w' = w.setCell ⟨b, 0, none⟩ (.pointer (some ⟨b, 0, none⟩)) := by
  obtain ⟨j, hj, hjs⟩ := Option.map_eq_some_iff.1 bld_size
  go_enter Try.func23, Try.ntmps23
  go_wp2
  rw [Lib.run_to_unsafe w ⟨b, 0, none⟩ Try.underlying44 Try.underlying68 hj (by rw [hjs]; decide) hsh (Nat.zero_lt_succ 1)]
  simp only [Result.andThen]
  rw [Oper.upon_value]
  go_wp2
  rw [run_callFunc_extern Try.func30 (by kernel_rfl) (by kernel_rfl) (by kernel_rfl) (e := Extern.AbiNoEscape.same) (by kernel_rfl)]
  rw [Lib.run_noEscape]
  simp only [Result.andThen]
  rw [Oper.upon_value]
  go_wp2
  rw [Lib.run_from_unsafe w ⟨b, 0, none⟩ Try.underlying68 Try.underlying44 hj hsh bld_lies]
  simp only [Result.andThen]
  rw [Oper.upon_value]
  go_wp2
  go_end0
  exact ⟨rfl, rfl⟩

abbrev BldAt (B b : Nat) (p : Value) (l : List UInt8) (w : World) : Prop := Lib.BuilderAt 47 5 B b p (Lib.byteCells l) w
/-- a builder in block b that holds these bytes. -/
def Bld (B b : Nat) (l : List UInt8) (w : World) : Prop := Lib.IsBuilder 47 5 B b (Lib.byteCells l) w

theorem check_any (B b : Nat) (l : List UInt8) (w : World) (h : Bld B b l w) :
    Calls Try.prog 23 #[.pointer (some ⟨b, 0, none⟩)] w fun e w' => e = .returned (.tuple #[]) ∧ BldAt B b (.pointer (some ⟨b, 0, none⟩)) l w' ∧ Below B w w' ∧ ∀ X, X ≠ b → w'.heap[X]? = w.heap[X]? := by
  rcases h with h | h
  · refine (check_fresh b w h.cell0 h.shape h.frozen0).mono ?_
    rintro e w' ⟨rfl, rfl⟩
    exact ⟨rfl, h.used _, (Below.refl B w).setCell (p := ⟨b, 0, none⟩) h.1 _, fun X hX => heap_setCell_other w ⟨b, 0, none⟩ X _ hX⟩
  · refine (check_used b w h.cell0).mono ?_
    rintro e w' ⟨rfl, rfl⟩
    exact ⟨rfl, h, Below.refl B _, fun _ _ => rfl⟩
/-- all rows but those of bytes, and the builder itself, are as they were. -/
def KeepB (b : Nat) (w w' : World) : Prop := ∀ X cs T fr, w.heap[X]? = some (.cells cs T fr) → T ≠ 5 → X ≠ b → w'.heap[X]? = some (.cells cs T fr)

theorem str_cells (s : ByteArray) : Lib.strCells s = Lib.byteCells s.data.toList := rfl
theorem byteCells_app (l m : List UInt8) : Lib.byteCells l ++ Lib.byteCells m = Lib.byteCells (l ++ m) := by simp [Lib.byteCells]
theorem byteCells_len (l : List UInt8) : (Lib.byteCells l).length = l.length := by simp [Lib.byteCells]

set_option maxHeartbeats 2000000 in
set_option maxRecDepth 100000 in
theorem write_any (B b : Nat) (l : List UInt8) (s : ByteArray) (w : World) (h : Bld B b l w) (hlen : l.length + s.size ≤ 140737488355328) (hBw : B ≤ w.heap.size) :
    Calls Try.prog 15 #[.pointer (some ⟨b, 0, none⟩), .string s] w fun e w' => e = .returned (.tuple #[.int .i64 s.size, .nilIface]) ∧ Bld B b (l ++ s.data.toList) w' ∧ Below B w w' ∧ KeepB b w w' := by
  obtain ⟨i0, hi, hz0, hz1, hz2⟩ := info_parts byte_info
  have hne : (47 : TypeId) ≠ 5 := by decide
  have hbl := byteCells_len l
  have HBL := Lib.hid hbl
  clear hbl
  go_enter Try.func15, Try.ntmps15
  go_wp2_with fail
  refine (check_any B b l _ h).mono ?_
  rintro e w1 ⟨rfl, ⟨hB, v, hbk, hown, hnv⟩, hb1, hk1⟩
  have HK1 := Lib.hid hk1
  clear hk1
  have c0 : w1.cell? ⟨b, 0, none⟩ = some (.pointer (some ⟨b, 0, none⟩)) := by rw [Lib.cell_of_heap hbk]; rfl
  have c1 : w1.cell? ⟨b, 1, none⟩ = some v := by rw [Lib.cell_of_heap hbk]; rfl
  go_wp2_with (at_builtin; refine Lib.wpList_append_own_string _ rfl _ _ 45 9 rfl B 5 i0 Try.underlying45 Try.underlying9 hi hz0 hz1 hz2 _ _ _ rfl hown s rfl ?c3 ?c4 ?c5 ?_)
  case c3 => unfold maxLen; have := HBL.out; omega
  case c4 => have := HBL.out; omega
  case c5 => have := hb1.size; omega
  intro v' w2 hown' hgrow _
  have hlt : b < w1.heap.size := by
    rcases Nat.lt_or_ge b w1.heap.size with h' | h'
    · exact h'
    · simp [Array.getElem?_eq_none h'] at hbk
  have hb2 : w2.heap[b]? = some (.cells #[.pointer (some ⟨b, 0, none⟩), v] 47 (0, 0)) := by
    rw [hgrow.block b hlt (fun e => hnv e.symm)]
    exact hbk
  have d0 : w2.cell? ⟨b, 0, none⟩ = some (.pointer (some ⟨b, 0, none⟩)) := by rw [Lib.cell_of_heap hb2]; rfl
  have d1 : w2.cell? ⟨b, 1, none⟩ = some v := by rw [Lib.cell_of_heap hb2]; rfl
  have f1 : w2.frozen? ⟨b, 1, none⟩ = false := Lib.frozen_of_heap hb2 1
  obtain ⟨ao, n', cap, rfl⟩ : ∃ ao n' cap, v' = .slice ao n' cap := by
    rcases hown'.2 with ⟨hv, _⟩ | ⟨g, cap, cur, hv, _⟩
    · exact ⟨_, _, _, hv⟩
    · exact ⟨_, _, _, hv⟩
  go_wp2
  go_ret2
  refine ⟨rfl, .inr ?_, ?_, fun X cs T fr hX hT hXb => ?_⟩
  · have := Lib.BuilderAt.put (T := 47) (e := 5) hB hb2 (bs' := Lib.byteCells l ++ Lib.strCells s) (by simpa [Lib.strCells_length] using hown') hne
    rw [str_cells, byteCells_app] at this
    exact this
  · exact (hb1.grown hgrow (by have := hb1.size; omega) (fun k hk => (hown.lt k hk).1)).setCell (p := ⟨b, 1, none⟩) hB _
  · rw [heap_setCell_other w2 ⟨b, 1, none⟩ X _ hXb]
    have hX1 : w1.heap[X]? = some (.cells cs T fr) := (HK1.out X hXb).trans hX
    have hlt1 : X < w1.heap.size := by
      rcases Nat.lt_or_ge X w1.heap.size with h' | h'
      · exact h'
      · rw [Array.getElem?_eq_none h'] at hX1; cases hX1
    rw [hgrow.block X hlt1 (fun e => Lib.ownBlock_ne hown hX1 hT e.symm)]
    exact hX1

theorem string_any (B b : Nat) (l : List UInt8) (w : World) (h : Bld B b l w) (hBw : B ≤ w.heap.size) :
    Calls Try.prog 17 #[.pointer (some ⟨b, 0, none⟩)] w fun e w' => e = .returned (.string ⟨l.toArray⟩) ∧ Below B w w' := Try.Builder_String_any B b l w h hBw
theorem owns_q {w w' : World} {base : Nat} {T : TypeId} {k : Nat} {v : Value} {n : Nat} {xs : List Value} (h : w.ownsRow base T k v n xs) (q : Q w w') : w'.ownsRow base T k v n xs := by
  refine ⟨h.1, ?_⟩
  rcases h.2 with ⟨e, h0⟩ | ⟨g, cap, cur, e, hg, hh, r⟩
  · exact .inl ⟨e, h0⟩
  · have hlt : g < w.heap.size := by
      rcases Nat.lt_or_ge g w.heap.size with hlt | hge
      · exact hlt
      · rw [Array.getElem?_eq_none hge] at hh; cases hh
    exact .inr ⟨g, cap, cur, e, hg, (q.below.block g hlt).trans hh, r⟩
theorem Bld.q {B b : Nat} {l : List UInt8} {w w' : World} (h : Bld B b l w) (q : Q w w') : Bld B b l w' := by
  have key : ∀ p, BldAt B b p l w → BldAt B b p l w' := by
    rintro p ⟨hB, v, hbk, hown, hnv⟩
    have hlt : b < w.heap.size := by
      rcases Nat.lt_or_ge b w.heap.size with h' | h'
      · exact h'
      · simp [Array.getElem?_eq_none h'] at hbk
    exact ⟨hB, v, (q.below.block b hlt).trans hbk, owns_q hown q, hnv⟩
  rcases h with h | h
  · exact .inl (key _ h)
  · exact .inr (key _ h)
theorem Bld.lt {B b : Nat} {l : List UInt8} {w : World} (h : Bld B b l w) : b < w.heap.size := by
  rcases h with h | h
  · exact h.lt
  · exact h.lt
theorem Bld.fresh (w : World) : Bld w.heap.size w.heap.size [] (w.alloc (.cells #[.pointer none, .slice none 0 0] 47)) := Lib.fresh_isBuilder _ _ w
end Go.Proofs.Ytdipikdebapmlaa

/- Contracts: the package's nums, texts, word. -/
namespace Go.Proofs.Ytdipikdebapmlaa
set_option maxRecDepth 100000
open Go.RowKit
set_option linter.unusedVariables false
set_option linter.unusedSimpArgs false
namespace Wi

def catN (l : List Int) : List UInt8 := l.flatMap num
def catT (l : List ByteArray) : List UInt8 := l.flatMap ptx
theorem catN_snoc (l : List Int) {k : Nat} (hk : k < l.length) : catN (l.take (k + 1)) = catN (l.take k) ++ num l[k] := by
  unfold catN; rw [List.take_succ_eq_append_getElem hk, List.flatMap_append]; simp
theorem catT_snoc (l : List ByteArray) {k : Nat} (hk : k < l.length) : catT (l.take (k + 1)) = catT (l.take k) ++ ptx l[k] := by
  unfold catT; rw [List.take_succ_eq_append_getElem hk, List.flatMap_append]; simp
theorem catN_len (l : List Int) (h : ∀ x ∈ l, small x = true) : (catN l).length ≤ 21 * l.length := by
  induction l with
  | nil => simp [catN]
  | cons a l ih =>
    have h1 := num_len (h a (by simp))
    have h2 := ih (fun x hx => h x (by simp [hx]))
    unfold catN at h2 ⊢
    simp only [List.flatMap_cons, List.length_append, List.length_cons]
    omega
theorem catT_len (l : List ByteArray) (h : ∀ x ∈ l, x.size ≤ 64) : (catT l).length ≤ 67 * l.length := by
  induction l with
  | nil => simp [catT]
  | cons a l ih =>
    have h0 := h a (by simp)
    have h1 := ptx_len (s := a) (by omega)
    have h2 := ih (fun x hx => h x (by simp [hx]))
    unfold catT at h2 ⊢
    simp only [List.flatMap_cons, List.length_append, List.length_cons]
    omega

set_option maxHeartbeats 4000000 in
theorem onums_any (A : Option Addr) (n c : Nat) (l : List Int) (w : World) (hf : Lst numK w A n l) (hn : n ≤ 4) (hs : ∀ x ∈ l, small x = true) :
    Calls Try.prog 8 #[.slice A n c] w fun e w' => e = .returned (.string (ba (catN l))) ∧ Q w w' := by
  have HF := Lib.hid hf
  have hlen := hf.len
  have HL := Lib.hid hlen
  have HS := Lib.hid hs
  have HTot := Lib.hid (show ∀ k, k ≤ n → (catN (l.take k)).length ≤ 21 * k from fun k hk => by
    have h1 := catN_len (l.take k) fun p hp => hs p (List.mem_of_mem_take hp)
    rw [List.length_take, Nat.min_eq_left (by omega)] at h1
    exact h1)
  have B1 := Lib.hid (Bld.fresh w)
  have Q1 := Lib.hid ((Q.refl w).alloc (.cells #[.pointer none, .slice none 0 0] 47))
  clear hf hlen hs
  go_enter Try.func8, Try.ntmps8
  go_upto_region 2 with (fail)
  generalize w.alloc (.cells #[.pointer none, .slice none 0 0] 47) = w1 at B1 Q1 ⊢
  go_wp2
  go_loopw [8] (fun i wr => ∃ k : Nat, k ≤ n ∧ i = .int .i64 k ∧ Bld w.heap.size w.heap.size (catN (l.take k)) wr ∧ Q w wr) (fun i _ => n - (intOf i).toNat)
  case atStart => exact ⟨0, Nat.zero_le _, rfl, B1.out, Q1.out⟩
  case round =>
    obtain ⟨k, hk, rfl, b4, q4⟩ := hrel
    have B4 := Lib.hid b4
    have Q4 := Lib.hid q4
    clear b4 q4 B1 Q1
    by_cases hlt : k < n
    · have hkl : k < l.length := by have := HL.out; omega
      have hx := HS.out l[k] (List.getElem_mem hkl)
      have ht0 := HTot.out k (by omega)
      have HSn := Lib.hid (catN_snoc l hkl)
      obtain ⟨ad, rfl, hab, x0⟩ := load_num (HF.out.q Q4.out) hlt hkl
      generalize l[k] = x at x0 hx HSn
      generalize hacc : catN (l.take k) = acc at B4 ht0 HSn
      clear hacc
      have KT := Lib.hid (fun W => num_any x W (by have := small_iff.1 hx; omega) (by have := small_iff.1 hx; omega))
      have u1 : IntKind.u64.wrap x = x := by rw [IntKind.wrap_u64]; have := small_iff.1 hx; omega
      have HX := Lib.hid hx
      have ez : (ba (num x)).size ≤ 21 := by rw [ba_size]; exact num_len HX.out
      have HE := Lib.hid ez
      have HT0 := Lib.hid ht0
      clear hx ez ht0
      go_wp2_with fail
      refine (KT.out _).mono ?_
      rintro e w5 ⟨rfl, q5⟩
      have Q5 := Lib.hid q5
      clear q5
      go_wp2_with fail
      refine (write_any w.heap.size w.heap.size acc (ba (num x)) _ (B4.out.q Q5.out) (by have := HT0.out; have := HE.out; omega) (by have := Q4.out.size; have := Q5.out.size; omega)).mono ?_
      rintro e w6 ⟨rfl, b6, be6, _⟩
      have B6 := Lib.hid (show Bld w.heap.size w.heap.size (catN (l.take (k + 1))) w6 by rw [HSn.out, ← ba_data (num x)]; exact b6)
      have Q6 := Lib.hid (show Q w w6 from (Q4.out.trans Q5.out).below.trans be6)
      clear b6 be6
      go_wp2
      go_roundw
      case rel => exact ⟨k + 1, by omega, by go_num, B6.out, Q6.out⟩
      case measure => simp [intOf]; omega
    · have hkn : k = n := by omega
      have hfull : catN (l.take k) = catN l := by rw [hkn, List.take_of_length_le (by rw [HL.out]; exact Nat.le_refl _)]
      have hfull2 : catN (l.take n) = catN l := by rw [List.take_of_length_le (by rw [HL.out]; exact Nat.le_refl _)]
      rw [hfull] at B4
      clear hfull hkn hfull2
      go_wp2_with fail
      refine (string_any w.heap.size w.heap.size (catN l) _ B4.out Q4.out.size).mono ?_
      rintro e w5 ⟨rfl, be5⟩
      have Q5 := Lib.hid (show Q w w5 from Q4.out.below.trans be5)
      clear be5
      go_wp2
      go_ret
      exact ⟨rfl, Q5.out⟩
set_option maxHeartbeats 4000000 in
theorem otexts_any (A : Option Addr) (n c : Nat) (l : List ByteArray) (w : World) (hf : Lst strK w A n l) (hn : n ≤ 4) (hs : ∀ x ∈ l, x.size ≤ 64) :
    Calls Try.prog 9 #[.slice A n c] w fun e w' => e = .returned (.string (ba (catT l))) ∧ Q w w' := by
  have HF := Lib.hid hf
  have hlen := hf.len
  have HL := Lib.hid hlen
  have HS := Lib.hid hs
  have HTot := Lib.hid (show ∀ k, k ≤ n → (catT (l.take k)).length ≤ 67 * k from fun k hk => by
    have h1 := catT_len (l.take k) fun p hp => hs p (List.mem_of_mem_take hp)
    rw [List.length_take, Nat.min_eq_left (by omega)] at h1
    exact h1)
  have B1 := Lib.hid (Bld.fresh w)
  have Q1 := Lib.hid ((Q.refl w).alloc (.cells #[.pointer none, .slice none 0 0] 47))
  clear hf hlen hs
  go_enter Try.func9, Try.ntmps9
  go_upto_region 2 with (fail)
  generalize w.alloc (.cells #[.pointer none, .slice none 0 0] 47) = w1 at B1 Q1 ⊢
  go_wp2
  go_loopw [8] (fun i wr => ∃ k : Nat, k ≤ n ∧ i = .int .i64 k ∧ Bld w.heap.size w.heap.size (catT (l.take k)) wr ∧ Q w wr) (fun i _ => n - (intOf i).toNat)
  case atStart => exact ⟨0, Nat.zero_le _, rfl, B1.out, Q1.out⟩
  case round =>
    obtain ⟨k, hk, rfl, b4, q4⟩ := hrel
    have B4 := Lib.hid b4
    have Q4 := Lib.hid q4
    clear b4 q4 B1 Q1
    by_cases hlt : k < n
    · have hkl : k < l.length := by have := HL.out; omega
      have hx := HS.out l[k] (List.getElem_mem hkl)
      have ht0 := HTot.out k (by omega)
      have HSn := Lib.hid (catT_snoc l hkl)
      obtain ⟨ad, rfl, hab, x0⟩ := load_str (HF.out.q Q4.out) hlt hkl
      generalize l[k] = x at x0 hx HSn
      generalize hacc : catT (l.take k) = acc at B4 ht0 HSn
      clear hacc
      have KT := Lib.hid (fun W => text_any x W (by omega))
      rw [ptx_eq] at KT
      have HX := Lib.hid hx
      have ez : (ba (ptx x)).size ≤ 67 := by rw [ba_size]; exact by have h0 := HX.out; have := ptx_len (s := x) (by omega); omega
      have HE := Lib.hid ez
      have HT0 := Lib.hid ht0
      clear hx ez ht0
      go_wp2_with fail
      refine (KT.out _).mono ?_
      rintro e w5 ⟨rfl, q5⟩
      have Q5 := Lib.hid q5
      clear q5
      go_wp2_with fail
      refine (write_any w.heap.size w.heap.size acc (ba (ptx x)) _ (B4.out.q Q5.out) (by have := HT0.out; have := HE.out; omega) (by have := Q4.out.size; have := Q5.out.size; omega)).mono ?_
      rintro e w6 ⟨rfl, b6, be6, _⟩
      have B6 := Lib.hid (show Bld w.heap.size w.heap.size (catT (l.take (k + 1))) w6 by rw [HSn.out, ← ba_data (ptx x)]; exact b6)
      have Q6 := Lib.hid (show Q w w6 from (Q4.out.trans Q5.out).below.trans be6)
      clear b6 be6
      go_wp2
      go_roundw
      case rel => exact ⟨k + 1, by omega, by go_num, B6.out, Q6.out⟩
      case measure => simp [intOf]; omega
    · have hkn : k = n := by omega
      have hfull : catT (l.take k) = catT l := by rw [hkn, List.take_of_length_le (by rw [HL.out]; exact Nat.le_refl _)]
      have hfull2 : catT (l.take n) = catT l := by rw [List.take_of_length_le (by rw [HL.out]; exact Nat.le_refl _)]
      rw [hfull] at B4
      clear hfull hkn hfull2
      go_wp2_with fail
      refine (string_any w.heap.size w.heap.size (catT l) _ B4.out Q4.out.size).mono ?_
      rintro e w5 ⟨rfl, be5⟩
      have Q5 := Lib.hid (show Q w w5 from Q4.out.below.trans be5)
      clear be5
      go_wp2
      go_ret
      exact ⟨rfl, Q5.out⟩
theorem word_any (b : Bool) (w : World) : Calls Try.prog 11 #[.bool b] w fun e w' => e = .returned (.int .i64 (fl b : Nat)) ∧ Q w w' := by
  cases b
  · go_enter Try.func11, Try.ntmps11
    go_wp2
    go_ret
    exact ⟨rfl, Q.refl _⟩
  · go_enter Try.func11, Try.ntmps11
    go_wp2
    go_ret
    exact ⟨rfl, Q.refl _⟩
end Wi
end Go.Proofs.Ytdipikdebapmlaa
