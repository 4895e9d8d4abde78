/- Contracts: batch.wrong, rise, slices.ContainsFunc of it, May; the document's May. -/
import Derived.Test.YtlbjobbmjccekaaBatchMath
import Derived.Test.YtlbjobbmjccekaaTable3
import Derived.Test.YtlbjobbmjccekaaTableRef5
import Derived.Test.YtlbjobbmjccekaaBoxes
namespace Go.Proofs.Ytlbjobbmjccekaa
set_option maxRecDepth 100000
open Go.RowKit Prm
set_option linter.unusedVariables false
set_option linter.unusedSimpArgs false

abbrev batV (k : Int) (tok : ByteArray) (A : Option Addr) (n c : Nat) : Value := .agg #[.int .i64 k, .string tok, .slice A n c]

theorem wrong_any (x : Wr) (w : World) : Calls Try.prog 46 #[x.v] w fun e w' => e = .returned (.bool (Bm.wrong x)) ∧ Q w w' := by
  obtain ⟨a, b, d⟩ := x
  cases d
  · by_cases h1 : (a.size : Int) < 1
    · have hr : Bm.wrong ⟨a, b, false⟩ = true := Bm.wrong_t (by simp only [Bool.false_eq_true, if_false, if_true]; omega)
      have HR := Lib.hid hr
      clear hr
      go_enter Try.func46, Try.ntmps46
      go_wp2
      go_ret
      exact ⟨ret_bool (by rw [HR.out] <;> first | rfl | exact decide_eq_true (by omega) | exact decide_eq_false (by omega)), (Q.refl _).alloc _⟩
    · by_cases h2 : (32 : Int) < (a.size : Int)
      · have hr : Bm.wrong ⟨a, b, false⟩ = true := Bm.wrong_t (by simp only [Bool.false_eq_true, if_false, if_true]; omega)
        have HR := Lib.hid hr
        clear hr
        go_enter Try.func46, Try.ntmps46
        go_wp2
        go_ret
        exact ⟨ret_bool (by rw [HR.out] <;> first | rfl | exact decide_eq_true (by omega) | exact decide_eq_false (by omega)), (Q.refl _).alloc _⟩
      · by_cases h3 : (64 : Int) < (b.size : Int)
        · have hr : Bm.wrong ⟨a, b, false⟩ = true := Bm.wrong_t (by simp only [Bool.false_eq_true, if_false, if_true]; omega)
          have HR := Lib.hid hr
          clear hr
          go_enter Try.func46, Try.ntmps46
          go_wp2
          go_ret
          exact ⟨ret_bool (by rw [HR.out] <;> first | rfl | exact decide_eq_true (by omega) | exact decide_eq_false (by omega)), (Q.refl _).alloc _⟩
        · have hr : Bm.wrong ⟨a, b, false⟩ = false := Bm.wrong_f (by simp only [Bool.false_eq_true, if_false, if_true]; omega)
          have HR := Lib.hid hr
          clear hr
          go_enter Try.func46, Try.ntmps46
          go_wp2
          go_ret
          exact ⟨ret_bool (by rw [HR.out] <;> first | rfl | exact decide_eq_true (by omega) | exact decide_eq_false (by omega)), (Q.refl _).alloc _⟩
  · by_cases h1 : (a.size : Int) < 1
    · have hr : Bm.wrong ⟨a, b, true⟩ = true := Bm.wrong_t (by simp only [Bool.false_eq_true, if_false, if_true]; omega)
      have HR := Lib.hid hr
      clear hr
      go_enter Try.func46, Try.ntmps46
      go_wp2
      go_ret
      exact ⟨ret_bool (by rw [HR.out] <;> first | rfl | exact decide_eq_true (by omega) | exact decide_eq_false (by omega)), (Q.refl _).alloc _⟩
    · by_cases h2 : (32 : Int) < (a.size : Int)
      · have hr : Bm.wrong ⟨a, b, true⟩ = true := Bm.wrong_t (by simp only [Bool.false_eq_true, if_false, if_true]; omega)
        have HR := Lib.hid hr
        clear hr
        go_enter Try.func46, Try.ntmps46
        go_wp2
        go_ret
        exact ⟨ret_bool (by rw [HR.out] <;> first | rfl | exact decide_eq_true (by omega) | exact decide_eq_false (by omega)), (Q.refl _).alloc _⟩
      · by_cases h3 : (0 : Int) < (b.size : Int)
        · have hr : Bm.wrong ⟨a, b, true⟩ = true := Bm.wrong_t (by simp only [Bool.false_eq_true, if_false, if_true]; omega)
          have HR := Lib.hid hr
          clear hr
          go_enter Try.func46, Try.ntmps46
          go_wp2
          go_ret
          exact ⟨ret_bool (by rw [HR.out] <;> first | rfl | exact decide_eq_true (by omega) | exact decide_eq_false (by omega)), (Q.refl _).alloc _⟩
        · have hr : Bm.wrong ⟨a, b, true⟩ = false := Bm.wrong_f (by simp only [Bool.false_eq_true, if_false, if_true]; omega)
          have HR := Lib.hid hr
          clear hr
          go_enter Try.func46, Try.ntmps46
          go_wp2
          go_ret
          exact ⟨ret_bool (by rw [HR.out] <;> first | rfl | exact decide_eq_true (by omega) | exact decide_eq_false (by omega)), (Q.refl _).alloc _⟩

set_option maxHeartbeats 1000000 in
theorem indexWrong (A : Option Addr) (n c : Nat) (l : List Wr) (w : World) (hf : Lst writeK w A n l) (hn : n ≤ maxLen) :
    Calls Try.prog 69 #[.slice A n c, .func (.func 46) #[] #[]] w fun e w' => e = .returned (.int .i64 (idx Bm.wrong l 0)) ∧ Q w w' := by
  unfold maxLen at hn
  have HF := Lib.hid hf
  clear hf
  go_enter Try.func69, Try.ntmps69
  go_wp2
  go_loopw [8] (fun i wr => ∃ k : Nat, k ≤ n ∧ i = .int .i64 k ∧ Q w wr ∧ idx Bm.wrong l 0 = idx Bm.wrong (l.drop k) k) (fun i _ => n - (intOf i).toNat)
  case atStart => exact ⟨0, Nat.zero_le _, rfl, Q.refl _, rfl⟩
  case round =>
    obtain ⟨k, hk, rfl, hq, hp⟩ := hrel
    have HP := Lib.hid hp
    clear hp
    by_cases hlt : k < n
    · have hlen := HF.out.len
      have hkl : k < l.length := by omega
      obtain ⟨ad, rfl, hb, c0, c1, c2⟩ := load_write (HF.out.q hq) hlt hkl
      clear hlen
      go_wp2_with fail
      refine (wrong_any l[k] _).mono ?_
      rintro e w1 ⟨rfl, q1⟩
      by_cases hh : Bm.wrong l[k] = true
      · go_wp2
        go_ret
        exact ⟨ret_int (by rw [HP.out, idx_drop _ _ hkl, if_pos hh]), hq.trans q1⟩
      · have hd : Bm.wrong l[k] = false := by simpa using hh
        go_wp2
        go_roundw
        case rel => exact ⟨k + 1, by omega, by go_num, hq.trans q1, by rw [HP.out, idx_drop _ _ hkl, if_neg hh]⟩
        case measure => simp [intOf]; omega
    · have hlen := HF.out.len
      have HL := Lib.hid hlen
      clear hlen
      go_wp2
      go_ret
      exact ⟨ret_int (by rw [HP.out, idx_end _ _ (by have := HL.out; omega)]), hq⟩

theorem containsWrong (A : Option Addr) (n c : Nat) (l : List Wr) (w : World) (hf : Lst writeK w A n l) (hn : n ≤ maxLen) :
    Calls Try.prog 45 #[.slice A n c, .func (.func 46) #[] #[]] w fun e w' => e = .returned (.bool (l.any Bm.wrong)) ∧ Q w w' := by
  have K := Lib.hid (indexWrong A n c l w hf hn)
  rcases idx_cases Bm.wrong l 0 with ⟨hp, hall⟩ | ⟨k, hk, hp, hkn, hfirst⟩
  · have hr : l.any Bm.wrong = false := by rw [List.any_eq_false]; intro x hx; simp [hall x hx]
    have HR := Lib.hid hr
    have HP := Lib.hid hp
    clear hr hp hall hf
    go_enter Try.func45, Try.ntmps45
    go_wp2_with fail
    refine K.out.mono ?_
    rintro e w1 ⟨rfl, q1⟩
    rw [HP.out]
    go_wp2
    go_ret
    exact ⟨ret_bool HR.out.symm, q1⟩
  · have hr : l.any Bm.wrong = true := List.any_eq_true.2 ⟨_, List.getElem_mem hk, hkn⟩
    have HR := Lib.hid hr
    have HP := Lib.hid (hp.trans (by simp : ((0 + k : Nat) : Int) = (k : Int)))
    clear hr hp hfirst hf hkn
    have h0 : (0 : Int) ≤ (k : Int) := by omega
    go_enter Try.func45, Try.ntmps45
    go_wp2_with fail
    refine K.out.mono ?_
    rintro e w1 ⟨rfl, q1⟩
    rw [HP.out]
    go_wp2
    go_ret
    exact ⟨ret_bool HR.out.symm, q1⟩


set_option maxHeartbeats 1000000 in
theorem rise_any (A : Option Addr) (n c : Nat) (l : List Wr) (w : World) (hf : Lst writeK w A n l) (hn : n ≤ 24) :
    Calls Try.prog 44 #[.slice A n c] w fun e w' => e = .returned (.bool (Bm.rise l)) ∧ Q w w' := by
  have HF := Lib.hid hf
  have HL := Lib.hid hf.len
  clear hf
  go_enter Try.func44, Try.ntmps44
  go_wp2
  go_loopw [3, 8] (fun s3 i wr => ∃ (k : Nat) (B : Option Addr) (d : Nat), k ≤ n ∧ i = .int .i64 k ∧ s3 = .slice B k d ∧ OwnK pairK wr w.heap.size B k d (Bm.keys (l.take k)) ∧ Q w wr) (fun _ i _ => n - (intOf i).toNat)
  case atStart => exact ⟨0, none, 0, Nat.zero_le _, rfl, rfl, OwnK.nil_ _ _ _, Q.refl _⟩
  case round =>
    obtain ⟨k, B, d, hk, rfl, rfl, o1, q1⟩ := hrel
    have HO := Lib.hid o1
    have HQ := Lib.hid q1
    clear o1 q1
    by_cases hlt : k < n
    · have hkl : k < l.length := by have := HL.out; omega
      have HN := Lib.hid (show Bm.keys (l.take (k + 1)) = Bm.keys (l.take k) ++ [⟨l[k].key, ⟨#[]⟩⟩] by unfold Bm.keys; rw [List.take_succ_eq_append_getElem hkl, List.map_append]; rfl)
      obtain ⟨ad, rfl, hab, x0, x1, x2⟩ := load_write (HF.out.q HQ.out) hlt hkl
      generalize l[k] = x at x0 x1 x2 HN
      generalize Bm.keys (l.take k) = ks at HO HN
      go_wp2_with (at_builtin
                   refine wpl_appK pairK rfl (.tmp 12) (.tmp 16) 38 rfl rfl w.heap.size B k d ks rfl ((HO.out.alloc _).alloc _) (some ⟨wr.heap.size + 1, 0, none⟩) 1 1 [⟨x.key, ⟨#[]⟩⟩] rfl (by have := lit_pair (wr.alloc (.cells #[.string x.key, .string x.val, .bool x.del] 63)) ⟨x.key, ⟨#[]⟩⟩; simpa using this) (fun e => by cases e) (by show (k + 1) * 32 ≤ _; omega) (by have := HQ.out.size; simp; omega) ?_
                   intro A5 c5 w5 o5 b5
                   have O5 := Lib.hid o5
                   have Q5 := Lib.hid (show Q w w5 from ((HQ.out.alloc _).alloc _).below.trans b5)
                   clear o5 b5)
      go_roundw
      case rel => exact ⟨k + 1, A5, c5, by omega, by go_num, rfl, by rw [HN.out]; exact O5.out, Q5.out⟩
      case measure => simp [intOf]; omega
    · have hkn : k = n := by omega
      have HR := Lib.hid (show Bm.keys (l.take k) = Bm.keys l by rw [hkn, List.take_of_length_le (by have := HL.out; omega)])
      clear hkn
      go_wp2_with fail
      refine (right_any B k d _ _ HO.out.lst (by unfold maxLen; omega)).mono ?_
      rintro e w6 ⟨rfl, q6⟩
      go_wp2_with fail
      go_ret
      exact ⟨ret_bool (by rw [HR.out]; rfl), HQ.out.trans q6⟩

namespace Bm
theorem may_t1 {b : Bt} (h : b.tok.size < 1 ∨ 16 < b.tok.size) : may b = false := by unfold may; rw [if_pos h]
theorem may_1 {b : Bt} (h : ¬(b.tok.size < 1 ∨ 16 < b.tok.size)) (h1 : b.kind = 1) : may b = (decide (b.ws.length ≤ 24) && rise b.ws && !b.ws.any wrong) := by unfold may; rw [if_neg h, if_pos h1]
theorem may_2 {b : Bt} (h : ¬(b.tok.size < 1 ∨ 16 < b.tok.size)) (h1 : b.kind = 2) : may b = decide (b.ws.length = 0) := by unfold may; rw [if_neg h, if_neg (by omega), if_pos h1]
theorem may_3 {b : Bt} (h1 : b.kind ≠ 1) (h2 : b.kind ≠ 2) : may b = false := by unfold may; rw [if_neg h1, if_neg h2]; split <;> rfl
end Bm

set_option maxHeartbeats 1000000 in
theorem may_any (k : Int) (tok : ByteArray) (A : Option Addr) (n c : Nat) (l : List Wr) (w : World) (hf : Lst writeK w A n l) (hn : n ≤ maxLen) :
    Calls Try.prog 17 #[batV k tok A n c] w fun e w' => e = .returned (.bool (Bm.may ⟨k, tok, l⟩)) ∧ Q w w' := by
  have hl := hf.len
  by_cases h1 : (tok.size : Int) < 1
  · have HR := Lib.hid (Bm.may_t1 (b := ⟨k, tok, l⟩) (.inl (by simp only; omega)))
    clear hf hl
    go_enter Try.func17, Try.ntmps17
    go_wp2
    go_ret
    exact ⟨ret_bool HR.out.symm, (Q.refl _).alloc _⟩
  by_cases h2 : (16 : Int) < (tok.size : Int)
  · have HR := Lib.hid (Bm.may_t1 (b := ⟨k, tok, l⟩) (.inr (by simp only; omega)))
    clear hf hl
    go_enter Try.func17, Try.ntmps17
    go_wp2
    go_ret
    exact ⟨ret_bool HR.out.symm, (Q.refl _).alloc _⟩
  have HT := Lib.hid (show ¬(tok.size < 1 ∨ 16 < tok.size) by omega)
  by_cases k1 : k = 1
  · subst k1
    have hm := Bm.may_1 (b := ⟨1, tok, l⟩) HT.out rfl
    simp only at hm
    have HF := Lib.hid hf
    by_cases h3 : (n : Int) ≤ 24
    · have KR := Lib.hid (fun W q => rise_any A n c l W (hf.q q) (by omega))
      have KC := Lib.hid (fun W q => containsWrong A n c l W (hf.q q) hn)
      have h3' : decide (l.length ≤ 24) = true := by simp; omega
      rw [h3', Bool.true_and] at hm
      have HM := Lib.hid hm
      clear hf hl hm h3'
      generalize hr : Bm.rise l = r at KR HM
      have HR := Lib.hid hr
      clear hr
      cases r with
      | false =>
        go_enter Try.func17, Try.ntmps17
        go_wp2_with fail
        refine (KR.out _ ((Q.refl _).alloc _)).mono ?_
        rintro e w1 ⟨rfl, q1⟩
        have Q1 := Lib.hid (((Q.refl w).alloc _).trans q1)
        clear q1
        go_wp2_with fail
        go_ret
        exact ⟨ret_bool (by rw [HM.out]; rfl), Q1.out⟩
      | true =>
        go_enter Try.func17, Try.ntmps17
        go_wp2_with fail
        refine (KR.out _ ((Q.refl _).alloc _)).mono ?_
        rintro e w1 ⟨rfl, q1⟩
        have x0 := ((Bx.new w [.int .i64 1, .string tok, .slice A n c] 24).q q1).get3.1
        obtain ⟨x0, x1, x2⟩ := x0
        have Q1 := Lib.hid (((Q.refl w).alloc _).trans q1)
        clear q1
        go_wp2_with fail
        refine (KC.out _ Q1.out).mono ?_
        rintro e w2 ⟨rfl, q2⟩
        have Q2 := Lib.hid (Q1.out.trans q2)
        clear q2
        generalize l.any Bm.wrong = b at HM
        cases b
        all_goals
          go_wp2_with fail
          go_ret
          exact ⟨ret_bool (by rw [HM.out]; rfl), Q2.out⟩
    · have h3' : decide (l.length ≤ 24) = false := by simp; omega
      rw [h3', Bool.false_and, Bool.false_and] at hm
      have HM := Lib.hid hm
      clear hf hl hm h3'
      go_enter Try.func17, Try.ntmps17
      go_wp2
      go_ret
      exact ⟨ret_bool (by rw [HM.out]), (Q.refl _).alloc _⟩
  by_cases k2 : k = 2
  · subst k2
    have hm := Bm.may_2 (b := ⟨2, tok, l⟩) HT.out rfl
    simp only at hm
    rw [hl] at hm
    have HM := Lib.hid hm
    clear hf hl hm k1
    by_cases h3 : n = 0
    · subst h3
      go_enter Try.func17, Try.ntmps17
      go_wp2
      go_ret
      exact ⟨ret_bool (by rw [HM.out]; rfl), (Q.refl _).alloc _⟩
    · have h4 : ((n : Int) == 0) = false := by simp; omega
      have H3 := Lib.hid h3
      clear h3
      go_enter Try.func17, Try.ntmps17
      go_wp2
      go_ret
      exact ⟨ret_bool (by rw [HM.out]; have := H3.out; simp [this]), (Q.refl _).alloc _⟩
  have HM := Lib.hid (Bm.may_3 (b := ⟨k, tok, l⟩) k1 k2)
  have k1' : (k == 1) = false := by simpa using k1
  have k2' : (k == 2) = false := by simpa using k2
  clear hf hl k1 k2
  go_enter Try.func17, Try.ntmps17
  go_wp2
  go_ret
  exact ⟨ret_bool HM.out.symm, (Q.refl _).alloc _⟩
end Go.Proofs.Ytlbjobbmjccekaa
