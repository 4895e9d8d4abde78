/- The contract of the document's May. -/
import Derived.Test.YtlbjobbmjccekaaBatchMay
import Derived.BigQuiet
namespace Go.Proofs.Ytlbjobbmjccekaa
set_option maxRecDepth 100000
open Go.RowKit Prm
set_option linter.unusedVariables false
set_option linter.unusedSimpArgs false

namespace Bm
theorem keys_at {l : List Wr} {i : Nat} (h : i < (keys l).length) : (keys l)[i].key = (l[i]'(by simpa [keys] using h)).key := by simp [keys]
theorem keys_len (l : List Wr) : (keys l).length = l.length := by simp [keys]
theorem rise_all {l : List Wr} (h : ∀ i, ∀ h : i + 1 < l.length, lt (l[i]'(by omega)).key l[i + 1].key = true) : rise l = true :=
  right_all fun i hi => by rw [keys_at, keys_at]; exact h i (by rw [keys_len] at hi; exact hi)
theorem rise_no {l : List Wr} {i : Nat} (h : i + 1 < l.length) (hh : lt (l[i]'(by omega)).key l[i + 1].key = false) : rise l = false :=
  right_not (l := keys l) (i := i) (by rw [keys_len]; exact h) (by rw [keys_at, keys_at]; exact hh)
theorem may_rest {k : Int} {tok : ByteArray} {l : List Wr} (h : ¬(tok.size < 1 ∨ 16 < tok.size)) (hk : k = 1 ∨ k = 2) (hl : l.length ≤ 24) (h2 : k = 2 → l.length = 0) : may ⟨k, tok, l⟩ = (rise l && !l.any wrong) := by
  rcases hk with rfl | rfl
  · rw [may_1 h rfl]; simp only; rw [decide_eq_true hl]; simp
  · have := List.eq_nil_of_length_eq_zero (h2 rfl)
    subst this
    rw [may_2 h rfl]; rfl
theorem may_out {k : Int} {tok : ByteArray} {l : List Wr} (h : 24 < l.length) : may ⟨k, tok, l⟩ = false := by
  cases e : may ⟨k, tok, l⟩ with
  | false => rfl
  | true => have := may_len e; simp only at this; omega
theorem may_two {tok : ByteArray} {l : List Wr} (h : 0 < l.length) : may ⟨2, tok, l⟩ = false := by
  by_cases ht : tok.size < 1 ∨ 16 < tok.size
  · exact may_t1 ht
  · rw [may_2 ht rfl]; simp only; simp; intro e; rw [e] at h; simp at h
end Bm

set_option maxHeartbeats 4000000 in
theorem refMay_any (k : Int) (tok : ByteArray) (A : Option Addr) (n c : Nat) (l : List Wr) (w : World) (hf : Lst writeK w A n l) (hn : n ≤ maxLen) :
    Calls Try.prog 18 #[batV k tok A n c] w fun e w' => e = .returned (.bool (Bm.may ⟨k, tok, l⟩)) ∧ Q w w' := by
  have hl := hf.len
  unfold maxLen at hn
  by_cases h1 : k < 1
  · have HR := Lib.hid (Bm.may_3 (b := ⟨k, tok, l⟩) (by simp only; omega) (by simp only; omega))
    clear hf hl
    go_enter Try.func18, Try.ntmps18
    go_wp2
    go_ret
    exact ⟨ret_bool HR.out.symm, (Q.refl _).alloc _⟩
  by_cases h2 : (2 : Int) < k
  · have HR := Lib.hid (Bm.may_3 (b := ⟨k, tok, l⟩) (by simp only; omega) (by simp only; omega))
    clear hf hl
    go_enter Try.func18, Try.ntmps18
    go_wp2
    go_ret
    exact ⟨ret_bool HR.out.symm, (Q.refl _).alloc _⟩
  by_cases h3 : (tok.size : Int) < 1
  · have HR := Lib.hid (Bm.may_t1 (b := ⟨k, tok, l⟩) (.inl (by simp only; omega)))
    clear hf hl
    go_enter Try.func18, Try.ntmps18
    go_wp2
    go_ret
    exact ⟨ret_bool HR.out.symm, (Q.refl _).alloc _⟩
  by_cases h4 : (16 : Int) < (tok.size : Int)
  · have HR := Lib.hid (Bm.may_t1 (b := ⟨k, tok, l⟩) (.inr (by simp only; omega)))
    clear hf hl
    go_enter Try.func18, Try.ntmps18
    go_wp2
    go_ret
    exact ⟨ret_bool HR.out.symm, (Q.refl _).alloc _⟩
  by_cases h5 : (24 : Int) < (n : Int)
  · have HR := Lib.hid (Bm.may_out (k := k) (tok := tok) (l := l) (by omega))
    clear hf hl
    go_enter Try.func18, Try.ntmps18
    go_wp2
    go_ret
    exact ⟨ret_bool HR.out.symm, (Q.refl _).alloc _⟩
  have hz : (k == 2) = true ∧ ¬((0 : Int) < (n : Int)) ∨ (k == 2) = false ∨ (k = 2 ∧ (0 : Int) < (n : Int)) := by
    by_cases e : k = 2
    · by_cases e2 : (0 : Int) < (n : Int)
      · exact .inr (.inr ⟨e, e2⟩)
      · exact .inl ⟨by simpa using e, e2⟩
    · exact .inr (.inl (by simpa using e))
  have hk2 : k = 2 → (k == 2) = true := fun e => by simpa using e
  rcases hz with hz | hz | hz
  rotate_left 2
  · obtain ⟨rfl, h6⟩ := hz
    have HR := Lib.hid (Bm.may_two (tok := tok) (l := l) (by omega))
    clear hf hl hk2
    go_enter Try.func18, Try.ntmps18
    go_wp2
    go_ret
    exact ⟨ret_bool HR.out.symm, (Q.refl _).alloc _⟩
  · obtain ⟨hz, hz0⟩ := hz
    have e : n = 0 := by omega
    subst e
    have HM := Lib.hid (show Bm.may ⟨k, tok, l⟩ = true by
      have e := List.eq_nil_of_length_eq_zero hl
      subst e
      rw [Bm.may_rest (by omega) (by omega) (by simp) (fun _ => rfl)]; rfl)
    clear hf hl hk2 h5 hz0
    go_enter Try.func18, Try.ntmps18
    go_wp2
    have X0 := Lib.hid (Bx.new w [.int .i64 k, .string tok, .slice A 0 c] 24)
    go_loopw [3] (fun i wr => i = .int .i64 0 ∧ Q (w.alloc (.cells #[.int .i64 k, .string tok, .slice A 0 c] 24)) wr) (fun _ _ => 0)
    case atStart => exact ⟨rfl, Q.refl _⟩
    case round =>
      obtain ⟨rfl, q⟩ := hrel
      obtain ⟨x0, x1, x2⟩ := (X0.out.q q).get3.1
      have HQ0 := Lib.hid (((Q.refl w).alloc _).trans q)
      clear q
      go_wp2
      go_ret
      exact ⟨ret_bool HM.out.symm, HQ0.out⟩
  · have hM : Bm.may ⟨k, tok, l⟩ = (Bm.rise l && !l.any Bm.wrong) := Bm.may_rest (by omega) (by omega) (by omega) (fun e => by rw [hk2 e] at hz; cases hz)
    have HM := Lib.hid hM
    have HF := Lib.hid hf
    have HL := Lib.hid hl
    clear hM hf hl hk2

    go_enter Try.func18, Try.ntmps18
    go_wp2
    have X0 := Lib.hid (Bx.new w [.int .i64 k, .string tok, .slice A n c] 24)
    go_loopw [3] (fun i wr => ∃ j : Nat, j ≤ n ∧ i = .int .i64 j ∧ Q (w.alloc (.cells #[.int .i64 k, .string tok, .slice A n c] 24)) wr ∧ (∀ i, ∀ h : i < l.length, i < j → Bm.wrong l[i] = false) ∧ ∀ i, ∀ h : i + 1 < l.length, i + 1 < j → lt (l[i]'(by omega)).key l[i + 1].key = true) (fun i _ => n - (intOf i).toNat)
    case atStart => exact ⟨0, Nat.zero_le _, rfl, Q.refl _, fun _ _ h => by omega, fun _ _ h => by omega⟩
    case round =>
      obtain ⟨j, hj, rfl, q, hw, hr⟩ := hrel
      have HW := Lib.hid hw
      have HS := Lib.hid hr
      have HQ := Lib.hid q
      have HQ0 := Lib.hid (((Q.refl w).alloc _).trans q)
      have x0 := (X0.out.q q).get3.1
      obtain ⟨x0, x1, x2⟩ := x0
      have hsz : w.heap.size < wr.heap.size := by have := q.size; simp at this; omega
      clear hw hr q
      by_cases hlt : j < n
      · have hjl : j < l.length := by have := HL.out; omega
        have hjn : (j : Int) < (n : Int) := by omega
        obtain ⟨ad, hA, hab, y0, y1, y2⟩ := load_write (HF.out.q HQ0.out) hlt hjl
        have HX := Lib.hid (show ∃ x, x = l[j] from ⟨_, rfl⟩)
        have HNo := Lib.hid (fun (h : Bm.wrong l[j] = true) => show Bm.may ⟨k, tok, l⟩ = false from by rw [HM.out, List.any_eq_true.2 ⟨_, List.getElem_mem hjl, h⟩]; simp)
        have HW2 := Lib.hid (fun (h : Bm.wrong l[j] = false) (i : Nat) (hi : i < l.length) (hij : i < j + 1) => show Bm.wrong l[i] = false from by
          by_cases e : i < j
          · exact HW.out i hi e
          · have e : i = j := by omega
            subst e
            exact h)
        have HS2 := Lib.hid (fun (h : ∀ h0 : 0 < j, lt (l[j - 1]'(by omega)).key l[j].key = true) (i : Nat) (hi : i + 1 < l.length) (hij : i + 1 < j + 1) => show lt (l[i]'(by omega)).key l[i + 1].key = true from by
          by_cases e : i + 1 < j
          · exact HS.out i hi e
          · have e : j = i + 1 := by omega
            subst e
            exact h (by omega))
        have HNo2 := Lib.hid (fun (h0 : 0 < j) (h : lt (l[j - 1]'(by omega)).key l[j].key = false) => show Bm.may ⟨k, tok, l⟩ = false from by
          obtain ⟨m, rfl⟩ : ∃ m, j = m + 1 := ⟨j - 1, by omega⟩
          rw [HM.out, Bm.rise_no hjl h]; simp)
        have KL := Lib.hid (fun (h0 : 0 < j) W (ha : (l[j - 1]'(by omega)).key.size ≤ 32) (hb : l[j].key.size ≤ 32) => less_any (l[j - 1]'(by omega)).key l[j].key W (by unfold maxLen; omega) (by unfold maxLen; omega))
        have HPr := Lib.hid (fun (h0 : 0 < j) => show (l[j - 1]'(by omega)).key.size ≤ 32 from (Bm.wrong_not (HW.out (j - 1) (by omega) (by omega))).2.1)
        have YP := Lib.hid (fun (h0 : 0 < j) => load_write (k := j - 1) (HF.out.q HQ0.out) (by omega) (by omega))
        subst hA
        clear HX
        by_cases h0 : 0 < j
        · obtain ⟨ad', e, hab', z0, z1, z2⟩ := YP.out h0
          injection e with e
          subst e
          have HNo2 := Lib.hid (HNo2.out h0)
          have KL := Lib.hid (KL.out h0)
          have HPr := Lib.hid (HPr.out h0)
          have HS2 := Lib.hid (fun (h : lt (l[j - 1]'(by omega)).key l[j].key = true) => HS2.out (fun _ => h))
          generalize hp : (l[j - 1]'(by omega)).key = p at z0 HNo2 KL HPr HS2
          generalize hx : l[j] = x at y0 y1 y2 HNo HW2 HNo2 KL HS2
          clear hp hx z1 z2 YP
          have h0' : (0 : Int) < (j : Int) := by omega
          obtain ⟨m, hm⟩ : ∃ m, j - 1 = m := ⟨_, rfl⟩
          rw [hm] at z0
          have e0 : IntKind.i64.wrap ((j : Int) - 1) = (m : Int) := by rw [IntKind.wrap_i64]; omega
          have e3 : (m : Int) < (n : Int) := by omega
          have hab2 : (ad.add (m * 3)).block < wr.heap.size := by rw [addr_block]; exact hab
          have z9 := fun (o : Obj) => box_ ((Q.refl wr).alloc o) z0
          clear hm
          obtain ⟨a, b, d⟩ := x
          dsimp only at *
          by_cases c1 : (a.size : Int) < 1
          · have HE := Lib.hid (HNo.out (Bm.wrong_t (.inl (by simp only; omega))))
            go_wp2
            go_ret
            exact ⟨ret_bool HE.out.symm, HQ0.out.alloc _⟩
          by_cases c2 : (32 : Int) < (a.size : Int)
          · have HE := Lib.hid (HNo.out (Bm.wrong_t (.inr (.inl (by simp only; omega)))))
            go_wp2
            go_ret
            exact ⟨ret_bool HE.out.symm, HQ0.out.alloc _⟩
          by_cases c3 : (64 : Int) < (b.size : Int)
          · have HE := Lib.hid (HNo.out (Bm.wrong_t (.inr (.inr (by simp only; split <;> omega)))))
            go_wp2
            go_ret
            exact ⟨ret_bool HE.out.symm, HQ0.out.alloc _⟩
          cases d
          · skip
            have HOk := Lib.hid (HW2.out (Bm.wrong_f (by simp only [Bool.false_eq_true, if_false]; omega)))
            have HA := Lib.hid (KL.out)
            have KL2 := Lib.hid (fun W => KL.out W HPr.out (by omega))
            by_cases hh : lt p a = true
            · have HS3 := Lib.hid (HS2.out hh)
              rw [hh] at KL2
              clear hh
              go_wp2
              go_quiet ((go_at_call 47; exact Calls.quiet_of (KL2.out _)))
              all_goals
                go_wp2
                go_roundw
                case rel => exact ⟨j + 1, by omega, by go_num, (HQ.out.alloc _).drewN _, HOk.out, HS3.out⟩
                case measure => simp [intOf]; omega
            · have hh' : lt p a = false := by simpa using hh
              have HE := Lib.hid (HNo2.out hh')
              rw [hh'] at KL2
              clear hh hh'
              go_wp2
              go_quiet ((go_at_call 47; exact Calls.quiet_of (KL2.out _)))
              all_goals
                go_wp2
                go_ret
                exact ⟨ret_bool HE.out.symm, (HQ0.out.alloc _).drewN _⟩
          · by_cases c4 : b = ⟨#[]⟩
            · subst c4
              have HOk := Lib.hid (HW2.out (Bm.wrong_f (by simp only [if_true]; have : (⟨#[]⟩ : ByteArray).size = 0 := rfl; omega)))
              have HA := Lib.hid (KL.out)
              have KL2 := Lib.hid (fun W => KL.out W HPr.out (by omega))
              by_cases hh : lt p a = true
              · have HS3 := Lib.hid (HS2.out hh)
                rw [hh] at KL2
                clear hh
                go_wp2
                go_quiet ((go_at_call 47; exact Calls.quiet_of (KL2.out _)))
                all_goals
                  go_wp2
                  go_roundw
                  case rel => exact ⟨j + 1, by omega, by go_num, (HQ.out.alloc _).drewN _, HOk.out, HS3.out⟩
                  case measure => simp [intOf]; omega
              · have hh' : lt p a = false := by simpa using hh
                have HE := Lib.hid (HNo2.out hh')
                rw [hh'] at KL2
                clear hh hh'
                go_wp2
                go_quiet ((go_at_call 47; exact Calls.quiet_of (KL2.out _)))
                all_goals
                  go_wp2
                  go_ret
                  exact ⟨ret_bool HE.out.symm, (HQ0.out.alloc _).drewN _⟩
            · obtain ⟨c5, c6, c7⟩ := empty_no c4
              have HE := Lib.hid (HNo.out (Bm.wrong_t (.inr (.inr (by simp only [if_true]; have : b.size ≠ 0 := fun e => c4 (show b = ByteArray.empty by simpa using e); omega)))))
              clear c4
              go_wp2
              go_ret
              exact ⟨ret_bool HE.out.symm, HQ0.out.alloc _⟩
        · have e0 : ¬((0 : Int) < (j : Int)) := by omega
          have HS2 := Lib.hid (HS2.out (fun h => absurd h (by omega)))
          generalize hx : l[j] = x at y0 y1 y2 HNo HW2
          clear hx YP HPr KL HNo2
          obtain ⟨a, b, d⟩ := x
          dsimp only at *
          by_cases c1 : (a.size : Int) < 1
          · have HE := Lib.hid (HNo.out (Bm.wrong_t (.inl (by simp only; omega))))
            go_wp2
            go_ret
            exact ⟨ret_bool HE.out.symm, HQ0.out.alloc _⟩
          by_cases c2 : (32 : Int) < (a.size : Int)
          · have HE := Lib.hid (HNo.out (Bm.wrong_t (.inr (.inl (by simp only; omega)))))
            go_wp2
            go_ret
            exact ⟨ret_bool HE.out.symm, HQ0.out.alloc _⟩
          by_cases c3 : (64 : Int) < (b.size : Int)
          · have HE := Lib.hid (HNo.out (Bm.wrong_t (.inr (.inr (by simp only; split <;> omega)))))
            go_wp2
            go_ret
            exact ⟨ret_bool HE.out.symm, HQ0.out.alloc _⟩
          cases d
          · skip
            have HOk := Lib.hid (HW2.out (Bm.wrong_f (by simp only [Bool.false_eq_true, if_false]; omega)))
            go_wp2
            go_roundw
            case rel => exact ⟨j + 1, by omega, by go_num, HQ.out.alloc _, HOk.out, HS2.out⟩
            case measure => simp [intOf]; omega
          · by_cases c4 : b = ⟨#[]⟩
            · subst c4
              have HOk := Lib.hid (HW2.out (Bm.wrong_f (by simp only [if_true]; have : (⟨#[]⟩ : ByteArray).size = 0 := rfl; omega)))
              go_wp2
              go_roundw
              case rel => exact ⟨j + 1, by omega, by go_num, HQ.out.alloc _, HOk.out, HS2.out⟩
              case measure => simp [intOf]; omega
            · obtain ⟨c5, c6, c7⟩ := empty_no c4
              have HE := Lib.hid (HNo.out (Bm.wrong_t (.inr (.inr (by simp only [if_true]; have : b.size ≠ 0 := fun e => c4 (show b = ByteArray.empty by simpa using e); omega)))))
              clear c4
              go_wp2
              go_ret
              exact ⟨ret_bool HE.out.symm, HQ0.out.alloc _⟩
      · have hjn : ¬((j : Int) < (n : Int)) := by omega
        have HE := Lib.hid (show Bm.may ⟨k, tok, l⟩ = true by
          rw [HM.out, Bm.rise_all (fun i hi => HS.out i hi (by have := HL.out; omega))]
          have : l.any Bm.wrong = false := by
            rw [List.any_eq_false]; intro a ha
            obtain ⟨i, hi, rfl⟩ := List.getElem_of_mem ha
            rw [HW.out i hi (by have := HL.out; omega)]; simp
          rw [this]; rfl)
        go_wp2
        go_ret
        exact ⟨ret_bool HE.out.symm, HQ0.out⟩
end Go.Proofs.Ytlbjobbmjccekaa
