/- Contracts of package dec's TakeNum, TakeText and of the document's own. -/
import Derived.Test.YthcdcjidoacalaaBytes
import Derived.Test.YthcdcjidoacalaaDecTakeMath
namespace Go.Proofs.Ythcdcjidoacalaa
set_option maxRecDepth 100000
open Go.RowKit
set_option linter.unusedVariables false

theorem take_snoc' (s : ByteArray) (k : Nat) (h : k < s.size) : s.data.toList.take (k + 1) = s.data.toList.take k ++ [s[k]] := by
  rw [List.take_succ_eq_append_getElem (by simpa using h)]; rfl
theorem get_list (s : ByteArray) (k : Nat) (h : k < s.data.toList.length) : s.data.toList[k] = s[k]'(by rw [← size_list]; exact h) := rfl
theorem head_list (s : ByteArray) (h : 0 < s.size) : s.data.toList.head? = some s[0] := by
  rw [List.head?_eq_getElem?, List.getElem?_eq_getElem (by rw [size_list]; exact h)]; rfl

def figV (l : List UInt8) : Value := if Dm.bad l = true then .tuple #[.int .u64 0, .int .i64 0, .bool false] else .tuple #[.int .u64 (Dm.val (Dm.figs l)), .int .i64 ((Dm.figs l).length : Int), .bool true]

theorem figV_end (l : List UInt8) (k : Nat) (hk : k ≤ l.length) (hd : ∀ i (h : i < k) (h' : i < l.length), Dm.isD l[i] = true) (h3 : k = l.length ∨ ∃ h : k < l.length, Dm.isD l[k] = false)
    (hv : Dm.val (l.take k) ≤ Dm.maxU) (hz : 1 < k → l.head? ≠ some 48) : figV l = .tuple #[.int .u64 (Dm.val (l.take k)), .int .i64 (k : Int), .bool true] := by
  have e := Dm.figs_of l k hk (fun i h => hd i h (by omega)) h3
  have hb := Dm.bad_not l k e hk hz hv
  unfold figV
  rw [hb, e, if_neg (by simp), List.length_take, Nat.min_eq_left hk]
theorem figV_bad (l : List UInt8) (h : Dm.bad l = true) : figV l = .tuple #[.int .u64 0, .int .i64 0, .bool false] := by unfold figV; rw [if_pos h]

set_option maxHeartbeats 400000 in
theorem figures_any (s : ByteArray) (w : World) (hs : s.size ≤ maxLen) :
    Calls Try.prog 29 #[.string s] w fun e w' => e = .returned (figV s.data.toList) ∧ w = w' := by
  unfold maxLen at hs
  go_enter Try.func29, Try.ntmps29
  go_wp2
  go_step3
  go_wp2
  go_step3
  go_wp2
  go_loop [2, 3] (fun v n => ∃ k : Nat, k ≤ s.size ∧ n = .int .i64 k ∧ v = .int .u64 (Dm.val (s.data.toList.take k)) ∧ Dm.val (s.data.toList.take k) ≤ Dm.maxU ∧ (∀ i (h : i < k) (h' : i < s.data.toList.length), Dm.isD s.data.toList[i] = true) ∧ (1 < k → s.data.toList.head? ≠ some 48)) (fun _ n => s.size - (intOf n).toNat)
  case atStart => exact ⟨0, Nat.zero_le _, rfl, rfl, Nat.zero_le _, fun i h => absurd h (by omega), fun h => absurd h (by omega)⟩
  case round =>
    obtain ⟨k, hk, rfl, rfl, hv, hd, hz⟩ := hrel
    have HD := Lib.hid hd
    have HZ := Lib.hid hz
    clear hd hz
    have hv' : Dm.val (s.data.toList.take k) ≤ 18446744073709551615 := hv
    by_cases hlt : k < s.size
    · have hts := take_snoc' s k hlt
      have e1 := Dm.val_snoc (s.data.toList.take k) s[k]
      rw [← hts] at e1
      have H1 := Lib.hid e1
      clear e1 hts hv
      generalize hA : Dm.val (s.data.toList.take k) = A at *
      have HA := Lib.hid hA
      clear hA
      have hkl : k < s.data.toList.length := by rw [size_list]; exact hlt
      by_cases c0 : s[k].toNat < 48
      · have hfin := figV_end s.data.toList k (by omega) HD.out (.inr ⟨hkl, by rw [get_list]; unfold Dm.isD; rw [decide_eq_false (show ¬ 48 ≤ s[k].toNat by omega)]; rfl⟩) (by rw [HA.out]; exact hv') HZ.out
        rw [HA.out] at hfin
        have HF := Lib.hid hfin
        clear hfin
        go_wp2
        rw [HF.out]
        go_ret3
        exact ⟨rfl, rfl⟩
      have c0' : 48 ≤ s[k].toNat := by omega
      clear c0
      by_cases c1 : 57 < s[k].toNat
      · have hfin := figV_end s.data.toList k (by omega) HD.out (.inr ⟨hkl, by rw [get_list]; unfold Dm.isD; rw [decide_eq_false (show ¬ s[k].toNat ≤ 57 by omega), Bool.and_false]⟩) (by rw [HA.out]; exact hv') HZ.out
        rw [HA.out] at hfin
        have HF := Lib.hid hfin
        clear hfin
        go_wp2
        rw [HF.out]
        go_ret3
        exact ⟨rfl, rfl⟩
      have c1' : s[k].toNat ≤ 57 := by omega
      clear c1
      have hd' : ∀ i (h : i < k + 1) (h' : i < s.data.toList.length), Dm.isD s.data.toList[i] = true := by
        intro i h h'
        rcases Nat.lt_or_ge i k with a | a
        · exact HD.out i a h'
        · obtain rfl : i = k := by omega
          rw [get_list, Dm.isD_iff]; omega
      have HD' := Lib.hid hd'
      clear hd'
      by_cases c2 : 0 < k ∧ s[0].toNat = 48
      · obtain ⟨c2, c3⟩ := c2
        have hfin := figV_bad s.data.toList (Dm.bad_zero s.data.toList k c2 hkl (fun i h => HD'.out i h (by omega)) (by rw [head_list s (by omega)]; congr 1; exact UInt8.toNat_inj.1 c3))
        have HF := Lib.hid hfin
        have hb : ((s[0].toNat : Int) == 48) = true := by simp; omega
        clear hfin c3
        go_wp2
        (try rw [Exit.noGoto_ret])
        go_ret3
        exact ⟨by rw [HF.out]; rfl, rfl⟩
      have hdv : Dm.dv s[k] = s[k].toNat - 48 := rfl
      have HDV := Lib.hid hdv
      clear hdv
      have C2 := Lib.hid c2
      clear c2
      by_cases c4 : 18446744073709551615 < 10 * A + (s[k].toNat - 48)
      · have hfin := figV_bad s.data.toList (Dm.bad_big s.data.toList k hkl (fun i h => HD'.out i h (by omega)) (by rw [H1.out, HDV.out]; exact c4))
        have HF := Lib.hid hfin
        clear hfin
        have c4' : (18446744073709551615 - ((s[k].toNat : Int) - 48)) / 10 < (A : Int) := by omega
        clear c4
        by_cases c5 : k = 0
        · subst c5
          go_wp2
          (try rw [Exit.noGoto_ret])
          go_ret3
          exact ⟨by rw [HF.out]; rfl, rfl⟩
        · have c5' : 0 < k := by omega
          have hb : ((s[0].toNat : Int) == 48) = false := by
            have := C2.out
            simp; omega
          clear c5
          go_wp2
          (try rw [Exit.noGoto_ret])
          go_ret3
          exact ⟨by rw [HF.out]; rfl, rfl⟩
      have c4' : (A : Int) ≤ (18446744073709551615 - ((s[k].toNat : Int) - 48)) / 10 := by omega
      have c6 : (A : Int) * 10 + ((s[k].toNat : Int) - 48) ≤ 18446744073709551615 := by omega
      have hnew : ((10 * A + (s[k].toNat - 48) : Nat) : Int) = (A : Int) * 10 + ((s[k].toNat : Int) - 48) := by omega
      have HN := Lib.hid hnew
      have C4 := Lib.hid c4
      clear c4 hnew
      by_cases c5 : k = 0
      · subst c5
        go_wp2
        go_round
        case rel => exact ⟨0 + 1, by omega, by go_num, by rw [H1.out, HDV.out, HN.out], by rw [H1.out, HDV.out]; have := C4.out; unfold Dm.maxU; omega, HD'.out, fun h => absurd h (by omega)⟩
        case measure => simp [intOf]; omega
      · have c5' : 0 < k := by omega
        have hb : ((s[0].toNat : Int) == 48) = false := by
          have := C2.out
          simp; omega
        clear c5
        have hh : 1 < k + 1 → s.data.toList.head? ≠ some 48 := by
          intro _ e
          rw [head_list s (by omega)] at e
          injection e with e
          have := C2.out
          rw [e] at this
          exact this ⟨c5', by decide⟩
        have HH := Lib.hid hh
        clear hh
        go_wp2
        go_round
        case rel => exact ⟨k + 1, by omega, by go_num, by rw [H1.out, HDV.out, HN.out], by rw [H1.out, HDV.out]; have := C4.out; unfold Dm.maxU; omega, HD'.out, HH.out⟩
        case measure => simp [intOf]; omega
    · have hfin := figV_end s.data.toList k (by rw [size_list]; exact hk) HD.out (.inl (by rw [size_list]; omega)) hv HZ.out
      have HF := Lib.hid hfin
      clear hfin
      generalize Dm.val (s.data.toList.take k) = A at *
      go_wp2
      rw [HF.out]
      go_ret3
      exact ⟨rfl, rfl⟩
end Go.Proofs.Ythcdcjidoacalaa
