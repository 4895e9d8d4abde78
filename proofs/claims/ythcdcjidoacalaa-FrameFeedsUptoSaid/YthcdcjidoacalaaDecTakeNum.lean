/- Contracts of package dec's TakeNum, above, TakeText. -/
import Derived.Test.YthcdcjidoacalaaDecTake
namespace Go.Proofs.Ythcdcjidoacalaa
set_option maxRecDepth 100000
open Go.RowKit
set_option linter.unusedVariables false

theorem extract_list (s : ByteArray) (a b : Nat) : s.extract a b = ⟨((s.data.toList.take b).drop a).toArray⟩ := by
  apply ByteArray.ext
  rw [ByteArray.data_extract]
  apply Array.ext'
  simp [List.extract_eq_take_drop, List.drop_take]

def tnR (r : Nat × List UInt8 × Nat) : Value := .tuple #[.int .u64 (r.1 : Int), .string ⟨r.2.1.toArray⟩, .int .i64 (r.2.2 : Int)]

set_option maxHeartbeats 400000 in
theorem takeNum_any (s : ByteArray) (w : World) (hs : s.size ≤ maxLen) :
    Calls Try.prog 26 #[.string s] w fun e w' => e = .returned (tnR (Dm.tnum s.data.toList)) ∧ Q w w' := by
  by_cases hb : Dm.bad s.data.toList = true
  · have hf := figV_bad _ hb
    have ht : Dm.tnum s.data.toList = (0, [], 3) := by unfold Dm.tnum; rw [if_pos hb]
    have HF := Lib.hid hf
    have HT := Lib.hid ht
    clear hf ht hb
    go_enter Try.func26, Try.ntmps26
    go_wp2_with fail
    refine (figures_any _ _ hs).mono ?_
    rintro e w1 ⟨rfl, rfl⟩
    rw [HF.out]
    go_wp2_with fail
    go_ret3
    exact ⟨by rw [HT.out]; rfl, Q.refl _⟩
  have hf : figV s.data.toList = .tuple #[.int .u64 (Dm.val (Dm.figs s.data.toList)), .int .i64 ((Dm.figs s.data.toList).length : Int), .bool true] := by unfold figV; rw [if_neg hb]
  have hle : (Dm.figs s.data.toList).length ≤ s.size := by have := Dm.figs_len s.data.toList; rw [size_list] at this; exact this
  have hrest := Dm.rest_eq s.data.toList
  have htn : Dm.tnum s.data.toList = if Dm.rest s.data.toList = [] then (0, [], 2) else if (Dm.rest s.data.toList).head? ≠ some 59 ∨ Dm.figs s.data.toList = [] then (0, [], 3) else (Dm.val (Dm.figs s.data.toList), (Dm.rest s.data.toList).tail, 0) := by
    unfold Dm.tnum; rw [if_neg hb]
  have HF := Lib.hid hf
  have HR := Lib.hid hrest
  have HT := Lib.hid htn
  have hnil : Dm.figs s.data.toList = [] ↔ (Dm.figs s.data.toList).length = 0 := List.length_eq_zero_iff.symm
  have HNIL := Lib.hid hnil
  have hval : Dm.val (Dm.figs s.data.toList) ≤ 18446744073709551615 := by
    have : Dm.bad s.data.toList = false := by simpa using hb
    unfold Dm.bad at this
    simp only [Bool.or_eq_false_iff, decide_eq_false_iff_not] at this
    have h2 := this.2
    unfold Dm.maxU at h2; omega
  clear hf hrest htn hb hnil
  generalize hN : (Dm.figs s.data.toList).length = n at *
  generalize hV : Dm.val (Dm.figs s.data.toList) = v at *
  unfold maxLen at hs
  by_cases c0 : n = s.size
  · have ht : Dm.tnum s.data.toList = (0, [], 2) := by
      rw [HT.out, if_pos (by rw [HR.out]; exact List.drop_of_length_le (by rw [size_list]; omega))]
    have HT2 := Lib.hid ht
    have hbeq : ((n : Int) == (s.size : Int)) = true := by simp; omega
    clear hN hV c0 ht
    go_enter Try.func26, Try.ntmps26
    go_wp2_with fail
    refine (figures_any _ _ (by unfold maxLen; omega)).mono ?_
    rintro e w1 ⟨rfl, rfl⟩
    rw [HF.out]
    go_wp2_with fail
    go_ret3
    exact ⟨by rw [HT2.out]; rfl, Q.refl _⟩
  have hlt : n < s.size := by omega
  have hbeq : ((n : Int) == (s.size : Int)) = false := by simp; omega
  have hrs : Dm.rest s.data.toList = s[n] :: s.data.toList.drop (n + 1) := by
    rw [HR.out, List.drop_eq_getElem_cons (by rw [size_list]; exact hlt)]; rfl
  have HRS := Lib.hid hrs
  clear hN hV c0 hrs
  by_cases c1 : s[n].toNat = 59
  · have h59 : s[n] = 59 := UInt8.toNat_inj.1 (by rw [c1]; rfl)
    have hne : ((s[n].toNat : Int) != 59) = false := by simp; omega
    clear c1
    by_cases c2 : n = 0
    · have ht : Dm.tnum s.data.toList = (0, [], 3) := by
        rw [HT.out, HRS.out, if_neg (by simp), if_pos (.inr (HNIL.out.2 c2))]
      have HT2 := Lib.hid ht
      have h0 : ((n : Int) == 0) = true := by simp; omega
      clear ht c2 h59
      go_enter Try.func26, Try.ntmps26
      go_wp2_with fail
      refine (figures_any _ _ (by unfold maxLen; omega)).mono ?_
      rintro e w1 ⟨rfl, rfl⟩
      rw [HF.out]
      go_wp2_with fail
      go_ret3
      exact ⟨by rw [HT2.out]; rfl, Q.refl _⟩
    · have ht : Dm.tnum s.data.toList = (v, s.data.toList.drop (n + 1), 0) := by
        rw [HT.out, HRS.out, if_neg (by simp), if_neg (by rw [h59]; simp; exact fun e => c2 (HNIL.out.1 e))]; rfl
      have HT2 := Lib.hid ht
      have h0 : ((n : Int) == 0) = false := by simp; omega
      have he := extract_list s (n + 1) s.size
      rw [List.take_of_length_le (by rw [size_list]; omega)] at he
      have HE := Lib.hid he
      have e1 : IntKind.i64.wrap ((n : Int) + 1) = (n : Int) + 1 := IntWalk.i64_in _ (by omega)
      have e2 : 0 ≤ (n : Int) + 1 := by omega
      have e3 : ((n : Int) + 1).toNat = n + 1 := by omega
      have e4 : (n : Int) + 1 ≤ (s.size : Int) := by omega
      clear ht c2 h59 he
      go_enter Try.func26, Try.ntmps26
      go_wp2_with fail
      refine (figures_any _ _ (by unfold maxLen; omega)).mono ?_
      rintro e w1 ⟨rfl, rfl⟩
      rw [HF.out]
      go_wp2_with fail
      go_quiet (fail)
      go_wp2_with fail
      go_ret3
      refine ⟨?_, (Q.refl _).drewN _⟩
      rw [HT2.out]; unfold tnR
      simp only [← HE.out]; rfl
  · have h59 : s[n] ≠ 59 := fun e => c1 (by rw [e]; rfl)
    have ht : Dm.tnum s.data.toList = (0, [], 3) := by
      rw [HT.out, HRS.out, if_neg (by simp), if_pos (.inl (by simpa using h59))]
    have hne : ((s[n].toNat : Int) != 59) = true := by simp; omega
    have HT2 := Lib.hid ht
    clear ht c1 h59
    go_enter Try.func26, Try.ntmps26
    go_wp2_with fail
    refine (figures_any _ _ (by unfold maxLen; omega)).mono ?_
    rintro e w1 ⟨rfl, rfl⟩
    rw [HF.out]
    go_wp2_with fail
    go_ret3
    exact ⟨by rw [HT2.out]; rfl, Q.refl _⟩

set_option maxHeartbeats 400000 in
theorem above_yes (v b : Int) (w : World) (h0 : 0 ≤ v) (h1 : v ≤ 18446744073709551615) (h2 : -9223372036854775808 ≤ b) (h3 : b ≤ 9223372036854775807) (h : b < 0 ∨ b < v) :
    Calls Try.prog 27 #[.int .u64 v, .int .i64 b] w fun e w' => e = .returned (.bool true) ∧ w = w' := by
  by_cases c : b < 0
  · have d : decide (b < 0) = true := by simpa using c
    clear h
    go_enter Try.func27, Try.ntmps27
    go_wp2
    go_ret
    exact ⟨rfl, rfl⟩
  · have c' : 0 ≤ b := by omega
    have d : decide (b < 0) = false := by simpa using c'
    have e : b < v := by omega
    have d2 : decide (b < v) = true := by simpa using e
    clear h c
    go_enter Try.func27, Try.ntmps27
    go_wp2
    go_ret
    exact ⟨rfl, rfl⟩
set_option maxHeartbeats 400000 in
theorem above_no (v b : Int) (w : World) (h0 : 0 ≤ v) (h1 : v ≤ 18446744073709551615) (h2 : 0 ≤ b) (h3 : b ≤ 9223372036854775807) (h : v ≤ b) :
    Calls Try.prog 27 #[.int .u64 v, .int .i64 b] w fun e w' => e = .returned (.bool false) ∧ w = w' := by
  have d : decide (b < 0) = false := by simpa using h2
  have d2 : decide (b < v) = false := by simpa using h
  go_enter Try.func27, Try.ntmps27
  go_wp2
  go_ret
  exact ⟨rfl, rfl⟩

def ttR (r : List UInt8 × List UInt8 × Nat) : Value := .tuple #[.string ⟨r.1.toArray⟩, .string ⟨r.2.1.toArray⟩, .int .i64 (r.2.2 : Int)]

set_option maxHeartbeats 400000 in
theorem takeText_any (s : ByteArray) (most : Int) (w : World) (hs : s.size ≤ maxLen) (hm0 : -9223372036854775808 ≤ most) (hm1 : most ≤ 9223372036854775807) :
    Calls Try.prog 20 #[.string s, .int .i64 most] w fun e w' => e = .returned (ttR (Dm.ttext s.data.toList most)) ∧ Q w w' := by
  have hlen := Dm.tnum_len s.data.toList
  have hle := Dm.tnum_le s.data.toList
  have hcall := takeNum_any s w hs
  have htx : Dm.ttext s.data.toList most = if (Dm.tnum s.data.toList).2.2 ≠ 0 then ([], [], (Dm.tnum s.data.toList).2.2) else if most < 0 ∨ most < ((Dm.tnum s.data.toList).1 : Int) then ([], [], 4) else if (Dm.tnum s.data.toList).2.1.length < (Dm.tnum s.data.toList).1 then ([], [], 2)
    else ((Dm.tnum s.data.toList).2.1.take (Dm.tnum s.data.toList).1, (Dm.tnum s.data.toList).2.1.drop (Dm.tnum s.data.toList).1, 0) := rfl
  have herr := Dm.tnum_err s.data.toList
  generalize Dm.tnum s.data.toList = x at *
  obtain ⟨n, r, er⟩ := x
  obtain ⟨R, hR⟩ : ∃ R : ByteArray, R = ⟨r.toArray⟩ := ⟨_, rfl⟩
  have hsz : R.size = r.length := by rw [hR]; show r.toArray.size = _; simp
  have hl : R.data.toList = r := by rw [hR]
  unfold tnR at hcall
  simp only at hlen hle hcall htx herr
  rw [← hR] at hcall
  have hRle : R.size ≤ s.size := by rw [hsz]; rw [size_list] at hlen; exact hlen
  unfold maxLen at hs
  unfold Dm.maxU at hle
  have HC := Lib.hid hcall
  have HT := Lib.hid htx
  have HSZ := Lib.hid hsz
  have HL := Lib.hid hl
  clear hcall htx hsz hl hR hlen
  by_cases c0 : er = 0
  · subst c0
    clear herr
    by_cases c1 : most < 0 ∨ most < (n : Int)
    · have ht : Dm.ttext s.data.toList most = ([], [], 4) := by rw [HT.out, if_neg (by simp), if_pos c1]
      have HT2 := Lib.hid ht
      have C1 := Lib.hid c1
      clear ht c1
      go_enter Try.func20, Try.ntmps20
      go_wp2_with fail
      refine HC.out.mono ?_
      rintro e w1 ⟨rfl, q1⟩
      go_wp2_with fail
      refine (above_yes _ _ _ (by omega) (by omega) hm0 hm1 C1.out).mono ?_
      rintro e w2 ⟨rfl, rfl⟩
      go_wp2_with fail
      go_ret3
      exact ⟨by rw [HT2.out]; rfl, q1⟩
    have c1' : 0 ≤ most := by omega
    have c1'' : (n : Int) ≤ most := by omega
    by_cases c2 : R.size < n
    · have ht : Dm.ttext s.data.toList most = ([], [], 2) := by rw [HT.out, if_neg (by simp), if_neg c1, if_pos (by rw [← HSZ.out]; exact c2)]
      have HT2 := Lib.hid ht
      clear ht c1
      go_enter Try.func20, Try.ntmps20
      go_wp2_with fail
      refine HC.out.mono ?_
      rintro e w1 ⟨rfl, q1⟩
      go_wp2_with fail
      refine (above_no _ _ _ (by omega) (by omega) c1' hm1 c1'').mono ?_
      rintro e w2 ⟨rfl, rfl⟩
      go_wp2_with fail
      refine (above_yes _ _ _ (by omega) (by omega) (by omega) (by omega) (by omega)).mono ?_
      rintro e w2 ⟨rfl, rfl⟩
      go_wp2_with fail
      go_ret3
      exact ⟨by rw [HT2.out]; rfl, q1⟩
    have c2' : n ≤ R.size := by omega
    have ht : Dm.ttext s.data.toList most = (r.take n, r.drop n, 0) := by rw [HT.out, if_neg (by simp), if_neg c1, if_neg (by rw [← HSZ.out]; exact c2)]
    have he1 := extract_list R 0 n
    have he2 := extract_list R n R.size
    rw [List.take_of_length_le (by rw [size_list]; omega), HL.out] at he2
    rw [HL.out, List.drop_zero] at he1
    have HT2 := Lib.hid ht
    have HE1 := Lib.hid he1
    have HE2 := Lib.hid he2
    have e4 : (n : Int) ≤ (R.size : Int) := by omega
    clear ht c1 c2 he1 he2
    go_enter Try.func20, Try.ntmps20
    go_wp2_with fail
    refine HC.out.mono ?_
    rintro e w1 ⟨rfl, q1⟩
    go_wp2_with fail
    refine (above_no _ _ _ (by omega) (by omega) c1' hm1 c1'').mono ?_
    rintro e w2 ⟨rfl, rfl⟩
    go_wp2_with fail
    refine (above_no _ _ _ (by omega) (by omega) (by omega) (by omega) (by omega)).mono ?_
    rintro e w2 ⟨rfl, rfl⟩
    go_wp2_with fail
    go_quiet (fail)
    go_wp2_with fail
    go_ret3
    refine ⟨?_, q1.drewN _⟩
    rw [HT2.out]; unfold ttR
    simp only [← HE1.out, ← HE2.out]; rfl
  · have ht : Dm.ttext s.data.toList most = ([], [], er) := by rw [HT.out, if_pos c0]
    have HT2 := Lib.hid ht
    have hne : ((er : Int) != 0) = true := by simp; omega
    clear ht c0 herr
    go_enter Try.func20, Try.ntmps20
    go_wp2_with fail
    refine HC.out.mono ?_
    rintro e w1 ⟨rfl, q1⟩
    go_wp2_with fail
    go_ret3
    exact ⟨by rw [HT2.out]; rfl, q1⟩
end Go.Proofs.Ythcdcjidoacalaa
