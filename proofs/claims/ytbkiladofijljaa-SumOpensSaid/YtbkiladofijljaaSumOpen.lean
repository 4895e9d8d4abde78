/- The contract of sum.Open. -/
import Derived.Test.YtbkiladofijljaaSumShown
import Derived.Test.YtbkiladofijljaaDecTakeNum
namespace Go.Proofs.Ytbkiladofijljaa
open Go.RowKit
set_option linter.unusedVariables false

def topen2 (s : List UInt8) (x : Nat × List UInt8 × Nat) : List UInt8 × List UInt8 × Nat :=
  if x.2.2 ≠ 0 then ([], [], x.2.2) else if (x.1 : Int) ≠ Sm.adler s then ([], [], 10) else (s, x.2.1, 0)
def topen1 (x : List UInt8 × List UInt8 × Nat) : List UInt8 × List UInt8 × Nat :=
  if x.2.2 ≠ 0 then ([], [], x.2.2) else topen2 x.1 (Dm.tnum x.2.1)
/-- what is opened: the text, what stands behind it, the errno. -/
def topen (l : List UInt8) (most : Int) : List UInt8 × List UInt8 × Nat := topen1 (Dm.ttext l most)

theorem ttext_len (l : List UInt8) (most : Int) : (Dm.ttext l most).1.length ≤ l.length ∧ (Dm.ttext l most).2.1.length ≤ l.length := by
  have h := Dm.tnum_len l
  unfold Dm.ttext
  split
  · simp
  · split
    · simp
    · split
      · simp
      · simp; omega
theorem ttext_err (l : List UInt8) (most : Int) : (Dm.ttext l most).2.2 ≤ 4 := by
  have h := Dm.tnum_err l
  unfold Dm.ttext
  split
  · simp only; omega
  · split
    · simp
    · split <;> simp

/-- a list of bytes as a text. -/
theorem bytes_of (r : List UInt8) : ∃ R : ByteArray, R = ⟨r.toArray⟩ ∧ R.size = r.length ∧ R.data.toList = r := ⟨_, rfl, by show r.toArray.size = _; simp, rfl⟩

set_option maxHeartbeats 400000 in
theorem open_any (f : ByteArray) (most : Int) (w : World) (hs : f.size ≤ maxLen) (hm0 : -9223372036854775808 ≤ most) (hm1 : most ≤ 9223372036854775807) :
    Calls Try.prog 17 #[.string f, .int .i64 most] w fun e w' => e = .returned (ttR (topen f.data.toList most)) ∧ Q w w' := by
  have hcall := takeText_any f most w hs hm0 hm1
  have hlen := ttext_len f.data.toList most
  have herr := ttext_err f.data.toList most
  rw [size_list] at hlen
  have htx : topen f.data.toList most = topen1 (Dm.ttext f.data.toList most) := rfl
  generalize topen f.data.toList most = out at *
  subst htx
  generalize Dm.ttext f.data.toList most = x at *
  obtain ⟨t, r, er⟩ := x
  obtain ⟨S, hS, hSs, hSl⟩ := bytes_of t
  obtain ⟨R, hR, hRs, hRl⟩ := bytes_of r
  unfold ttR at hcall
  simp only at hlen hcall herr
  rw [← hS, ← hR] at hcall
  rw [← hSs, ← hRs] at hlen
  obtain ⟨hl1, hl2⟩ := hlen
  have HC := Lib.hid hcall
  have HSL := Lib.hid hSl
  have HRL := Lib.hid hRl
  have HS := Lib.hid hS
  clear hcall hSl hRl hS hR hSs hRs
  by_cases c0 : er = 0
  · subst c0
    clear herr
    have ho : topen1 (t, r, 0) = topen2 t (Dm.tnum r) := by unfold topen1; rw [if_neg (by simp)]
    rw [ho]
    have hcall2 := fun W => takeNum_any R W (Nat.le_trans hl2 hs)
    have hle := Dm.tnum_le r
    have hlen := Dm.tnum_len r
    have herr := Dm.tnum_err r
    rw [HRL.out] at hcall2
    generalize Dm.tnum r = y at *
    obtain ⟨v, r2, er2⟩ := y
    obtain ⟨R2, hR2, hR2s, hR2l⟩ := bytes_of r2
    unfold tnR at hcall2
    simp only at hle hlen herr hcall2
    rw [← hR2] at hcall2
    have HR2 := Lib.hid hR2
    have HC2 := Lib.hid hcall2
    clear ho hcall2 hR2 hR2s hR2l hlen
    unfold Dm.maxU at hle
    by_cases c1 : er2 = 0
    · subst c1
      clear herr
      have hof := fun W => of_any S W (Nat.le_trans hl1 hs)
      rw [HSL.out] at hof
      have hr := Sm.adler_range t
      have HOF := Lib.hid hof
      clear hof
      unfold maxLen at hs
      by_cases c2 : (v : Int) = Sm.adler t
      · have hfin : topen2 t (v, r2, 0) = (t, r2, 0) := by unfold topen2; rw [if_neg (by simp), if_neg (by simpa using c2)]
        have hbn : ((v : Int) != Sm.adler t) = false := by simpa using c2
        have HF := Lib.hid hfin
        clear hfin c2
        generalize Sm.adler t = ad at *
        go_enter Try.func17, Try.ntmps17
        go_wp2_with fail
        refine HC.out.mono ?_
        rintro e w1 ⟨rfl, q1⟩
        go_wp2_with fail
        refine (HC2.out _).mono ?_
        rintro e w2 ⟨rfl, q2⟩
        go_wp2_with fail
        refine (HOF.out _).mono ?_
        rintro e w3 ⟨rfl, q3⟩
        go_wp2_with fail
        go_ret3
        refine ⟨?_, q1.trans (q2.trans q3)⟩
        rw [HF.out]; unfold ttR
        simp only [← HR2.out, ← HS.out]; rfl
      · have hfin : topen2 t (v, r2, 0) = ([], [], 10) := by unfold topen2; rw [if_neg (by simp), if_pos (by simpa using c2)]
        have hbn : ((v : Int) != Sm.adler t) = true := by simpa using c2
        have HF := Lib.hid hfin
        clear hfin c2
        generalize Sm.adler t = ad at *
        go_enter Try.func17, Try.ntmps17
        go_wp2_with fail
        refine HC.out.mono ?_
        rintro e w1 ⟨rfl, q1⟩
        go_wp2_with fail
        refine (HC2.out _).mono ?_
        rintro e w2 ⟨rfl, q2⟩
        go_wp2_with fail
        refine (HOF.out _).mono ?_
        rintro e w3 ⟨rfl, q3⟩
        go_wp2_with fail
        go_ret3
        exact ⟨by rw [HF.out]; rfl, q1.trans (q2.trans q3)⟩
    · have hfin : topen2 t (v, r2, er2) = ([], [], er2) := by unfold topen2; rw [if_pos c1]
      have hne : ((er2 : Int) != 0) = true := by simp; omega
      have HF := Lib.hid hfin
      clear hfin c1 herr
      go_enter Try.func17, Try.ntmps17
      go_wp2_with fail
      refine HC.out.mono ?_
      rintro e w1 ⟨rfl, q1⟩
      go_wp2_with fail
      refine (HC2.out _).mono ?_
      rintro e w2 ⟨rfl, q2⟩
      go_wp2_with fail
      go_ret3
      exact ⟨by rw [HF.out]; rfl, q1.trans q2⟩
  · have ho : topen1 (t, r, er) = ([], [], er) := by unfold topen1; rw [if_pos c0]
    have hne : ((er : Int) != 0) = true := by simp; omega
    have HF := Lib.hid ho
    clear ho c0 herr
    go_enter Try.func17, Try.ntmps17
    go_wp2_with fail
    refine HC.out.mono ?_
    rintro e w1 ⟨rfl, q1⟩
    go_wp2_with fail
    go_ret3
    exact ⟨by rw [HF.out]; rfl, q1⟩

/-! ### What was sealed is opened -/
theorem adler_maxU (l : List UInt8) : (Sm.adler l).toNat ≤ Dm.maxU := by have := Sm.adler_range l; unfold Dm.maxU; omega
theorem topen_sld (s more : List UInt8) (most : Int) (h : s.length ≤ Dm.maxU) (hm : (s.length : Int) ≤ most) : topen (sld s ++ more) most = (s, more, 0) := by
  have e : sld s ++ more = Dm.num s.length ++ (s ++ (Dm.num (Sm.adler s).toNat ++ more)) := by simp [sld]
  have hr := Sm.adler_range s
  unfold topen
  rw [e, Dm.ttext_text s _ most h hm]
  unfold topen1
  rw [if_neg (by simp)]
  simp only
  rw [Dm.tnum_num _ _ (adler_maxU s)]
  unfold topen2
  rw [if_neg (by simp), if_neg (by simp only [ne_eq, Decidable.not_not]; omega)]
theorem topen_big (s : List UInt8) (most : Int) (h : s.length ≤ Dm.maxU) (hm : most < (s.length : Int)) : topen (sld s) most = ([], [], 4) := by
  have e : sld s = Dm.num s.length ++ (s ++ Dm.num (Sm.adler s).toNat) := by simp [sld]
  unfold topen
  rw [e, Dm.ttext_big s _ most h hm]
  unfold topen1
  rw [if_pos (by simp)]
theorem topen_cut (s : List UInt8) (most : Int) (h : s.length ≤ Dm.maxU) (hm : (s.length : Int) ≤ most) (k : Nat) (hk : k < (sld s).length) : topen ((sld s).take k) most = ([], [], 2) := by
  unfold topen
  rcases Nat.lt_or_ge k (Dm.num s.length ++ s).length with a | a
  · have e : (sld s).take k = (Dm.num s.length ++ s).take k := by
      unfold sld; rw [List.take_append_of_le_length (by omega)]
    rw [e, Dm.ttext_cut s most h hm k a]
    unfold topen1
    rw [if_pos (by simp)]
  · have e : (sld s).take k = Dm.num s.length ++ (s ++ (Dm.num (Sm.adler s).toNat).take (k - (Dm.num s.length ++ s).length)) := by
      unfold sld; rw [List.take_append, List.take_of_length_le a]; simp
    rw [e, Dm.ttext_text s _ most h hm]
    unfold topen1
    rw [if_neg (by simp)]
    simp only
    have hk2 : k - (Dm.num s.length ++ s).length < (Dm.num (Sm.adler s).toNat).length := by
      unfold sld at hk; rw [List.length_append] at hk; omega
    rw [Dm.tnum_cut _ (adler_maxU s) _ hk2]
    unfold topen2
    rw [if_pos (by simp)]
end Go.Proofs.Ytbkiladofijljaa
