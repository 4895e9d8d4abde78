/- The contract of the document's Whole. -/
import Derived.Test.YthcdcjidoacalaaFrmWhole2
import Derived.Test.YthcdcjidoacalaaDecRefText
import Derived.Test.YthcdcjidoacalaaAppK
namespace Go.Proofs.Ythcdcjidoacalaa
set_option maxRecDepth 100000
open Go.RowKit
set_option linter.unusedVariables false
namespace Fm

set_option maxHeartbeats 2000000 in
theorem frefWhole_any (s : ByteArray) (w : World) (hs : s.size ≤ maxLen) (hbig : (wh s.data.toList).1.length * 16 ≤ 140737488355328) :
    Calls Try.prog 13 #[.string s] w fun e w' => ∃ A c, e = .returned (.tuple #[.slice A (wh s.data.toList).1.length c, .int .i64 (usedN s.data.toList), .bool (on s.data.toList)]) ∧ OwnK textK w' w.heap.size A (wh s.data.toList).1.length c (wh s.data.toList).1 ∧ Q w w' := by
  have HS := Lib.hid hs
  have HB := Lib.hid hbig
  have hs0 : s.size ≤ 9223372036854775807 := by unfold maxLen at hs; omega
  clear hbig
  go_enter Try.func13, Try.ntmps13
  go_wp2
  go_loopw [5, 6] (fun v i wr => ∃ us vs A c, (wh s.data.toList).1 = us ++ vs ∧ i = .int .i64 ((wraps us).length : Nat) ∧ v = .slice A us.length c ∧ OwnK textK wr w.heap.size A us.length c us ∧ Q w wr) (fun _ i _ => s.size - (intOf i).toNat)
  case atStart => exact ⟨[], (wh s.data.toList).1, none, 0, rfl, rfl, rfl, OwnK.nil_ _ _ _, Q.refl _⟩
  case round =>
    obtain ⟨us, vs, A, c, hx, rfl, rfl, ho, hq⟩ := hrel
    have hl := wh_eq s.data.toList
    rw [hx, wraps_app, List.append_assoc] at hl
    have hno := wh_stop s.data.toList
    have hle := wh_le s.data.toList
    rw [hx] at hle
    have hon : on s.data.toList = decide ((Dm.ttext (wh s.data.toList).2 2048).2.2 = 2) := rfl
    have hln := congrArg List.length hl
    rw [size_list, List.length_append] at hln
    have hus : usedN s.data.toList = (wraps (us ++ vs)).length := by unfold usedN; rw [hx]
    have hbig2 : (us.length + 1) * 16 ≤ 140737488355328 ∨ vs = [] := by
      cases vs with
      | nil => exact .inr rfl
      | cons r vs => left; have h1 := HB.out; rw [hx, List.length_append, List.length_cons] at h1; omega
    have hdrop : s.data.toList.drop (wraps us).length = wraps vs ++ (wh s.data.toList).2 := by
      conv => lhs; rw [hl]
      exact List.drop_left' rfl
    have hex : (s.extract (wraps us).length s.size).data.toList = wraps vs ++ (wh s.data.toList).2 := by
      rw [extract_list, ← hdrop]
      show (s.data.toList.take s.size).drop _ = _
      rw [List.take_of_length_le (by rw [size_list]; omega)]
    have HU := Lib.hid hx
    have HO := Lib.hid ho
    have HQ := Lib.hid hq
    clear hx hl ho hq
    obtain ⟨t, ht⟩ : ∃ t, t = (wh s.data.toList).2 := ⟨_, rfl⟩
    obtain ⟨k, hk⟩ : ∃ k, k = (wraps us).length := ⟨_, rfl⟩
    rw [← ht] at hno hex hdrop hln hon
    rw [← hk] at hex hdrop hln ⊢
    have HK := Lib.hid hk
    have HT := Lib.hid ht
    have HX := Lib.hid hex
    clear ht hk hex hdrop
    have hks : k ≤ s.size := by omega
    have hEs : (s.extract k s.size).size = s.size - k := by rw [ByteArray.size_extract]; omega
    have KO := Lib.hid (fun w => refTakeText_any (s.extract k s.size) 2048 w (by have := HS.out; omega) (by omega) (by omega))
    rw [HX.out] at KO
    cases vs with
    | nil =>
      rw [show wraps [] = [] from rfl, List.nil_append] at KO
      have hfin : (wh s.data.toList).1 = us := by rw [HU.out, List.append_nil]
      have HF := Lib.hid hfin
      have hk2 : (usedN s.data.toList : Int) = (k : Int) := by rw [hus, List.append_nil, HK.out]
      have HK2 := Lib.hid hk2
      unfold tt at hno
      generalize Dm.ttext t 2048 = r at KO hno hon
      obtain ⟨x, y, er⟩ := r
      simp only [ttR] at KO hon
      have hne : ¬ ((er : Int) = 0) := by simpa using hno
      have hkb : ((er : Int) == 2) = on s.data.toList := by rw [hon, Bool.eq_iff_iff]; simp; omega
      have HKB := Lib.hid hkb
      clear hfin hk2 hus hle hln hno hbig2 hon hkb
      go_wp2_with fail
      refine (KO.out _).mono ?_
      rintro e w2 ⟨rfl, q2⟩
      go_wp2
      go_ret3
      refine ⟨A, c, by rw [HK2.out, HF.out, ← HKB.out]; rfl, by rw [HF.out]; exact HO.out.q q2, HQ.out.trans q2⟩
    | cons r vs =>
      have hr : r.length ≤ 2048 := hle r (by simp)
      have htt := tt_wrap (wraps vs ++ t) hr
      unfold tt at htt
      rw [show wraps (r :: vs) ++ t = wrap r ++ (wraps vs ++ t) by rw [wraps, List.append_assoc], htt] at KO
      simp only [ttR] at KO
      have h4 := wrap_len r
      have hb : (us.length + 1) * 16 ≤ 140737488355328 := hbig2.resolve_right (by simp)
      rw [show wraps (r :: vs) ++ t = wrap r ++ (wraps vs ++ t) by rw [wraps, List.append_assoc], List.length_append] at hln
      obtain ⟨T, hT⟩ : ∃ T : ByteArray, T = tx (wraps vs ++ t) := ⟨_, rfl⟩
      have hTs : T.size = (wraps vs ++ t).length := by rw [hT, tx_size]
      change Hid (∀ w, Calls _ _ _ w fun e w' => e = .returned (.tuple #[.string (tx r), .string (tx (wraps vs ++ t)), .int .i64 0]) ∧ Q w w') at KO
      rw [← hT] at KO
      have hTle : T.size ≤ s.size := by omega
      have hnew : (s.size : Int) - (T.size : Int) = ((k + (wrap r).length : Nat) : Int) := by omega
      have HW := Lib.hid hnew
      have hbw : w.heap.size ≤ wr.heap.size := HQ.out.size
      have hk9 : k + (wrap r).length ≤ s.size := by omega
      have hk8 : k < k + (wrap r).length := by omega
      have HK9 := Lib.hid (And.intro hk9 hk8)
      clear hT hTs hnew hus hle hln hno hbig2 h4 hr htt hon
      go_wp2_with fail
      refine (KO.out _).mono ?_
      rintro e w2 ⟨rfl, q2⟩
      have hb2 : w.heap.size ≤ w2.heap.size := Nat.le_trans hbw q2.size
      have HO2 := Lib.hid (HO.out.q q2)
      have HQ2 := Lib.hid (HQ.out.trans q2)
      clear q2
      go_wp2_with (at_builtin
                   refine wpl_appKG textK rfl (.tmp 24) (.tmp 26) 30 rfl rfl w.heap.size A us.length c us rfl (HO2.out.q ((Q.refl _).alloc _)) (some ⟨w2.heap.size, 0, none⟩) 1 1 [r] rfl ((OwnK.lit1 textK w2 w2.heap.size (Nat.le_refl _) r).lst) (fun e => by cases e) hb (by simp; omega) ?_
                   intro A3 c3 w3 ho3 hg3 hh3)
      go_roundw
      case rel =>
        refine ⟨us ++ [r], vs, A3, c3, by rw [HU.out]; simp, ?_, by simp, by rw [List.length_append]; exact ho3, ((HQ2.out.alloc (.cells #[.string (tx r)] 9)).below.trans (grown_below (HO2.out.q ((Q.refl _).alloc (.cells #[.string (tx r)] 9))) hg3 (by simp; omega)))⟩
        rw [HW.out, wraps_app, HK.out]; simp [wraps]
      case measure =>
        rw [HW.out]; simp only [intOf]
        have := HK9.out
        omega
end Fm
end Go.Proofs.Ythcdcjidoacalaa
