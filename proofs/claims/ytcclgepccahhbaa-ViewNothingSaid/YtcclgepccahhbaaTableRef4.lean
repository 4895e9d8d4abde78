/- Contracts: the document's answer for pairs: Put where the key is new. -/
import Derived.Test.YtcclgepccahhbaaTableRef3
import Derived.Deep.DeepCutAuto
namespace Go.Proofs.Ytcclgepccahhbaa
set_option maxRecDepth 100000
open Go.RowKit Prm
set_option linter.unusedVariables false
set_option linter.unusedSimpArgs false

/-- the list with p in place i. -/
def insAt (l : List Pr) (i : Nat) (p : Pr) : List Pr := l.take i ++ p :: l.drop i
theorem insAt_len {l : List Pr} {i : Nat} {p : Pr} (hi : i ≤ l.length) : (insAt l i p).length = l.length + 1 := by simp [insAt]; omega
theorem insAt_lo {l : List Pr} {i k : Nat} {p : Pr} (hi : i ≤ l.length) (hk : k < i) : (insAt l i p)[k]? = some (l[k]'(by omega)) := by
  unfold insAt
  rw [List.getElem?_append_left (by rw [List.length_take]; omega), List.getElem?_take, if_pos hk, List.getElem?_eq_getElem]
theorem insAt_eq {l : List Pr} {i : Nat} {p : Pr} (hi : i ≤ l.length) : (insAt l i p)[i]? = some p := by
  unfold insAt
  have hl : (l.take i).length = i := by rw [List.length_take]; omega
  rw [List.getElem?_append_right (by omega), hl, Nat.sub_self]; rfl
theorem insAt_hi {l : List Pr} {i k : Nat} {p : Pr} (hk : k < l.length) (hik : i ≤ k) : (insAt l i p)[k + 1]? = some l[k] := by
  unfold insAt
  have hl : (l.take i).length = i := by rw [List.length_take]; omega
  rw [List.getElem?_append_right (by omega), hl, show k + 1 - i = (k - i) + 1 by omega, List.getElem?_cons_succ, List.getElem?_drop, show i + (k - i) = k by omega, List.getElem?_eq_getElem hk]
theorem take_next {l : List Pr} {k : Nat} {x : Pr} (h : l[k]? = some x) : l.take (k + 1) = l.take k ++ [x] := by
  obtain ⟨hk, rfl⟩ := List.getElem?_eq_some_iff.1 h
  exact List.take_succ_eq_append_getElem hk

set_option maxHeartbeats 8000000 in
theorem refPut_new (key val : ByteArray) (A : Option Addr) (n c : Nat) (l : List Pr) (w : World) (hf : Lst pairK w A n l) (hb : (n + 1) * 32 ≤ 140737488355328) (hks : KeysIn l) (hky : key.size ≤ maxLen) (hall : ∀ a ∈ l, hasK key a = false) (i : Nat) (hi : i ≤ l.length) (hia : ∀ h : i < l.length, aboveK key l[i] = true) (hfirst : ∀ j, ∀ hj : j < l.length, j < i → aboveK key l[j] = false) :
    Calls Try.prog 43 #[.slice A n c, .string key, .string val] w fun e w' => RetL pairK w (n + 1) (insAt l i ⟨key, val⟩) e w' := by
  have HF := Lib.hid hf
  have HL := Lib.hid hf.len
  have HB := Lib.hid hb
  have K0 := Lib.hid (fun W (h : Lst pairK W A n l) => refFind_any key A n c l W h (by unfold maxLen; omega))
  rw [find_none hall] at K0
  have HFi := Lib.hid hfirst
  have HIa := Lib.hid hia
  have HKs := Lib.hid hks
  have HKy := Lib.hid hky
  have HT := Lib.hid (insAt_len (p := ⟨key, val⟩) hi)
  have hn : n ≤ 9223372036854775807 := by omega
  have hin : i ≤ n := by have := HL.out; omega
  clear hf hb hfirst hia hks hky hall
  go_enter Try.func43, Try.ntmps43
  go_wp2_with fail
  refine (K0.out _ HF.out).mono ?_
  rintro e w1 ⟨rfl, rfl⟩
  go_wp2
  go_loopw [9, 10, 11] (fun v d j wr => ∃ k : Nat, k ≤ n ∧ j = .int .i64 k ∧ d = .bool (decide (i < k)) ∧ Lo w ((insAt l i ⟨key, val⟩).take (if i < k then k + 1 else k)) v wr) (fun _ _ j _ => n - (intOf j).toNat)
  case atStart => exact ⟨0, Nat.zero_le _, rfl, rfl, none, 0, rfl, OwnK.nil_ _ _ _, Q.refl _⟩
  case round =>
    obtain ⟨k, hk, rfl, rfl, A3, c3, rfl, o3, q3⟩ := hrel
    have O3 := Lib.hid o3
    have Q3 := Lib.hid q3
    clear o3 q3
    by_cases hlt : k < n
    · have hkl : k < l.length := by have := HL.out; omega
      obtain ⟨ad, rfl, hab, x0, x1⟩ := load_pair (HF.out.q Q3.out) hlt hkl
      have hkm : (k : Int) < (n : Int) := by omega
      have K1 := Lib.hid (fun W => less_any key l[k].key W HKy.out (HKs.out.at_ hkl))
      by_cases hlt2 : i < k
      · have d1 : decide (i < k) = true := by simp; omega
        have d2 : decide (i < k + 1) = true := by simp; omega
        rw [d1]
        rw [if_pos hlt2] at O3 ⊢
        have hE := Lib.hid (show (insAt l i ⟨key, val⟩).take (if i < k + 1 then k + 1 + 1 else k + 1) = (insAt l i ⟨key, val⟩).take (k + 1) ++ [l[k]] by
          rw [if_pos (by omega)]; exact take_next (insAt_hi hkl (by omega)))
        have hol : ((insAt l i ⟨key, val⟩).take (k + 1)).length ≤ n := by rw [List.length_take, HT.out]; omega
        have hlen2 := Lib.hid (show (((insAt l i ⟨key, val⟩).take (k + 1)).length + 1) * 32 ≤ 140737488355328 by have := HB.out; omega)
        have D2 := Lib.hid d2
        clear hol d1 d2 K1
        generalize ((insAt l i ⟨key, val⟩).take (k + 1)) = o at O3 hE hlen2 ⊢
        generalize l[k] = x at x0 x1 hE
        go_wp2_with (at_builtin
                     refine wpl_appK pairK rfl (.tmp 58) (.tmp 63) 31 rfl rfl w.heap.size A3 o.length c3 o rfl (O3.out.alloc _) (some ⟨wr.heap.size, 0, none⟩) 1 1 [x] rfl (lit_pair wr x) (fun e => by cases e) hlen2.out (by have := Q3.out.size; simp; omega) ?_
                     intro A5 c5 w5 o5 b5
                     have S5 := Lib.hid (Lo.step hE.out o5 (Q3.out.alloc _) b5)
                     clear o5 b5)
        go_roundw
        case rel => exact ⟨k + 1, by omega, by go_num, by rw [D2.out], S5.out⟩
        case measure => simp [intOf]; omega
      · have d1 : decide (i < k) = false := by simp; omega
        rw [d1]
        rw [if_neg hlt2] at O3 ⊢
        have hol : ((insAt l i ⟨key, val⟩).take k).length ≤ n - 1 := by rw [List.length_take, HT.out]; omega
        have hlen2 := Lib.hid (show (((insAt l i ⟨key, val⟩).take k).length + 1) * 32 ≤ 140737488355328 by have := HB.out; omega)
        by_cases hki : k = i
        · subst hki
          have d2 : decide (k < k + 1) = true := by simp
          have D2 := Lib.hid d2
          have hE1 := Lib.hid (show (insAt l k ⟨key, val⟩).take (k + 1) = (insAt l k ⟨key, val⟩).take k ++ [⟨key, val⟩] from take_next (insAt_eq hi))
          have hE := Lib.hid (show (insAt l k ⟨key, val⟩).take (if k < k + 1 then k + 1 + 1 else k + 1) = (insAt l k ⟨key, val⟩).take k ++ [⟨key, val⟩] ++ [l[k]] by
            rw [if_pos (by omega), ← hE1.out]; exact take_next (insAt_hi hkl (Nat.le_refl _)))
          have hol2 : ((insAt l k ⟨key, val⟩).take k).length + 1 ≤ n := by omega
          have hlen3 : Hid ((((insAt l k ⟨key, val⟩).take k).length + 1 + 1) * 32 ≤ 140737488355328) := Lib.hid (Nat.le_trans (Nat.mul_le_mul_right 32 (Nat.succ_le_succ hol2)) HB.out)
          clear hol2
          rw [show lt key l[k].key = true from HIa.out hkl] at K1
          clear hol d1 d2 hlt2
          generalize ((insAt l k ⟨key, val⟩).take k) = o at O3 hE hE1 hlen2 hlen3 ⊢
          generalize hgx : l[k] = x at x0 x1 hE K1
          have HGx := Lib.hid hgx
          clear hgx
          go_wp2_with fail
          refine (K1.out _).mono ?_
          rintro e w4 ⟨rfl, n4, rfl⟩
          go_upto_region 9 with (at_builtin
                                 refine wpl_appK pairK rfl (.tmp 51) (.tmp 55) 31 rfl rfl w.heap.size A3 o.length c3 o rfl ((O3.out.q ((Q.refl wr).drewN n4)).alloc _) (some ⟨(wr.drewN n4).heap.size, 0, none⟩) 1 1 [⟨key, val⟩] rfl (lit_pair (wr.drewN n4) ⟨key, val⟩) (fun e => by cases e) hlen2.out (by have := (Q3.out.drewN n4).size; simp at this ⊢; omega) ?_
                                 intro A5 c5 w5 o5 b5)
          have S5 := Lib.hid (show Q w w5 from ((Q3.out.drewN n4).alloc (.cells #[.string key, .string val] 44)).below.trans b5)
          have O5 := Lib.hid (show OwnK pairK w5 w.heap.size A5 (o ++ [(⟨key, val⟩ : Pr)]).length c5 (o ++ [⟨key, val⟩]) by rw [List.length_append, List.length_singleton]; exact o5)
          have X5 := Lib.hid (show (o ++ [(⟨key, val⟩ : Pr)]).length = o.length + 1 by simp)
          clear x0 x1 o5 b5
          obtain ⟨ad2, ha2, hab2, u0, u1⟩ := load_pair (HF.out.q S5.out) hlt hkl
          injection ha2 with ha2
          subst ha2
          rw [HGx.out] at u0 u1
          have O5' := Lib.hid (show OwnK pairK w5 w.heap.size A5 (o.length + 1) c5 (o ++ [⟨key, val⟩]) by have := O5.out; rw [X5.out] at this; exact this)
          go_wp2_with (at_builtin
                       refine wpl_appK pairK rfl (.tmp 58) (.tmp 63) 31 rfl rfl w.heap.size A5 (o.length + 1) c5 (o ++ [⟨key, val⟩]) rfl (O5'.out.alloc _) (some ⟨w5.heap.size, 0, none⟩) 1 1 [x] rfl (lit_pair w5 x) (fun e => by cases e) hlen3.out (by have := S5.out.size; simp; omega) ?_
                       intro A6 c6 w6 o6 b6
                       have S6 := Lib.hid (show Lo w ((insAt l k ⟨key, val⟩).take (if k < k + 1 then k + 1 + 1 else k + 1)) (.slice A6 (o.length + 1 + 1) c6) w6 from ⟨A6, c6, by rw [hE.out]; simp, by rw [hE.out]; have := o6; simpa using this, (S5.out.alloc _).below.trans b6⟩)
                       clear o6 b6)
          go_roundw
          case rel => exact ⟨k + 1, by omega, by go_num, by rw [D2.out], S6.out⟩
          case measure => simp [intOf]; omega
        · have hki2 : k < i := by omega
          have d2 : decide (i < k + 1) = false := by simp; omega
          have D2 := Lib.hid d2
          have hE := Lib.hid (show (insAt l i ⟨key, val⟩).take (if i < k + 1 then k + 1 + 1 else k + 1) = (insAt l i ⟨key, val⟩).take k ++ [l[k]] by
            rw [if_neg (by omega)]; exact take_next (insAt_lo hi hki2))
          rw [show lt key l[k].key = false from HFi.out k hkl hki2] at K1
          clear hol d1 d2 hlt2 hki
          generalize ((insAt l i ⟨key, val⟩).take k) = o at O3 hE hlen2 ⊢
          generalize l[k] = x at x0 x1 hE K1
          go_wp2_with fail
          refine (K1.out _).mono ?_
          rintro e w4 ⟨rfl, n4, rfl⟩
          go_wp2_with (at_builtin
                       refine wpl_appK pairK rfl (.tmp 58) (.tmp 63) 31 rfl rfl w.heap.size A3 o.length c3 o rfl ((O3.out.q ((Q.refl wr).drewN n4)).alloc _) (some ⟨(wr.drewN n4).heap.size, 0, none⟩) 1 1 [x] rfl (lit_pair (wr.drewN n4) x) (fun e => by cases e) hlen2.out (by have := (Q3.out.drewN n4).size; simp at this ⊢; omega) ?_
                       intro A5 c5 w5 o5 b5
                       have S5 := Lib.hid (Lo.step hE.out o5 ((Q3.out.drewN n4).alloc _) b5)
                       clear o5 b5)
          go_roundw
          case rel => exact ⟨k + 1, by omega, by go_num, by rw [D2.out], S5.out⟩
          case measure => simp [intOf]; omega
    · have hkn : k = n := by omega
      subst hkn
      by_cases hik : i < k
      · have d1 : decide (i < k) = true := by simp; omega
        rw [d1]
        rw [if_pos hik] at O3 ⊢
        have HE := Lib.hid (show (insAt l i ⟨key, val⟩).take (k + 1) = insAt l i ⟨key, val⟩ from List.take_of_length_le (by rw [HT.out]; have := HL.out; omega))
        have HN := Lib.hid (show (insAt l i ⟨key, val⟩).length = k + 1 by rw [HT.out, HL.out])
        rw [HE.out] at O3 ⊢
        clear d1 hik
        generalize hgo : insAt l i ⟨key, val⟩ = o at O3 HN ⊢
        have HGo := Lib.hid hgo
        clear hgo
        go_wp2
        go_ret
        exact ⟨A3, c3, by rw [HN.out]; rfl, by have := O3.out; rw [HN.out] at this; rw [HGo.out]; exact this, Q3.out⟩
      · have hik' : i = k := by omega
        subst hik'
        have d1 : decide (i < i) = false := by simp
        rw [d1]
        rw [if_neg hik] at O3 ⊢
        have HE := Lib.hid (show insAt l i ⟨key, val⟩ = (insAt l i ⟨key, val⟩).take i ++ [⟨key, val⟩] by
          rw [← take_next (insAt_eq hi)]; exact (List.take_of_length_le (by rw [HT.out]; have := HL.out; omega)).symm)
        have hol : ((insAt l i ⟨key, val⟩).take i).length = i := by rw [List.length_take, HT.out]; have := HL.out; omega
        have HO := Lib.hid hol
        have hlen2 := Lib.hid (show (((insAt l i ⟨key, val⟩).take i).length + 1) * 32 ≤ 140737488355328 by rw [hol]; exact HB.out)
        clear d1 hik hol
        generalize hgo : ((insAt l i ⟨key, val⟩).take i) = o at O3 HE hlen2 HO ⊢
        have HGo := Lib.hid hgo
        clear hgo
        go_wp2_with (at_builtin
                     refine wpl_appK pairK rfl (.tmp 67) (.tmp 71) 31 rfl rfl w.heap.size A3 o.length c3 o rfl (O3.out.alloc _) (some ⟨wr.heap.size, 0, none⟩) 1 1 [⟨key, val⟩] rfl (lit_pair wr ⟨key, val⟩) (fun e => by cases e) hlen2.out (by have := Q3.out.size; simp; omega) ?_
                     intro A5 c5 w5 o5 b5
                     have O5 := Lib.hid o5
                     have B5 := Lib.hid b5
                     clear o5 b5)
        go_ret
        exact ⟨A5, c5, by rw [HO.out]; rfl, by have := O5.out; rw [HO.out] at this; rw [HE.out]; exact this, (Q3.out.alloc _).below.trans B5.out⟩
end Go.Proofs.Ytcclgepccahhbaa
