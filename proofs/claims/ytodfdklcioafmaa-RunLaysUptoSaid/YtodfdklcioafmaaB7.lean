/- TableRef3, TableRef4, TableRef5, TableShown, PairIn, DiskSv, DiskRef7, DiskRef8, Held, HeldL: merged. -/
import Derived.Test.YtodfdklcioafmaaB6
import Derived.Deep.DeepCutAuto
import Derived.StillTailTactics
import Derived.Test.YtodfdklcioafmaaB5
import Derived.Test.YtodfdklcioafmaaB4
import Derived.Outline
import Derived.Deep.RegionHeld3
/- Contracts: the document's answer for pairs: Put, Apply. -/
namespace Go.Proofs.Ytodfdklcioafmaa
set_option maxRecDepth 100000
open Go.RowKit Prm
set_option linter.unusedVariables false
set_option linter.unusedSimpArgs false

/-- the list so far. -/
def Lo (w : World) (t : List Pr) (v : Value) (wr : World) : Prop :=
  ∃ A1 c1, v = .slice A1 t.length c1 ∧ OwnK pairK wr w.heap.size A1 t.length c1 t ∧ Q w wr
theorem Lo.step {w wr w5 : World} {o t : List Pr} {x : Pr} {A5 : Option Addr} {c5 : Nat} (ht : t = o ++ [x]) (o5 : OwnK pairK w5 w.heap.size A5 (o.length + 1) c5 (o ++ [x])) (q : Q w wr) (b5 : Below w.heap.size wr w5) : Lo w t (.slice A5 (o.length + 1) c5) w5 := by
  subst ht
  exact ⟨A5, c5, by simp, by simpa using o5, q.below.trans b5⟩

theorem set_take_other {l : List Pr} {i k : Nat} {p : Pr} (hk : k < l.length) (h : k ≠ i) : (l.set i p).take (k + 1) = (l.set i p).take k ++ [l[k]] := by
  rw [List.take_succ_eq_append_getElem (by simpa using hk), List.getElem_set_ne (by omega)]
theorem set_take_same {l : List Pr} {i : Nat} {p : Pr} (hk : i < l.length) : (l.set i p).take (i + 1) = (l.set i p).take i ++ [p] := by
  rw [List.take_succ_eq_append_getElem (by simpa using hk), List.getElem_set_self]

set_option maxHeartbeats 4000000 in
theorem refPut_has (key val : ByteArray) (A : Option Addr) (n c : Nat) (l : List Pr) (w : World) (hf : Lst pairK w A n l) (hb : (n + 1) * 32 ≤ 140737488355328) (i : Nat) (hi : i < l.length) (hh : hasK key l[i] = true) (hfirst : ∀ j, ∀ hj : j < l.length, j < i → hasK key l[j] = false) :
    Calls Try.prog 55 #[.slice A n c, .string key, .string val] w fun e w' => RetL pairK w n (l.set i ⟨key, val⟩) e w' := by
  have HF := Lib.hid hf
  have HL := Lib.hid hf.len
  have HB := Lib.hid hb
  have K0 := Lib.hid (fun W (h : Lst pairK W A n l) => refFind_any key A n c l W h (by unfold maxLen; omega))
  rw [find_at hi hh hfirst] at K0
  have HFi := Lib.hid hfirst
  have HH := Lib.hid hh
  have hn : n ≤ 9223372036854775807 := by omega
  have hin : i < n := by have := HL.out; omega
  clear hf hb hh hfirst
  generalize hv : l[i].val = v0 at K0
  have HV := Lib.hid hv
  clear hv
  go_enter Try.func55, Try.ntmps55
  go_wp2_with fail
  refine (K0.out _ HF.out).mono ?_
  rintro e w1 ⟨rfl, rfl⟩
  go_wp2
  go_loopw [9, 10, 11] (fun v d j wr => ∃ k : Nat, k ≤ n ∧ j = .int .i64 k ∧ d = .bool (decide (i < k)) ∧ Lo w ((l.set i ⟨key, val⟩).take k) v wr) (fun _ _ j _ => n - (intOf j).toNat)
  case atStart => exact ⟨0, Nat.zero_le _, rfl, rfl, none, 0, rfl, OwnK.nil_ _ _ _, Q.refl _⟩
  case round =>
    obtain ⟨k, hk, rfl, rfl, A3, c3, rfl, o3, q3⟩ := hrel
    have hol : ((l.set i ⟨key, val⟩).take k).length = k := by rw [List.length_take, List.length_set]; have := HL.out; omega
    have O3 := Lib.hid o3
    have Q3 := Lib.hid q3
    clear o3 q3
    by_cases hlt : k < n
    · have hkl : k < l.length := by have := HL.out; omega
      obtain ⟨ad, rfl, hab, x0, x1⟩ := load_pair (HF.out.q Q3.out) hlt hkl
      have hkm : (k : Int) < (n : Int) := by omega
      have e1 := same_str l[k].key key
      by_cases hki : k = i
      · subst hki
        rw [show decide (l[k].key = key) = true from HH.out] at e1
        have d1 : decide (k < k) = false := by simp
        have hE := Lib.hid (set_take_same (p := ⟨key, val⟩) hkl)
        have hlen2 := Lib.hid (show (((l.set k ⟨key, val⟩).take k).length + 1) * 32 ≤ 140737488355328 by have := HB.out; omega)
        have hdd : decide (k < k + 1) = true := by simp
        clear hol
        generalize ((l.set k ⟨key, val⟩).take k) = o at O3 hE hlen2 ⊢
        generalize l[k] = x at x0 x1 e1
        go_wp2_with (at_builtin
                     refine wpl_appK pairK rfl (.tmp 51) (.tmp 55) 31 rfl rfl w.heap.size A3 o.length c3 o rfl (O3.out.alloc _) (some ⟨wr.heap.size, 0, none⟩) 1 1 [⟨key, val⟩] rfl (lit_pair wr ⟨key, val⟩) (fun e => by cases e) hlen2.out (by have := Q3.out.size; simp; omega) ?_
                     intro A5 c5 w5 o5 b5
                     have S5 := Lib.hid (Lo.step hE.out o5 (Q3.out.alloc _) b5)
                     clear o5 b5)
        go_roundw
        case rel => exact ⟨k + 1, by omega, by go_num, by rw [hdd], S5.out⟩
        case measure => simp [intOf]; omega
      · have hE := Lib.hid (set_take_other (p := ⟨key, val⟩) hkl hki)
        have hlen2 := Lib.hid (show (((l.set i ⟨key, val⟩).take k).length + 1) * 32 ≤ 140737488355328 by have := HB.out; omega)
        by_cases hlt2 : k < i
        · have d1 : decide (i < k) = false := by simp; omega
          have d2 : decide (i < k + 1) = false := by simp; omega
          rw [show decide (l[k].key = key) = false from HFi.out k hkl hlt2] at e1
          rw [d1]
          clear hol
          generalize ((l.set i ⟨key, val⟩).take k) = o at O3 hE hlen2 ⊢
          generalize l[k] = x at x0 x1 e1 hE
          have D2 := Lib.hid d2
          clear d1 d2
          go_wp2_with (at_builtin
                       refine wpl_appK pairK rfl (.tmp 58) (.tmp 63) 31 rfl rfl w.heap.size A3 o.length c3 o rfl (O3.out.alloc _) (some ⟨wr.heap.size, 0, none⟩) 1 1 [x] rfl (lit_pair wr x) (fun e => by cases e) hlen2.out (by have := Q3.out.size; simp; omega) ?_
                       intro A5 c5 w5 o5 b5
                       have S5 := Lib.hid (Lo.step hE.out o5 (Q3.out.alloc _) b5)
                       clear o5 b5)
          go_roundw
          case rel => exact ⟨k + 1, by omega, by go_num, by rw [D2.out], S5.out⟩
          case measure => simp [intOf]; omega
        · have d1 : decide (i < k) = true := by simp; omega
          have d2 : decide (i < k + 1) = true := by simp; omega
          rw [d1]
          clear hol
          generalize ((l.set i ⟨key, val⟩).take k) = o at O3 hE hlen2 ⊢
          generalize l[k] = x at x0 x1 e1 hE
          have D2 := Lib.hid d2
          clear d1 d2 e1
          go_wp2_with (at_builtin
                       refine wpl_appK pairK rfl (.tmp 58) (.tmp 63) 31 rfl rfl w.heap.size A3 o.length c3 o rfl (O3.out.alloc _) (some ⟨wr.heap.size, 0, none⟩) 1 1 [x] rfl (lit_pair wr x) (fun e => by cases e) hlen2.out (by have := Q3.out.size; simp; omega) ?_
                       intro A5 c5 w5 o5 b5
                       have S5 := Lib.hid (Lo.step hE.out o5 (Q3.out.alloc _) b5)
                       clear o5 b5)
          go_roundw
          case rel => exact ⟨k + 1, by omega, by go_num, by rw [D2.out], S5.out⟩
          case measure => simp [intOf]; omega
    · have HE := Lib.hid (show (l.set i ⟨key, val⟩).take k = l.set i ⟨key, val⟩ from List.take_of_length_le (by rw [List.length_set]; have := HL.out; omega))
      have HN := Lib.hid (show (l.set i ⟨key, val⟩).length = n by rw [List.length_set]; exact HL.out)
      rw [HE.out] at O3 ⊢
      have d1 : decide (i < k) = true := by simp; omega
      rw [d1]
      clear d1
      generalize hgo : l.set i ⟨key, val⟩ = o at O3 HN
      have HGo := Lib.hid hgo
      clear hgo
      go_wp2
      go_ret
      exact ⟨A3, c3, by rw [HN.out]; rfl, by have := O3.out; rw [HN.out] at this; rw [HGo.out]; exact this, Q3.out⟩
end Go.Proofs.Ytodfdklcioafmaa

/- Contracts: the document's answer for pairs: Put where the key is new. -/
namespace Go.Proofs.Ytodfdklcioafmaa
set_option maxRecDepth 100000
open Go.RowKit Prm
set_option linter.unusedVariables false
set_option linter.unusedSimpArgs false

/-- the list with p in place i. -/
def insAt (l : List Pr) (i : Nat) (p : Pr) : List Pr := l.take i ++ p :: l.drop i
theorem insAt_len {l : List Pr} {i : Nat} {p : Pr} (hi : i ≤ l.length) : (insAt l i p).length = l.length + 1 := by simp [insAt]; omega
theorem insAt_lo {l : List Pr} {i k : Nat} {p : Pr} (hi : i ≤ l.length) (hk : k < i) : (insAt l i p)[k]? = some (l[k]'(by omega)) := by
  unfold insAt
  rw [List.getElem?_append_left (by rw [List.length_take]; omega), List.getElem?_take, if_pos hk, List.getElem?_eq_getElem]
theorem insAt_eq {l : List Pr} {i : Nat} {p : Pr} (hi : i ≤ l.length) : (insAt l i p)[i]? = some p := by
  unfold insAt
  have hl : (l.take i).length = i := by rw [List.length_take]; omega
  rw [List.getElem?_append_right (by omega), hl, Nat.sub_self]; rfl
theorem insAt_hi {l : List Pr} {i k : Nat} {p : Pr} (hk : k < l.length) (hik : i ≤ k) : (insAt l i p)[k + 1]? = some l[k] := by
  unfold insAt
  have hl : (l.take i).length = i := by rw [List.length_take]; omega
  rw [List.getElem?_append_right (by omega), hl, show k + 1 - i = (k - i) + 1 by omega, List.getElem?_cons_succ, List.getElem?_drop, show i + (k - i) = k by omega, List.getElem?_eq_getElem hk]
theorem take_next {l : List Pr} {k : Nat} {x : Pr} (h : l[k]? = some x) : l.take (k + 1) = l.take k ++ [x] := by
  obtain ⟨hk, rfl⟩ := List.getElem?_eq_some_iff.1 h
  exact List.take_succ_eq_append_getElem hk

set_option maxHeartbeats 8000000 in
theorem refPut_new (key val : ByteArray) (A : Option Addr) (n c : Nat) (l : List Pr) (w : World) (hf : Lst pairK w A n l) (hb : (n + 1) * 32 ≤ 140737488355328) (hks : KeysIn l) (hky : key.size ≤ maxLen) (hall : ∀ a ∈ l, hasK key a = false) (i : Nat) (hi : i ≤ l.length) (hia : ∀ h : i < l.length, aboveK key l[i] = true) (hfirst : ∀ j, ∀ hj : j < l.length, j < i → aboveK key l[j] = false) :
    Calls Try.prog 55 #[.slice A n c, .string key, .string val] w fun e w' => RetL pairK w (n + 1) (insAt l i ⟨key, val⟩) e w' := by
  have HF := Lib.hid hf
  have HL := Lib.hid hf.len
  have HB := Lib.hid hb
  have K0 := Lib.hid (fun W (h : Lst pairK W A n l) => refFind_any key A n c l W h (by unfold maxLen; omega))
  rw [find_none hall] at K0
  have HFi := Lib.hid hfirst
  have HIa := Lib.hid hia
  have HKs := Lib.hid hks
  have HKy := Lib.hid hky
  have HT := Lib.hid (insAt_len (p := ⟨key, val⟩) hi)
  have hn : n ≤ 9223372036854775807 := by omega
  have hin : i ≤ n := by have := HL.out; omega
  clear hf hb hfirst hia hks hky hall
  go_enter Try.func55, Try.ntmps55
  go_wp2_with fail
  refine (K0.out _ HF.out).mono ?_
  rintro e w1 ⟨rfl, rfl⟩
  go_wp2
  go_loopw [9, 10, 11] (fun v d j wr => ∃ k : Nat, k ≤ n ∧ j = .int .i64 k ∧ d = .bool (decide (i < k)) ∧ Lo w ((insAt l i ⟨key, val⟩).take (if i < k then k + 1 else k)) v wr) (fun _ _ j _ => n - (intOf j).toNat)
  case atStart => exact ⟨0, Nat.zero_le _, rfl, rfl, none, 0, rfl, OwnK.nil_ _ _ _, Q.refl _⟩
  case round =>
    obtain ⟨k, hk, rfl, rfl, A3, c3, rfl, o3, q3⟩ := hrel
    have O3 := Lib.hid o3
    have Q3 := Lib.hid q3
    clear o3 q3
    by_cases hlt : k < n
    · have hkl : k < l.length := by have := HL.out; omega
      obtain ⟨ad, rfl, hab, x0, x1⟩ := load_pair (HF.out.q Q3.out) hlt hkl
      have hkm : (k : Int) < (n : Int) := by omega
      have K1 := Lib.hid (fun W => less_any key l[k].key W HKy.out (HKs.out.at_ hkl))
      by_cases hlt2 : i < k
      · have d1 : decide (i < k) = true := by simp; omega
        have d2 : decide (i < k + 1) = true := by simp; omega
        rw [d1]
        rw [if_pos hlt2] at O3 ⊢
        have hE := Lib.hid (show (insAt l i ⟨key, val⟩).take (if i < k + 1 then k + 1 + 1 else k + 1) = (insAt l i ⟨key, val⟩).take (k + 1) ++ [l[k]] by
          rw [if_pos (by omega)]; exact take_next (insAt_hi hkl (by omega)))
        have hol : ((insAt l i ⟨key, val⟩).take (k + 1)).length ≤ n := by rw [List.length_take, HT.out]; omega
        have hlen2 := Lib.hid (show (((insAt l i ⟨key, val⟩).take (k + 1)).length + 1) * 32 ≤ 140737488355328 by have := HB.out; omega)
        have D2 := Lib.hid d2
        clear hol d1 d2 K1
        generalize ((insAt l i ⟨key, val⟩).take (k + 1)) = o at O3 hE hlen2 ⊢
        generalize l[k] = x at x0 x1 hE
        go_wp2_with (at_builtin
                     refine wpl_appK pairK rfl (.tmp 58) (.tmp 63) 31 rfl rfl w.heap.size A3 o.length c3 o rfl (O3.out.alloc _) (some ⟨wr.heap.size, 0, none⟩) 1 1 [x] rfl (lit_pair wr x) (fun e => by cases e) hlen2.out (by have := Q3.out.size; simp; omega) ?_
                     intro A5 c5 w5 o5 b5
                     have S5 := Lib.hid (Lo.step hE.out o5 (Q3.out.alloc _) b5)
                     clear o5 b5)
        go_roundw
        case rel => exact ⟨k + 1, by omega, by go_num, by rw [D2.out], S5.out⟩
        case measure => simp [intOf]; omega
      · have d1 : decide (i < k) = false := by simp; omega
        rw [d1]
        rw [if_neg hlt2] at O3 ⊢
        have hol : ((insAt l i ⟨key, val⟩).take k).length ≤ n - 1 := by rw [List.length_take, HT.out]; omega
        have hlen2 := Lib.hid (show (((insAt l i ⟨key, val⟩).take k).length + 1) * 32 ≤ 140737488355328 by have := HB.out; omega)
        by_cases hki : k = i
        · subst hki
          have d2 : decide (k < k + 1) = true := by simp
          have D2 := Lib.hid d2
          have hE1 := Lib.hid (show (insAt l k ⟨key, val⟩).take (k + 1) = (insAt l k ⟨key, val⟩).take k ++ [⟨key, val⟩] from take_next (insAt_eq hi))
          have hE := Lib.hid (show (insAt l k ⟨key, val⟩).take (if k < k + 1 then k + 1 + 1 else k + 1) = (insAt l k ⟨key, val⟩).take k ++ [⟨key, val⟩] ++ [l[k]] by
            rw [if_pos (by omega), ← hE1.out]; exact take_next (insAt_hi hkl (Nat.le_refl _)))
          have hol2 : ((insAt l k ⟨key, val⟩).take k).length + 1 ≤ n := by omega
          have hlen3 : Hid ((((insAt l k ⟨key, val⟩).take k).length + 1 + 1) * 32 ≤ 140737488355328) := Lib.hid (Nat.le_trans (Nat.mul_le_mul_right 32 (Nat.succ_le_succ hol2)) HB.out)
          clear hol2
          rw [show lt key l[k].key = true from HIa.out hkl] at K1
          clear hol d1 d2 hlt2
          generalize ((insAt l k ⟨key, val⟩).take k) = o at O3 hE hE1 hlen2 hlen3 ⊢
          generalize hgx : l[k] = x at x0 x1 hE K1
          have HGx := Lib.hid hgx
          clear hgx
          go_wp2_with fail
          refine (K1.out _).mono ?_
          rintro e w4 ⟨rfl, n4, rfl⟩
          go_upto_region 9 with (at_builtin
                                 refine wpl_appK pairK rfl (.tmp 51) (.tmp 55) 31 rfl rfl w.heap.size A3 o.length c3 o rfl ((O3.out.q ((Q.refl wr).drewN n4)).alloc _) (some ⟨(wr.drewN n4).heap.size, 0, none⟩) 1 1 [⟨key, val⟩] rfl (lit_pair (wr.drewN n4) ⟨key, val⟩) (fun e => by cases e) hlen2.out (by have := (Q3.out.drewN n4).size; simp at this ⊢; omega) ?_
                                 intro A5 c5 w5 o5 b5)
          have S5 := Lib.hid (show Q w w5 from ((Q3.out.drewN n4).alloc (.cells #[.string key, .string val] 62)).below.trans b5)
          have O5 := Lib.hid (show OwnK pairK w5 w.heap.size A5 (o ++ [(⟨key, val⟩ : Pr)]).length c5 (o ++ [⟨key, val⟩]) by rw [List.length_append, List.length_singleton]; exact o5)
          have X5 := Lib.hid (show (o ++ [(⟨key, val⟩ : Pr)]).length = o.length + 1 by simp)
          clear x0 x1 o5 b5
          obtain ⟨ad2, ha2, hab2, u0, u1⟩ := load_pair (HF.out.q S5.out) hlt hkl
          injection ha2 with ha2
          subst ha2
          rw [HGx.out] at u0 u1
          have O5' := Lib.hid (show OwnK pairK w5 w.heap.size A5 (o.length + 1) c5 (o ++ [⟨key, val⟩]) by have := O5.out; rw [X5.out] at this; exact this)
          go_wp2_with (at_builtin
                       refine wpl_appK pairK rfl (.tmp 58) (.tmp 63) 31 rfl rfl w.heap.size A5 (o.length + 1) c5 (o ++ [⟨key, val⟩]) rfl (O5'.out.alloc _) (some ⟨w5.heap.size, 0, none⟩) 1 1 [x] rfl (lit_pair w5 x) (fun e => by cases e) hlen3.out (by have := S5.out.size; simp; omega) ?_
                       intro A6 c6 w6 o6 b6
                       have S6 := Lib.hid (show Lo w ((insAt l k ⟨key, val⟩).take (if k < k + 1 then k + 1 + 1 else k + 1)) (.slice A6 (o.length + 1 + 1) c6) w6 from ⟨A6, c6, by rw [hE.out]; simp, by rw [hE.out]; have := o6; simpa using this, (S5.out.alloc _).below.trans b6⟩)
                       clear o6 b6)
          go_roundw
          case rel => exact ⟨k + 1, by omega, by go_num, by rw [D2.out], S6.out⟩
          case measure => simp [intOf]; omega
        · have hki2 : k < i := by omega
          have d2 : decide (i < k + 1) = false := by simp; omega
          have D2 := Lib.hid d2
          have hE := Lib.hid (show (insAt l i ⟨key, val⟩).take (if i < k + 1 then k + 1 + 1 else k + 1) = (insAt l i ⟨key, val⟩).take k ++ [l[k]] by
            rw [if_neg (by omega)]; exact take_next (insAt_lo hi hki2))
          rw [show lt key l[k].key = false from HFi.out k hkl hki2] at K1
          clear hol d1 d2 hlt2 hki
          generalize ((insAt l i ⟨key, val⟩).take k) = o at O3 hE hlen2 ⊢
          generalize l[k] = x at x0 x1 hE K1
          go_wp2_with fail
          refine (K1.out _).mono ?_
          rintro e w4 ⟨rfl, n4, rfl⟩
          go_wp2_with (at_builtin
                       refine wpl_appK pairK rfl (.tmp 58) (.tmp 63) 31 rfl rfl w.heap.size A3 o.length c3 o rfl ((O3.out.q ((Q.refl wr).drewN n4)).alloc _) (some ⟨(wr.drewN n4).heap.size, 0, none⟩) 1 1 [x] rfl (lit_pair (wr.drewN n4) x) (fun e => by cases e) hlen2.out (by have := (Q3.out.drewN n4).size; simp at this ⊢; omega) ?_
                       intro A5 c5 w5 o5 b5
                       have S5 := Lib.hid (Lo.step hE.out o5 ((Q3.out.drewN n4).alloc _) b5)
                       clear o5 b5)
          go_roundw
          case rel => exact ⟨k + 1, by omega, by go_num, by rw [D2.out], S5.out⟩
          case measure => simp [intOf]; omega
    · have hkn : k = n := by omega
      subst hkn
      by_cases hik : i < k
      · have d1 : decide (i < k) = true := by simp; omega
        rw [d1]
        rw [if_pos hik] at O3 ⊢
        have HE := Lib.hid (show (insAt l i ⟨key, val⟩).take (k + 1) = insAt l i ⟨key, val⟩ from List.take_of_length_le (by rw [HT.out]; have := HL.out; omega))
        have HN := Lib.hid (show (insAt l i ⟨key, val⟩).length = k + 1 by rw [HT.out, HL.out])
        rw [HE.out] at O3 ⊢
        clear d1 hik
        generalize hgo : insAt l i ⟨key, val⟩ = o at O3 HN ⊢
        have HGo := Lib.hid hgo
        clear hgo
        go_wp2
        go_ret
        exact ⟨A3, c3, by rw [HN.out]; rfl, by have := O3.out; rw [HN.out] at this; rw [HGo.out]; exact this, Q3.out⟩
      · have hik' : i = k := by omega
        subst hik'
        have d1 : decide (i < i) = false := by simp
        rw [d1]
        rw [if_neg hik] at O3 ⊢
        have HE := Lib.hid (show insAt l i ⟨key, val⟩ = (insAt l i ⟨key, val⟩).take i ++ [⟨key, val⟩] by
          rw [← take_next (insAt_eq hi)]; exact (List.take_of_length_le (by rw [HT.out]; have := HL.out; omega)).symm)
        have hol : ((insAt l i ⟨key, val⟩).take i).length = i := by rw [List.length_take, HT.out]; have := HL.out; omega
        have HO := Lib.hid hol
        have hlen2 := Lib.hid (show (((insAt l i ⟨key, val⟩).take i).length + 1) * 32 ≤ 140737488355328 by rw [hol]; exact HB.out)
        clear d1 hik hol
        generalize hgo : ((insAt l i ⟨key, val⟩).take i) = o at O3 HE hlen2 HO ⊢
        have HGo := Lib.hid hgo
        clear hgo
        go_wp2_with (at_builtin
                     refine wpl_appK pairK rfl (.tmp 67) (.tmp 71) 31 rfl rfl w.heap.size A3 o.length c3 o rfl (O3.out.alloc _) (some ⟨wr.heap.size, 0, none⟩) 1 1 [⟨key, val⟩] rfl (lit_pair wr ⟨key, val⟩) (fun e => by cases e) hlen2.out (by have := Q3.out.size; simp; omega) ?_
                     intro A5 c5 w5 o5 b5
                     have O5 := Lib.hid o5
                     have B5 := Lib.hid b5
                     clear o5 b5)
        go_ret
        exact ⟨A5, c5, by rw [HO.out]; rfl, by have := O5.out; rw [HO.out] at this; rw [HE.out]; exact this, (Q3.out.alloc _).below.trans B5.out⟩
end Go.Proofs.Ytodfdklcioafmaa

/- Contracts: the document's answer for pairs: Put, Apply. -/
namespace Go.Proofs.Ytodfdklcioafmaa
set_option maxRecDepth 100000
open Go.RowKit Prm
set_option linter.unusedVariables false
set_option linter.unusedSimpArgs false

theorem trefPut_any (key val : ByteArray) (A : Option Addr) (n c : Nat) (l : List Pr) (w : World) (hf : Lst pairK w A n l) (hb : (n + 1) * 32 ≤ 140737488355328) (hks : KeysIn l) (hky : key.size ≤ maxLen) :
    Calls Try.prog 55 #[.slice A n c, .string key, .string val] w fun e w' => RetL pairK w (put l ⟨key, val⟩).length (put l ⟨key, val⟩) e w' := by
  have hl := hf.len
  rcases idx_cases (hasK key) l 0 with ⟨hp, hall⟩ | ⟨k, hk, hp, hkn, hfirst⟩
  · have hx : ∃ i, ∃ hi : i ≤ l.length, (∀ h : i < l.length, aboveK key l[i] = true) ∧ ∀ j, ∀ hj : j < l.length, j < i → aboveK key l[j] = false := by
      rcases idx_cases (aboveK key) l 0 with ⟨_, halla⟩ | ⟨i, hi, _, hia, hfa⟩
      · exact ⟨l.length, Nat.le_refl _, fun h => absurd h (Nat.lt_irrefl _), fun j hj _ => halla _ (List.getElem_mem hj)⟩
      · exact ⟨i, Nat.le_of_lt hi, fun _ => hia, hfa⟩
    obtain ⟨i, hi, hia, hfa⟩ := hx
    have e : put l (⟨key, val⟩ : Pr) = insAt l i ⟨key, val⟩ := by rw [put_new (p := ⟨key, val⟩) hall]; exact ins_at (p := ⟨key, val⟩) hi hia hfa
    have e2 : (put l (⟨key, val⟩ : Pr)).length = n + 1 := by rw [e, insAt_len hi, hl]
    simp only [e2]
    rw [e]
    exact refPut_new key val A n c l w hf hb hks hky hall i hi hia hfa
  · have e : put l (⟨key, val⟩ : Pr) = l.set k ⟨key, val⟩ := put_has (p := ⟨key, val⟩) hk hkn hfirst
    have e2 : (put l (⟨key, val⟩ : Pr)).length = n := by rw [e, List.length_set, hl]
    simp only [e2]
    rw [e]
    exact refPut_has key val A n c l w hf hb k hk hkn hfirst

def WKeysIn (l : List Wr) : Prop := ∀ p ∈ l, p.key.size ≤ maxLen
theorem put_keys {l : List Pr} {p : Pr} (h : KeysIn l) (hp : p.key.size ≤ maxLen) : KeysIn (put l p) := by
  intro q hq
  have hi : ∀ (l : List Pr), KeysIn l → q ∈ ins p l → q.key.size ≤ maxLen := by
    intro l
    induction l with
    | nil => intro _ hq; simp [ins] at hq; subst hq; exact hp
    | cons a l ih =>
      intro h hq
      simp only [ins] at hq
      split at hq
      · rcases List.mem_cons.1 hq with rfl | hq
        · exact hp
        · exact h q hq
      · rcases List.mem_cons.1 hq with rfl | hq
        · exact h _ (by simp)
        · exact ih (fun x hx => h x (by simp [hx])) hq
  have hs : ∀ (l : List Pr), KeysIn l → q ∈ setF p l → q.key.size ≤ maxLen := by
    intro l
    induction l with
    | nil => intro _ hq; simp [setF] at hq
    | cons a l ih =>
      intro h hq
      simp only [setF] at hq
      split at hq
      · rcases List.mem_cons.1 hq with rfl | hq
        · exact hp
        · exact h q (by simp [hq])
      · rcases List.mem_cons.1 hq with rfl | hq
        · exact h _ (by simp)
        · exact ih (fun x hx => h x (by simp [hx])) hq
  unfold put at hq
  split at hq
  · exact hs l h hq
  · exact hi l h hq
theorem drop_keys {l : List Pr} {k : ByteArray} (h : KeysIn l) : KeysIn (drop l k) := fun q hq => h q (List.mem_filter.1 hq).1
theorem act_keys {l : List Pr} {x : Wr} (h : KeysIn l) (hx : x.key.size ≤ maxLen) : KeysIn (act l x) := by
  unfold act; split
  · exact drop_keys h
  · exact put_keys h hx
theorem apply_keys {ws : List Wr} : ∀ {l : List Pr}, KeysIn l → WKeysIn ws → KeysIn (apply l ws) := by
  induction ws with
  | nil => intro l h _; exact h
  | cons x ws ih => intro l h hw; exact ih (l := act l x) (act_keys h (hw x (by simp))) (fun y hy => hw y (by simp [hy]))

set_option maxHeartbeats 4000000 in
theorem refApply_any (A A2 : Option Addr) (n c m c2 : Nat) (l : List Pr) (ws : List Wr) (w : World) (hd : In_ pairK w A n c l) (hw : Lst writeK w A2 m ws) (hb : (n + m) * 32 ≤ 140737488355328) (hks : KeysIn l) (hwk : WKeysIn ws) :
    Calls Try.prog 24 #[.slice A n c, .slice A2 m c2] w fun e w' => RetL pairK w (apply l ws).length (apply l ws) e w' := by
  have HD := Lib.hid hd
  have HW := Lib.hid hw
  have HL := Lib.hid hd.len
  have HWL := Lib.hid hw.len
  have HKs := Lib.hid hks
  have HWk := Lib.hid hwk
  have HNil := Lib.hid hd.nil
  clear hd hw hks hwk
  go_enter Try.func24, Try.ntmps24
  go_wp2_with (at_builtin
               refine wpl_appK pairK rfl (.tmp 7) (.tmp 8) 31 rfl rfl w.heap.size (some ⟨w.heap.size, 0, none⟩) 0 0 [] rfl (OwnK.lit0 pairK w _ (Nat.le_refl _)) A n c l rfl (HD.out.lst.q ((Q.refl _).alloc _)) HNil.out (by have := HD.out.few; simpa using this) (by simp) ?_
               intro A1 c1 w1 o1 b1
               have S0 := Lib.hid (show ApS w l ws 0 (.slice A1 n c1) w1 from ⟨A1, c1, by rw [← HL.out]; rfl, by rw [show (apply l (ws.take 0)).length = n from HL.out]; show OwnK pairK w1 w.heap.size A1 n c1 l; simpa using o1, ((Q.refl w).alloc _).below.trans b1⟩)
               clear o1 b1)
  go_loopw [5, 6] (fun v i wr => ∃ k : Nat, k ≤ m ∧ i = .int .i64 k ∧ ApS w l ws k v wr) (fun _ i _ => m - (intOf i).toNat)
  case atStart => exact ⟨0, Nat.zero_le _, rfl, by first | exact S0.out | (rw [Nat.zero_add]; exact S0.out)⟩
  case round =>
    obtain ⟨k, hk, rfl, A3, c3, rfl, o3, q3⟩ := hrel
    have O3 := Lib.hid o3
    have Q3 := Lib.hid q3
    clear o3 q3
    by_cases hlt : k < m
    · have hkl : k < ws.length := by have := HWL.out; omega
      have hln : (apply l (ws.take k)).length ≤ n + k := by
        have h1 := apply_len l (ws.take k)
        have h2 := HL.out
        have h3 := List.length_take_le k ws
        omega
      have hsn := apply_snoc l ws hkl
      obtain ⟨ad, rfl, hab, x0, x1, x2⟩ := load_write (HW.out.q Q3.out) hlt hkl
      have HS := Lib.hid hsn
      have HN := Lib.hid (show ((apply l (ws.take k)).length + 1) * 32 ≤ 140737488355328 by omega)
      have HN0 := Lib.hid (show (apply l (ws.take k)).length * 32 ≤ 140737488355328 by omega)
      have HAk := Lib.hid (show KeysIn (apply l (ws.take k)) from apply_keys HKs.out fun x hx => HWk.out x (List.mem_of_mem_take hx))
      have HXk := Lib.hid (show ws[k].key.size ≤ maxLen from HWk.out _ (List.getElem_mem hkl))
      clear hsn hln
      have hkm : (k : Int) < (m : Int) := by omega
      by_cases hdl : ws[k].del = true
      · have hE := Lib.hid (show apply l (ws.take (k + 1)) = drop (apply l (ws.take k)) ws[k].key by rw [HS.out, act_drop hdl])
        generalize ws[k] = x at x0 x1 x2 hE hdl HXk
        rw [hdl] at x2
        clear hdl
        go_wp2_with fail
        refine (refDrop_any x.key A3 _ c3 _ _ (O3.out.lst) HN0.out).mono ?_
        rintro e w5 ⟨A5, c5, rfl, o5, q5⟩
        have S5 := Lib.hid (show ApS w l ws (k + 1) (.slice A5 (drop (apply l (ws.take k)) x.key).length c5) w5 from ⟨A5, c5, by rw [hE.out], by rw [hE.out]; exact o5.lower Q3.out.size, Q3.out.trans q5⟩)
        clear o5 q5
        go_wp2
        go_roundw
        case rel => exact ⟨k + 1, by omega, by go_num, S5.out⟩
        case measure => simp [intOf]; omega
      · have hdf : ws[k].del = false := by simpa using hdl
        have hE := Lib.hid (show apply l (ws.take (k + 1)) = put (apply l (ws.take k)) ⟨ws[k].key, ws[k].val⟩ by rw [HS.out, act_put hdf])
        generalize ws[k] = x at x0 x1 x2 hE hdf HXk
        rw [hdf] at x2
        clear hdl hdf
        go_wp2
        go_still_tail 11, (by kernel_rfl)
        have Q4 := Lib.hid ((Q.refl wr).drew)
        change wpList _ _ _ _ _ wr.drew
        generalize wr.drew = w4 at Q4 ⊢
        go_wp2_with fail
        refine (trefPut_any x.key x.val A3 _ c3 _ _ (O3.out.lst.q Q4.out) HN.out HAk.out HXk.out).mono ?_
        rintro e w5 ⟨A5, c5, rfl, o5, q5⟩
        have S5 := Lib.hid (show ApS w l ws (k + 1) (.slice A5 (put (apply l (ws.take k)) ⟨x.key, x.val⟩).length c5) w5 from ⟨A5, c5, by rw [hE.out], by rw [hE.out]; exact o5.lower (Q3.out.trans Q4.out).size, (Q3.out.trans Q4.out).trans q5⟩)
        clear o5 q5
        go_wp2
        go_roundw
        case rel => exact ⟨k + 1, by omega, by go_num, S5.out⟩
        case measure => simp [intOf]; omega
    · have hkm : k = m := by omega
      have HE := Lib.hid (show ws.take k = ws by rw [List.take_of_length_le (by rw [HWL.out]; omega)])
      clear hkm
      go_wp2
      go_ret
      exact ⟨A3, c3, by rw [HE.out]; rfl, by have := O3.out; rw [HE.out] at this; exact this, Q3.out⟩
end Go.Proofs.Ytodfdklcioafmaa

/- The examples of chapter 5, at the head of each law. -/
namespace Go.Proofs.Ytodfdklcioafmaa
set_option maxRecDepth 100000
open Go.RowKit Prm
set_option linter.unusedVariables false
set_option linter.unusedSimpArgs false

theorem shown_put1 : put [] ⟨⟨#[98]⟩, ⟨#[50]⟩⟩ = [⟨⟨#[98]⟩, ⟨#[50]⟩⟩] := rfl
theorem shown_put2 : put [⟨⟨#[98]⟩, ⟨#[50]⟩⟩] ⟨⟨#[97]⟩, ⟨#[49]⟩⟩ = [⟨⟨#[97]⟩, ⟨#[49]⟩⟩, ⟨⟨#[98]⟩, ⟨#[50]⟩⟩] := by decide
theorem shown_range : range [⟨⟨#[97]⟩, ⟨#[49]⟩⟩, ⟨⟨#[98]⟩, ⟨#[50]⟩⟩] ⟨#[97]⟩ ⟨#[98]⟩ 9 = [⟨⟨#[97]⟩, ⟨#[49]⟩⟩] := by decide

end Go.Proofs.Ytodfdklcioafmaa

/- What comes in: lists of pairs and of writes. -/
namespace Go.Proofs.Ytodfdklcioafmaa
set_option maxRecDepth 100000
open Go.ChangeShapes Go.WideShapes Go.RowKit Prm
set_option linter.unusedVariables false

def PrIn (p : Pr) : Prop := p.key.size ≤ 140737488351232 ∧ p.val.size ≤ 140737488351232
def WrIn (p : Wr) : Prop := p.key.size ≤ 140737488351232 ∧ p.val.size ≤ 140737488351232
theorem open_pair {w : World} {cs : List Value} (h : Rd w 62 cs) : ∃ p : Pr, cs = pairK.row p ∧ PrIn p := by
  obtain ⟨hl, hf⟩ := h.struct Try.underlying62
  rw [show Try.prog.cellsOf 62 = 2 by kernel_rfl] at hl
  match cs, hl with
  | [a, b], _ =>
    obtain ⟨s0, e0, r0⟩ := (h.field Try.underlying62 0 (ty := 9) 0 1 rfl (by kernel_rfl)).string Try.underlying9
    obtain ⟨s1, e1, r1⟩ := (h.field Try.underlying62 1 (ty := 9) 1 1 rfl (by kernel_rfl)).string Try.underlying9
    simp at e0 e1
    subst e0 e1
    exact ⟨⟨s0, s1⟩, rfl, r0, r1⟩
theorem open_pairs {w : World} {cs : List Value} (h : Rd w 31 cs) : ∃ A n c l, cs = [.slice A n c] ∧ In_ pairK w A n c l ∧ n * 32 ≤ 140737488351232 ∧ ∀ p ∈ l, PrIn p :=
  open_kind pairK PrIn (fun cs hc => open_pair hc) (by kernel_rfl) (by kernel_rfl) h
theorem open_write {w : World} {cs : List Value} (h : Rd w 59 cs) : ∃ p : Wr, cs = writeK.row p ∧ WrIn p := by
  obtain ⟨hl, hf⟩ := h.struct Try.underlying59
  rw [show Try.prog.cellsOf 59 = 3 by kernel_rfl] at hl
  match cs, hl with
  | [a, b, c], _ =>
    obtain ⟨s0, e0, r0⟩ := (h.field Try.underlying59 0 (ty := 9) 0 1 rfl (by kernel_rfl)).string Try.underlying9
    obtain ⟨s1, e1, r1⟩ := (h.field Try.underlying59 1 (ty := 9) 1 1 rfl (by kernel_rfl)).string Try.underlying9
    obtain ⟨s2, e2⟩ := (h.field Try.underlying59 2 (ty := 4) 2 1 rfl (by kernel_rfl)).bool Try.underlying4
    simp at e0 e1 e2
    subst e0 e1 e2
    exact ⟨⟨s0, s1, s2⟩, rfl, r0, r1⟩
theorem open_writes {w : World} {cs : List Value} (h : Rd w 39 cs) : ∃ A n c l, cs = [.slice A n c] ∧ In_ writeK w A n c l ∧ n * 40 ≤ 140737488351232 ∧ ∀ p ∈ l, WrIn p :=
  open_kind writeK WrIn (fun cs hc => open_write hc) (by kernel_rfl) (by kernel_rfl) h
theorem keys_in {l : List Pr} (h : ∀ p ∈ l, PrIn p) : KeysIn l := fun p hp => by have := (h p hp).1; unfold maxLen; omega
theorem wkeys_in {l : List Wr} (h : ∀ p ∈ l, WrIn p) : WKeysIn l := fun p hp => by have := (h p hp).1; unfold maxLen; omega
end Go.Proofs.Ytodfdklcioafmaa

/- A call that keeps a disk in its own variable: the boxes, and the list, wherever it lies. -/
namespace Go.Proofs.Ytodfdklcioafmaa
set_option maxRecDepth 100000
open Go.RowKit Dkm Wm
set_option linter.unusedVariables false

/-- the boxes of a call, and the list of its disk, wherever it lies. -/
structure Sv (w : World) (A : Option Addr) (n c : Nat) (d : Dk) (wr : World) : Prop where
  sb : Sb w A n c d.room d.fuse d.off wr
  dsk : Dsk wr A n c d.fs
  away : 0 < n → ∀ ad, A = some ad → ad.block ≠ w.heap.size ∧ ad.block ≠ w.heap.size + 1
def Far (w : World) (A : Option Addr) : Prop := ∀ ad, A = some ad → w.heap.size ≤ ad.block
section
variable {w wr : World} {A : Option Addr} {n c : Nat} {d : Dk}
theorem Sv.step {w2 : World} (h : Sv w A n c d wr) (q : Q wr w2) : Sv w A n c d w2 := ⟨h.sb.step q, h.dsk.q q, h.away⟩
theorem Files.blk {w : World} {A : Option Addr} {n : Nat} {l : List Fil} (h : Files w A n l) (hn : 0 < n) : ∀ ad, A = some ad → ad.block < w.heap.size := by
  intro ad e
  have hl := h.len
  obtain ⟨ad', e', hb, _⟩ := h.load (k := 0) hn (by omega)
  rw [e] at e'; injection e' with e'; subst e'; exact hb
theorem Dsk.away1 {w : World} {l : List Fil} (h : Dsk w A n c l) {b : Nat} (ha : 0 < n → ∀ ad, A = some ad → ad.block ≠ b) (o : Nat) (u : Value) : Dsk (w.setCell ⟨b, o, none⟩ u) A n c l := by
  by_cases hn : 0 < n
  · exact h.away (ha hn) o u
  · have e : n = 0 := by omega
    subst e
    have hl : l = [] := List.eq_nil_of_length_eq_zero h.len
    subst hl
    exact ⟨Holds.none_ _ _ _ _, h.nil, h.le, h.cap, h.few⟩
theorem Sv.new (w : World) (h : Dsk w A n c d.fs) : Sv w A n c d ((w.alloc (.cells #[.slice A n c, .int .i64 d.room, .int .i64 d.fuse, .bool d.off] 24)).alloc (.cells #[.slice none 0 0, .int .i64 0, .int .i64 0, .bool false] 24)) :=
  ⟨Sb.new w A n c d.room d.fuse d.off, h.q (((Q.refl _).alloc _).alloc _), fun hn ad e => by have := h.files.blk hn ad e; omega⟩
theorem Sv.put {w5 : World} {A5 : Option Addr} {n5 c5 : Nat} {d5 : Dk} (h : Sv w A n c d wr) (q : Q wr w5) (ho : Own w5 wr.heap.size A5 n5 c5 d5.fs) (hn : n5 * 48 ≤ 140737488355328) :
    Sv w A5 n5 c5 d5 ((((w5.setCell ⟨w.heap.size, 0, none⟩ (.slice A5 n5 c5)).setCell ⟨w.heap.size, 1, none⟩ (.int .i64 d5.room)).setCell ⟨w.heap.size, 2, none⟩ (.int .i64 d5.fuse)).setCell ⟨w.heap.size, 3, none⟩ (.bool d5.off)) ∧ Far w A5 := by
  have hlt := h.sb.res.lt
  exact ⟨⟨(h.sb.step q).put4 A5 n5 c5 d5.room d5.fuse d5.off, (ho.set4 (b := w.heap.size) (by omega) _ _ _ _).dsk hn, fun _ ad e => by have := ho.far_ ad e; omega⟩, fun ad e => by have := ho.far_ ad e; omega⟩
theorem Sv.putK {w5 : World} {A5 : Option Addr} {n5 c5 : Nat} {d5 : Dk} (h : Sv w A n c d wr) (q : Q wr w5) (ho : Dsk w5 A5 n5 c5 d5.fs) (hf : A5 = A ∧ n5 = n ∨ ∀ ad, A5 = some ad → wr.heap.size ≤ ad.block) :
    Sv w A5 n5 c5 d5 ((((w5.setCell ⟨w.heap.size, 0, none⟩ (.slice A5 n5 c5)).setCell ⟨w.heap.size, 1, none⟩ (.int .i64 d5.room)).setCell ⟨w.heap.size, 2, none⟩ (.int .i64 d5.fuse)).setCell ⟨w.heap.size, 3, none⟩ (.bool d5.off)) := by
  have hlt := h.sb.res.lt
  have haw : 0 < n5 → ∀ ad, A5 = some ad → ad.block ≠ w.heap.size ∧ ad.block ≠ w.heap.size + 1 := by
    intro hn ad e
    rcases hf with ⟨rfl, rfl⟩ | hf
    · exact h.away hn ad e
    · have := hf ad e; omega
  have a1 : 0 < n5 → ∀ ad, A5 = some ad → ad.block ≠ w.heap.size := fun hn ad e => (haw hn ad e).1
  exact ⟨(h.sb.step q).put4 A5 n5 c5 d5.room d5.fuse d5.off, (((ho.away1 a1 0 _).away1 a1 1 _).away1 a1 2 _).away1 a1 3 _, haw⟩
theorem Sv.farK {A5 A0 : Option Addr} {n5 n0 : Nat} (h : Sv w A n c d wr) (h0 : A = A0 ∧ n = n0 ∨ Far w A) (hf : A5 = A ∧ n5 = n ∨ ∀ ad, A5 = some ad → wr.heap.size ≤ ad.block) : A5 = A0 ∧ n5 = n0 ∨ Far w A5 := by
  rcases hf with ⟨rfl, rfl⟩ | hf
  · exact h0
  · exact .inr fun ad e => by have := hf ad e; have := h.sb.res.lt; omega
theorem Sv.endK (h : Sv w A n c d wr) {A0 : Option Addr} {n0 : Nat} (hf : A = A0 ∧ n = n0 ∨ Far w A) (er : Int) (x y z u : Value) :
    RetDK w A0 n0 d er (.returned (.tuple #[dkv A n c d.room d.fuse d.off, .int .i64 er])) ((((wr.setCell ⟨w.heap.size + 1, 0, none⟩ x).setCell ⟨w.heap.size + 1, 1, none⟩ y).setCell ⟨w.heap.size + 1, 2, none⟩ z).setCell ⟨w.heap.size + 1, 3, none⟩ u) :=
  ⟨A, n, c, rfl, (((h.dsk.away1 (fun hn ad e => (h.away hn ad e).2) 0 _).away1 (fun hn ad e => (h.away hn ad e).2) 1 _).away1 (fun hn ad e => (h.away hn ad e).2) 2 _).away1 (fun hn ad e => (h.away hn ad e).2) 3 _, hf, h.sb.q.set4 (b := w.heap.size + 1) (by omega) _ _ _ _⟩
end
theorem few_own {w : World} {base B : Nat} {A : Option Addr} {n c : Nat} {d : Dk} (h : Own w base A n c d.fs) (hB : Bnd B d) : n * 48 ≤ 140737488355328 := by have h1 := h.len; have h2 := hB.few; omega
end Go.Proofs.Ytodfdklcioafmaa

/- Contracts: the document's Sync; its Append, where it is refused. -/
namespace Go.Proofs.Ytodfdklcioafmaa
set_option maxRecDepth 100000
open Go.RowKit Dkm
set_option linter.unusedVariables false

set_option maxHeartbeats 2000000 in
theorem ref_sync_off (nm : ByteArray) (A : Option Addr) (n c : Nat) (room fuse : Int) (l : List Fil) (w : World) (hd : Dsk w A n c l) :
    Calls Try.prog 35 #[dkv A n c room fuse true, .string nm] w fun e w' => RetDK w A n ⟨l, room, fuse, true⟩ 6 e w' := by
  have HD := Lib.hid hd
  clear hd
  go_enter Try.func35, Try.ntmps35
  go_wp2
  refine bodyPost_ret (v := .tuple #[dkv A n c room fuse true, .int .i64 6]) (by simp [results, Try.results35, go_sem]) rfl ?_
  exact ⟨A, n, c, rfl, HD.out.q (((Q.refl _).alloc _).alloc _), .inl ⟨rfl, rfl⟩, ((Q.refl _).alloc _).alloc _⟩

set_option maxHeartbeats 2000000 in
theorem ref_sync_none (nm : ByteArray) (A : Option Addr) (n c : Nat) (room fuse : Int) (l : List Fil) (w : World) (hd : Dsk w A n c l) (p : Int) (hp : plc nm l 0 = p) (h0 : p < 0) :
    Calls Try.prog 35 #[dkv A n c room fuse false, .string nm] w fun e w' => RetDK w A n ⟨l, room, fuse, false⟩ 7 e w' := by
  have HD := Lib.hid hd
  have HP := Lib.hid hp
  clear hd hp
  have S0 := Lib.hid (Sb.new w A n c room fuse false)
  go_enter Try.func35, Try.ntmps35
  go_wp2_with fail
  refine (ref_at nm A n c room fuse false l _ (HD.out.files.q S0.out.q) HD.out.max).mono ?_
  rw [HP.out]
  rintro e w1 ⟨rfl, q1⟩
  have S1 := Lib.hid (S0.out.step q1)
  clear S0 q1
  obtain ⟨⟨e0, e1, e2, e3⟩, f0, f1, f2, f3⟩ := S1.out.get
  obtain ⟨⟨s0, s1, s2, s3⟩, h0', h1, h2, h3⟩ := S1.out.getR
  go_wp2
  refine bodyPost_ret (v := .tuple #[dkv A n c room fuse false, .int .i64 7]) (by simp [results, Try.results35, go_sem, s0, s1, s2, s3]) rfl ?_
  exact S1.out.endK HD.out 7 _ _ _ _

set_option maxHeartbeats 2000000 in
theorem ref_sync_yes (nm : ByteArray) (A : Option Addr) (n c : Nat) (room fuse : Int) (l : List Fil) (w : World) (hd : Dsk w A n c l) (k : Nat) (hk : k < l.length) (hp : plc nm l 0 = k) (hs : l[k].sf.size + l[k].wt.size ≤ maxLen) :
    Calls Try.prog 35 #[dkv A n c room fuse false, .string nm] w fun e w' => RetDK w A n ⟨l.set k ⟨l[k].nm, l[k].sf ++ l[k].wt, ⟨#[]⟩⟩, room, fuse, false⟩ 0 e w' := by
  have hkn : k < n := by have := hd.len; omega
  have hnm := hd.max
  unfold maxLen at hnm hs
  have hfew := hd.few
  have HD := Lib.hid hd
  have HP := Lib.hid hp
  clear hd hp
  have S0 := Lib.hid (Sb.new w A n c room fuse false)
  have q4 : (k : Int) < (n : Int) := by omega
  have q5 : 0 ≤ (k : Int) := by omega
  have q6 : ¬ 9223372036854775807 < l[k].sf.size + l[k].wt.size := by omega
  go_enter Try.func35, Try.ntmps35
  go_wp2_with fail
  refine (ref_at nm A n c room fuse false l _ (HD.out.files.q S0.out.q) HD.out.max).mono ?_
  rw [HP.out]
  rintro e w1 ⟨rfl, q1⟩
  have S1 := Lib.hid (S0.out.step q1)
  obtain ⟨ad, rfl, hb, c0, c1, c3⟩ := (HD.out.files.q S1.out.q).load hkn hk
  clear S0 q1
  obtain ⟨⟨e0, e1, e2, e3⟩, f0, f1, f2, f3⟩ := S1.out.get
  go_upto_region 7 with (fail)
  have B1 := Lib.hid (And.intro (Bx.new w1 [.string l[k].nm, .string l[k].sf, .string l[k].wt] 52) (S1.out.step ((Q.refl _).alloc (.cells #[.string l[k].nm, .string l[k].sf, .string l[k].wt] 52))))
  generalize (w1.alloc (.cells #[.string l[k].nm, .string l[k].sf, .string l[k].wt] 52)) = W at B1 ⊢
  generalize w1.heap.size = g at B1 ⊢
  clear e0 e1 e2 e3 f0 f1 f2 f3 c0 c1 c3 hb
  obtain ⟨⟨b0, b1, b2⟩, _⟩ := B1.out.1.get3
  obtain ⟨⟨e0, e1, e2, e3⟩, f0, f1, f2, f3⟩ := B1.out.2.get
  obtain ⟨⟨s0, s1, s2, s3⟩, h0', h1, h2, h3⟩ := B1.out.2.getR
  go_wp2_with fail
  refine (ref_with (some ad) n c room fuse false k ⟨l[k].nm, l[k].sf ++ l[k].wt, ⟨#[]⟩⟩ l _ (HD.out.q B1.out.2.q) hkn).mono ?_
  rintro e w5 ⟨A5, c5, rfl, ho5, q5'⟩
  clear s0 s1 s2 s3 h0' h1 h2 h3
  obtain ⟨⟨s0, s1, s2, s3⟩, h0', h1, h2, h3⟩ := (B1.out.2.step q5').getR
  go_wp2
  refine bodyPost_ret (v := .tuple #[dkv A5 n c5 room fuse false, .int .i64 0]) (by simp [results, Try.results35, go_sem, s0, s1, s2, s3]) rfl ?_
  exact B1.out.2.endO (d := ⟨l.set k ⟨l[k].nm, l[k].sf ++ l[k].wt, ⟨#[]⟩⟩, room, fuse, false⟩) q5' ho5 (by omega) 0 _ _ _ _

set_option maxHeartbeats 2000000 in
theorem ref_app_off (nm s : ByteArray) (A : Option Addr) (n c : Nat) (room fuse : Int) (l : List Fil) (w : World) (hd : Dsk w A n c l) :
    Calls Try.prog 34 #[dkv A n c room fuse true, .string nm, .string s] w fun e w' => RetDK w A n ⟨l, room, fuse, true⟩ 6 e w' := by
  have HD := Lib.hid hd
  clear hd
  go_enter Try.func34, Try.ntmps34
  go_wp2
  refine bodyPost_ret (v := .tuple #[dkv A n c room fuse true, .int .i64 6]) (by simp [results, Try.results34, go_sem]) rfl ?_
  exact ⟨A, n, c, rfl, HD.out.q (((Q.refl _).alloc _).alloc _), .inl ⟨rfl, rfl⟩, ((Q.refl _).alloc _).alloc _⟩

set_option maxHeartbeats 2000000 in
theorem ref_app_arg (nm s : ByteArray) (A : Option Addr) (n c : Nat) (room fuse : Int) (l : List Fil) (w : World) (hd : Dsk w A n c l) (hk : nmOk nm = false) :
    Calls Try.prog 34 #[dkv A n c room fuse false, .string nm, .string s] w fun e w' => RetDK w A n ⟨l, room, fuse, false⟩ 1 e w' := by
  have HD := Lib.hid hd
  have hfew := hd.few
  clear hd
  rcases nmOk_no hk with h | h
  case' inl => have h' : (nm.size : Int) < 1 := by omega
  case' inr => have h' : ¬ (nm.size : Int) < 1 := by omega
  all_goals
    clear hk
    go_enter Try.func34, Try.ntmps34
    go_wp2
    refine bodyPost_ret (v := .tuple #[dkv A n c room fuse false, .int .i64 1]) (by simp [results, Try.results34, go_sem]) rfl ?_
    exact ⟨A, n, c, rfl, HD.out.q (((Q.refl _).alloc _).alloc _), .inl ⟨rfl, rfl⟩, ((Q.refl _).alloc _).alloc _⟩

set_option maxHeartbeats 4000000 in
theorem ref_app_full (nm s : ByteArray) (A : Option Addr) (n c : Nat) (room fuse : Int) (l : List Fil) (w : World) (hd : Dsk w A n c l) (hk : nmOk nm = true) (p : Int) (hp : plc nm l 0 = p) (hfull : (p < 0 ∧ 64 ≤ n) ∨ room < s.size) :
    Calls Try.prog 34 #[dkv A n c room fuse false, .string nm, .string s] w fun e w' => RetDK w A n ⟨l, room, fuse, false⟩ 5 e w' := by
  have HD := Lib.hid hd
  have HP := Lib.hid hp
  have hfew := hd.few
  clear hd hp
  obtain ⟨o1, o2⟩ := nmOk_yes hk
  have o3 : ¬ (nm.size : Int) < 1 := by omega
  clear hk
  have S0 := Lib.hid (Sb.new w A n c room fuse false)
  have hc : (p < 0 ∧ (64 : Int) ≤ (n : Int)) ∨ (p < 0 ∧ ¬ (64 : Int) ≤ (n : Int) ∧ room < (s.size : Int)) ∨ (¬ p < 0 ∧ room < (s.size : Int)) := by omega
  clear hfull
  rcases hc with ⟨g1, g2⟩ | ⟨g1, g2, g3⟩ | ⟨g1, g3⟩
  all_goals
    go_enter Try.func34, Try.ntmps34
    go_wp2_with fail
    refine (ref_at nm A n c room fuse false l _ (HD.out.files.q S0.out.q) HD.out.max).mono ?_
    rw [HP.out]
    rintro e w1 ⟨rfl, q1⟩
    have S1 := Lib.hid (S0.out.step q1)
    clear S0 q1
    obtain ⟨⟨e0, e1, e2, e3⟩, f0, f1, f2, f3⟩ := S1.out.get
    obtain ⟨⟨s0, s1, s2, s3⟩, h0', h1, h2, h3⟩ := S1.out.getR
    go_wp2
    refine bodyPost_ret (v := .tuple #[dkv A n c room fuse false, .int .i64 5]) (by simp [results, Try.results34, go_sem, s0, s1, s2, s3]) rfl ?_
    exact S1.out.endK HD.out 5 _ _ _ _
end Go.Proofs.Ytodfdklcioafmaa

/- Contracts: the document's Append, where the file would be too big. -/
namespace Go.Proofs.Ytodfdklcioafmaa
set_option maxRecDepth 100000
open Go.RowKit Dkm
set_option linter.unusedVariables false

theorem Bx.put3 {w : World} {b : Nat} {x y z : Value} (h : Bx w b [x, y, z]) (x' y' z' : Value) : Bx (((w.setCell ⟨b, 0, none⟩ x').setCell ⟨b, 1, none⟩ y').setCell ⟨b, 2, none⟩ z') b [x', y', z'] :=
  ((h.set (k := 0) (by simp) x').set (k := 1) (by simp) y').set (k := 2) (by simp) z'
theorem Sb.far3 {w wr : World} {A : Option Addr} {n c : Nat} {room fuse : Int} {off : Bool} (h : Sb w A n c room fuse off wr) {g : Nat} (hg : w.heap.size + 1 < g) (x y z : Value) :
    Sb w A n c room fuse off (((wr.setCell ⟨g, 0, none⟩ x).setCell ⟨g, 1, none⟩ y).setCell ⟨g, 2, none⟩ z) :=
  ⟨((h.box.far (p := ⟨g, 0, none⟩) (by simp only; omega) _).far (p := ⟨g, 1, none⟩) (by simp only; omega) _).far (p := ⟨g, 2, none⟩) (by simp only; omega) _,
   ((h.res.far (p := ⟨g, 0, none⟩) (by simp only; omega) _).far (p := ⟨g, 1, none⟩) (by simp only; omega) _).far (p := ⟨g, 2, none⟩) (by simp only; omega) _, h.q.set3 (b := g) (by omega) _ _ _⟩

set_option maxHeartbeats 4000000 in
theorem ref_app_big_none (nm s : ByteArray) (A : Option Addr) (n c : Nat) (room fuse : Int) (l : List Fil) (w : World) (hd : Dsk w A n c l) (hk : nmOk nm = true) (p : Int) (hp : plc nm l 0 = p) (h0 : p < 0) (hn64 : n < 64) (hr : (s.size : Int) ≤ room) (hs : s.size ≤ 2305843009213693952) (hbig : 65536 < s.size) :
    Calls Try.prog 34 #[dkv A n c room fuse false, .string nm, .string s] w fun e w' => RetDK w A n ⟨l, room, fuse, false⟩ 4 e w' := by
  have hnm := hd.max
  unfold maxLen at hnm
  have hfew := hd.few
  have HD := Lib.hid hd
  have HP := Lib.hid hp
  clear hd hp
  obtain ⟨o1, o2⟩ := nmOk_yes hk
  have o3 : ¬ (nm.size : Int) < 1 := by omega
  have o4 : ¬ room < (s.size : Int) := by omega
  clear hk
  have S0 := Lib.hid (Sb.new w A n c room fuse false)
  have q4 : ¬ (64 : Int) ≤ (n : Int) := by omega
  go_enter Try.func34, Try.ntmps34
  go_wp2_with fail
  refine (ref_at nm A n c room fuse false l _ (HD.out.files.q S0.out.q) HD.out.max).mono ?_
  rw [HP.out]
  rintro e w1 ⟨rfl, q1⟩
  have S1 := Lib.hid (S0.out.step q1)
  clear S0 q1
  obtain ⟨⟨e0, e1, e2, e3⟩, f0, f1, f2, f3⟩ := S1.out.get
  have z0 : w.heap.size + 1 < w1.heap.size := S1.out.res.lt
  go_upto_region 11 with (fail)
  have B1 := Lib.hid (And.intro (Bx.new w1 [.string nm, .string ⟨#[]⟩, .string ⟨#[]⟩] 52) (S1.out.step ((Q.refl _).alloc (.cells #[.string nm, .string ⟨#[]⟩, .string ⟨#[]⟩] 52))))
  generalize (w1.alloc (.cells #[.string nm, .string ⟨#[]⟩, .string ⟨#[]⟩] 52)) = W at B1 ⊢
  generalize w1.heap.size = g at B1 z0 ⊢
  clear e0 e1 e2 e3 f0 f1 f2 f3
  obtain ⟨⟨b0, b1, b2⟩, _⟩ := B1.out.1.get3
  obtain ⟨⟨e0, e1, e2, e3⟩, f0, f1, f2, f3⟩ := B1.out.2.get
  obtain ⟨⟨s0, s1, s2, s3⟩, h0', h1, h2, h3⟩ := B1.out.2.getR
  go_wp2
  go_outline
  refine bodyPost_ret (v := .tuple #[dkv A n c room fuse false, .int .i64 4]) (by simp [results, Try.results34, go_sem, s0, s1, s2, s3]) rfl ?_
  exact B1.out.2.endK HD.out 4 _ _ _ _

set_option maxHeartbeats 4000000 in
theorem ref_app_big_at (nm s : ByteArray) (A : Option Addr) (n c : Nat) (room fuse : Int) (l : List Fil) (w : World) (hd : Dsk w A n c l) (hk : nmOk nm = true) (k : Nat) (hkl : k < l.length) (hkn : k < n) (hp : plc nm l 0 = k) (hr : (s.size : Int) ≤ room) (hs : s.size ≤ 2305843009213693952) (hz : l[k].sf.size + l[k].wt.size ≤ 2305843009213693952) (hbig : 65536 < l[k].sf.size + l[k].wt.size + s.size) :
    Calls Try.prog 34 #[dkv A n c room fuse false, .string nm, .string s] w fun e w' => RetDK w A n ⟨l, room, fuse, false⟩ 4 e w' := by
  have hb2 : (65536 : Int) < (l[k].sf.size : Int) + (l[k].wt.size : Int) + (s.size : Int) := by omega
  have hnm := hd.max
  unfold maxLen at hnm
  have hfew := hd.few
  have HD := Lib.hid hd
  have HP := Lib.hid hp
  clear hd hp
  obtain ⟨o1, o2⟩ := nmOk_yes hk
  have o3 : ¬ (nm.size : Int) < 1 := by omega
  have o4 : ¬ room < (s.size : Int) := by omega
  clear hk
  have S0 := Lib.hid (Sb.new w A n c room fuse false)
  have z8 : (l[k].sf.size : Int) + (l[k].wt.size : Int) ≤ 2305843009213693952 := by omega
  have q4 : (k : Int) < (n : Int) := by omega
  have q5 : 0 ≤ (k : Int) := by omega
  go_enter Try.func34, Try.ntmps34
  go_wp2_with fail
  refine (ref_at nm A n c room fuse false l _ (HD.out.files.q S0.out.q) HD.out.max).mono ?_
  rw [HP.out]
  rintro e w1 ⟨rfl, q1⟩
  have S1 := Lib.hid (S0.out.step q1)
  obtain ⟨ad, rfl, _, _⟩ := (HD.out.files.q S1.out.q).load hkn hkl
  clear S0 q1
  obtain ⟨⟨e0, e1, e2, e3⟩, f0, f1, f2, f3⟩ := S1.out.get
  have z0 : w.heap.size + 1 < w1.heap.size := S1.out.res.lt
  go_upto_region 10 with (fail)
  have B1 := Lib.hid (And.intro (Bx.new w1 [.string nm, .string ⟨#[]⟩, .string ⟨#[]⟩] 52) (S1.out.step ((Q.refl _).alloc (.cells #[.string nm, .string ⟨#[]⟩, .string ⟨#[]⟩] 52))))
  generalize (w1.alloc (.cells #[.string nm, .string ⟨#[]⟩, .string ⟨#[]⟩] 52)) = W at B1 ⊢
  generalize w1.heap.size = g at B1 z0 ⊢
  clear e0 e1 e2 e3 f0 f1 f2 f3
  obtain ⟨ad', hadd, hb, c0, c1, c3⟩ := (HD.out.files.q B1.out.2.q).load hkn hkl
  obtain rfl : ad = ad' := by injection hadd
  clear hadd
  obtain ⟨⟨e0, e1, e2, e3⟩, f0, f1, f2, f3⟩ := B1.out.2.get
  obtain ⟨⟨b0, b1, b2⟩, y0, y1, y2⟩ := B1.out.1.get3
  go_upto_region 11 with (fail)
  have B2 := Lib.hid (And.intro (B1.out.1.put3 (.string l[k].nm) (.string l[k].sf) (.string l[k].wt)) (B1.out.2.far3 z0 (.string l[k].nm) (.string l[k].sf) (.string l[k].wt)))
  clear e0 e1 e2 e3 f0 f1 f2 f3 b0 b1 b2 y0 y1 y2 c0 c1 c3 hb B1
  generalize (((W.setCell ⟨g, 0, none⟩ (.string l[k].nm)).setCell ⟨g, 1, none⟩ (.string l[k].sf)).setCell ⟨g, 2, none⟩ (.string l[k].wt)) = W1 at B2 ⊢
  have B1 := B2
  clear B2
  obtain ⟨⟨b0, b1, b2⟩, _⟩ := B1.out.1.get3
  obtain ⟨⟨e0, e1, e2, e3⟩, f0, f1, f2, f3⟩ := B1.out.2.get
  obtain ⟨⟨s0, s1, s2, s3⟩, h0', h1, h2, h3⟩ := B1.out.2.getR
  go_wp2
  go_outline
  refine bodyPost_ret (v := .tuple #[dkv (some ad) n c room fuse false, .int .i64 4]) (by simp [results, Try.results34, go_sem, s0, s1, s2, s3]) rfl ?_
  exact B1.out.2.endK HD.out 4 _ _ _ _
end Go.Proofs.Ytodfdklcioafmaa

/- A region that draws its order: the condition on the world may be made stronger on the way. -/
namespace Go
set_option maxRecDepth 100000
section
variable {P : Program} {ops : Array Oper} {Q : Exit → Act → World → Prop} {md : Region.Mode} {S S' : World → Prop}
theorem wpAnyH_more (h : ∀ w, S' w → S w) : ∀ (fuel : Nat) (listed : Array Bool) (a : Act) (w : World), wpAnyH P md ops Q S' fuel listed a w → wpAnyH P md ops Q S fuel listed a w
  | 0, _, _, _, hh => hh
  | fuel + 1, _, _, _, hh => ⟨hh.1, fun i hi => wpOp_mono (fun a' w' h' => ⟨h w' h'.1, wpAnyH_more h fuel _ a' w' h'.2⟩) (hh.2 i hi)⟩
theorem wpAnyH_now (S' : World → Prop) (h : ∀ w, S' w → S w) {fuel : Nat} {listed : Array Bool} {a : Act} {w : World} (hw : S' w) (hh : S' w → wpAnyH P md ops Q S' fuel listed a w) : wpAnyH P md ops Q S fuel listed a w :=
  wpAnyH_more h fuel listed a w (hh hw)
end
end Go

/- A region that draws its order and stores, as its operation k, into a cell that it loads: what is known of the world is asked only till k comes up; a load may be taken first if k waits for it. -/
namespace Go.Proofs.Ytodfdklcioafmaa
set_option maxRecDepth 100000
section
variable {P : Program} {ops : Array Oper} {Q : Exit → Act → World → Prop} {md : Region.Mode} {k : Nat}

/-- The pair of what is owed behind a step: S, as long as k has not come up; and what follows. -/
def Till (k : Nat) (S : World → Prop) (T : Array Bool → Act → World → Prop) (l : Array Bool) : Act → World → Prop := fun a w => (l.getD k true = false → S w) ∧ T l a w
/-- In whatever order the rest comes up: Q at the end; S till k. -/
def wpAnyL (P : Program) (md : Region.Mode) (ops : Array Oper) (Q : Exit → Act → World → Prop) (k : Nat) (S : World → Prop) (fuel : Nat) : Array Bool → Act → World → Prop :=
  Nat.rec (fun l a w => Region.ready md ops l = [] ∧ Q .normal a w)
    (fun _ T l a w => (Region.ready md ops l = [] → Q .normal a w) ∧ ∀ j, j ∈ Region.ready md ops l → wpOp P ops Q j (Till k S T (l.setIfInBounds j true)) a w) fuel

variable {S S' : World → Prop}
theorem wpAnyL_zero {l : Array Bool} {a : Act} {w : World} : wpAnyL P md ops Q k S 0 l a w ↔ Region.ready md ops l = [] ∧ Q .normal a w := Iff.rfl
theorem wpAnyL_succ {n : Nat} {l : Array Bool} {a : Act} {w : World} : wpAnyL P md ops Q k S (n + 1) l a w ↔
    (Region.ready md ops l = [] → Q .normal a w) ∧ ∀ j, j ∈ Region.ready md ops l → wpOp P ops Q j (Till k S (wpAnyL P md ops Q k S n) (l.setIfInBounds j true)) a w := Iff.rfl

/-- S dropped altogether. -/
theorem wpAnyL_plain (n : Nat) : ∀ (l : Array Bool) (a : Act) (w : World), wpAnyL P md ops Q k S n l a w → wpAny P md ops Q n l a w := by
  induction n with
  | zero => exact fun l a w h => h
  | succ n ih => exact fun l a w h => ⟨(wpAnyL_succ.1 h).1, fun j hj => wpOp_mono (fun a' w' h' => ih _ a' w' h'.2) ((wpAnyL_succ.1 h).2 j hj)⟩
/-- S made stronger in the midst. -/
theorem wpAnyL_more (hS : ∀ w, S' w → S w) (n : Nat) : ∀ (l : Array Bool) (a : Act) (w : World), wpAnyL P md ops Q k S' n l a w → wpAnyL P md ops Q k S n l a w := by
  induction n with
  | zero => exact fun l a w h => h
  | succ n ih => exact fun l a w h => wpAnyL_succ.2 ⟨(wpAnyL_succ.1 h).1, fun j hj => wpOp_mono (fun a' w' h' => ⟨fun e => hS w' (h'.1 e), ih _ a' w' h'.2⟩) ((wpAnyL_succ.1 h).2 j hj)⟩
theorem wpAnyL_now (S' : World → Prop) (h : ∀ w, S' w → S w) {fuel : Nat} {listed : Array Bool} {a : Act} {w : World} (hw : S' w) (hh : S' w → wpAnyL P md ops Q k S' fuel listed a w) : wpAnyL P md ops Q k S fuel listed a w :=
  wpAnyL_more h fuel listed a w (hh hw)
theorem getD_set_up {l : Array Bool} {j : Nat} (h : l.getD k true = true) : (l.setIfInBounds j true).getD k true = true := by
  rcases Nat.decEq j k with e | rfl
  · rw [getD_set_ne true e]; exact h
  · simp [Array.getElem?_setIfInBounds]; split <;> simp
/-- Behind k nothing is asked. -/
theorem wpAnyL_free (n : Nat) : ∀ (l : Array Bool) (a : Act) (w : World), l.getD k true = true → wpAnyH P md ops Q (fun _ => True) n l a w → wpAnyL P md ops Q k S n l a w := by
  induction n with
  | zero => exact fun l a w _ h => h
  | succ n ih =>
    intro l a w hl h
    refine wpAnyL_succ.2 ⟨h.1, fun j hj => wpOp_mono (fun a' w' h' => ⟨fun e => ?_, ih _ a' w' (getD_set_up hl) h'.2⟩) (h.2 j hj)⟩
    rw [getD_set_up hl] at e
    cases e

/-- k waits for i. -/
def waitsFor (md : Region.Mode) (ops : Array Oper) (k i : Nat) : Bool := match ops[k]? with | some o => o.after.any (fun e => Region.binds md e && e.on == i) | none => false
/-- Of two that may come up now none waits for the other one. -/
theorem ready_free {l : Array Bool} {i j : Nat} {o : Oper} (hi : i ∈ Region.ready md ops l) (hj : j ∈ Region.ready md ops l) (ho : ops[j]? = some o) : ∀ e ∈ o.after, Region.binds md e = true → e.on ≠ i := by
  obtain ⟨hi0, _⟩ := mem_ready.1 hi
  obtain ⟨_, o', ho', hall⟩ := mem_ready.1 hj
  obtain rfl : o = o' := by rw [ho] at ho'; injection ho'
  intro e he hb heq
  have hl := hall e he hb
  rw [heq] at hl
  cases hg : l[i]? with
  | none => simp [hg] at hl
  | some b => simp [hg] at hi0 hl; rw [hi0] at hl; cases hl
theorem not_waits {l : Array Bool} {i : Nat} (hi : i ∈ Region.ready md ops l) (hk : waitsFor md ops k i = true) : ¬ k ∈ Region.ready md ops l := fun hj => by
  unfold waitsFor at hk
  split at hk
  · rename_i o ho
    obtain ⟨e, he, h2⟩ := Array.any_eq_true'.1 hk
    rw [Bool.and_eq_true, beq_iff_eq] at h2
    exact ready_free hi hj ho e he h2.1 h2.2
  · cases hk

/-- Number i first: nobody who could come ahead of it makes a difference, and k waits for it. -/
theorem wpAnyL_take {i : Nat} {oi : Oper} {v : Value} {fuel : Nat} {listed : Array Bool} {a : Act} {w : World} (hi : ops[i]? = some oi)
    (hs : Region.noSelect ops = true) (hf : Region.free md ops listed i = true) (hr : (Region.ready md ops listed).contains i = true)
    (hk : (listed.getD k true == false && waitsFor md ops k i && i != k) = true)
    (hQ : ∀ c a w, Q (.panic c) (a.put oi.dst v) w → Q (.panic c) a w) (hy : YieldsIf P ops S oi v a) (hS : S w)
    (h : wpAnyL P md ops Q k S fuel (listed.setIfInBounds i true) (a.put oi.dst v) w) : wpAnyL P md ops Q k S (fuel + 1) listed a w := by
  simp only [Bool.and_eq_true, beq_iff_eq, bne_iff_ne, ne_eq] at hk
  obtain ⟨⟨hku, hkw⟩, hik⟩ := hk
  have hap := Region.free_spec hi hf
  have hr' : i ∈ Region.ready md ops listed := by simpa using hr
  have hno := Region.noSelect_spec hs
  clear hf hr
  -- the same for every state: by the number of those that are left
  induction fuel generalizing listed a w with
  | zero =>
    refine wpAnyL_succ.2 ⟨fun e => absurd hr' (by rw [e]; exact List.not_mem_nil), fun j hj => ?_⟩
    rcases Nat.decEq j i with e | rfl
    · exact absurd (ready_mono hj e) (by rw [(wpAnyL_zero.1 h).1]; exact List.not_mem_nil)
    · exact hy.wpOp hi hS ⟨fun _ => hS, h⟩
  | succ n ih =>
    refine wpAnyL_succ.2 ⟨fun e => absurd hr' (by rw [e]; exact List.not_mem_nil), fun j hj => ?_⟩
    rcases Nat.decEq j i with e | rfl
    case isTrue => exact hy.wpOp hi hS ⟨fun _ => hS, h⟩
    have hjk : j ≠ k := by rintro rfl; exact not_waits hr' hkw hj
    obtain ⟨hun, oj, hoj, _⟩ := mem_ready.1 hj
    have other := wpOp_putIf hoj (hap j oj hoj e hun (ready_free hr' hj hoj)) (fun cs b => hno i oi cs b hi) (fun cs b => hno j oj cs b hoj) hQ hy ((wpAnyL_succ.1 h).2 j (ready_mono hj e))
    have hku' : (listed.setIfInBounds j true).getD k true = false := (getD_set_ne true hjk).trans hku
    refine wpOp_mono (fun a' w' ⟨hy', hS', hT⟩ => ?_) other
    have hSw : S w' := hS' (by rw [getD_set_ne true hjk, getD_set_ne true hik]; exact hku)
    rw [Array.setIfInBounds_comm _ _ (Ne.symm e)] at hT
    refine ⟨fun _ => hSw, ih hy' hSw hT hku' (fun m om hm hmi hmu hme => hap m om hm hmi ?_ hme) (ready_mono hr' (Ne.symm e))⟩
    rcases Nat.decEq j m with e2 | rfl
    · rwa [getD_set_ne true e2] at hmu
    · exact hun

def AllReadyL (P : Program) (md : Region.Mode) (ops : Array Oper) (Q : Exit → Act → World → Prop) (k : Nat) (S : World → Prop) (fuel : Nat) (listed : Array Bool) (a : Act) (w : World) (rs : List Nat) : Prop :=
  ∀ j, j ∈ rs → wpOp P ops Q j (Till k S (wpAnyL P md ops Q k S fuel) (listed.setIfInBounds j true)) a w
theorem AllReadyL.nil {fuel : Nat} {listed : Array Bool} {a : Act} {w : World} : AllReadyL P md ops Q k S fuel listed a w [] := fun _ h => absurd h List.not_mem_nil
/-- a step ahead of k: S is shown anew, and handed on. -/
theorem AllReadyL.cons {fuel : Nat} {listed : Array Bool} {a : Act} {w : World} {i : Nat} {o : Oper} {rs : List Nat} (ho : ops[i]? = some o)
    (h : ∀ K : Act → World → Prop, Shut (∀ a w, S w → (S w → wpAnyL P md ops Q k S fuel (listed.setIfInBounds i true) a w) → K a w) → if Region.wanted o (yielded ops a.tmps) = true then Oper.wp P o a w K Q else K (a.put o.dst undef) w)
    (hs : AllReadyL P md ops Q k S fuel listed a w rs) : AllReadyL P md ops Q k S fuel listed a w (i :: rs) :=
  List.forall_mem_cons.2 ⟨wpOp_step ho fun K hK => h K fun a w h1 h2 => hK a w ⟨fun _ => h1, h2 h1⟩, hs⟩
/-- the step k itself: nothing is to be shown anew. -/
theorem AllReadyL.consK {fuel : Nat} {listed : Array Bool} {a : Act} {w : World} {o : Oper} {rs : List Nat} (ho : ops[k]? = some o) (hl : (listed.setIfInBounds k true).getD k true = true)
    (h : ∀ K : Act → World → Prop, Shut (∀ a w, wpAnyH P md ops Q (fun _ => True) fuel (listed.setIfInBounds k true) a w → K a w) → if Region.wanted o (yielded ops a.tmps) = true then Oper.wp P o a w K Q else K (a.put o.dst undef) w)
    (hs : AllReadyL P md ops Q k S fuel listed a w rs) : AllReadyL P md ops Q k S fuel listed a w (k :: rs) :=
  List.forall_mem_cons.2 ⟨wpOp_step ho fun K hK => h K fun a w h2 => hK a w ⟨(fun e => by rw [hl] at e; cases e), wpAnyL_free fuel _ a w hl h2⟩, hs⟩
theorem wpAnyL_ready {rs : List Nat} {fuel : Nat} {listed : Array Bool} {a : Act} {w : World} (hr : Region.ready md ops listed = rs) (hne : rs ≠ [])
    (h : AllReadyL P md ops Q k S fuel listed a w rs) : wpAnyL P md ops Q k S (fuel + 1) listed a w :=
  wpAnyL_succ.2 ⟨fun e => absurd (hr.symm.trans e) hne, fun j hj => h j (by rwa [hr] at hj)⟩
theorem wpAnyL_done {listed : Array Bool} {a : Act} {w : World} (hr : Region.ready md ops listed = []) (h : Q .normal a w) (fuel : Nat) : wpAnyL P md ops Q k S fuel listed a w := by
  cases fuel with
  | zero => exact ⟨hr, h⟩
  | succ n => exact wpAnyL_succ.2 ⟨fun _ => h, fun j hj => absurd hj (by rw [hr]; exact List.not_mem_nil)⟩
/-- the beginning. -/
theorem wp_region_heldL (k : Nat) (S : World → Prop) {id : Nat} {a : Act} {w : World} (hm : P.follows .mixedOrders = true) (hS : S w.drew)
    (h : S w.drew → wpAnyL P .any ops Q k S ops.size (Array.replicate ops.size false) a w.drew) : (Code.region id ops true).wp P Q a w :=
  wp_region_any hm (wpAnyL_plain _ _ _ _ (h hS))
end
end Go.Proofs.Ytodfdklcioafmaa
