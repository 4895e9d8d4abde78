/- TableRef4, TableRef5, Merge, Merge2: merged. -/
import Derived.Test.YtodfdklcioafmaaA5
import Derived.Deep.DeepCutAuto
import Derived.StillTailTactics
import Derived.Test.YtodfdklcioafmaaA3
import Derived.Test.YtodfdklcioafmaaA4
import Derived.Maps.RangeWalk
import Derived.Maps.Own
import Derived.StringKeys
import Derived.Sort.KeysCollected
/- Contracts: the document's answer for pairs: Put where the key is new. -/
namespace Go.Proofs.Ytodfdklcioafmaa
set_option maxRecDepth 100000
open Go.RowKit Prm
set_option linter.unusedVariables false
set_option linter.unusedSimpArgs false

/-- the list with p in place i. -/
def insAt (l : List Pr) (i : Nat) (p : Pr) : List Pr := l.take i ++ p :: l.drop i
theorem insAt_len {l : List Pr} {i : Nat} {p : Pr} (hi : i ≤ l.length) : (insAt l i p).length = l.length + 1 := by simp [insAt]; omega
theorem insAt_lo {l : List Pr} {i k : Nat} {p : Pr} (hi : i ≤ l.length) (hk : k < i) : (insAt l i p)[k]? = some (l[k]'(by omega)) := by
  unfold insAt
  rw [List.getElem?_append_left (by rw [List.length_take]; omega), List.getElem?_take, if_pos hk, List.getElem?_eq_getElem]
theorem insAt_eq {l : List Pr} {i : Nat} {p : Pr} (hi : i ≤ l.length) : (insAt l i p)[i]? = some p := by
  unfold insAt
  have hl : (l.take i).length = i := by rw [List.length_take]; omega
  rw [List.getElem?_append_right (by omega), hl, Nat.sub_self]; rfl
theorem insAt_hi {l : List Pr} {i k : Nat} {p : Pr} (hk : k < l.length) (hik : i ≤ k) : (insAt l i p)[k + 1]? = some l[k] := by
  unfold insAt
  have hl : (l.take i).length = i := by rw [List.length_take]; omega
  rw [List.getElem?_append_right (by omega), hl, show k + 1 - i = (k - i) + 1 by omega, List.getElem?_cons_succ, List.getElem?_drop, show i + (k - i) = k by omega, List.getElem?_eq_getElem hk]
theorem take_next {l : List Pr} {k : Nat} {x : Pr} (h : l[k]? = some x) : l.take (k + 1) = l.take k ++ [x] := by
  obtain ⟨hk, rfl⟩ := List.getElem?_eq_some_iff.1 h
  exact List.take_succ_eq_append_getElem hk

set_option maxHeartbeats 8000000 in
theorem refPut_new (key val : ByteArray) (A : Option Addr) (n c : Nat) (l : List Pr) (w : World) (hf : Lst pairK w A n l) (hb : (n + 1) * 32 ≤ 140737488355328) (hks : KeysIn l) (hky : key.size ≤ maxLen) (hall : ∀ a ∈ l, hasK key a = false) (i : Nat) (hi : i ≤ l.length) (hia : ∀ h : i < l.length, aboveK key l[i] = true) (hfirst : ∀ j, ∀ hj : j < l.length, j < i → aboveK key l[j] = false) :
    Calls Try.prog 55 #[.slice A n c, .string key, .string val] w fun e w' => RetL pairK w (n + 1) (insAt l i ⟨key, val⟩) e w' := by
  have HF := Lib.hid hf
  have HL := Lib.hid hf.len
  have HB := Lib.hid hb
  have K0 := Lib.hid (fun W (h : Lst pairK W A n l) => refFind_any key A n c l W h (by unfold maxLen; omega))
  rw [find_none hall] at K0
  have HFi := Lib.hid hfirst
  have HIa := Lib.hid hia
  have HKs := Lib.hid hks
  have HKy := Lib.hid hky
  have HT := Lib.hid (insAt_len (p := ⟨key, val⟩) hi)
  have hn : n ≤ 9223372036854775807 := by omega
  have hin : i ≤ n := by have := HL.out; omega
  clear hf hb hfirst hia hks hky hall
  go_enter Try.func55, Try.ntmps55
  go_wp2_with fail
  refine (K0.out _ HF.out).mono ?_
  rintro e w1 ⟨rfl, rfl⟩
  go_wp2
  go_loopw [9, 10, 11] (fun v d j wr => ∃ k : Nat, k ≤ n ∧ j = .int .i64 k ∧ d = .bool (decide (i < k)) ∧ Lo w ((insAt l i ⟨key, val⟩).take (if i < k then k + 1 else k)) v wr) (fun _ _ j _ => n - (intOf j).toNat)
  case atStart => exact ⟨0, Nat.zero_le _, rfl, rfl, none, 0, rfl, OwnK.nil_ _ _ _, Q.refl _⟩
  case round =>
    obtain ⟨k, hk, rfl, rfl, A3, c3, rfl, o3, q3⟩ := hrel
    have O3 := Lib.hid o3
    have Q3 := Lib.hid q3
    clear o3 q3
    by_cases hlt : k < n
    · have hkl : k < l.length := by have := HL.out; omega
      obtain ⟨ad, rfl, hab, x0, x1⟩ := load_pair (HF.out.q Q3.out) hlt hkl
      have hkm : (k : Int) < (n : Int) := by omega
      have K1 := Lib.hid (fun W => less_any key l[k].key W HKy.out (HKs.out.at_ hkl))
      by_cases hlt2 : i < k
      · have d1 : decide (i < k) = true := by simp; omega
        have d2 : decide (i < k + 1) = true := by simp; omega
        rw [d1]
        rw [if_pos hlt2] at O3 ⊢
        have hE := Lib.hid (show (insAt l i ⟨key, val⟩).take (if i < k + 1 then k + 1 + 1 else k + 1) = (insAt l i ⟨key, val⟩).take (k + 1) ++ [l[k]] by
          rw [if_pos (by omega)]; exact take_next (insAt_hi hkl (by omega)))
        have hol : ((insAt l i ⟨key, val⟩).take (k + 1)).length ≤ n := by rw [List.length_take, HT.out]; omega
        have hlen2 := Lib.hid (show (((insAt l i ⟨key, val⟩).take (k + 1)).length + 1) * 32 ≤ 140737488355328 by have := HB.out; omega)
        have D2 := Lib.hid d2
        clear hol d1 d2 K1
        generalize ((insAt l i ⟨key, val⟩).take (k + 1)) = o at O3 hE hlen2 ⊢
        generalize l[k] = x at x0 x1 hE
        go_wp2_with (at_builtin
                     refine wpl_appK pairK rfl (.tmp 58) (.tmp 63) 31 rfl rfl w.heap.size A3 o.length c3 o rfl (O3.out.alloc _) (some ⟨wr.heap.size, 0, none⟩) 1 1 [x] rfl (lit_pair wr x) (fun e => by cases e) hlen2.out (by have := Q3.out.size; simp; omega) ?_
                     intro A5 c5 w5 o5 b5
                     have S5 := Lib.hid (Lo.step hE.out o5 (Q3.out.alloc _) b5)
                     clear o5 b5)
        go_roundw
        case rel => exact ⟨k + 1, by omega, by go_num, by rw [D2.out], S5.out⟩
        case measure => simp [intOf]; omega
      · have d1 : decide (i < k) = false := by simp; omega
        rw [d1]
        rw [if_neg hlt2] at O3 ⊢
        have hol : ((insAt l i ⟨key, val⟩).take k).length ≤ n - 1 := by rw [List.length_take, HT.out]; omega
        have hlen2 := Lib.hid (show (((insAt l i ⟨key, val⟩).take k).length + 1) * 32 ≤ 140737488355328 by have := HB.out; omega)
        by_cases hki : k = i
        · subst hki
          have d2 : decide (k < k + 1) = true := by simp
          have D2 := Lib.hid d2
          have hE1 := Lib.hid (show (insAt l k ⟨key, val⟩).take (k + 1) = (insAt l k ⟨key, val⟩).take k ++ [⟨key, val⟩] from take_next (insAt_eq hi))
          have hE := Lib.hid (show (insAt l k ⟨key, val⟩).take (if k < k + 1 then k + 1 + 1 else k + 1) = (insAt l k ⟨key, val⟩).take k ++ [⟨key, val⟩] ++ [l[k]] by
            rw [if_pos (by omega), ← hE1.out]; exact take_next (insAt_hi hkl (Nat.le_refl _)))
          have hol2 : ((insAt l k ⟨key, val⟩).take k).length + 1 ≤ n := by omega
          have hlen3 : Hid ((((insAt l k ⟨key, val⟩).take k).length + 1 + 1) * 32 ≤ 140737488355328) := Lib.hid (Nat.le_trans (Nat.mul_le_mul_right 32 (Nat.succ_le_succ hol2)) HB.out)
          clear hol2
          rw [show lt key l[k].key = true from HIa.out hkl] at K1
          clear hol d1 d2 hlt2
          generalize ((insAt l k ⟨key, val⟩).take k) = o at O3 hE hE1 hlen2 hlen3 ⊢
          generalize hgx : l[k] = x at x0 x1 hE K1
          have HGx := Lib.hid hgx
          clear hgx
          go_wp2_with fail
          refine (K1.out _).mono ?_
          rintro e w4 ⟨rfl, n4, rfl⟩
          go_upto_region 9 with (at_builtin
                                 refine wpl_appK pairK rfl (.tmp 51) (.tmp 55) 31 rfl rfl w.heap.size A3 o.length c3 o rfl ((O3.out.q ((Q.refl wr).drewN n4)).alloc _) (some ⟨(wr.drewN n4).heap.size, 0, none⟩) 1 1 [⟨key, val⟩] rfl (lit_pair (wr.drewN n4) ⟨key, val⟩) (fun e => by cases e) hlen2.out (by have := (Q3.out.drewN n4).size; simp at this ⊢; omega) ?_
                                 intro A5 c5 w5 o5 b5)
          have S5 := Lib.hid (show Q w w5 from ((Q3.out.drewN n4).alloc (.cells #[.string key, .string val] 62)).below.trans b5)
          have O5 := Lib.hid (show OwnK pairK w5 w.heap.size A5 (o ++ [(⟨key, val⟩ : Pr)]).length c5 (o ++ [⟨key, val⟩]) by rw [List.length_append, List.length_singleton]; exact o5)
          have X5 := Lib.hid (show (o ++ [(⟨key, val⟩ : Pr)]).length = o.length + 1 by simp)
          clear x0 x1 o5 b5
          obtain ⟨ad2, ha2, hab2, u0, u1⟩ := load_pair (HF.out.q S5.out) hlt hkl
          injection ha2 with ha2
          subst ha2
          rw [HGx.out] at u0 u1
          have O5' := Lib.hid (show OwnK pairK w5 w.heap.size A5 (o.length + 1) c5 (o ++ [⟨key, val⟩]) by have := O5.out; rw [X5.out] at this; exact this)
          go_wp2_with (at_builtin
                       refine wpl_appK pairK rfl (.tmp 58) (.tmp 63) 31 rfl rfl w.heap.size A5 (o.length + 1) c5 (o ++ [⟨key, val⟩]) rfl (O5'.out.alloc _) (some ⟨w5.heap.size, 0, none⟩) 1 1 [x] rfl (lit_pair w5 x) (fun e => by cases e) hlen3.out (by have := S5.out.size; simp; omega) ?_
                       intro A6 c6 w6 o6 b6
                       have S6 := Lib.hid (show Lo w ((insAt l k ⟨key, val⟩).take (if k < k + 1 then k + 1 + 1 else k + 1)) (.slice A6 (o.length + 1 + 1) c6) w6 from ⟨A6, c6, by rw [hE.out]; simp, by rw [hE.out]; have := o6; simpa using this, (S5.out.alloc _).below.trans b6⟩)
                       clear o6 b6)
          go_roundw
          case rel => exact ⟨k + 1, by omega, by go_num, by rw [D2.out], S6.out⟩
          case measure => simp [intOf]; omega
        · have hki2 : k < i := by omega
          have d2 : decide (i < k + 1) = false := by simp; omega
          have D2 := Lib.hid d2
          have hE := Lib.hid (show (insAt l i ⟨key, val⟩).take (if i < k + 1 then k + 1 + 1 else k + 1) = (insAt l i ⟨key, val⟩).take k ++ [l[k]] by
            rw [if_neg (by omega)]; exact take_next (insAt_lo hi hki2))
          rw [show lt key l[k].key = false from HFi.out k hkl hki2] at K1
          clear hol d1 d2 hlt2 hki
          generalize ((insAt l i ⟨key, val⟩).take k) = o at O3 hE hlen2 ⊢
          generalize l[k] = x at x0 x1 hE K1
          go_wp2_with fail
          refine (K1.out _).mono ?_
          rintro e w4 ⟨rfl, n4, rfl⟩
          go_wp2_with (at_builtin
                       refine wpl_appK pairK rfl (.tmp 58) (.tmp 63) 31 rfl rfl w.heap.size A3 o.length c3 o rfl ((O3.out.q ((Q.refl wr).drewN n4)).alloc _) (some ⟨(wr.drewN n4).heap.size, 0, none⟩) 1 1 [x] rfl (lit_pair (wr.drewN n4) x) (fun e => by cases e) hlen2.out (by have := (Q3.out.drewN n4).size; simp at this ⊢; omega) ?_
                       intro A5 c5 w5 o5 b5
                       have S5 := Lib.hid (Lo.step hE.out o5 ((Q3.out.drewN n4).alloc _) b5)
                       clear o5 b5)
          go_roundw
          case rel => exact ⟨k + 1, by omega, by go_num, by rw [D2.out], S5.out⟩
          case measure => simp [intOf]; omega
    · have hkn : k = n := by omega
      subst hkn
      by_cases hik : i < k
      · have d1 : decide (i < k) = true := by simp; omega
        rw [d1]
        rw [if_pos hik] at O3 ⊢
        have HE := Lib.hid (show (insAt l i ⟨key, val⟩).take (k + 1) = insAt l i ⟨key, val⟩ from List.take_of_length_le (by rw [HT.out]; have := HL.out; omega))
        have HN := Lib.hid (show (insAt l i ⟨key, val⟩).length = k + 1 by rw [HT.out, HL.out])
        rw [HE.out] at O3 ⊢
        clear d1 hik
        generalize hgo : insAt l i ⟨key, val⟩ = o at O3 HN ⊢
        have HGo := Lib.hid hgo
        clear hgo
        go_wp2
        go_ret
        exact ⟨A3, c3, by rw [HN.out]; rfl, by have := O3.out; rw [HN.out] at this; rw [HGo.out]; exact this, Q3.out⟩
      · have hik' : i = k := by omega
        subst hik'
        have d1 : decide (i < i) = false := by simp
        rw [d1]
        rw [if_neg hik] at O3 ⊢
        have HE := Lib.hid (show insAt l i ⟨key, val⟩ = (insAt l i ⟨key, val⟩).take i ++ [⟨key, val⟩] by
          rw [← take_next (insAt_eq hi)]; exact (List.take_of_length_le (by rw [HT.out]; have := HL.out; omega)).symm)
        have hol : ((insAt l i ⟨key, val⟩).take i).length = i := by rw [List.length_take, HT.out]; have := HL.out; omega
        have HO := Lib.hid hol
        have hlen2 := Lib.hid (show (((insAt l i ⟨key, val⟩).take i).length + 1) * 32 ≤ 140737488355328 by rw [hol]; exact HB.out)
        clear d1 hik hol
        generalize hgo : ((insAt l i ⟨key, val⟩).take i) = o at O3 HE hlen2 HO ⊢
        have HGo := Lib.hid hgo
        clear hgo
        go_wp2_with (at_builtin
                     refine wpl_appK pairK rfl (.tmp 67) (.tmp 71) 31 rfl rfl w.heap.size A3 o.length c3 o rfl (O3.out.alloc _) (some ⟨wr.heap.size, 0, none⟩) 1 1 [⟨key, val⟩] rfl (lit_pair wr ⟨key, val⟩) (fun e => by cases e) hlen2.out (by have := Q3.out.size; simp; omega) ?_
                     intro A5 c5 w5 o5 b5
                     have O5 := Lib.hid o5
                     have B5 := Lib.hid b5
                     clear o5 b5)
        go_ret
        exact ⟨A5, c5, by rw [HO.out]; rfl, by have := O5.out; rw [HO.out] at this; rw [HE.out]; exact this, (Q3.out.alloc _).below.trans B5.out⟩
end Go.Proofs.Ytodfdklcioafmaa

/- Contracts: the document's answer for pairs: Put, Apply. -/
namespace Go.Proofs.Ytodfdklcioafmaa
set_option maxRecDepth 100000
open Go.RowKit Prm
set_option linter.unusedVariables false
set_option linter.unusedSimpArgs false

theorem trefPut_any (key val : ByteArray) (A : Option Addr) (n c : Nat) (l : List Pr) (w : World) (hf : Lst pairK w A n l) (hb : (n + 1) * 32 ≤ 140737488355328) (hks : KeysIn l) (hky : key.size ≤ maxLen) :
    Calls Try.prog 55 #[.slice A n c, .string key, .string val] w fun e w' => RetL pairK w (put l ⟨key, val⟩).length (put l ⟨key, val⟩) e w' := by
  have hl := hf.len
  rcases idx_cases (hasK key) l 0 with ⟨hp, hall⟩ | ⟨k, hk, hp, hkn, hfirst⟩
  · have hx : ∃ i, ∃ hi : i ≤ l.length, (∀ h : i < l.length, aboveK key l[i] = true) ∧ ∀ j, ∀ hj : j < l.length, j < i → aboveK key l[j] = false := by
      rcases idx_cases (aboveK key) l 0 with ⟨_, halla⟩ | ⟨i, hi, _, hia, hfa⟩
      · exact ⟨l.length, Nat.le_refl _, fun h => absurd h (Nat.lt_irrefl _), fun j hj _ => halla _ (List.getElem_mem hj)⟩
      · exact ⟨i, Nat.le_of_lt hi, fun _ => hia, hfa⟩
    obtain ⟨i, hi, hia, hfa⟩ := hx
    have e : put l (⟨key, val⟩ : Pr) = insAt l i ⟨key, val⟩ := by rw [put_new (p := ⟨key, val⟩) hall]; exact ins_at (p := ⟨key, val⟩) hi hia hfa
    have e2 : (put l (⟨key, val⟩ : Pr)).length = n + 1 := by rw [e, insAt_len hi, hl]
    simp only [e2]
    rw [e]
    exact refPut_new key val A n c l w hf hb hks hky hall i hi hia hfa
  · have e : put l (⟨key, val⟩ : Pr) = l.set k ⟨key, val⟩ := put_has (p := ⟨key, val⟩) hk hkn hfirst
    have e2 : (put l (⟨key, val⟩ : Pr)).length = n := by rw [e, List.length_set, hl]
    simp only [e2]
    rw [e]
    exact refPut_has key val A n c l w hf hb k hk hkn hfirst

def WKeysIn (l : List Wr) : Prop := ∀ p ∈ l, p.key.size ≤ maxLen
theorem put_keys {l : List Pr} {p : Pr} (h : KeysIn l) (hp : p.key.size ≤ maxLen) : KeysIn (put l p) := by
  intro q hq
  have hi : ∀ (l : List Pr), KeysIn l → q ∈ ins p l → q.key.size ≤ maxLen := by
    intro l
    induction l with
    | nil => intro _ hq; simp [ins] at hq; subst hq; exact hp
    | cons a l ih =>
      intro h hq
      simp only [ins] at hq
      split at hq
      · rcases List.mem_cons.1 hq with rfl | hq
        · exact hp
        · exact h q hq
      · rcases List.mem_cons.1 hq with rfl | hq
        · exact h _ (by simp)
        · exact ih (fun x hx => h x (by simp [hx])) hq
  have hs : ∀ (l : List Pr), KeysIn l → q ∈ setF p l → q.key.size ≤ maxLen := by
    intro l
    induction l with
    | nil => intro _ hq; simp [setF] at hq
    | cons a l ih =>
      intro h hq
      simp only [setF] at hq
      split at hq
      · rcases List.mem_cons.1 hq with rfl | hq
        · exact hp
        · exact h q (by simp [hq])
      · rcases List.mem_cons.1 hq with rfl | hq
        · exact h _ (by simp)
        · exact ih (fun x hx => h x (by simp [hx])) hq
  unfold put at hq
  split at hq
  · exact hs l h hq
  · exact hi l h hq
theorem drop_keys {l : List Pr} {k : ByteArray} (h : KeysIn l) : KeysIn (drop l k) := fun q hq => h q (List.mem_filter.1 hq).1
theorem act_keys {l : List Pr} {x : Wr} (h : KeysIn l) (hx : x.key.size ≤ maxLen) : KeysIn (act l x) := by
  unfold act; split
  · exact drop_keys h
  · exact put_keys h hx
theorem apply_keys {ws : List Wr} : ∀ {l : List Pr}, KeysIn l → WKeysIn ws → KeysIn (apply l ws) := by
  induction ws with
  | nil => intro l h _; exact h
  | cons x ws ih => intro l h hw; exact ih (l := act l x) (act_keys h (hw x (by simp))) (fun y hy => hw y (by simp [hy]))

set_option maxHeartbeats 4000000 in
theorem refApply_any (A A2 : Option Addr) (n c m c2 : Nat) (l : List Pr) (ws : List Wr) (w : World) (hd : In_ pairK w A n c l) (hw : Lst writeK w A2 m ws) (hb : (n + m) * 32 ≤ 140737488355328) (hks : KeysIn l) (hwk : WKeysIn ws) :
    Calls Try.prog 24 #[.slice A n c, .slice A2 m c2] w fun e w' => RetL pairK w (apply l ws).length (apply l ws) e w' := by
  have HD := Lib.hid hd
  have HW := Lib.hid hw
  have HL := Lib.hid hd.len
  have HWL := Lib.hid hw.len
  have HKs := Lib.hid hks
  have HWk := Lib.hid hwk
  have HNil := Lib.hid hd.nil
  clear hd hw hks hwk
  go_enter Try.func24, Try.ntmps24
  go_wp2_with (at_builtin
               refine wpl_appK pairK rfl (.tmp 7) (.tmp 8) 31 rfl rfl w.heap.size (some ⟨w.heap.size, 0, none⟩) 0 0 [] rfl (OwnK.lit0 pairK w _ (Nat.le_refl _)) A n c l rfl (HD.out.lst.q ((Q.refl _).alloc _)) HNil.out (by have := HD.out.few; simpa using this) (by simp) ?_
               intro A1 c1 w1 o1 b1
               have S0 := Lib.hid (show ApS w l ws 0 (.slice A1 n c1) w1 from ⟨A1, c1, by rw [← HL.out]; rfl, by rw [show (apply l (ws.take 0)).length = n from HL.out]; show OwnK pairK w1 w.heap.size A1 n c1 l; simpa using o1, ((Q.refl w).alloc _).below.trans b1⟩)
               clear o1 b1)
  go_loopw [5, 6] (fun v i wr => ∃ k : Nat, k ≤ m ∧ i = .int .i64 k ∧ ApS w l ws k v wr) (fun _ i _ => m - (intOf i).toNat)
  case atStart => exact ⟨0, Nat.zero_le _, rfl, by first | exact S0.out | (rw [Nat.zero_add]; exact S0.out)⟩
  case round =>
    obtain ⟨k, hk, rfl, A3, c3, rfl, o3, q3⟩ := hrel
    have O3 := Lib.hid o3
    have Q3 := Lib.hid q3
    clear o3 q3
    by_cases hlt : k < m
    · have hkl : k < ws.length := by have := HWL.out; omega
      have hln : (apply l (ws.take k)).length ≤ n + k := by
        have h1 := apply_len l (ws.take k)
        have h2 := HL.out
        have h3 := List.length_take_le k ws
        omega
      have hsn := apply_snoc l ws hkl
      obtain ⟨ad, rfl, hab, x0, x1, x2⟩ := load_write (HW.out.q Q3.out) hlt hkl
      have HS := Lib.hid hsn
      have HN := Lib.hid (show ((apply l (ws.take k)).length + 1) * 32 ≤ 140737488355328 by omega)
      have HN0 := Lib.hid (show (apply l (ws.take k)).length * 32 ≤ 140737488355328 by omega)
      have HAk := Lib.hid (show KeysIn (apply l (ws.take k)) from apply_keys HKs.out fun x hx => HWk.out x (List.mem_of_mem_take hx))
      have HXk := Lib.hid (show ws[k].key.size ≤ maxLen from HWk.out _ (List.getElem_mem hkl))
      clear hsn hln
      have hkm : (k : Int) < (m : Int) := by omega
      by_cases hdl : ws[k].del = true
      · have hE := Lib.hid (show apply l (ws.take (k + 1)) = drop (apply l (ws.take k)) ws[k].key by rw [HS.out, act_drop hdl])
        generalize ws[k] = x at x0 x1 x2 hE hdl HXk
        rw [hdl] at x2
        clear hdl
        go_wp2_with fail
        refine (refDrop_any x.key A3 _ c3 _ _ (O3.out.lst) HN0.out).mono ?_
        rintro e w5 ⟨A5, c5, rfl, o5, q5⟩
        have S5 := Lib.hid (show ApS w l ws (k + 1) (.slice A5 (drop (apply l (ws.take k)) x.key).length c5) w5 from ⟨A5, c5, by rw [hE.out], by rw [hE.out]; exact o5.lower Q3.out.size, Q3.out.trans q5⟩)
        clear o5 q5
        go_wp2
        go_roundw
        case rel => exact ⟨k + 1, by omega, by go_num, S5.out⟩
        case measure => simp [intOf]; omega
      · have hdf : ws[k].del = false := by simpa using hdl
        have hE := Lib.hid (show apply l (ws.take (k + 1)) = put (apply l (ws.take k)) ⟨ws[k].key, ws[k].val⟩ by rw [HS.out, act_put hdf])
        generalize ws[k] = x at x0 x1 x2 hE hdf HXk
        rw [hdf] at x2
        clear hdl hdf
        go_wp2
        go_still_tail 11, (by kernel_rfl)
        have Q4 := Lib.hid ((Q.refl wr).drew)
        change wpList _ _ _ _ _ wr.drew
        generalize wr.drew = w4 at Q4 ⊢
        go_wp2_with fail
        refine (trefPut_any x.key x.val A3 _ c3 _ _ (O3.out.lst.q Q4.out) HN.out HAk.out HXk.out).mono ?_
        rintro e w5 ⟨A5, c5, rfl, o5, q5⟩
        have S5 := Lib.hid (show ApS w l ws (k + 1) (.slice A5 (put (apply l (ws.take k)) ⟨x.key, x.val⟩).length c5) w5 from ⟨A5, c5, by rw [hE.out], by rw [hE.out]; exact o5.lower (Q3.out.trans Q4.out).size, (Q3.out.trans Q4.out).trans q5⟩)
        clear o5 q5
        go_wp2
        go_roundw
        case rel => exact ⟨k + 1, by omega, by go_num, S5.out⟩
        case measure => simp [intOf]; omega
    · have hkm : k = m := by omega
      have HE := Lib.hid (show ws.take k = ws by rw [List.take_of_length_le (by rw [HWL.out]; omega)])
      clear hkm
      go_wp2
      go_ret
      exact ⟨A3, c3, by rw [HE.out]; rfl, by have := O3.out; rw [HE.out] at this; exact this, Q3.out⟩
end Go.Proofs.Ytodfdklcioafmaa

/- The contract of run.Merge. -/
namespace Go.Proofs.Ytodfdklcioafmaa
set_option maxRecDepth 100000
open Go.RowKit Prm Go.Maps
set_option linter.unusedVariables false
set_option linter.unusedSimpArgs false

instance : Inhabited Wr := ⟨⟨⟨#[]⟩, ⟨#[]⟩, false⟩⟩

/-- how a map's write reads. -/
def relW (v : Value) : Option (DataW Wr × List MemPlace) :=
  match v with
  | .agg xs => match xs.toList with
    | [.string a, .string b, .bool c] => some (.held ⟨a, b, c⟩, [])
    | _ => none
  | _ => none
theorem relW_mk (x : Wr) : relW x.v = some (.held x, []) := rfl
theorem relW_inv {v : Value} {y : DataW Wr × List MemPlace} (h : relW v = some y) : ∃ x : Wr, v = x.v := by
  unfold relW at h
  split at h
  · rename_i xs
    split at h
    · rename_i a b c he
      exact ⟨⟨a, b, c⟩, by show Value.agg xs = _; congr 1; exact Array.toList_inj.1 (by rw [he])⟩
    · cases h
  · cases h
abbrev kl (k : ByteArray) : Lit := .string k.data.toList
theorem kl_inj {a b : ByteArray} (h : kl a = kl b) : a = b := by
  injection h with h
  exact ByteArray.ext (Array.toList_inj.1 h)
theorem kl_is (k : ByteArray) : WideAt.IsKeyLit (kl k) := trivial
/-- what the map reads as behind some writes. -/
def datF (D : DataW Wr) (ws : List Wr) : DataW Wr := ws.foldl (fun D w => D.put (kl w.key) (.held w)) D
def dat (ws : List Wr) : DataW Wr := datF (.map []) ws
theorem datF_map : ∀ (ws : List Wr) {D : DataW Wr}, IsMap D → IsMap (datF D ws)
  | [], _, h => h
  | w :: ws, _, h => datF_map ws (h.put _ _)
theorem dat_map (ws : List Wr) : IsMap (dat ws) := datF_map ws isMap_empty
theorem datF_at (k : ByteArray) (z : DataW Wr) : ∀ (ws : List Wr) {D : DataW Wr}, IsMap D → (datF D ws).atKey (kl k) z = match Mg.lastw k ws with | some w => .held w | none => D.atKey (kl k) z
  | [], _, _ => rfl
  | w :: ws, D, h => by
    show (datF (D.put _ _) ws).atKey _ _ = _
    rw [datF_at k z ws (h.put _ _), Mg.lastw_cons]
    cases Mg.lastw k ws with
    | some x => rfl
    | none =>
      simp only [Option.none_or]
      by_cases e : w.key = k
      · subst e; rw [if_pos rfl, atKey_put_same h (kl_is _)]
      · rw [if_neg e, atKey_put_other (fun h => e (kl_inj h).symm)]
theorem dat_at (ws : List Wr) (k : ByteArray) (z : DataW Wr) : (dat ws).atKey (kl k) z = match Mg.lastw k ws with | some w => .held w | none => z := by
  unfold dat; rw [datF_at k z ws isMap_empty]; rfl
theorem datF_has (k : ByteArray) : ∀ (ws : List Wr) {D : DataW Wr}, IsMap D → has (datF D ws) (kl k) = ((Mg.lastw k ws).isSome || has D (kl k))
  | [], _, _ => by simp [datF, Mg.lastw]
  | w :: ws, D, h => by
    show has (datF (D.put _ _) ws) _ = _
    rw [datF_has k ws (h.put _ _), Mg.lastw_cons]
    cases Mg.lastw k ws with
    | some x => rfl
    | none =>
      simp only [Option.none_or, Option.isSome_none, Bool.false_or]
      by_cases e : w.key = k
      · subst e; rw [if_pos rfl, has_put_same h (kl_is _)]; rfl
      · rw [if_neg e, has_put_other (fun h => e (kl_inj h).symm)]; rfl
theorem dat_has (ws : List Wr) (k : ByteArray) : has (dat ws) (kl k) = (Mg.lastw k ws).isSome := by
  unfold dat; rw [datF_has k ws isMap_empty, has_eq]; simp
theorem size_put_le {D : DataW Wr} (k : Lit) (d : DataW Wr) : Maps.size (D.put k d) ≤ Maps.size D + 1 := by
  cases D <;> try (exact Nat.zero_le _)
  rename_i es
  show (DataW.insert (k, d) (es.filter fun p => !p.1.sameKey k)).length ≤ es.length + 1
  rw [length_insert]
  have := List.length_filter_le (fun p : Lit × DataW Wr => !p.1.sameKey k) es
  omega
theorem datF_size : ∀ (ws : List Wr) (D : DataW Wr), Maps.size (datF D ws) ≤ Maps.size D + ws.length
  | [], _ => Nat.le_refl _
  | w :: ws, D => by
    have h1 := datF_size ws (D.put (kl w.key) (.held w))
    have h2 := size_put_le (D := D) (kl w.key) (.held w)
    show Maps.size (datF (D.put _ _) ws) ≤ _
    rw [List.length_cons]; omega
theorem dat_size (ws : List Wr) : Maps.size (dat ws) ≤ ws.length := by have := datF_size ws (.map []); simpa [dat, Maps.size] using this
theorem dat_snoc (ws : List Wr) {k : Nat} (hk : k < ws.length) : dat (ws.take (k + 1)) = (dat (ws.take k)).put (kl ws[k].key) (.held ws[k]) := by
  rw [List.take_succ_eq_append_getElem hk]; unfold dat datF; rw [List.foldl_append]; rfl

/-- what was collected of the map. -/
def Coll (ws : List Wr) (left : Lit → Bool) (l : List Wr) : Prop :=
  l.Pairwise (fun a b => a.key ≠ b.key) ∧ (∀ w ∈ l, Mg.lastw w.key ws = some w) ∧ ∀ k : ByteArray, (∃ w ∈ l, w.key = k) ↔ ((Mg.lastw k ws).isSome = true ∧ left (kl k) = false)
theorem Coll.start (ws : List Wr) : Coll ws (has (dat ws)) [] := ⟨List.Pairwise.nil, fun w h => by simp at h, fun k => by
  rw [dat_has]
  constructor
  · rintro ⟨w, hw, _⟩; simp at hw
  · rintro ⟨a, b⟩; rw [a] at b; cases b⟩
theorem Coll.step {ws : List Wr} {left : Lit → Bool} {l : List Wr} (h : Coll ws left l) {k : ByteArray} {x : Wr} (hl : left (kl k) = true) (hat : ∀ z, (dat ws).atKey (kl k) z = .held x) : Coll ws (fun z => left z && !z.sameKey (kl k)) (l ++ [x]) := by
  have hx : Mg.lastw k ws = some x := by
    have h1 := hat .nil
    rw [dat_at] at h1
    cases hw : Mg.lastw k ws with
    | none => rw [hw] at h1; cases h1
    | some y => rw [hw] at h1; injection h1 with h1; rw [h1]
  have hk : x.key = k := Mg.lastw_key hx
  have hnew : ∀ w ∈ l, w.key ≠ k := fun w hw e => by
    have := ((h.2.2 k).1 ⟨w, hw, e⟩).2
    rw [hl] at this; cases this
  refine ⟨List.pairwise_append.2 ⟨h.1, by simp, fun a ha b hb => by simp at hb; subst hb; rw [hk]; exact hnew a ha⟩, fun w hw => ?_, fun j => ?_⟩
  · rcases List.mem_append.1 hw with hw | hw
    · exact h.2.1 w hw
    · simp at hw; subst hw; rw [hk]; exact hx
  · by_cases e : j = k
    · subst e
      constructor
      · intro _
        exact ⟨by rw [hx]; rfl, by simp [Lit.sameKey]⟩
      · intro _
        exact ⟨x, by simp, hk⟩
    · have hs : (kl j).sameKey (kl k) = false := by
        cases hc : (kl j).sameKey (kl k) with
        | false => rfl
        | true => exact absurd (kl_inj ((WideAt.sameKey_iff (kl_is k)).1 hc)) e
      simp only [hs, Bool.not_false, Bool.and_true]
      rw [← h.2.2 j]
      constructor
      · rintro ⟨w, hw, hwk⟩
        rcases List.mem_append.1 hw with hw | hw
        · exact ⟨w, hw, hwk⟩
        · simp at hw; subst hw; exact absurd (hwk.symm.trans hk) e
      · rintro ⟨w, hw, hwk⟩
        exact ⟨w, List.mem_append_left _ hw, hwk⟩
/-- compared by keys. -/
def cfW (x y : Wr) : Int := if lt x.key y.key then -1 else if lt y.key x.key then 1 else 0
theorem ltOf_cfW (x y : Wr) : ltOf cfW x y = lt x.key y.key := by
  unfold ltOf cfW
  by_cases h : lt x.key y.key = true
  · simp [h]
  · by_cases h2 : lt y.key x.key = true <;> simp [h, h2]
theorem swoW : Go.Sort.SWO (ltOf cfW) where
  irrefl x := by rw [ltOf_cfW, lt_irrefl]
  trans x y z h1 h2 := by rw [ltOf_cfW] at *; exact lt_trans h1 h2
  ntrans x y z h1 h2 := by rw [ltOf_cfW] at *; exact ge_trans h1 h2
/-- the sorted row of what was collected is the merge. -/
theorem Coll.sorted {ws : List Wr} {left : Lit → Bool} {l : List Wr} (h : Coll ws left l) (h0 : ∀ z, left z = false) (d : Array Wr) (hp : Go.Sort.PermIn 0 l.length l.toArray d) (hs : Go.Sort.SortedIn (ltOf cfW) 0 l.length d) : d.toList = Mg.mrg ws := by
  have hsz : d.size = l.length := by have := hp.1; simpa using this
  have hperm : d.toList.Perm l := by
    have := hp.2.2
    rw [show d.extract 0 l.length = d by rw [← hsz]; simp, show l.toArray.extract 0 l.length = l.toArray by rw [show l.length = l.toArray.size by simp]; simp] at this
    exact this
  have hne : d.toList.Pairwise (fun a b => a.key ≠ b.key) := (hperm.pairwise_iff (fun h e => h e.symm)).2 h.1
  have hrise : Mg.Rise d.toList := by
    unfold Mg.Rise
    rw [List.pairwise_iff_getElem] at hne ⊢
    intro i j hi hj hij
    have hi' : i < d.size := by simpa using hi
    have hj' : j < d.size := by simpa using hj
    have h1 := hs i j (Nat.zero_le _) hij (by omega)
    rw [ltOf_cfW, getElem!_pos d i hi', getElem!_pos d j hj'] at h1
    have h2 := hne i j hi hj hij
    exact lt_tri (fun e => h2 (by simpa using e.symm)) (by simpa using h1)
  refine Mg.is_unique (ws := ws) ⟨hrise, fun w => ?_⟩ (Mg.mrg_is ws)
  rw [hperm.mem_iff]
  constructor
  · exact h.2.1 w
  · intro hw
    obtain ⟨x, hx, hk⟩ := (h.2.2 w.key).2 ⟨by rw [hw]; rfl, h0 _⟩
    have := h.2.1 x hx
    rw [hk, hw] at this
    exact (Option.some.inj this) ▸ hx

/-! ### The closure that compares -/
theorem isNaN_any (s : ByteArray) (w : World) : Calls Try.prog 75 #[.string s] w fun e w' => e = .returned (.bool false) ∧ w = w' := by
  go_enter Try.func75, Try.ntmps75
  go_wp2
  go_ret
  exact ⟨by simp, rfl⟩
def cfS (a b : ByteArray) : Int := if lt a b then -1 else if lt b a then 1 else 0
theorem compare_any (a b : ByteArray) (w : World) : Calls Try.prog 43 #[.string a, .string b] w fun e w' => e = .returned (.int .i64 (cfS a b)) ∧ w = w' := by
  have e1 := lt_data a b
  have e2 := gtr_lt a b
  by_cases h1 : lt a b = true
  · have HR := Lib.hid (show cfS a b = -1 by unfold cfS; rw [if_pos h1])
    rw [h1] at e1
    clear h1 e2
    go_enter Try.func43, Try.ntmps43
    go_wp2_with (first | (go_at_call 75; refine (isNaN_any _ _).mono ?_; rintro e w' ⟨rfl, rfl⟩))
    go_ret
    exact ⟨ret_int HR.out.symm, rfl⟩
  · have h1' : lt a b = false := by simpa using h1
    rw [h1'] at e1
    by_cases h2 : lt b a = true
    · have HR := Lib.hid (show cfS a b = 1 by unfold cfS; rw [if_neg h1, if_pos h2])
      have e3 : (a.toList == b.toList) = false := by rw [same_str]; simpa using (lt_ne h2).symm
      clear h1 h1' h2 e2
      go_enter Try.func43, Try.ntmps43
      go_wp2_with (first | (go_at_call 75; refine (isNaN_any _ _).mono ?_; rintro e w' ⟨rfl, rfl⟩))
      go_ret
      exact ⟨ret_int HR.out.symm, rfl⟩
    · have h2' : lt b a = false := by simpa using h2
      have HR := Lib.hid (show cfS a b = 0 by unfold cfS; rw [if_neg h1, if_neg h2])
      have e3 : (a.toList == b.toList) = true := by
        rw [same_str, decide_eq_true_eq]
        exact Classical.byContradiction fun hne => h2 (lt_tri hne h1')
      clear h1 h1' h2 h2' e2
      go_enter Try.func43, Try.ntmps43
      go_wp2_with (first | (go_at_call 75; refine (isNaN_any _ _).mono ?_; rintro e w' ⟨rfl, rfl⟩))
      go_ret
      exact ⟨ret_int HR.out.symm, rfl⟩
theorem closureW (x y : Wr) (W : World) : Calls Try.prog 42 #[x.v, y.v] W fun e w' => e = .returned (.int .i64 (cfW x y)) ∧ ∃ q os', w' = Go.Sort.grow (W.drewN q) os' := by
  obtain ⟨a, b, c⟩ := x
  obtain ⟨a2, b2, c2⟩ := y
  go_enter Try.func42, Try.ntmps42
  go_wp2_with fail
  refine (compare_any _ _ _).mono ?_
  rintro e w' ⟨rfl, rfl⟩
  go_wp2_with fail
  go_ret
  exact ⟨rfl, 0, _, by rw [Go.Sort.alloc_eq_grow, Go.Sort.alloc_eq_grow, Go.Sort.grow_grow]; rfl⟩
theorem cmpLaysW (blk off size : Nat) (w : World) : CmpLays Try.prog 42 #[] writeK.row 3 cfW blk off size w := fun _ _ _ _ x y => closureW x y _

theorem isAggW (w : World) : (isAgg 59).run Try.prog w = .ok true w := Try.isAgg59 w
theorem sizeOfW (w : World) : (Go.sizeOf 59).run Try.prog w = .ok 3 w := Try.sizeOf59 w
/-- slices.SortFunc of a list of the call's own. -/
theorem sortW (g c : Nat) (base : Nat) (l : List Wr) (w : World) (h : OwnK writeK w base (some ⟨g, 0, none⟩) l.length c l) (hsz : l.length < 4611686018427387904) :
    Calls Try.prog 41 #[.slice (some ⟨g, 0, none⟩) l.length c, .func (.func 42) #[] #[]] w fun e w' =>
      e = .returned (.tuple #[]) ∧ ∃ d n os, Go.Sort.PermIn 0 l.length l.toArray d ∧ Go.Sort.SortedIn (ltOf cfW) 0 l.length d ∧ w' = sortWorldK writeK.row 3 w g 0 n d os := by
  have eg : ∀ args w, (callFunc 42 args).run Try.prog w = .ok (.enter 42 args) w := enters_of Try.func42 (by kernel_rfl) rfl
  have hH := h.holdsK
  have hcon := AnyQ.slices_SortFunc Try.sortW 3 isAggW sizeOfW writeK.row writeK.len writeK.one cfW swoW 42 #[] g 0 c l.toArray w eg (cmpLaysW g 0 l.toArray.size w) hH h.block_lt.2 (by simpa using hsz)
  simp only [List.size_toArray] at hcon
  exact hcon
end Go.Proofs.Ytodfdklcioafmaa

/- The contract of run.Merge: its walk. -/
namespace Go.Proofs.Ytodfdklcioafmaa
set_option maxRecDepth 100000
open Go.RowKit Prm Go.Maps
set_option linter.unusedVariables false
set_option linter.unusedSimpArgs false

theorem Q.grownBy {w w' : World} (q : Q w w') : w.grownBy w' none := ⟨q.below.os, q.below.tape, q.below.output, q.size, fun i hi _ => q.below.block i hi⟩
theorem lawS : Keyed Try.prog 9 := string_keyed Try.underlying9
theorem ranges_below {w w' : World} {b r n base cnt : Nat} {D : DataW Wr} {left : Lit → Bool} (h : w.ranges Try.prog 9 relW b r n D left cnt) (hb : Below base w w') (h1 : b < base) (h2 : r < base) : w'.ranges Try.prog 9 relW b r n D left cnt := by
  obtain ⟨es, clock, since, seen, c0, e1, e2, e3, e4, e5, e6⟩ := h
  exact ⟨es, clock, since, seen, c0, (hb.block b h1).trans e1, e2, e3, e4, (hb.block r h2).trans e5, e6⟩
theorem invS (key : Value) (z : Lit) (h : keyOf Try.prog 9 key = some z) : ∃ x : ByteArray, key = .string x := by
  obtain ⟨x, hx, _⟩ := Maps.keyOf_str Try.underlying9 h
  exact ⟨_, hx⟩
theorem keyS {x : ByteArray} {z : Lit} (h : keyOf Try.prog 9 (.string x) = some z) : z = kl x := by
  obtain ⟨x', ex, rfl, _⟩ := Maps.keyOf_str Try.underlying9 h
  injection ex with ex
  subst ex
  rfl

set_option maxHeartbeats 8000000 in
set_option maxRecDepth 100000 in
theorem merge_any (A B : Option Addr) (n c m d : Nat) (l l2 : List Wr) (w : World) (h1 : In_ writeK w A n c l) (h2 : In_ writeK w B m d l2) (hs : (n + m) * 40 ≤ 140737488355328) (hk : WKeysIn (l ++ l2)) :
    Calls Try.prog 18 #[.slice A n c, .slice B m d] w fun e w' => RetL writeK w (Mg.mrg (l ++ l2)).length (Mg.mrg (l ++ l2)) e w' := by
  obtain ⟨ws, hws⟩ : ∃ ws, l ++ l2 = ws := ⟨_, rfl⟩
  rw [hws]
  rw [hws] at hk
  have HWS := Lib.hid hws
  have H1 := Lib.hid h1
  have H2 := Lib.hid h2
  have HS := Lib.hid hs
  have HK := Lib.hid hk
  have HWl := Lib.hid (show ws.length = n + m by rw [← hws, List.length_append, h1.len, h2.len])
  have T0 : Hid (Two ((w.alloc (.map #[] 0)).alloc (.cells #[.slice A n c, .slice B m d] 39)) (w.heap.size + 1) A n c B m d) := Lib.hid (by
    have := Bx.new (w.alloc (.map #[] 0)) [.slice A n c, .slice B m d] 39
    unfold Two; simpa using this)
  have hnm : n + m ≤ 3518437208883 := by omega
  have hmm := @run_makeMap Try.prog
  clear h1 h2 hs hk hws
  go_enter Try.func18, Try.ntmps18
  go_wp2_with fail
  refine (concat_any (w.heap.size + 1) A B n c m d l l2 _ T0.out (H1.out.q (((Q.refl _).alloc _).alloc _)) (H2.out.q (((Q.refl _).alloc _).alloc _)) HS.out).mono ?_
  rintro e w1 ⟨A1, c1, rfl, o1, q1⟩
  have M1 := Lib.hid ((((World.ownsMap_made w Try.prog 9 relW).alloc (.cells #[.slice A n c, .slice B m d] 39)).kept q1.grownBy (by simp)))
  have O1 := Lib.hid (show OwnK writeK w1 (w.heap.size + 2) A1 (n + m) c1 ws by rw [← HWS.out]; simpa using o1)
  have Q1 := Lib.hid ((((Q.refl w).alloc (.map #[] 0)).alloc (.cells #[.slice A n c, .slice B m d] 39)).trans q1)
  clear o1 q1 H1 H2 T0 hmm HWS
  generalize hN : n + m = N at hnm HS HWl O1 ⊢
  have HN' := Lib.hid hN
  clear hN
  go_wp2
  go_loopw [17] (fun i wr => ∃ k : Nat, k ≤ N ∧ i = .int .i64 k ∧ wr.ownsMap Try.prog 9 relW w.heap.size k (dat (ws.take k)) ∧ OwnK writeK wr (w.heap.size + 2) A1 N c1 ws ∧ Q w wr) (fun i _ => N - (intOf i).toNat)
  case atStart => exact ⟨0, Nat.zero_le _, by first | rfl | simp, M1.out, O1.out, Q1.out⟩
  case round =>
    obtain ⟨k, hk, rfl, hm, ho, hq⟩ := hrel
    have MK := Lib.hid hm
    have OK := Lib.hid ho
    have QK := Lib.hid hq
    clear hm ho hq M1 O1 Q1
    by_cases hlt : k < N
    · have hkl : k < ws.length := by have := HWl.out; omega
      have hky := Lib.hid (HK.out _ (List.getElem_mem hkl))
      have hsn := Lib.hid (dat_snoc ws hkl)
      obtain ⟨ad, rfl, hab, x0, x1, x2⟩ := load_write OK.out.lst hlt hkl
      have hkN : (k : Int) < (N : Int) := by omega
      generalize ws[k] = x at x0 x1 x2 hky hsn
      go_wp2_with (at_mapUpdate
                   refine wpList_mapUpdate_own _ rfl _ _ _ 69 rfl 9 59 lawS Try.underlying69 relW w.heap.size k (dat (ws.take k)) rfl (MK.out.alloc _) (by unfold maxLen; omega) (.string x.key) x.v (kl x.key) rfl rfl (Go.WideMaps.keyOf_string_mk Try.underlying9 hky.out) (.held x) [] rfl ?_
                   intro w2 m2 g2
                   have S2 := Lib.hid (show w2.ownsMap Try.prog 9 relW w.heap.size (k + 1) (dat (ws.take (k + 1))) ∧ OwnK writeK w2 (w.heap.size + 2) (some ad) N c1 ws ∧ Q w w2 from
                     ⟨by rw [hsn.out]; exact m2, (OK.out.alloc _).grown g2 (by omega), (QK.out.alloc (.cells #[.string x.key, .string x.val, .bool x.del] 59)).below.grown g2 (QK.out.alloc (.cells #[.string x.key, .string x.val, .bool x.del] 59)).size (fun j hj => by cases hj; exact Nat.le_refl _)⟩)
                   clear m2 g2)
      go_roundw
      case rel => exact ⟨k + 1, by omega, by go_num, S2.out.1, S2.out.2.1, S2.out.2.2⟩
      case measure => simp [intOf]; omega
    · have hkN : k = N := by omega
      have ME := Lib.hid (show wr.ownsMap Try.prog 9 relW w.heap.size N (dat ws) by
        have h := MK.out
        rw [hkN, List.take_of_length_le (by rw [HWl.out]; exact Nat.le_refl _)] at h; exact h)
      clear hkN MK OK
      obtain ⟨wo, rfl⟩ : ∃ x, x = wr := ⟨_, rfl⟩
      go_wp2_with (at_range
                   refine wpList_range_own _ rfl _ 69 rfl 9 59 lawS Try.underlying69 relW w.heap.size N (dat ws) rfl ME.out ?_
                   intro w0 r0 g0 z0
                   have R0 := Lib.hid r0
                   have Q0 := Lib.hid (QK.out.below.grown g0 QK.out.size (fun j hj => by cases hj))
                   have Z0 := Lib.hid z0
                   clear r0 g0 z0)
      go_frame
      go_loopw [8] (fun s8 wy => ∃ (left : Lit → Bool) (cnt : Nat) (a : List Wr) (A3 : Option Addr) (c3 : Nat), s8 = .slice A3 a.length c3 ∧ wy.ranges Try.prog 9 relW w.heap.size wo.heap.size N (dat ws) left cnt ∧ a.length + cnt ≤ N ∧ OwnK writeK wy (wo.heap.size + 1) A3 a.length c3 a ∧ Coll ws left a ∧ Q w wy ∧ wo.heap.size + 1 ≤ wy.heap.size) (fun _ wy => wy.rangeLeft w.heap.size wo.heap.size)
      case atStart => exact ⟨_, _, [], none, 0, rfl, R0.out, by have := dat_size ws; have := HWl.out; simp; omega, OwnK.nil_ _ _ _, Coll.start ws, Q0.out, by rw [Z0.out]; exact Nat.le_refl _⟩
      case round =>
        obtain ⟨left, cnt, a, A3, c3, rfl, hr, hcs, ho, hC, hq, hz⟩ := hrel
        have RG := Lib.hid hr
        have OK := Lib.hid ho
        have HC := Lib.hid hC
        have QY := Lib.hid hq
        have HZ := Lib.hid hz
        have HCs := Lib.hid hcs
        clear hr ho hC hq hz hcs R0 Q0 Z0
        go_wp2_with (at_next
                     refine wpList_next_ranges _ rfl _ rfl 9 lawS relW (fun x : ByteArray => Value.string x) (fun x : Wr => x.v) invS (fun v y hv => relW_inv hv) w.heap.size wo.heap.size N (dat ws) left cnt rfl RG.out ?_ ?_)
        · intro hc0 hl0
          have HL0 := Lib.hid hl0
          clear hl0
          by_cases he : a.length = 0
          · have hsz : a = [] := List.eq_nil_of_length_eq_zero he
            have hE := Lib.hid (HC.out.sorted HL0.out #[] (by rw [hsz]; exact ⟨rfl, fun i hi => rfl, by simp⟩) (by intro i j _ _ hj; rw [he] at hj; omega))
            subst hsz
            have KS := AnyF.slices_SortFunc_none { Try.sortW with } A3 c3 (.func (.func 42) #[] #[]) wr
            have KS2 := Lib.hid (show Calls Try.prog 41 #[.slice A3 0 c3, .func (.func 42) #[] #[]] wr fun e w' => e = .returned (.tuple #[]) ∧ w' = wr from KS)
            clear KS he
            go_wp2_with fail
            refine KS2.out.mono ?_
            rintro e w5 ⟨rfl, rfl⟩
            go_wp2_with fail
            go_ret
            rw [← hE.out]
            exact ⟨A3, c3, rfl, OK.out.lower (by have := QK.out.size; omega), QY.out⟩
          · obtain ⟨g, rfl⟩ : ∃ g, A3 = some ⟨g, 0, none⟩ := by
              rcases OK.out.parts with ⟨_, h, _⟩ | ⟨g, cur, rfl, _⟩
              · exact absurd h he
              · exact ⟨g, rfl⟩
            have KS := Lib.hid (sortW g c3 (wo.heap.size + 1) a wr OK.out (by have := HCs.out; omega))
            have hgb := Lib.hid OK.out.block_lt
            clear he
            go_wp2_with fail
            refine KS.out.mono ?_
            rintro e w5 ⟨rfl, dd, q5, os, hp, hsd, rfl⟩
            have hE := Lib.hid (HC.out.sorted HL0.out dd hp hsd)
            have hsz := Lib.hid (show dd.size = a.length by have := hp.1; simpa using this)
            have O5 := Lib.hid (show OwnK writeK (sortWorldK writeK.row 3 wr g 0 q5 dd os) (wo.heap.size + 1) (some ⟨g, 0, none⟩) a.length c3 dd.toList from OK.out.sorted (q := q5) (os := os) dd hsz.out)
            have Q5 := Lib.hid (show Q w (sortWorldK writeK.row 3 wr g 0 q5 dd os) from below_sortedK (K := writeK) QY.out.below (by have := hgb.out.1; have := QK.out.size; omega) QY.out.size)
            clear hp hsd
            have hlen := Lib.hid (show (Mg.mrg ws).length = a.length by rw [← hE.out, Array.length_toList, hsz.out])
            generalize sortWorldK writeK.row 3 wr g 0 q5 dd os = w6 at O5 Q5 ⊢
            go_wp2_with fail
            go_ret
            exact ⟨some ⟨g, 0, none⟩, c3, by rw [hlen.out]; rfl, by rw [hlen.out, ← hE.out]; refine O5.out.lower ?_; have := QK.out.size; omega, Q5.out⟩
        · intro x cx z yd yp w2 cnt2 hkey hlk hv hat hrg2 hlt hg2 hs2 hen
          have hz := keyS hkey
          subst hz
          rw [relW_mk] at hv
          injection hv with hv
          injection hv with hv1 hv2
          have hat2 : ∀ zd, (dat ws).atKey (kl x) zd = .held cx := fun zd => by rw [hat zd, ← hv1]
          have HC2 := Lib.hid (HC.out.step hlk hat2)
          have RG2 := Lib.hid hrg2
          have OK2 := Lib.hid (OK.out.grown hg2 (by omega))
          have QY2 := Lib.hid (QY.out.below.grown hg2 QY.out.size (fun j hj => by cases hj; exact QK.out.size))
          have HZ2 := Lib.hid (show wo.heap.size + 1 ≤ w2.heap.size by rw [hs2]; exact HZ.out)
          have HLt := Lib.hid hlt
          have hln := Lib.hid (show (a.length + 1) * 40 ≤ 140737488355328 by have := HCs.out; have := HN'.out; have := HS.out; omega)
          have hcn := Lib.hid (show a.length + 1 + cnt2 ≤ N by have := HCs.out; omega)
          clear hkey hlk hv1 hv2 hat hat2 hrg2 hg2 hs2 OK QY HZ HC hlt HCs
          obtain ⟨ka, va, da⟩ := cx
          go_wp2_with (at_builtin; go_loud (
                       refine wpl_appK writeK rfl (.tmp 32) (.tmp 34) 39 rfl rfl (wo.heap.size + 1) A3 a.length c3 a rfl ((OK2.out.alloc _).alloc _) (some ⟨w2.heap.size + 1, 0, none⟩) 1 1 [⟨ka, va, da⟩] rfl (by have := (lit_write (w2.alloc (.cells #[.string ka, .string va, .bool da] 59)) ⟨ka, va, da⟩).lst; simpa using this) (fun e => by cases e) hln.out (by have := HZ2.out; simp; omega) ?_
                       intro A5 c5 w5 o5 b5
                       have bb := Lib.hid ((((Q.refl w2).alloc (.cells #[.string ka, .string va, .bool da] 59)).alloc (.cells #[.string ka, .string va, .bool da] 59)).below.mono HZ2.out |>.trans b5)
                       have S5 := Lib.hid (show w5.ranges Try.prog 9 relW w.heap.size wo.heap.size N (dat ws) _ cnt2 ∧ OwnK writeK w5 (wo.heap.size + 1) A5 (a.length + 1) c5 (a ++ [⟨ka, va, da⟩]) ∧ Q w w5 ∧ wo.heap.size + 1 ≤ w5.heap.size from
                         ⟨ranges_below RG2.out bb.out (by have := QK.out.size; omega) (by omega), o5, QY2.out.trans (bb.out.mono (by have := QK.out.size; omega)), by have := bb.out.size; have := HZ2.out; omega⟩)
                       clear o5 b5))
          go_roundw
          case rel => exact ⟨_, cnt2, a ++ [⟨ka, va, da⟩], A5, c5, by rw [List.length_append]; rfl, S5.out.1, by rw [List.length_append]; exact hcn.out, by rw [List.length_append]; exact S5.out.2.1, HC2.out, S5.out.2.2.1, S5.out.2.2.2⟩
          case measure => rw [S5.out.1.left_eq, RG.out.left_eq]; exact HLt.out
end Go.Proofs.Ytodfdklcioafmaa
