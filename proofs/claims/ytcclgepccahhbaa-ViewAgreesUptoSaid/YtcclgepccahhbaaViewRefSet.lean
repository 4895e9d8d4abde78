/- Contract: the document's Set of a write. -/
import Derived.Test.YtcclgepccahhbaaViewRef
import Derived.Test.YtcclgepccahhbaaViewSet1
import Derived.Test.YtcclgepccahhbaaViewSet2
import Derived.Test.YtcclgepccahhbaaViewSet3
import Derived.Test.YtcclgepccahhbaaViewSet4
namespace Go.Proofs.Ytcclgepccahhbaa
set_option maxRecDepth 100000
open Go.RowKit Prm Vm
set_option linter.unusedVariables false
set_option linter.unusedSimpArgs false

/-- the list with p in place i. -/
def insWa (l : List Wr) (i : Nat) (p : Wr) : List Wr := l.take i ++ p :: l.drop i
theorem insWa_len {l : List Wr} {i : Nat} {p : Wr} (hi : i ≤ l.length) : (insWa l i p).length = l.length + 1 := by simp [insWa]; omega
theorem insWa_lo {l : List Wr} {i k : Nat} {p : Wr} (hi : i ≤ l.length) (hk : k < i) : (insWa l i p)[k]? = some (l[k]'(by omega)) := by
  unfold insWa
  rw [List.getElem?_append_left (by rw [List.length_take]; omega), List.getElem?_take, if_pos hk, List.getElem?_eq_getElem]
theorem insWa_eq {l : List Wr} {i : Nat} {p : Wr} (hi : i ≤ l.length) : (insWa l i p)[i]? = some p := by
  unfold insWa
  have hl : (l.take i).length = i := by rw [List.length_take]; omega
  rw [List.getElem?_append_right (by omega), hl, Nat.sub_self]; rfl
theorem insWa_hi {l : List Wr} {i k : Nat} {p : Wr} (hk : k < l.length) (hik : i ≤ k) : (insWa l i p)[k + 1]? = some l[k] := by
  unfold insWa
  have hl : (l.take i).length = i := by rw [List.length_take]; omega
  rw [List.getElem?_append_right (by omega), hl, show k + 1 - i = (k - i) + 1 by omega, List.getElem?_cons_succ, List.getElem?_drop, show i + (k - i) = k by omega, List.getElem?_eq_getElem hk]
theorem take_nextW {l : List Wr} {k : Nat} {x : Wr} (h : l[k]? = some x) : l.take (k + 1) = l.take k ++ [x] := by
  obtain ⟨hk, rfl⟩ := List.getElem?_eq_some_iff.1 h
  exact List.take_succ_eq_append_getElem hk


theorem setW_take_other {l : List Wr} {i k : Nat} {p : Wr} (hk : k < l.length) (h : k ≠ i) : (l.set i p).take (k + 1) = (l.set i p).take k ++ [l[k]] := by
  rw [List.take_succ_eq_append_getElem (by simpa using hk), List.getElem_set_ne (by omega)]
theorem setW_take_same {l : List Wr} {i : Nat} {p : Wr} (hk : i < l.length) : (l.set i p).take (i + 1) = (l.set i p).take i ++ [p] := by
  rw [List.take_succ_eq_append_getElem (by simpa using hk), List.getElem_set_self]
/-- the list so far. -/
def LoW (w : World) (t : List Wr) (v : Value) (wr : World) : Prop :=
  ∃ A1 c1, v = .slice A1 t.length c1 ∧ OwnK writeK wr w.heap.size A1 t.length c1 t ∧ Q w wr
theorem LoW.step {w wr w5 : World} {o t : List Wr} {x : Wr} {A5 : Option Addr} {c5 : Nat} (ht : t = o ++ [x]) (o5 : OwnK writeK w5 w.heap.size A5 (o.length + 1) c5 (o ++ [x])) (q : Q w wr) (b5 : Below w.heap.size wr w5) : LoW w t (.slice A5 (o.length + 1) c5) w5 := by
  subst ht
  exact ⟨A5, c5, by simp, by simpa using o5, q.below.trans b5⟩

set_option maxHeartbeats 4000000 in
theorem rvset_has (xk xv : ByteArray) (xd : Bool) (A : Option Addr) (n c : Nat) (l : List Wr) (w : World) (hf : Lst writeK w A n l) (hb : (n + 1) * 40 ≤ 140737488355328) (hks : WKeysIn l) (hky : xk.size ≤ maxLen) (i : Nat) (hi : i < l.length) (h1 : Fst (hasW xk) l i) :
    Calls Try.prog 13 #[.slice A n c, .agg #[.string xk, .string xv, .bool xd]] w fun e w' => RetL writeK w n (l.set i ⟨xk, xv, xd⟩) e w' := by
  have HF := Lib.hid hf
  have HL := Lib.hid hf.len
  have HB := Lib.hid hb
  have HKs := Lib.hid hks
  have HKy := Lib.hid hky
  have hn : n ≤ 9223372036854775807 := by omega
  have hnx : n ≤ maxLen := by unfold maxLen; omega
  have hin : i < n := by have := hf.len; omega
  have K0 := Lib.hid (fun W (h : Lst writeK W A n l) => rvat_any xk A n c l W h hnx i h1 i (.inl ⟨hin, rfl⟩))
  have q0 := Lib.hid ((Q.refl w).alloc (.cells #[.string xk, .string xv, .bool xd] 24))
  have X0 := Lib.hid (xbox w xk xv xd)
  have i0 : ¬ (i : Int) < 0 := by omega
  clear hf hb hks hky h1 hnx
  go_enter Try.func13, Try.ntmps13
  go_upto_region 1 with (fail)
  generalize w.alloc (.cells #[.string xk, .string xv, .bool xd] 24) = W0 at q0 X0 ⊢
  obtain ⟨x0, x1, x2⟩ := X0.out
  go_wp2_with fail
  refine (K0.out _ (HF.out.q q0.out)).mono ?_
  rintro e w1 ⟨rfl, rfl⟩
  go_wp2
  go_loopw [6, 7, 8] (fun v d j wr => ∃ k : Nat, k ≤ n ∧ j = .int .i64 k ∧ d = .bool (decide (i < k)) ∧ LoW W0 ((l.set i ⟨xk, xv, xd⟩).take k) v wr) (fun _ _ j _ => n - (intOf j).toNat)
  case atStart => exact ⟨0, Nat.zero_le _, rfl, rfl, none, 0, rfl, OwnK.nil_ _ _ _, Q.refl _⟩
  case round =>
    obtain ⟨k, hk, rfl, rfl, A3, c3, rfl, o3, q3⟩ := hrel
    have hol : ((l.set i ⟨xk, xv, xd⟩).take k).length = k := by rw [List.length_take, List.length_set]; have := HL.out; omega
    have O3 := Lib.hid o3
    have Q3 := Lib.hid q3
    have y0 := box_ q3 x0
    have y1 := box_ q3 x1
    have y2 := box_ q3 x2
    clear o3 q3
    by_cases hlt : k < n
    · have hkl : k < l.length := by have := HL.out; omega
      have hkm : (k : Int) < (n : Int) := by omega
      have hlen2 := Lib.hid (show (((l.set i ⟨xk, xv, xd⟩).take k).length + 1) * 40 ≤ 140737488355328 by have := HB.out; omega)
      by_cases hki : k = i
      · subst hki
        have hE := Lib.hid (setW_take_same (p := ⟨xk, xv, xd⟩) hkl)
        have hdd : decide (k < k + 1) = true := by simp
        clear hol
        generalize ((l.set k ⟨xk, xv, xd⟩).take k) = o at O3 hE hlen2 ⊢
        go_wp2_with (at_builtin
                     refine wpl_appK writeK rfl (.tmp 23) (.tmp 25) 22 rfl rfl W0.heap.size A3 o.length c3 o rfl ((O3.out).alloc _) _ 1 1 [⟨xk, xv, xd⟩] rfl (lit_write _ ⟨xk, xv, xd⟩).lst (fun e => by cases e) hlen2.out (Nat.le_trans Q3.out.size (by simp)) ?_
                     intro A5 c5 w5 o5 b5
                     have S5 := Lib.hid (LoW.step hE.out o5 (Q3.out.alloc _) b5)
                     clear o5 b5)
        go_roundw
        case rel => exact ⟨k + 1, by omega, by go_num, by rw [hdd], S5.out⟩
        case measure => simp [intOf]; omega
      · obtain ⟨ad, rfl, hab, c0, c1, c2⟩ := load_write (HF.out.q (q0.out.trans Q3.out)) hlt hkl
        have K1 := Lib.hid (fun W => less_any xk l[k].key W HKy.out (HKs.out.at_ hkl))
        have hE := Lib.hid (setW_take_other (p := ⟨xk, xv, xd⟩) hkl hki)
        have hki2 : ((k : Int) == (i : Int)) = false := by simp; omega
        have hki3 : ¬ (k : Int) = (i : Int) := by omega
        have HD := Lib.hid (show decide (i < k) = decide (i < k + 1) by congr 1; exact propext ⟨fun h => by omega, fun h => by omega⟩)
        clear hol hki
        generalize hdn : decide (i < k + 1) = dn at HD
        have HDn := Lib.hid hdn
        clear hdn
        rw [HD.out]
        generalize ((l.set i ⟨xk, xv, xd⟩).take k) = o at O3 hE hlen2 ⊢
        generalize lt xk l[k].key = g at K1
        generalize l[k] = x at c0 c1 c2 K1 hE
        go_wp2
        go_quiet ((go_at_call 29; exact Calls.quiet_of (K1.out _)))
        all_goals
          go_wp2_with (at_builtin
                       refine wpl_appK writeK rfl (.tmp 48) (.tmp 53) 22 rfl rfl W0.heap.size A3 o.length c3 o rfl ((O3.out.q ((Q.refl wr).drewN _)).alloc _) _ 1 1 [x] rfl (lit_write _ x).lst (fun e => by cases e) hlen2.out (Nat.le_trans Q3.out.size (by simp)) ?_
                       intro A5 c5 w5 o5 b5
                       have S5 := Lib.hid (LoW.step hE.out o5 ((Q3.out.drewN _).alloc _) b5)
                       clear o5 b5)
          go_roundw
          case rel => exact ⟨k + 1, by omega, by go_num, by rw [HDn.out], S5.out⟩
          case measure => simp [intOf]; omega
    · have HE := Lib.hid (show (l.set i ⟨xk, xv, xd⟩).take k = l.set i ⟨xk, xv, xd⟩ from List.take_of_length_le (by rw [List.length_set]; have := HL.out; omega))
      have HN := Lib.hid (show (l.set i ⟨xk, xv, xd⟩).length = n by rw [List.length_set]; exact HL.out)
      rw [HE.out] at O3 ⊢
      have d1 : decide (i < k) = true := by simp; omega
      rw [d1]
      clear d1 hol
      generalize hgo : l.set i ⟨xk, xv, xd⟩ = o at O3 HN
      have HGo := Lib.hid hgo
      clear hgo
      go_wp2
      go_ret
      exact ⟨A3, c3, by rw [HN.out] <;> rfl, by have := O3.out; rw [HN.out] at this; rw [HGo.out]; exact this.lower q0.out.size, q0.out.trans Q3.out⟩

set_option maxHeartbeats 8000000 in
theorem rvset_new (xk xv : ByteArray) (xd : Bool) (A : Option Addr) (n c : Nat) (l : List Wr) (w : World) (hf : Lst writeK w A n l) (hb : (n + 1) * 40 ≤ 140737488355328) (hks : WKeysIn l) (hky : xk.size ≤ maxLen) (h1 : Fst (hasW xk) l l.length) (i : Nat) (h2 : Fst (aboveW xk) l i) :
    Calls Try.prog 13 #[.slice A n c, .agg #[.string xk, .string xv, .bool xd]] w fun e w' => RetL writeK w (n + 1) (insWa l i ⟨xk, xv, xd⟩) e w' := by
  have HF := Lib.hid hf
  have HL := Lib.hid hf.len
  have HB := Lib.hid hb
  have HKs := Lib.hid hks
  have HKy := Lib.hid hky
  have hn : n ≤ 9223372036854775807 := by omega
  have hnx : n ≤ maxLen := by unfold maxLen; omega
  have hi : i ≤ l.length := h2.le
  have HT := Lib.hid (insWa_len (p := ⟨xk, xv, xd⟩) hi)
  have H2 := Lib.hid h2
  have hin : i ≤ n := by have := hf.len; omega
  have K0 := Lib.hid (fun W (h : Lst writeK W A n l) => rvat_any xk A n c l W h hnx l.length h1 (-1) (.inr ⟨HL.out, rfl⟩))
  have q0 := Lib.hid ((Q.refl w).alloc (.cells #[.string xk, .string xv, .bool xd] 24))
  have X0 := Lib.hid (xbox w xk xv xd)
  clear hf hb hks hky h1 h2 hnx
  go_enter Try.func13, Try.ntmps13
  go_upto_region 1 with (fail)
  generalize w.alloc (.cells #[.string xk, .string xv, .bool xd] 24) = W0 at q0 X0 ⊢
  obtain ⟨x0, x1, x2⟩ := X0.out
  go_wp2_with fail
  refine (K0.out _ (HF.out.q q0.out)).mono ?_
  rintro e w1 ⟨rfl, rfl⟩
  go_wp2
  go_loopw [6, 7, 8] (fun v d j wr => ∃ k : Nat, k ≤ n ∧ j = .int .i64 k ∧ d = .bool (decide (i < k)) ∧ LoW W0 ((insWa l i ⟨xk, xv, xd⟩).take (if i < k then k + 1 else k)) v wr) (fun _ _ j _ => n - (intOf j).toNat)
  case atStart => exact ⟨0, Nat.zero_le _, rfl, rfl, none, 0, rfl, OwnK.nil_ _ _ _, Q.refl _⟩
  case round =>
    obtain ⟨k, hk, rfl, rfl, A3, c3, rfl, o3, q3⟩ := hrel
    have O3 := Lib.hid o3
    have Q3 := Lib.hid q3
    have y0 := box_ q3 x0
    have y1 := box_ q3 x1
    have y2 := box_ q3 x2
    clear o3 q3
    by_cases hlt : k < n
    · have hkl : k < l.length := by have := HL.out; omega
      obtain ⟨ad, rfl, hab, c0, c1, c2⟩ := load_write (HF.out.q (q0.out.trans Q3.out)) hlt hkl
      have hkm : (k : Int) < (n : Int) := by omega
      have hk1 : ¬ (k : Int) = -1 := by omega
      have hk2 : ((k : Int) == -1) = false := by simp
      have K1 := Lib.hid (fun W => less_any xk l[k].key W HKy.out (HKs.out.at_ hkl))
      by_cases hlt2 : i < k
      · have d1 : decide (i < k) = true := by simp; omega
        have d2 : decide (i < k + 1) = true := by simp; omega
        rw [d1]
        rw [if_pos hlt2] at O3 ⊢
        have hE := Lib.hid (show (insWa l i ⟨xk, xv, xd⟩).take (if i < k + 1 then k + 1 + 1 else k + 1) = (insWa l i ⟨xk, xv, xd⟩).take (k + 1) ++ [l[k]] by
          rw [if_pos (by omega)]; exact take_nextW (insWa_hi hkl (by omega)))
        have hol : ((insWa l i ⟨xk, xv, xd⟩).take (k + 1)).length ≤ n := by rw [List.length_take, HT.out]; omega
        have hlen2 := Lib.hid (show (((insWa l i ⟨xk, xv, xd⟩).take (k + 1)).length + 1) * 40 ≤ 140737488355328 by have := HB.out; omega)
        have D2 := Lib.hid d2
        clear hol d1 d2
        generalize ((insWa l i ⟨xk, xv, xd⟩).take (k + 1)) = o at O3 hE hlen2 ⊢
        generalize lt xk l[k].key = g at K1
        generalize l[k] = x at c0 c1 c2 hE K1
        go_wp2
        go_quiet ((go_at_call 29; exact Calls.quiet_of (K1.out _)))
        all_goals
          go_wp2_with (at_builtin
                       refine wpl_appK writeK rfl (.tmp 48) (.tmp 53) 22 rfl rfl W0.heap.size A3 o.length c3 o rfl ((O3.out.q ((Q.refl wr).drewN _)).alloc _) _ 1 1 [x] rfl (lit_write _ x).lst (fun e => by cases e) hlen2.out (Nat.le_trans Q3.out.size (by simp)) ?_
                       intro A5 c5 w5 o5 b5
                       have S5 := Lib.hid (LoW.step hE.out o5 ((Q3.out.drewN _).alloc _) b5)
                       clear o5 b5)
          go_roundw
          case rel => exact ⟨k + 1, by omega, by go_num, by rw [D2.out], S5.out⟩
          case measure => simp [intOf]; omega
      · have d1 : decide (i < k) = false := by simp; omega
        rw [d1]
        rw [if_neg hlt2] at O3 ⊢
        have hol : ((insWa l i ⟨xk, xv, xd⟩).take k).length ≤ n - 1 := by rw [List.length_take, HT.out]; omega
        have hlen2 := Lib.hid (show (((insWa l i ⟨xk, xv, xd⟩).take k).length + 1) * 40 ≤ 140737488355328 by have := HB.out; omega)
        by_cases hki : k = i
        · subst hki
          have D2 := Lib.hid (show decide (k < k + 1) = true by simp)
          have hE1 := Lib.hid (show (insWa l k ⟨xk, xv, xd⟩).take (k + 1) = (insWa l k ⟨xk, xv, xd⟩).take k ++ [⟨xk, xv, xd⟩] from take_nextW (insWa_eq hi))
          have hE := Lib.hid (show (insWa l k ⟨xk, xv, xd⟩).take (if k < k + 1 then k + 1 + 1 else k + 1) = (insWa l k ⟨xk, xv, xd⟩).take k ++ [⟨xk, xv, xd⟩] ++ [l[k]] by
            rw [if_pos (by omega), ← hE1.out]; exact take_nextW (insWa_hi hkl (Nat.le_refl _)))
          have hol2 : ((insWa l k ⟨xk, xv, xd⟩).take k).length + 1 ≤ n := by omega
          have hlen3 : Hid ((((insWa l k ⟨xk, xv, xd⟩).take k).length + 1 + 1) * 40 ≤ 140737488355328) := Lib.hid (Nat.le_trans (Nat.mul_le_mul_right 40 (Nat.succ_le_succ hol2)) HB.out)
          clear hol2
          rw [show lt xk l[k].key = true from H2.out.yes hkl] at K1
          clear hol d1 hlt2
          generalize ((insWa l k ⟨xk, xv, xd⟩).take k) = o at O3 hE hE1 hlen2 hlen3 ⊢
          generalize hgx : l[k] = x at c0 c1 c2 hE K1
          have HGx := Lib.hid hgx
          clear hgx
          go_wp2
          go_quiet ((go_at_call 29; exact Calls.quiet_of (K1.out _)))
          all_goals
            go_upto_region 14 with (at_builtin
                                    refine wpl_appK writeK rfl (.tmp 44) (.tmp 46) 22 rfl rfl W0.heap.size A3 o.length c3 o rfl ((O3.out.q ((Q.refl wr).drewN _)).alloc _) _ 1 1 [⟨xk, xv, xd⟩] rfl (lit_write _ ⟨xk, xv, xd⟩).lst (fun e => by cases e) hlen2.out (Nat.le_trans Q3.out.size (by simp)) ?_
                                    intro A5 c5 w5 o5 b5
                                    have S5 := Lib.hid (show Q W0 w5 from ((Q3.out.drewN _).alloc (.cells #[.string xk, .string xv, .bool xd] 24)).below.trans b5)
                                    have O5 := Lib.hid (show OwnK writeK w5 W0.heap.size A5 (o.length + 1) c5 (o ++ [⟨xk, xv, xd⟩]) from o5)
                                    clear o5 b5)
            clear c0 c1 c2 y0 y1 y2
            obtain ⟨ad2, ha2, hab2, u0, u1, u2⟩ := load_write (HF.out.q (q0.out.trans S5.out)) hlt hkl
            injection ha2 with ha2
            subst ha2
            rw [HGx.out] at u0 u1 u2
            go_wp2_with (at_builtin
                         refine wpl_appK writeK rfl (.tmp 48) (.tmp 53) 22 rfl rfl W0.heap.size A5 (o.length + 1) c5 (o ++ [⟨xk, xv, xd⟩]) rfl (O5.out.alloc _) (some ⟨w5.heap.size, 0, none⟩) 1 1 [x] rfl (lit_write w5 x).lst (fun e => by cases e) hlen3.out (by have := S5.out.size; simp; omega) ?_
                         intro A6 c6 w6 o6 b6
                         have S6 := Lib.hid (show LoW W0 ((insWa l k ⟨xk, xv, xd⟩).take (if k < k + 1 then k + 1 + 1 else k + 1)) (.slice A6 (o.length + 1 + 1) c6) w6 from ⟨A6, c6, by rw [hE.out]; simp, by rw [hE.out]; have := o6; simpa using this, (S5.out.alloc _).below.trans b6⟩)
                         clear o6 b6)
            go_roundw
            case rel => exact ⟨k + 1, by omega, by go_num, by rw [D2.out], S6.out⟩
            case measure => simp [intOf]; omega
        · have hki2 : k < i := by omega
          have D2 := Lib.hid (show decide (i < k + 1) = false by simp; omega)
          have hE := Lib.hid (show (insWa l i ⟨xk, xv, xd⟩).take (if i < k + 1 then k + 1 + 1 else k + 1) = (insWa l i ⟨xk, xv, xd⟩).take k ++ [l[k]] by
            rw [if_neg (by omega)]; exact take_nextW (insWa_lo hi hki2))
          rw [show lt xk l[k].key = false from H2.out.no k hkl hki2] at K1
          clear hol d1 hlt2 hki
          generalize ((insWa l i ⟨xk, xv, xd⟩).take k) = o at O3 hE hlen2 ⊢
          generalize l[k] = x at c0 c1 c2 hE K1
          go_wp2
          go_quiet ((go_at_call 29; exact Calls.quiet_of (K1.out _)))
          all_goals
            go_wp2_with (at_builtin
                         refine wpl_appK writeK rfl (.tmp 48) (.tmp 53) 22 rfl rfl W0.heap.size A3 o.length c3 o rfl ((O3.out.q ((Q.refl wr).drewN _)).alloc _) _ 1 1 [x] rfl (lit_write _ x).lst (fun e => by cases e) hlen2.out (Nat.le_trans Q3.out.size (by simp)) ?_
                         intro A5 c5 w5 o5 b5
                         have S5 := Lib.hid (LoW.step hE.out o5 ((Q3.out.drewN _).alloc _) b5)
                         clear o5 b5)
            go_roundw
            case rel => exact ⟨k + 1, by omega, by go_num, by rw [D2.out], S5.out⟩
            case measure => simp [intOf]; omega
    · have hkn : k = n := by omega
      subst hkn
      by_cases hik : i < k
      · have d1 : decide (i < k) = true := by simp; omega
        rw [d1]
        rw [if_pos hik] at O3 ⊢
        have HE := Lib.hid (show (insWa l i ⟨xk, xv, xd⟩).take (k + 1) = insWa l i ⟨xk, xv, xd⟩ from List.take_of_length_le (by rw [HT.out]; have := HL.out; omega))
        have HN := Lib.hid (show (insWa l i ⟨xk, xv, xd⟩).length = k + 1 by rw [HT.out, HL.out])
        rw [HE.out] at O3 ⊢
        clear d1 hik
        generalize hgo : insWa l i ⟨xk, xv, xd⟩ = o at O3 HN ⊢
        have HGo := Lib.hid hgo
        clear hgo
        go_wp2
        go_ret
        exact ⟨A3, c3, by rw [HN.out] <;> rfl, by have := O3.out; rw [HN.out] at this; rw [HGo.out]; exact this.lower q0.out.size, q0.out.trans Q3.out⟩
      · have hik' : i = k := by omega
        subst hik'
        have d1 : decide (i < i) = false := by simp
        rw [d1]
        rw [if_neg hik] at O3 ⊢
        have HE := Lib.hid (show insWa l i ⟨xk, xv, xd⟩ = (insWa l i ⟨xk, xv, xd⟩).take i ++ [⟨xk, xv, xd⟩] by
          rw [← take_nextW (insWa_eq hi)]; exact (List.take_of_length_le (by rw [HT.out]; have := HL.out; omega)).symm)
        have hol : ((insWa l i ⟨xk, xv, xd⟩).take i).length = i := by rw [List.length_take, HT.out]; have := HL.out; omega
        have HO := Lib.hid hol
        have hlen2 := Lib.hid (show (((insWa l i ⟨xk, xv, xd⟩).take i).length + 1) * 40 ≤ 140737488355328 by rw [hol]; exact HB.out)
        clear d1 hik hol
        generalize hgo : ((insWa l i ⟨xk, xv, xd⟩).take i) = o at O3 HE hlen2 HO ⊢
        have HGo := Lib.hid hgo
        clear hgo
        go_wp2_with (at_builtin
                     refine wpl_appK writeK rfl (.tmp 57) (.tmp 59) 22 rfl rfl W0.heap.size A3 o.length c3 o rfl ((O3.out).alloc _) _ 1 1 [⟨xk, xv, xd⟩] rfl (lit_write _ ⟨xk, xv, xd⟩).lst (fun e => by cases e) hlen2.out (Nat.le_trans Q3.out.size (by simp)) ?_
                     intro A5 c5 w5 o5 b5
                     have O5 := Lib.hid o5
                     have B5 := Lib.hid (show Q W0 w5 from (Q3.out.alloc (.cells #[.string xk, .string xv, .bool xd] 24)).below.trans b5)
                     clear o5 b5)
        go_ret
        exact ⟨A5, c5, by rw [HO.out] <;> rfl, by have := O5.out; rw [HO.out] at this; rw [HE.out]; exact this.lower q0.out.size, q0.out.trans B5.out⟩

theorem setW_at {l : List Wr} {x : Wr} {i : Nat} (hi : i < l.length) (h : Fst (hasW x.key) l i) : putW l x = l.set i x := putW_has hi (h.yes hi) h.no
theorem insW_of {l : List Wr} {x : Wr} {i j : Nat} (hi : i = l.length) (h : Fst (hasW x.key) l i) (h2 : Fst (aboveW x.key) l j) : putW l x = insWa l j x := by
  rw [putW_new (h.none hi), insW_at h2.le h2.yes h2.no]; rfl
/-- the document's Set. -/
theorem rvset_any (x : Wr) (A : Option Addr) (n c : Nat) (l : List Wr) (w : World) (hf : Lst writeK w A n l) (hb : (n + 1) * 40 ≤ 140737488355328) (hks : WKeysIn l) (hky : x.key.size ≤ maxLen) :
    Calls Try.prog 13 #[.slice A n c, x.v] w fun e w' => RetL writeK w (putW l x).length (putW l x) e w' := by
  obtain ⟨xk, xv, xd⟩ := x
  obtain ⟨i, h1⟩ := fst_at (hasW xk) l
  obtain ⟨j, h2⟩ := fst_at (aboveW xk) l
  have hl := hf.len
  by_cases hi : i < l.length
  · have e : putW l ⟨xk, xv, xd⟩ = l.set i ⟨xk, xv, xd⟩ := setW_at (x := ⟨xk, xv, xd⟩) hi h1
    rw [e, List.length_set, hl]
    exact rvset_has xk xv xd A n c l w hf hb hks hky i hi h1
  · have hi' : i = l.length := by have := h1.le; omega
    have e : putW l ⟨xk, xv, xd⟩ = insWa l j ⟨xk, xv, xd⟩ := insW_of (x := ⟨xk, xv, xd⟩) hi' h1 h2
    rw [e, insWa_len h2.le, hl]
    subst hi'
    exact rvset_new xk xv xd A n c l w hf hb hks hky h1 j h2
/-- view.Set. -/
theorem vset_any (x : Wr) (A : Option Addr) (n c : Nat) (l : List Wr) (w : World) (hd : In_ writeK w A n c l) (hb : (n + 1) * 40 ≤ 140737488355328) :
    Calls Try.prog 12 #[.slice A n c, x.v] w fun e w' => RetL writeK w (putW l x).length (putW l x) e w' := by
  obtain ⟨xk, xv, xd⟩ := x
  obtain ⟨i, h1⟩ := fst_at (hasW xk) l
  obtain ⟨j, h2⟩ := fst_at (aboveW xk) l
  have hl := hd.len
  have hnx := hd.max
  have hle := hd.le
  have hnil := hd.nil
  have KP := fun (W : World) (B : Nat) (hB : B < W.heap.size) (hc : W.cell? ⟨B, 0, none⟩ = some (.string xk)) (h : Lst writeK W A n l) => place_any xk B A n c l W hB hc h hnx i j h1 h2
  by_cases hi : i < l.length
  · have e : putW l ⟨xk, xv, xd⟩ = l.take i ++ [⟨xk, xv, xd⟩] ++ l.drop (i + 1) := by
      rw [setW_at (x := ⟨xk, xv, xd⟩) hi h1, List.set_eq_take_append_cons_drop, if_pos hi]; simp
    have el : (putW l ⟨xk, xv, xd⟩).length = n := by rw [setW_at (x := ⟨xk, xv, xd⟩) hi h1, List.length_set, hl]
    have hp : PlaceAt A n c l xk i true := fun W B hB hc h => KP W B hB hc h i true (.inl ⟨by omega, rfl, rfl⟩)
    rw [el, e]
    cases A with
    | none => have := (hnil rfl).1; omega
    | some ad =>
      by_cases hc : i + 1 < c
      · exact vset_has ad n c i xk xv xd l w hd hb hp (by omega) hc n (by omega) (by omega)
      · obtain rfl : c = n := by omega
        rw [show l.drop (i + 1) = [] from List.drop_of_length_le (by omega)]
        exact vset_has1 ad c i xk xv xd l w hd hb hp (by omega) (by omega) c (by omega) (by omega)
  · have hi' : i = l.length := by have := h1.le; omega
    have e : putW l ⟨xk, xv, xd⟩ = l.take j ++ [⟨xk, xv, xd⟩] ++ l.drop j := by
      rw [insW_of (x := ⟨xk, xv, xd⟩) hi' h1 h2]; simp [insWa]
    have el : (putW l ⟨xk, xv, xd⟩).length = n + 1 := by rw [insW_of (x := ⟨xk, xv, xd⟩) hi' h1 h2, insWa_len h2.le, hl]
    have hp : PlaceAt A n c l xk j false := fun W B hB hc h => KP W B hB hc h j false (.inr ⟨by omega, rfl, rfl⟩)
    have hj := h2.le
    rw [el, e]
    cases A with
    | none =>
      obtain ⟨rfl, rfl⟩ := hnil rfl
      obtain rfl : j = 0 := by omega
      obtain rfl : l = [] := List.eq_nil_of_length_eq_zero hl
      exact vset_nil xk xv xd [] w hd hb hp 1 (by omega) (by omega)
    | some ad =>
      by_cases hc : j < c
      · exact vset_mid ad n c j xk xv xd l w hd hb hp (by omega) hc (n + 1) (by omega) (by omega)
      · obtain rfl : j = n := by omega
        obtain rfl : c = j := by omega
        rw [show l.drop c = [] from List.drop_of_length_le (by omega)]
        exact vset_endc ad c xk xv xd l w hd hb hp (c + 1) (by omega) (by omega)
end Go.Proofs.Ytcclgepccahhbaa
