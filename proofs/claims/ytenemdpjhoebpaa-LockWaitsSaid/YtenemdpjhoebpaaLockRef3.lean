/- Contracts: the document's Waits, Late, Same, Ints. -/
import Derived.Test.YtenemdpjhoebpaaLock
import Derived.Test.YtenemdpjhoebpaaAppK
namespace Go.Proofs.Ytenemdpjhoebpaa
set_option maxRecDepth 100000
open Go.RowKit Prm Lm Sm
set_option linter.unusedVariables false
set_option linter.unusedSimpArgs false

theorem any_drop {α : Type} (P : α → Bool) (l : List α) {k : Nat} (hk : k < l.length) : (l.drop k).any P = (P l[k] || (l.drop (k + 1)).any P) := by
  rw [List.drop_eq_getElem_cons hk, List.any_cons]
set_option maxHeartbeats 1000000 in
theorem rwaits_any (A B : Option Addr) (n c m d : Nat) (l : Lo) (txn : Int) (w : World) (hB : Lst claimK w B m l.queue) (hm : m ≤ 400000) :
    Calls Try.prog 21 #[locV A n c B m d, .int .i64 txn] w fun e w' => e = .returned (.bool (waits l txn)) ∧ Q w w' := by
  have HB := Lib.hid hB
  have HBl := Lib.hid hB.len
  have hw : waits l txn = l.queue.any (isC txn) := rfl
  rw [hw]
  have Q1 := Lib.hid ((Q.refl w).alloc (.cells #[.slice A n c, .slice B m d] 25))
  have B1 := Lib.hid (Bx.new w [.slice A n c, .slice B m d] 25)
  clear hB hw
  go_enter Try.func21, Try.ntmps21
  go_wp2
  generalize w.alloc (.cells #[.slice A n c, .slice B m d] 25) = W0 at Q1 B1 ⊢
  obtain ⟨⟨b0, b1⟩, _⟩ := B1.out.get2
  go_loopw [5] (fun i wr => ∃ k : Nat, k ≤ m ∧ i = .int .i64 k ∧ wr = W0 ∧ l.queue.any (isC txn) = (l.queue.drop k).any (isC txn)) (fun i _ => m - (intOf i).toNat)
  case atStart => exact ⟨0, Nat.zero_le _, rfl, rfl, rfl⟩
  case round =>
    obtain ⟨k, hk, rfl, rfl, he⟩ := hrel
    have HE := Lib.hid he
    clear he
    by_cases hlt : k < m
    · have hkl : k < l.queue.length := by have := HBl.out; omega
      have hkn : (k : Int) < (m : Int) := by omega
      have HG := Lib.hid (any_drop (isC txn) l.queue hkl)
      obtain ⟨ad, rfl, hab, y0, y1, y2, y3, y4⟩ := load_claim (HB.out.q Q1.out) hlt hkl
      generalize l.queue[k] = h at y0 y1 y2 y3 y4 HG
      have he1 := int_eq h.txn txn
      cases ht : decide (h.txn = txn) with
      | true =>
        rw [ht] at he1
        have HF := Lib.hid (show l.queue.any (isC txn) = true by rw [HE.out, HG.out, show isC txn h = true from ht]; rfl)
        clear ht
        go_wp2
        go_ret
        exact ⟨by rw [HF.out]; rfl, Q1.out⟩
      | false =>
        rw [ht] at he1
        have HF := Lib.hid (show l.queue.any (isC txn) = (l.queue.drop (k + 1)).any (isC txn) by rw [HE.out, HG.out, show isC txn h = false from ht]; rfl)
        clear ht
        go_wp2
        go_roundw
        case rel => exact ⟨k + 1, by omega, by go_num, by first | rfl | trivial, HF.out⟩
        case measure => simp [intOf]; omega
    · have HF := Lib.hid (show l.queue.any (isC txn) = false by rw [HE.out, List.drop_of_length_le (by have := HBl.out; omega)]; rfl)
      go_wp2
      go_ret
      exact ⟨by rw [HF.out]; rfl, Q1.out⟩

set_option maxHeartbeats 1000000 in
theorem rlate_any (A B : Option Addr) (n c m d : Nat) (l : Lo) (now : Nat) (w : World) (hB : Lst claimK w B m l.queue) (hm : m ≤ 400000) :
    Calls Try.prog 19 #[locV A n c B m d, .int .u64 (now : Int)] w fun e w' => RetL numK w (late l now).length (late l now) e w' := by
  have HB := Lib.hid hB
  have HBl := Lib.hid hB.len
  rw [late_is]
  have Q1 := Lib.hid ((Q.refl w).alloc (.cells #[.slice A n c, .slice B m d] 25))
  have B1 := Lib.hid (Bx.new w [.slice A n c, .slice B m d] 25)
  clear hB
  go_enter Try.func19, Try.ntmps19
  go_wp2
  generalize w.alloc (.cells #[.slice A n c, .slice B m d] 25) = W0 at Q1 B1 ⊢
  obtain ⟨⟨b0, b1⟩, _⟩ := B1.out.get2
  go_loopw [5, 6] (fun o i wr => ∃ (k : Nat) (C : Option Addr) (q : Nat) (os : List Int), k ≤ m ∧ i = .int .i64 k ∧ o = .slice C os.length q ∧ OwnK numK wr (w.heap.size + 1) C os.length q os ∧ late1 now (l.queue.take k) = os ∧ Q w wr ∧ Bx wr w.heap.size [.slice A n c, .slice B m d]) (fun _ i _ => m - (intOf i).toNat)
  case atStart => exact ⟨0, none, 0, [], Nat.zero_le _, rfl, rfl, OwnK.nil_ _ _ _, rfl, Q1.out, B1.out⟩
  case round =>
    obtain ⟨k, C, q, os, hk, rfl, rfl, o1, he, q1, bx⟩ := hrel
    have HO := Lib.hid o1
    have HE := Lib.hid he
    have HQ := Lib.hid q1
    have HX := Lib.hid bx
    have hos : os.length ≤ k := by
      have := late_len now (l.queue.take k)
      rw [he, List.length_take] at this; omega
    clear o1 he q1 bx b0 b1
    obtain ⟨⟨b0, b1⟩, _⟩ := HX.out.get2
    by_cases hlt : k < m
    · have hkl : k < l.queue.length := by have := HBl.out; omega
      have hkn : (k : Int) < (m : Int) := by omega
      have HG := Lib.hid (late_at (now := now) hkl)
      obtain ⟨ad, rfl, hab, y0, y1, y2, y3, y4⟩ := load_claim (HB.out.q HQ.out) hlt hkl
      generalize l.queue[k] = h at y0 y1 y2 y3 y4 HG
      by_cases ht : h.til ≤ now
      · have HG2 := Lib.hid (show late1 now (l.queue.take (k + 1)) = os ++ [h.txn] by rw [HG.out, if_pos ht, HE.out])
        have hti : (h.til : Int) ≤ (now : Int) := by omega
        clear ht
        go_wp2_with (at_builtin
                     go_loud (
                     refine wpl_appKG numK rfl _ _ 40 rfl rfl (w.heap.size + 1) C os.length q os rfl (HO.out.alloc _) (some ⟨wr.heap.size, 0, none⟩) 1 1 [h.txn] rfl (lst_lit1 wr h.txn) (fun e => by cases e) (by show (os.length + 1) * 8 ≤ _; omega) (by have := HX.out.lt; simp; omega) ?_
                     intro A5 c5 w5 o5 gr5 _
                     have hb5 := Lib.hid (grown_below (HO.out.alloc (.cells #[.int .i64 h.txn] 3)) gr5 (by have := HX.out.lt; simp; omega))
                     have O5 := Lib.hid o5
                     have Q5 := Lib.hid (show Q w w5 from (HQ.out.alloc (.cells #[.int .i64 h.txn] 3)).below.trans (hb5.out.mono (Nat.le_succ _)))
                     have X5 := Lib.hid ((HX.out.alloc (.cells #[.int .i64 h.txn] 3)).below hb5.out (Nat.lt_succ_self _))
                     clear o5 gr5))
        go_roundw
        case rel => exact ⟨k + 1, A5, c5, os ++ [h.txn], by omega, by go_num, by rw [List.length_append]; rfl, by rw [List.length_append]; exact O5.out, HG2.out, Q5.out, X5.out⟩
        case measure => simp [intOf]; omega
      · have HG2 := Lib.hid (show late1 now (l.queue.take (k + 1)) = os by rw [HG.out, if_neg ht, HE.out])
        have hti : ¬ (h.til : Int) ≤ (now : Int) := by omega
        clear ht
        go_wp2
        go_roundw
        case rel => exact ⟨k + 1, C, q, os, by omega, by go_num, rfl, HO.out, HG2.out, HQ.out, HX.out⟩
        case measure => simp [intOf]; omega
    · have HF := Lib.hid (show late1 now l.queue = os by have := HE.out; rwa [List.take_of_length_le (by have := HBl.out; omega)] at this)
      go_wp2
      go_ret
      exact ⟨C, q, by rw [HF.out]; rfl, by rw [HF.out]; exact HO.out.lower (Nat.le_succ _), HQ.out⟩

set_option maxHeartbeats 4000000 in
theorem rsame_any (A B C D : Option Addr) (n c m d p q r s : Nat) (x y : Lo) (w : World) (h1 : Lst holdK w A n x.held) (h2 : Lst claimK w B m x.queue) (h3 : Lst holdK w C p y.held) (h4 : Lst claimK w D r y.queue) (hn : n ≤ maxLen) (hm : m ≤ maxLen) (hp : p ≤ maxLen) (hr : r ≤ maxLen) :
    Calls Try.prog 14 #[locV A n c B m d, locV C p q D r s] w fun e w' => e = .returned (.bool (decide (x = y))) ∧ Q w w' := by
  unfold maxLen at hn hm hp hr
  have H1 := Lib.hid h1
  have H2 := Lib.hid h2
  have H3 := Lib.hid h3
  have H4 := Lib.hid h4
  have L1 := Lib.hid h1.len
  have L2 := Lib.hid h2.len
  have L3 := Lib.hid h3.len
  have L4 := Lib.hid h4.len
  clear h1 h2 h3 h4
  have QQ := Lib.hid (((Q.refl w).alloc (.cells #[.slice A n c, .slice B m d] 25)).alloc (.cells #[.slice C p q, .slice D r s] 25))
  have B1 : Hid (Bx ((w.alloc (.cells #[.slice A n c, .slice B m d] 25)).alloc (.cells #[.slice C p q, .slice D r s] 25)) w.heap.size [.slice A n c, .slice B m d]) := Lib.hid ((Bx.new w [.slice A n c, .slice B m d] 25).alloc (.cells #[.slice C p q, .slice D r s] 25))
  have B2 : Hid (Bx ((w.alloc (.cells #[.slice A n c, .slice B m d] 25)).alloc (.cells #[.slice C p q, .slice D r s] 25)) (w.heap.size + 1) [.slice C p q, .slice D r s]) := by
    have := Bx.new (w.alloc (.cells #[.slice A n c, .slice B m d] 25)) [.slice C p q, .slice D r s] 25
    rw [show (w.alloc (.cells #[.slice A n c, .slice B m d] 25)).heap.size = w.heap.size + 1 by simp] at this
    exact Lib.hid this
  by_cases hnp : n = p
  · subst hnp
    by_cases hmr : m = r
    · subst hmr
      go_enter Try.func14, Try.ntmps14
      go_upto_region 1 with (fail)
      generalize (w.alloc (.cells #[.slice A n c, .slice B m d] 25)).alloc (.cells #[.slice C n q, .slice D m s] 25) = W0 at B1 B2 QQ ⊢
      obtain ⟨⟨b0, b1⟩, _⟩ := B1.out.get2
      obtain ⟨⟨d0, d1⟩, _⟩ := B2.out.get2
      go_wp2
      go_loopw [5] (fun i wr => ∃ k : Nat, k ≤ n ∧ i = .int .i64 k ∧ Q w wr ∧ x.held.take k = y.held.take k ∧ Bx wr w.heap.size [.slice A n c, .slice B m d] ∧ Bx wr (w.heap.size + 1) [.slice C n q, .slice D m s]) (fun i _ => n - (intOf i).toNat)
      case atStart => exact ⟨0, Nat.zero_le _, rfl, QQ.out, by simp, B1.out, B2.out⟩
      case round =>
        clear B1 B2 QQ b0 b1 d0 d1
        obtain ⟨k, hk, rfl, hq, ht, bx1, bx2⟩ := hrel
        have HT := Lib.hid ht
        have HQ := Lib.hid hq
        have B1 := Lib.hid bx1
        have B2 := Lib.hid bx2
        clear ht hq bx1 bx2
        obtain ⟨⟨b0, b1⟩, _⟩ := B1.out.get2
        obtain ⟨⟨d0, d1⟩, _⟩ := B2.out.get2
        by_cases hlt : k < n
        · have k1 : k < x.held.length := by have := L1.out; omega
          have k2 : k < y.held.length := by have := L3.out; omega
          obtain ⟨ad, rfl, hb, y0, y1, y2, y3⟩ := load_hold (H1.out.q HQ.out) hlt k1
          obtain ⟨ae, rfl, he, z0, z1, z2, z3⟩ := load_hold (H3.out.q HQ.out) hlt k2
          have hne := fun W => neq_ho W x.held[k] y.held[k]
          have hkn : (k : Int) < (n : Int) := by omega
          by_cases heq : x.held[k] = y.held[k]
          · have hd : decide (x.held[k] = y.held[k]) = true := by simpa using heq
            have HE := Lib.hid heq
            clear heq
            go_wp2
            go_quiet (fail)
            go_wp2
            go_roundw
            case rel => exact ⟨k + 1, by omega, by go_num, HQ.out.drewN _, by rw [List.take_succ_eq_append_getElem k1, List.take_succ_eq_append_getElem k2, HT.out, HE.out], B1.out.q ((Q.refl _).drewN _), B2.out.q ((Q.refl _).drewN _)⟩
            case measure => simp [intOf]; omega
          · have hd : decide (x.held[k] = y.held[k]) = false := by simpa using heq
            have HE := Lib.hid heq
            clear heq
            go_wp2
            go_quiet (fail)
            go_wp2
            go_ret
            exact ⟨ret_bool (by symm; simp only [decide_eq_false_iff_not]; rintro rfl; exact HE.out rfl), HQ.out.drewN _⟩
        · have HT1 := Lib.hid (show x.held = y.held by have h1 := HT.out; rwa [List.take_of_length_le (by have := L1.out; omega), List.take_of_length_le (by have := L3.out; omega)] at h1)
          have QQ := HQ
          go_wp2
          clear HT HQ hlt hk
          go_loopw [6] (fun i wr => ∃ k : Nat, k ≤ m ∧ i = .int .i64 k ∧ Q w wr ∧ x.queue.take k = y.queue.take k ∧ Bx wr w.heap.size [.slice A n c, .slice B m d] ∧ Bx wr (w.heap.size + 1) [.slice C n q, .slice D m s]) (fun i _ => m - (intOf i).toNat)
          case atStart => exact ⟨0, Nat.zero_le _, rfl, QQ.out, by simp, B1.out, B2.out⟩
          case round =>
            clear B1 B2 QQ b0 b1 d0 d1
            obtain ⟨k, hk, rfl, hq, ht, bx1, bx2⟩ := hrel
            have HT := Lib.hid ht
            have HQ := Lib.hid hq
            have B1 := Lib.hid bx1
            have B2 := Lib.hid bx2
            clear ht hq bx1 bx2
            obtain ⟨⟨b0, b1⟩, _⟩ := B1.out.get2
            obtain ⟨⟨d0, d1⟩, _⟩ := B2.out.get2
            by_cases hlt : k < m
            · have k1 : k < x.queue.length := by have := L2.out; omega
              have k2 : k < y.queue.length := by have := L4.out; omega
              obtain ⟨ad, rfl, hb, y0, y1, y2, y3, y4⟩ := load_claim (H2.out.q HQ.out) hlt k1
              obtain ⟨ae, rfl, he, z0, z1, z2, z3, z4⟩ := load_claim (H4.out.q HQ.out) hlt k2
              have hne := fun W => neq_cl W x.queue[k] y.queue[k]
              have hkn : (k : Int) < (m : Int) := by omega
              by_cases heq : x.queue[k] = y.queue[k]
              · have hd : decide (x.queue[k] = y.queue[k]) = true := by simpa using heq
                have HE := Lib.hid heq
                clear heq
                go_wp2
                go_quiet (fail)
                go_wp2
                go_roundw
                case rel => exact ⟨k + 1, by omega, by go_num, HQ.out.drewN _, by rw [List.take_succ_eq_append_getElem k1, List.take_succ_eq_append_getElem k2, HT.out, HE.out], B1.out.q ((Q.refl _).drewN _), B2.out.q ((Q.refl _).drewN _)⟩
                case measure => simp [intOf]; omega
              · have hd : decide (x.queue[k] = y.queue[k]) = false := by simpa using heq
                have HE := Lib.hid heq
                clear heq
                go_wp2
                go_quiet (fail)
                go_wp2
                go_ret
                exact ⟨ret_bool (by symm; simp only [decide_eq_false_iff_not]; rintro rfl; exact HE.out rfl), HQ.out.drewN _⟩
            · have HT2 := Lib.hid (show x.queue = y.queue by have h1 := HT.out; rwa [List.take_of_length_le (by have := L2.out; omega), List.take_of_length_le (by have := L4.out; omega)] at h1)
              go_wp2
              go_ret
              exact ⟨ret_bool (by symm; rw [lo_eq, HT1.out, HT2.out]; simp), HQ.out⟩
    · have hb : ((m : Int) != (r : Int)) = true := by simp; omega
      have HN := Lib.hid hmr
      clear hmr
      go_enter Try.func14, Try.ntmps14
      go_upto_region 1 with (fail)
      generalize (w.alloc (.cells #[.slice A n c, .slice B m d] 25)).alloc (.cells #[.slice C n q, .slice D r s] 25) = W0 at B1 B2 QQ ⊢
      obtain ⟨⟨b0, b1⟩, _⟩ := B1.out.get2
      obtain ⟨⟨d0, d1⟩, _⟩ := B2.out.get2
      go_wp2
      go_ret
      exact ⟨ret_bool (by symm; simp only [decide_eq_false_iff_not]; rintro rfl; exact HN.out (L2.out.symm.trans L4.out)), QQ.out⟩
  · have hb : ((n : Int) != (p : Int)) = true := by simp; omega
    have HN := Lib.hid hnp
    clear hnp
    go_enter Try.func14, Try.ntmps14
    go_upto_region 1 with (fail)
    generalize (w.alloc (.cells #[.slice A n c, .slice B m d] 25)).alloc (.cells #[.slice C p q, .slice D r s] 25) = W0 at B1 B2 QQ ⊢
    obtain ⟨⟨b0, b1⟩, _⟩ := B1.out.get2
    obtain ⟨⟨d0, d1⟩, _⟩ := B2.out.get2
    go_wp2
    go_ret
    exact ⟨ret_bool (by symm; simp only [decide_eq_false_iff_not]; rintro rfl; exact HN.out (L1.out.symm.trans L3.out)), QQ.out⟩

set_option maxHeartbeats 1000000 in
theorem rints_any (A B : Option Addr) (n c m d : Nat) (l l2 : List Int) (w : World) (h1 : Lst numK w A n l) (h2 : Lst numK w B m l2) (hn : n ≤ maxLen) (hm : m ≤ maxLen) :
    Calls Try.prog 15 #[.slice A n c, .slice B m d] w fun e w' => e = .returned (.bool (decide (l = l2))) ∧ Q w w' := by
  unfold maxLen at hn hm
  have H1 := Lib.hid h1
  have H2 := Lib.hid h2
  have L1 := Lib.hid h1.len
  have L2 := Lib.hid h2.len
  clear h1 h2
  by_cases hnm : n = m
  · subst hnm
    go_enter Try.func15, Try.ntmps15
    go_wp2
    go_loopw [5] (fun i wr => ∃ k : Nat, k ≤ n ∧ i = .int .i64 k ∧ Q w wr ∧ l.take k = l2.take k) (fun i _ => n - (intOf i).toNat)
    case atStart => exact ⟨0, Nat.zero_le _, rfl, Q.refl _, by simp⟩
    case round =>
      obtain ⟨k, hk, rfl, hq, ht⟩ := hrel
      have HT := Lib.hid ht
      clear ht
      by_cases hlt : k < n
      · have k1 : k < l.length := by have := L1.out; omega
        have k2 : k < l2.length := by have := L2.out; omega
        obtain ⟨ad, rfl, hb, c0⟩ := load_num (H1.out.q hq) hlt k1
        obtain ⟨ae, rfl, he, d0⟩ := load_num (H2.out.q hq) hlt k2
        have hne : (l[k] != l2[k]) = !decide (l[k] = l2[k]) := by by_cases h : l[k] = l2[k] <;> simp [h]
        have hkn : (k : Int) < (n : Int) := by omega
        by_cases heq : l[k] = l2[k]
        · have hd : decide (l[k] = l2[k]) = true := by simpa using heq
          rw [hd] at hne
          have HE := Lib.hid heq
          clear heq
          go_wp2
          go_quiet (fail)
          go_wp2
          go_roundw
          case rel => exact ⟨k + 1, by omega, by go_num, hq.drewN _, by rw [List.take_succ_eq_append_getElem k1, List.take_succ_eq_append_getElem k2, HT.out, HE.out]⟩
          case measure => simp [intOf]; omega
        · have hd : decide (l[k] = l2[k]) = false := by simpa using heq
          rw [hd] at hne
          have HE := Lib.hid heq
          clear heq
          go_wp2
          go_quiet (fail)
          go_wp2
          go_ret
          exact ⟨ret_bool (by symm; simp only [decide_eq_false_iff_not]; rintro rfl; exact HE.out rfl), hq.drewN _⟩
      · go_wp2
        go_ret
        exact ⟨ret_bool (by symm; simp only [decide_eq_true_eq]; have h1 := HT.out; rwa [List.take_of_length_le (by have := L1.out; omega), List.take_of_length_le (by have := L2.out; omega)] at h1), hq⟩
  · have hb : ((n : Int) != (m : Int)) = true := by simp; omega
    have HN := Lib.hid hnm
    clear hnm
    go_enter Try.func15, Try.ntmps15
    go_wp2
    go_ret
    exact ⟨ret_bool (by symm; simp only [decide_eq_false_iff_not]; rintro rfl; exact HN.out (L1.out.symm.trans L2.out)), Q.refl _⟩
end Go.Proofs.Ytenemdpjhoebpaa
