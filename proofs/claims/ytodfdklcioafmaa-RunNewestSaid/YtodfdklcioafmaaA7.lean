/- MergeRef, Flat, KindIn, TableShown, PairIn, RunFold, SumMath, SumWalks, Bytes, DecMath: merged. -/
import Derived.Test.YtodfdklcioafmaaA6
import Derived.Test.YtodfdklcioafmaaA2
import Derived.Test.YtodfdklcioafmaaA1
import Derived.Test.YtodfdklcioafmaaA3
import Derived.Test.YtodfdklcioafmaaA5
import Derived.Laws.StructEq
import Derived.Laws.BitsLemmas
import Derived.Laws.IdiomStrings
import Derived.Laws.OwnMore
import Derived.Laws.Rows
/- The contract of the document's Merge: its walk. -/
namespace Go.Proofs.Ytodfdklcioafmaa
set_option maxRecDepth 100000
open Go.RowKit Prm
set_option linter.unusedVariables false
set_option linter.unusedSimpArgs false
variable {α : Type}

theorem Lst.take {K : Kind α} {w : World} {A : Option Addr} {n : Nat} {l : List α} (h : Lst K w A n l) {k : Nat} (hk : k ≤ n) : Lst K w A k (l.take k) := by
  refine ⟨by rw [K.rows_len, List.length_take, h.len, Nat.min_eq_left hk], fun j u hu => h.2 j u ?_⟩
  rw [K.rows_take, List.getElem?_take] at hu
  split at hu
  · exact hu
  · cases hu
theorem Lst.drop {K : Kind α} {w : World} {ad : Addr} {n : Nat} {l : List α} (h : Lst K w (some ad) n l) {k : Nat} (hk : k ≤ n) : Lst K w (some (ad.add (k * K.k))) (n - k) (l.drop k) := by
  refine ⟨by rw [K.rows_len, List.length_drop, h.len], fun j u hu => ?_⟩
  rw [K.rows_drop, List.getElem?_drop] at hu
  obtain ⟨a', e, hb, hc⟩ := h.2 _ u hu
  injection e with e
  subst e
  exact ⟨_, rfl, by rw [addr_block]; exact hb, by rw [addr_add]; exact hc⟩

/-- no write from k + 1 to j has that key. -/
def lastTo (ws : List Wr) (k j : Nat) (key : ByteArray) : Bool := ((ws.take j).drop (k + 1)).all fun w => decide (w.key ≠ key)
theorem lastTo_start (ws : List Wr) (k : Nat) (key : ByteArray) : lastTo ws k (k + 1) key = true := by
  unfold lastTo
  rw [List.drop_of_length_le (by rw [List.length_take]; omega)]; rfl
theorem lastTo_step {ws : List Wr} {k j : Nat} {key : ByteArray} (hk : k + 1 ≤ j) (hj : j < ws.length) : lastTo ws k (j + 1) key = (lastTo ws k j key && decide (ws[j].key ≠ key)) := by
  unfold lastTo
  rw [List.take_succ_eq_append_getElem hj, List.drop_append_of_le_length (by rw [List.length_take]; omega), List.all_append]
  simp
theorem lastTo_end {ws : List Wr} {k j : Nat} {key : ByteArray} (hj : ws.length ≤ j) : lastTo ws k j key = Mg.isLast ws k key := by
  unfold lastTo Mg.isLast
  rw [List.take_of_length_le hj]
theorem upTo_yes {ws : List Wr} {k : Nat} (hk : k < ws.length) (h : Mg.isLast ws k ws[k].key = true) : Mg.upTo ws (k + 1) = Mg.insW ws[k] (Mg.upTo ws k) := by
  rw [Mg.upTo, List.getElem?_eq_getElem hk]; simp only [h, if_true]
theorem upTo_no {ws : List Wr} {k : Nat} (hk : k < ws.length) (h : Mg.isLast ws k ws[k].key = false) : Mg.upTo ws (k + 1) = Mg.upTo ws k := by
  rw [Mg.upTo, List.getElem?_eq_getElem hk]; simp [h]

theorem ins_len {o : List Wr} {x : Wr} {i : Nat} (hi : i ≤ o.length) : (o.take i ++ [x] ++ o.drop i).length = o.length + 1 := by
  rw [List.length_append, List.length_append, List.length_take, List.length_drop, List.length_singleton]; omega

/-- what the rows are behind k writes. -/
structure MrS (w1 : World) (N : Nat) (ws o : List Wr) (v : Value) (wr : World) : Prop where
  q : Q w1 wr
  row : ∃ A3 c3, v = .slice A3 o.length c3 ∧ OwnK writeK wr w1.heap.size A3 o.length c3 o
theorem MrS.drewN {w1 : World} {N : Nat} {ws o : List Wr} {v : Value} {wr : World} (h : MrS w1 N ws o v wr) (n : Nat) : MrS w1 N ws o v (wr.drewN n) := by
  obtain ⟨q, A3, c3, e, h⟩ := h
  exact ⟨q.drewN n, A3, c3, e, h.q ((Q.refl _).drewN n)⟩

set_option maxHeartbeats 8000000 in
set_option maxRecDepth 100000 in
theorem refMerge_any (A B : Option Addr) (n c m d : Nat) (l l2 : List Wr) (w : World) (h1 : In_ writeK w A n c l) (h2 : In_ writeK w B m d l2) (hs : (n + m) * 40 ≤ 140737488355328) (hk : WKeysIn (l ++ l2)) :
    Calls Try.prog 19 #[.slice A n c, .slice B m d] w fun e w' => RetL writeK w (Mg.mrg (l ++ l2)).length (Mg.mrg (l ++ l2)) e w' := by
  obtain ⟨ws, hws⟩ : ∃ ws, l ++ l2 = ws := ⟨_, rfl⟩
  rw [hws]
  rw [hws] at hk
  have HWS := Lib.hid hws
  have H1 := Lib.hid h1
  have H2 := Lib.hid h2
  have HS := Lib.hid hs
  have HK := Lib.hid hk
  have HWl := Lib.hid (show ws.length = n + m by rw [← hws, List.length_append, h1.len, h2.len])
  have hnm : n + m ≤ 3518437208883 := by omega
  clear h1 h2 hs hk hws
  go_enter Try.func19, Try.ntmps19
  go_upto_region 2 with (
               at_builtin
               refine wpl_appK writeK rfl (.tmp 12) (.tmp 13) 39 rfl rfl w.heap.size (some ⟨w.heap.size, 0, none⟩) 0 0 [] rfl (OwnK.lit0 writeK w _ (Nat.le_refl _)) A n c l rfl (H1.out.lst.q ((Q.refl _).alloc _)) H1.out.nil (by have := H1.out.few; simpa using this) (by simp) ?_
               intro A0 c0 w0 o0 b0
               have S0 := Lib.hid (show OwnK writeK w0 w.heap.size A0 n c0 l ∧ Q w w0 from ⟨by simpa using o0, ((Q.refl w).alloc _).below.trans b0⟩)
               clear o0 b0)
  go_upto_region 4 with (
               at_builtin
               refine wpl_appK writeK rfl (.tmp 15) (.tmp 16) 39 rfl rfl w.heap.size A0 n c0 l rfl S0.out.1 B m d l2 rfl (H2.out.lst.q S0.out.2) H2.out.nil HS.out S0.out.2.size ?_
               intro A1 c1 w1 o1 b1
               have L1 := Lib.hid (show Lst writeK w1 A1 (n + m) ws by rw [← HWS.out]; exact o1.lst)
               have Q1 := Lib.hid (show Q w w1 from S0.out.2.below.trans b1)
               clear o1 b1 S0)
  clear H1 H2 HWS
  generalize n + m = N at hnm HS HWl L1 ⊢
  go_wp2
  go_loopw [6, 7] (fun v i wr => ∃ k : Nat, k ≤ N ∧ i = .int .i64 k ∧ MrS w1 N ws (Mg.upTo ws k) v wr) (fun _ i _ => N - (intOf i).toNat)
  case atStart => exact ⟨0, Nat.zero_le _, rfl, Q.refl _, none, 0, rfl, OwnK.nil_ _ _ _⟩
  case round =>
    obtain ⟨k, hk, rfl, q3, A3, c3, rfl, o3⟩ := hrel
    have O3 := Lib.hid o3
    have Q3 := Lib.hid q3
    have hol := Lib.hid (Mg.upTo_len ws k)
    clear o3 q3
    by_cases hlt : k < N
    · have hkl : k < ws.length := by have := HWl.out; omega
      have hkN : (k : Int) < (N : Int) := by omega
      have HKl := Lib.hid hkl
      obtain ⟨x, hx⟩ : ∃ x, ws[k] = x := ⟨_, rfl⟩
      have HY := Lib.hid (show Mg.isLast ws k x.key = true → Mg.upTo ws (k + 1) = Mg.insW x (Mg.upTo ws k) by subst hx; exact fun h => upTo_yes hkl h)
      have HN := Lib.hid (show Mg.isLast ws k x.key = false → Mg.upTo ws (k + 1) = Mg.upTo ws k by subst hx; exact fun h => upTo_no hkl h)
      have HKx := Lib.hid (show x.key.size ≤ maxLen by subst hx; exact HK.out _ (List.getElem_mem hkl))
      have HL0 := Lib.hid (show ∀ wy, Q w1 wy → ∃ ad, A1 = some ad ∧ ad.block < wy.heap.size ∧ wy.cell? (ad.add (k * 3)) = some (.string x.key) ∧ wy.cell? ⟨(ad.add (k * 3)).block, (ad.add (k * 3)).off + 1, none⟩ = some (.string x.val) ∧ wy.cell? ⟨(ad.add (k * 3)).block, (ad.add (k * 3)).off + 2, none⟩ = some (.bool x.del) by subst hx; exact fun wy q => load_write (L1.out.q q) hlt hkl)
      have HX := Lib.hid hx
      clear hx
      go_wp2
      go_loopw [8, 9] (fun s8 s9 wy => ∃ j : Nat, k + 1 ≤ j ∧ j ≤ N ∧ s9 = .int .i64 j ∧ s8 = .bool (lastTo ws k j x.key) ∧ MrS w1 N ws (Mg.upTo ws k) (.slice A3 (Mg.upTo ws k).length c3) wy) (fun _ s9 _ => N - (intOf s9).toNat)
      case atStart => exact ⟨k + 1, Nat.le_refl _, hlt, by go_num, by rw [lastTo_start], Q3.out, A3, c3, rfl, O3.out⟩
      case round =>
        obtain ⟨j, hkj, hj, rfl, rfl, hm⟩ := hrel
        obtain ⟨qy, A4, c4, e4, oy⟩ := hm
        injection e4 with e4 _ e5
        subst e4 e5
        have QY := Lib.hid qy
        have OY := Lib.hid oy
        have HKJ := Lib.hid hkj
        clear qy oy
        by_cases hjt : j < N
        · have hjl : j < ws.length := by have := HWl.out; omega
          have hjN : (j : Int) < (N : Int) := by omega
          have HS1 := Lib.hid (lastTo_step (key := x.key) hkj hjl)
          obtain ⟨ad, rfl, hab, x0, x1, x2⟩ := HL0.out _ QY.out
          obtain ⟨ad', ea, hab', y0, y1, y2⟩ := load_write (L1.out.q QY.out) hjt hjl
          injection ea with ea
          subst ea
          have e1 := same_str ws[j].key x.key
          generalize ws[j] = y at y0 y1 y2 e1 HS1
          clear x1 x2 y1 y2
          by_cases hb : lastTo ws k j x.key = true
          · rw [hb] at HS1 ⊢
            by_cases hy : y.key = x.key
            · have HS2 := Lib.hid (show lastTo ws k (j + 1) x.key = false by rw [HS1.out]; simp [hy])
              rw [decide_eq_true hy] at e1
              have e2 : (y.key.toList != x.key.toList) = false := by simp [bne, e1]
              clear hy hb
              go_wp2
              go_quiet (fail)
              go_wp2
              go_roundw
              case rel => exact ⟨j + 1, by omega, by omega, by go_num, by rw [HS2.out], QY.out.drewN _, A3, c3, rfl, OY.out.q ((Q.refl _).drewN _)⟩
              case measure => simp [intOf]; omega
            · have HS2 := Lib.hid (show lastTo ws k (j + 1) x.key = true by rw [HS1.out]; simp [hy])
              rw [decide_eq_false hy] at e1
              have e2 : (y.key.toList != x.key.toList) = true := by simp [bne, e1]
              clear hy hb
              go_wp2
              go_quiet (fail)
              go_wp2
              go_roundw
              case rel => exact ⟨j + 1, by omega, by omega, by go_num, by rw [HS2.out], QY.out.drewN _, A3, c3, rfl, OY.out.q ((Q.refl _).drewN _)⟩
              case measure => simp [intOf]; omega
          · have hb : lastTo ws k j x.key = false := by simpa using hb
            rw [hb] at HS1 ⊢
            have HS2 := Lib.hid (show lastTo ws k (j + 1) x.key = false by rw [HS1.out]; simp)
            clear hb e1
            go_wp2
            go_quiet (fail)
            go_wp2
            go_roundw
            case rel => exact ⟨j + 1, by omega, by omega, by go_num, by rw [HS2.out], QY.out.drewN _, A3, c3, rfl, OY.out.q ((Q.refl _).drewN _)⟩
            case measure => simp [intOf]; omega
        · have HE := Lib.hid (lastTo_end (k := k) (key := x.key) (show ws.length ≤ j by have := HWl.out; omega))
          rw [HE.out]
          have hjN : ¬ (j : Int) < (N : Int) := by omega
          by_cases hb : Mg.isLast ws k x.key = true
          · rw [hb]
            have HI := Lib.hid (HY.out hb)
            clear hb
            have HOk := Lib.hid (show WKeysIn (Mg.upTo ws k) from fun a ha => by obtain ⟨j, hj, _, rfl, _⟩ := ((Mg.upTo_spec ws k (Nat.le_of_lt HKl.out)).2 a).1 ha; exact HK.out _ (List.getElem_mem hj))
            have HOl := Lib.hid (show (Mg.insW x (Mg.upTo ws k)).length ≤ N by rw [← HI.out]; have := Mg.upTo_len ws (k + 1); omega)
            obtain ⟨o2, ho2⟩ : ∃ o2, Mg.upTo ws (k + 1) = o2 := ⟨_, rfl⟩
            have HO2 := Lib.hid ho2
            rw [ho2] at HI
            clear ho2 HY HN HX HE
            generalize Mg.upTo ws k = o at OY HI HOk HOl hol ⊢
            have hon : o.length ≤ 3518437208883 := by have := hol.out; omega
            clear O3 Q3 HKJ hj hjt
            go_wp2
            go_loopw [10] (fun s10 wz => ∃ i : Nat, i ≤ o.length ∧ s10 = .int .i64 i ∧ (∀ j, ∀ h : j < o.length, j < i → lt o[j].key x.key = true) ∧ Q w1 wz ∧ OwnK writeK wz w1.heap.size A3 o.length c3 o) (fun s10 _ => o.length - (intOf s10).toNat)
            case atStart => exact ⟨0, Nat.zero_le _, rfl, fun j _ h => by omega, QY.out, OY.out⟩
            case round =>
              obtain ⟨i, hi, rfl, hall, qz, oz⟩ := hrel
              have HA := Lib.hid hall
              have QZ := Lib.hid qz
              have OZ := Lib.hid oz
              clear hall qz oz
              by_cases hio : i < o.length
              · have hiN : (i : Int) < (o.length : Int) := by omega
                obtain ⟨ad, rfl, hab, x0, x1, x2⟩ := HL0.out _ QZ.out
                obtain ⟨ae, rfl, hae, y0, y1, y2⟩ := load_write OZ.out.lst hio hio
                have K1 := Lib.hid (fun W => less_any o[i].key x.key W (HOk.out _ (List.getElem_mem hio)) HKx.out)
                by_cases hl : lt o[i].key x.key = true
                · have HA2 := Lib.hid (show ∀ j, ∀ h : j < o.length, j < i + 1 → lt o[j].key x.key = true from fun j h hj => by
                    by_cases e : j < i
                    · exact HA.out j h e
                    · have e : j = i := by omega
                      subst e; exact hl)
                  rw [hl] at K1
                  generalize o[i] = y at y0 y1 y2 K1
                  clear y1 y2 x1 x2 hl
                  go_wp2
                  go_quiet ((go_at_call 44; exact Calls.quiet_of (K1.out _)))
                  all_goals
                    go_wp2
                    go_roundw
                    case rel => exact ⟨i + 1, by omega, by go_num, HA2.out, QZ.out.drewN _, OZ.out.q ((Q.refl _).drewN _)⟩
                    case measure => simp [intOf]; omega
                · have hl : lt o[i].key x.key = false := by simpa using hl
                  have hE := Lib.hid (show o2 = o.take i ++ [x] ++ o.drop i by rw [HI.out, Mg.insW_at hi HA.out fun _ => hl]; simp)
                  rw [hl] at K1
                  generalize o[i] = y at y0 y1 y2 K1
                  clear y1 y2 x1 x2 hl
                  go_wp2
                  go_quiet ((go_at_call 44; exact Calls.quiet_of (K1.out _)))
                  all_goals
                    clear x0 y0 K1
                    have HOl2 := Lib.hid (show o.length + 1 ≤ N by have := HOl.out; rw [← HI.out, hE.out, ins_len hi] at this; exact this)
                    have HOl3 := Lib.hid (show o2.length = i + 1 + (o.length - i) by rw [hE.out, ins_len hi]; omega)
                    have hci : i < c3 := Nat.lt_of_lt_of_le hio OZ.out.le
                    go_upto_region 17 with (
                      at_builtin
                      refine wpl_appK writeK rfl (.tmp 67) (.tmp 70) 39 rfl rfl wr.heap.size (some ⟨wr.heap.size, 0, none⟩) 0 0 [] rfl (OwnK.lit0 writeK (wr.drewN nq) _ (Nat.le_refl _)) (some ae) i c3 (o.take i) rfl ((OZ.out.lst.take hi).q (((Q.refl _).drewN nq).alloc _)) (fun e => by cases e) (by show (0 + i) * 40 ≤ _; omega) (by simp) ?_
                      intro A5 c5 w5 o5 b5
                      have S5 := Lib.hid (show OwnK writeK w5 wr.heap.size A5 i c5 (o.take i) ∧ Q wr w5 from ⟨by simpa using o5, (((Q.refl wr).drewN nq).alloc _).below.trans b5⟩)
                      clear o5 b5)
                    obtain ⟨ad5, ea5, hab5, z0, z1, z2⟩ := HL0.out _ (QZ.out.trans S5.out.2)
                    (first | (injection ea5 with ea5; subst ea5) | subst ea5)
                    go_upto_region 18 with (
                      at_builtin
                      refine wpl_appK writeK rfl (.tmp 72) (.tmp 77) 39 rfl rfl wr.heap.size A5 i c5 (o.take i) rfl (S5.out.1.alloc _) (some ⟨w5.heap.size, 0, none⟩) 1 1 [x] rfl (lit_write w5 x).lst (fun e => by cases e) (by have := HOl2.out; have := HS.out; show (i + 1) * 40 ≤ _; omega) (by have := S5.out.2.size; simp; omega) ?_
                      intro A6 c6 w6 o6 b6
                      have S6 := Lib.hid (show OwnK writeK w6 wr.heap.size A6 (i + 1) c6 ((o.take i) ++ [x]) ∧ Q wr w6 from ⟨o6, (S5.out.2.alloc _).below.trans b6⟩)
                      clear o6 b6)
                    clear z0 z1 z2
                    go_wp2_with (
                      at_builtin
                      refine wpl_appK writeK rfl (.tmp 79) (.tmp 82) 39 rfl rfl wr.heap.size A6 (i + 1) c6 ((o.take i) ++ [x]) rfl S6.out.1 (some (ae.add (i * 3))) (o.length - i) (c3 - i) (o.drop i) rfl ((OZ.out.lst.drop hi).q S6.out.2) (fun e => by cases e) (by have := HOl2.out; have := HS.out; show (_ + _) * 40 ≤ _; omega) S6.out.2.size ?_
                      intro A7 c7 w7 o7 b7
                      have S7 := Lib.hid (show MrS w1 N ws o2 (.slice A7 (i + 1 + (o.length - i)) c7) w7 from ⟨QZ.out.trans (S6.out.2.below.trans b7), A7, c7, (by rw [HOl3.out]; try rfl), by rw [HOl3.out, hE.out]; exact o7.lower QZ.out.size⟩)
                      clear o7 b7)
                    go_roundw
                    case rel => exact ⟨k + 1, by omega, by go_num, by rw [HO2.out]; exact S7.out⟩
                    case measure => simp [intOf]; omega
              · have hie : i = o.length := by omega
                subst hie
                have hE := Lib.hid (show o2 = o ++ [x] ++ [] by rw [HI.out, Mg.insW_at hi HA.out fun h => absurd h hio]; simp)
                clear hio
                go_wp2
                go_quiet (fail)
                all_goals
                  have HOl3 := Lib.hid (show o2.length = o.length + 1 + 0 by rw [hE.out]; simp)
                  have HOl2 := Lib.hid (show o.length + 1 ≤ N by have := HOl.out; rw [← HI.out, HOl3.out] at this; exact this)
                  rcases OZ.out.parts with ⟨rfl, h0, rfl, rfl⟩ | ⟨g, cur, rfl, _⟩
                  · skip
                    go_upto_region 17 with (
                      at_builtin
                      refine wpl_appK writeK rfl (.tmp 67) (.tmp 70) 39 rfl rfl wr.heap.size (some ⟨wr.heap.size, 0, none⟩) 0 0 [] rfl (OwnK.lit0 writeK (wr.drewN nq) _ (Nat.le_refl _)) none 0 0 [] rfl (Lst.nil _ _) (fun _ => ⟨rfl, rfl⟩) (by simp) (by have := (QZ.out.drewN nq).size; simp) ?_
                      intro A5 c5 w5 o5 b5
                      have S5 := Lib.hid (show OwnK writeK w5 wr.heap.size A5 0 c5 [] ∧ Q wr w5 from ⟨by simpa using o5, (((Q.refl wr).drewN nq).alloc _).below.trans b5⟩)
                      clear o5 b5)
                    obtain ⟨ad5, ea5, hab5, z0, z1, z2⟩ := HL0.out _ (QZ.out.trans S5.out.2)
                    (first | (injection ea5 with ea5; subst ea5) | subst ea5)
                    go_upto_region 18 with (
                      at_builtin
                      refine wpl_appK writeK rfl (.tmp 72) (.tmp 77) 39 rfl rfl wr.heap.size A5 0 c5 [] rfl (S5.out.1.alloc _) (some ⟨w5.heap.size, 0, none⟩) 1 1 [x] rfl (lit_write w5 x).lst (fun e => by cases e) (by have := HOl2.out; have := HS.out; show (0 + 1) * 40 ≤ _; omega) (by have := S5.out.2.size; simp; omega) ?_
                      intro A6 c6 w6 o6 b6
                      have S6 := Lib.hid (show OwnK writeK w6 wr.heap.size A6 (0 + 1) c6 ([] ++ [x]) ∧ Q wr w6 from ⟨o6, (S5.out.2.alloc _).below.trans b6⟩)
                      clear o6 b6)
                    clear z0 z1 z2
                    go_wp2_with (
                      at_builtin
                      refine wpl_appK writeK rfl (.tmp 79) (.tmp 82) 39 rfl rfl wr.heap.size A6 (0 + 1) c6 ([] ++ [x]) rfl S6.out.1 none 0 0 [] rfl (Lst.nil _ _) (fun _ => ⟨rfl, rfl⟩) (by have := HOl2.out; have := HS.out; show (_ + _) * 40 ≤ _; omega) S6.out.2.size ?_
                      intro A7 c7 w7 o7 b7
                      have S7 := Lib.hid (show MrS w1 N ws o2 (.slice A7 (0 + 1 + 0) c7) w7 from ⟨QZ.out.trans (S6.out.2.below.trans b7), A7, c7, (by rw [HOl3.out]; try rfl), by rw [HOl3.out, hE.out]; exact o7.lower QZ.out.size⟩)
                      clear o7 b7)
                    go_roundw
                    case rel => exact ⟨k + 1, by omega, by go_num, by rw [HO2.out]; exact S7.out⟩
                    case measure => simp [intOf]; omega
                  · obtain ⟨ae, hae⟩ : ∃ ae : Addr, ae = ⟨g, 0, none⟩ := ⟨_, rfl⟩
                    rw [← hae] at OZ ⊢
                    clear hae
                    by_cases hci : o.length < c3
                    · skip
                      go_upto_region 17 with (
                        at_builtin
                        refine wpl_appK writeK rfl (.tmp 67) (.tmp 70) 39 rfl rfl wr.heap.size (some ⟨wr.heap.size, 0, none⟩) 0 0 [] rfl (OwnK.lit0 writeK (wr.drewN nq) _ (Nat.le_refl _)) (some ae) o.length c3 o rfl (OZ.out.lst.q (((Q.refl _).drewN nq).alloc _)) (fun e => by cases e) (by show (0 + o.length) * 40 ≤ _; omega) (by simp) ?_
                        intro A5 c5 w5 o5 b5
                        have S5 := Lib.hid (show OwnK writeK w5 wr.heap.size A5 o.length c5 o ∧ Q wr w5 from ⟨by simpa using o5, (((Q.refl wr).drewN nq).alloc _).below.trans b5⟩)
                        clear o5 b5)
                      obtain ⟨ad5, ea5, hab5, z0, z1, z2⟩ := HL0.out _ (QZ.out.trans S5.out.2)
                      (first | (injection ea5 with ea5; subst ea5) | subst ea5)
                      go_upto_region 18 with (
                        at_builtin
                        refine wpl_appK writeK rfl (.tmp 72) (.tmp 77) 39 rfl rfl wr.heap.size A5 o.length c5 o rfl (S5.out.1.alloc _) (some ⟨w5.heap.size, 0, none⟩) 1 1 [x] rfl (lit_write w5 x).lst (fun e => by cases e) (by have := HOl2.out; have := HS.out; show (o.length + 1) * 40 ≤ _; omega) (by have := S5.out.2.size; simp; omega) ?_
                        intro A6 c6 w6 o6 b6
                        have S6 := Lib.hid (show OwnK writeK w6 wr.heap.size A6 (o.length + 1) c6 (o ++ [x]) ∧ Q wr w6 from ⟨o6, (S5.out.2.alloc _).below.trans b6⟩)
                        clear o6 b6)
                      clear z0 z1 z2
                      go_wp2_with (
                        at_builtin
                        refine wpl_appK writeK rfl (.tmp 79) (.tmp 82) 39 rfl rfl wr.heap.size A6 (o.length + 1) c6 (o ++ [x]) rfl S6.out.1 (some (ae.add (o.length * 3))) 0 (c3 - o.length) [] rfl (Lst.nil _ _) (fun e => by cases e) (by have := HOl2.out; have := HS.out; show (_ + _) * 40 ≤ _; omega) S6.out.2.size ?_
                        intro A7 c7 w7 o7 b7
                        have S7 := Lib.hid (show MrS w1 N ws o2 (.slice A7 (o.length + 1 + 0) c7) w7 from ⟨QZ.out.trans (S6.out.2.below.trans b7), A7, c7, (by rw [HOl3.out]; try rfl), by rw [HOl3.out, hE.out]; exact o7.lower QZ.out.size⟩)
                        clear o7 b7)
                      go_roundw
                      case rel => exact ⟨k + 1, by omega, by go_num, by rw [HO2.out]; exact S7.out⟩
                      case measure => simp [intOf]; omega
                    · have hci2 : c3 = o.length := by have := OZ.out.le; omega
                      subst hci2
                      go_upto_region 17 with (
                        at_builtin
                        refine wpl_appK writeK rfl (.tmp 67) (.tmp 70) 39 rfl rfl wr.heap.size (some ⟨wr.heap.size, 0, none⟩) 0 0 [] rfl (OwnK.lit0 writeK (wr.drewN nq) _ (Nat.le_refl _)) (some ae) o.length o.length o rfl (OZ.out.lst.q (((Q.refl _).drewN nq).alloc _)) (fun e => by cases e) (by show (0 + o.length) * 40 ≤ _; omega) (by simp) ?_
                        intro A5 c5 w5 o5 b5
                        have S5 := Lib.hid (show OwnK writeK w5 wr.heap.size A5 o.length c5 o ∧ Q wr w5 from ⟨by simpa using o5, (((Q.refl wr).drewN nq).alloc _).below.trans b5⟩)
                        clear o5 b5)
                      obtain ⟨ad5, ea5, hab5, z0, z1, z2⟩ := HL0.out _ (QZ.out.trans S5.out.2)
                      (first | (injection ea5 with ea5; subst ea5) | subst ea5)
                      go_upto_region 18 with (
                        at_builtin
                        refine wpl_appK writeK rfl (.tmp 72) (.tmp 77) 39 rfl rfl wr.heap.size A5 o.length c5 o rfl (S5.out.1.alloc _) (some ⟨w5.heap.size, 0, none⟩) 1 1 [x] rfl (lit_write w5 x).lst (fun e => by cases e) (by have := HOl2.out; have := HS.out; show (o.length + 1) * 40 ≤ _; omega) (by have := S5.out.2.size; simp; omega) ?_
                        intro A6 c6 w6 o6 b6
                        have S6 := Lib.hid (show OwnK writeK w6 wr.heap.size A6 (o.length + 1) c6 (o ++ [x]) ∧ Q wr w6 from ⟨o6, (S5.out.2.alloc _).below.trans b6⟩)
                        clear o6 b6)
                      clear z0 z1 z2
                      go_wp2_with (
                        at_builtin
                        refine wpl_appK writeK rfl (.tmp 79) (.tmp 82) 39 rfl rfl wr.heap.size A6 (o.length + 1) c6 (o ++ [x]) rfl S6.out.1 (some ae) 0 0 [] rfl (Lst.nil _ _) (fun e => by cases e) (by have := HOl2.out; have := HS.out; show (_ + _) * 40 ≤ _; omega) S6.out.2.size ?_
                        intro A7 c7 w7 o7 b7
                        have S7 := Lib.hid (show MrS w1 N ws o2 (.slice A7 (o.length + 1 + 0) c7) w7 from ⟨QZ.out.trans (S6.out.2.below.trans b7), A7, c7, (by rw [HOl3.out]; try rfl), by rw [HOl3.out, hE.out]; exact o7.lower QZ.out.size⟩)
                        clear o7 b7)
                      go_roundw
                      case rel => exact ⟨k + 1, by omega, by go_num, by rw [HO2.out]; exact S7.out⟩
                      case measure => simp [intOf]; omega
          · have hb : Mg.isLast ws k x.key = false := by simpa using hb
            rw [hb]
            have HI := Lib.hid (HN.out hb)
            clear hb
            go_wp2
            go_roundw
            case rel => exact ⟨k + 1, by omega, by go_num, QY.out, A3, c3, by rw [HI.out], by rw [HI.out]; exact OY.out⟩
            case measure => simp [intOf]; omega
    · have HE := Lib.hid (show Mg.upTo ws k = Mg.mrg ws by unfold Mg.mrg; rw [HWl.out, show k = N by omega])
      rw [HE.out] at O3 ⊢
      go_wp2
      go_ret
      exact ⟨A3, c3, rfl, O3.out.lower Q1.out.size, Q1.out.trans Q3.out⟩
end Go.Proofs.Ytodfdklcioafmaa

/- Lists whose elements lie flat in memory, out of what is known of each element. -/
namespace Go.Proofs.Ytodfdklcioafmaa
set_option maxRecDepth 100000
open Go.ChangeShapes Go.WideShapes Go.RowKit
set_option linter.unusedVariables false

theorem choose_list {α : Type} {R : Nat → α → Prop} : ∀ (n : Nat), (∀ i, i < n → ∃ a, R i a) → ∃ l : List α, l.length = n ∧ ∀ i (hi : i < l.length), R i l[i]
  | 0, _ => ⟨[], rfl, fun i hi => by simp at hi⟩
  | n + 1, h => by
    obtain ⟨l, hl, hr⟩ := choose_list n (fun i hi => h i (by omega))
    obtain ⟨a, ha⟩ := h n (by omega)
    refine ⟨l ++ [a], by simp [hl], fun i hi => ?_⟩
    by_cases hlt : i < l.length
    · rw [List.getElem_append_left hlt]; exact hr i hlt
    · have e : i = l.length := by simp at hi; omega
      subst e
      rw [List.getElem_append_right (Nat.le_refl _)]
      simpa [hl] using ha

theorem flat_at {α : Type} (g : α → List Value) (k : Nat) (hg : ∀ a, (g a).length = k) : ∀ (l : List α) (j : Nat) (u : Value), (l.flatMap g)[j]? = some u → ∃ i r, ∃ hi : i < l.length, j = i * k + r ∧ r < k ∧ (g l[i])[r]? = some u
  | [], j, u, h => by simp at h
  | a :: l, j, u, h => by
    rw [List.flatMap_cons] at h
    by_cases hj : j < k
    · rw [List.getElem?_append_left (by rw [hg]; exact hj)] at h
      exact ⟨0, j, by simp, by omega, hj, by simpa using h⟩
    · rw [List.getElem?_append_right (by rw [hg]; omega), hg] at h
      obtain ⟨i, r, hi, he, hr, hu⟩ := flat_at g k hg l (j - k) u h
      refine ⟨i + 1, r, by simpa using hi, ?_, hr, by simpa using hu⟩
      rw [Nat.succ_mul]; omega
theorem flat_len {α : Type} (g : α → List Value) (k : Nat) (hg : ∀ a, (g a).length = k) : ∀ (l : List α), (l.flatMap g).length = l.length * k
  | [] => by simp
  | a :: l => by rw [List.flatMap_cons, List.length_append, hg, flat_len g k hg l, List.length_cons, Nat.succ_mul]; omega
theorem holds_flat {α : Type} (g : α → List Value) (k : Nat) (hg : ∀ a, (g a).length = k) (w : World) (ad : Addr) (l : List α) (h : ∀ i (hi : i < l.length), w.cells? 0 (ad.add (i * k)) k = some (g l[i])) :
    Holds w w.heap.size k (some ad) l.length (l.flatMap g) := by
  refine ⟨flat_len g k hg l, fun j u hu => ?_⟩
  obtain ⟨i, r, hi, rfl, hr, hv⟩ := flat_at g k hg l j u hu
  obtain ⟨_, _, hat⟩ := World.cells?_some (h i hi)
  have hc := hat r hr
  rw [hv, addr_add] at hc
  refine ⟨ad, rfl, ?_, hc⟩
  have := block_lt_of_cell hc
  rwa [addr_block] at this

theorem wf_i64 {x : Int} (h : (Lit.int .i64 x).wf = true) : -9223372036854775808 ≤ x ∧ x ≤ 9223372036854775807 := by
  simp only [Lit.wf, Bool.and_eq_true, decide_eq_true_eq] at h
  have e1 : IntKind.i64.min = -9223372036854775808 := by decide
  have e2 : IntKind.i64.max = 9223372036854775807 := by decide
  omega
end Go.Proofs.Ytodfdklcioafmaa

/- What comes in: a list of a kind of elements, opened out of a reading. -/
namespace Go.Proofs.Ytodfdklcioafmaa
set_option maxRecDepth 100000
open Go.ChangeShapes Go.WideShapes Go.RowKit
set_option linter.unusedVariables false

theorem Kind.rows_flat {α : Type} (K : Kind α) (l : List α) : K.rows l = l.flatMap K.row := by
  induction l with
  | nil => rfl
  | cons f l ih => rw [Kind.rows, ih, List.flatMap_cons]
theorem open_kind {α : Type} (K : Kind α) (P : α → Prop) {w : World} (hel : ∀ cs, Rd w K.T cs → ∃ a, cs = K.row a ∧ P a) (hby : Try.prog.bytesOf K.T = K.bs) (hce : Try.prog.cellsOf K.T = K.k) {cs : List Value} (h : Rd w K.S cs) :
    ∃ A n c l, cs = [.slice A n c] ∧ In_ K w A n c l ∧ n * K.bs ≤ 140737488351232 ∧ ∀ a ∈ l, P a := by
  rcases h.slice K.und with rfl | ⟨a, len, cap, rfl, hlc, hcm, hb, hi⟩
  · exact ⟨none, 0, 0, [], rfl, In_.none_ K w, by simp, by simp⟩
  · rw [hby] at hb
    rw [hce] at hi
    have hlb : len * K.bs ≤ cap * K.bs := Nat.mul_le_mul_right _ hlc
    obtain ⟨l, hl, hr⟩ := choose_list (R := fun i (f : α) => w.cells? 0 (a.add (i * K.k)) K.k = some (K.row f) ∧ P f) len (fun i hlt => by
      obtain ⟨cs', hc, hrd⟩ := hi i (by omega)
      obtain ⟨f, rfl, hf⟩ := hel cs' hrd
      exact ⟨f, hc, hf⟩)
    refine ⟨some a, len, cap, l, rfl, ⟨?_, fun e => by (cases e), hlc, hcm, by omega⟩, by omega, fun f hf => ?_⟩
    · have := holds_flat K.row K.k K.len w a l (fun i hi => (hr i hi).1)
      rw [hl, ← K.rows_flat] at this
      exact this
    · obtain ⟨i, hi, rfl⟩ := List.getElem_of_mem hf
      exact (hr i hi).2
theorem small_list {α : Type} {K : Kind α} {w : World} {A : Option Addr} {n c : Nat} {l : List α} (h : In_ K w A n c l) (hc : ∀ a, A = some a → c ≤ 1048576) : n ≤ 1048576 := by
  have := h.le
  cases A with
  | none => have := (h.nil rfl).1; omega
  | some a => have := hc a rfl; omega
end Go.Proofs.Ytodfdklcioafmaa

/- The examples of chapter 5, at the head of each law. -/
namespace Go.Proofs.Ytodfdklcioafmaa
set_option maxRecDepth 100000
open Go.RowKit Prm
set_option linter.unusedVariables false
set_option linter.unusedSimpArgs false

theorem shown_put1 : put [] ⟨⟨#[98]⟩, ⟨#[50]⟩⟩ = [⟨⟨#[98]⟩, ⟨#[50]⟩⟩] := rfl
theorem shown_put2 : put [⟨⟨#[98]⟩, ⟨#[50]⟩⟩] ⟨⟨#[97]⟩, ⟨#[49]⟩⟩ = [⟨⟨#[97]⟩, ⟨#[49]⟩⟩, ⟨⟨#[98]⟩, ⟨#[50]⟩⟩] := by decide
theorem shown_range : range [⟨⟨#[97]⟩, ⟨#[49]⟩⟩, ⟨⟨#[98]⟩, ⟨#[50]⟩⟩] ⟨#[97]⟩ ⟨#[98]⟩ 9 = [⟨⟨#[97]⟩, ⟨#[49]⟩⟩] := by decide

end Go.Proofs.Ytodfdklcioafmaa

/- What comes in: lists of pairs and of writes. -/
namespace Go.Proofs.Ytodfdklcioafmaa
set_option maxRecDepth 100000
open Go.ChangeShapes Go.WideShapes Go.RowKit Prm
set_option linter.unusedVariables false

def PrIn (p : Pr) : Prop := p.key.size ≤ 140737488351232 ∧ p.val.size ≤ 140737488351232
def WrIn (p : Wr) : Prop := p.key.size ≤ 140737488351232 ∧ p.val.size ≤ 140737488351232
theorem open_pair {w : World} {cs : List Value} (h : Rd w 62 cs) : ∃ p : Pr, cs = pairK.row p ∧ PrIn p := by
  obtain ⟨hl, hf⟩ := h.struct Try.underlying62
  rw [show Try.prog.cellsOf 62 = 2 by kernel_rfl] at hl
  match cs, hl with
  | [a, b], _ =>
    obtain ⟨s0, e0, r0⟩ := (h.field Try.underlying62 0 (ty := 9) 0 1 rfl (by kernel_rfl)).string Try.underlying9
    obtain ⟨s1, e1, r1⟩ := (h.field Try.underlying62 1 (ty := 9) 1 1 rfl (by kernel_rfl)).string Try.underlying9
    simp at e0 e1
    subst e0 e1
    exact ⟨⟨s0, s1⟩, rfl, r0, r1⟩
theorem open_pairs {w : World} {cs : List Value} (h : Rd w 31 cs) : ∃ A n c l, cs = [.slice A n c] ∧ In_ pairK w A n c l ∧ n * 32 ≤ 140737488351232 ∧ ∀ p ∈ l, PrIn p :=
  open_kind pairK PrIn (fun cs hc => open_pair hc) (by kernel_rfl) (by kernel_rfl) h
theorem open_write {w : World} {cs : List Value} (h : Rd w 59 cs) : ∃ p : Wr, cs = writeK.row p ∧ WrIn p := by
  obtain ⟨hl, hf⟩ := h.struct Try.underlying59
  rw [show Try.prog.cellsOf 59 = 3 by kernel_rfl] at hl
  match cs, hl with
  | [a, b, c], _ =>
    obtain ⟨s0, e0, r0⟩ := (h.field Try.underlying59 0 (ty := 9) 0 1 rfl (by kernel_rfl)).string Try.underlying9
    obtain ⟨s1, e1, r1⟩ := (h.field Try.underlying59 1 (ty := 9) 1 1 rfl (by kernel_rfl)).string Try.underlying9
    obtain ⟨s2, e2⟩ := (h.field Try.underlying59 2 (ty := 4) 2 1 rfl (by kernel_rfl)).bool Try.underlying4
    simp at e0 e1 e2
    subst e0 e1 e2
    exact ⟨⟨s0, s1, s2⟩, rfl, r0, r1⟩
theorem open_writes {w : World} {cs : List Value} (h : Rd w 39 cs) : ∃ A n c l, cs = [.slice A n c] ∧ In_ writeK w A n c l ∧ n * 40 ≤ 140737488351232 ∧ ∀ p ∈ l, WrIn p :=
  open_kind writeK WrIn (fun cs hc => open_write hc) (by kernel_rfl) (by kernel_rfl) h
theorem keys_in {l : List Pr} (h : ∀ p ∈ l, PrIn p) : KeysIn l := fun p hp => by have := (h p hp).1; unfold maxLen; omega
theorem wkeys_in {l : List Wr} (h : ∀ p ∈ l, WrIn p) : WKeysIn l := fun p hp => by have := (h p hp).1; unfold maxLen; omega
end Go.Proofs.Ytodfdklcioafmaa

/- Contracts: what writes make of nothing; the document's answer for writes' rows. -/
namespace Go.Proofs.Ytodfdklcioafmaa
set_option maxRecDepth 100000
open Go.RowKit Prm
set_option linter.unusedVariables false
set_option linter.unusedSimpArgs false

theorem neq_write (W : World) (f g : Wr) : (binOp .neq 59 f.v g.v).run Try.prog W = .ok (.bool (!decide (f = g))) W := by
  have u := Try.underlying9
  have ub := Try.underlying4
  have hS : Try.prog.underlying 59 = some (.struct (Try.prog.fieldsOf 59)) := by kernel_rfl
  have hp : Try.prog.stoodInHeld 59 = false := by kernel_rfl
  have a3 := Try.isAgg9
  have z3 := Try.sizeOf9
  have a4 := Try.isAgg4
  have z4 := Try.sizeOf4
  obtain ⟨a, b, c⟩ := f
  obtain ⟨a', b', c'⟩ := g
  rw [run_neq_struct, show (10000 : Nat) = 9999 + 1 from rfl, run_equalIn_agg W 9999 _ _ _ hS hp]
  simp only [Program.fieldsOf, Try.underlying59]
  go_simp
  simp only [str_inj]
  by_cases h1 : a = a' <;> by_cases h2 : b = b' <;> cases c <;> cases c' <;> simp [h1, h2]

set_option maxHeartbeats 1000000 in
theorem refWrites_any (A B : Option Addr) (n c m d : Nat) (l l2 : List Wr) (w : World) (h1 : Lst writeK w A n l) (h2 : Lst writeK w B m l2) (hn : n ≤ maxLen) (hm : m ≤ maxLen) :
    Calls Try.prog 17 #[.slice A n c, .slice B m d] w fun e w' => e = .returned (.bool (decide (l = l2))) ∧ Q w w' := by
  unfold maxLen at hn hm
  have H1 := Lib.hid h1
  have H2 := Lib.hid h2
  have L1 := Lib.hid h1.len
  have L2 := Lib.hid h2.len
  clear h1 h2
  by_cases hnm : n = m
  · subst hnm
    go_enter Try.func17, Try.ntmps17
    go_wp2
    go_loopw [5] (fun i wr => ∃ k : Nat, k ≤ n ∧ i = .int .i64 k ∧ Q w wr ∧ l.take k = l2.take k) (fun i _ => n - (intOf i).toNat)
    case atStart => exact ⟨0, Nat.zero_le _, rfl, Q.refl _, by simp⟩
    case round =>
      obtain ⟨k, hk, rfl, hq, ht⟩ := hrel
      have HT := Lib.hid ht
      clear ht
      by_cases hlt : k < n
      · have k1 : k < l.length := by have := L1.out; omega
        have k2 : k < l2.length := by have := L2.out; omega
        obtain ⟨ad, rfl, hb, c0, c1, c2⟩ := load_write (H1.out.q hq) hlt k1
        obtain ⟨ae, rfl, he, d0, d1, d2⟩ := load_write (H2.out.q hq) hlt k2
        have hne := fun W => neq_write W l[k] l2[k]
        have hkn : (k : Int) < (n : Int) := by omega
        by_cases heq : l[k] = l2[k]
        · have hd : decide (l[k] = l2[k]) = true := by simpa using heq
          have HE := Lib.hid heq
          clear heq
          go_wp2
          go_quiet (fail)
          go_wp2
          go_roundw
          case rel => exact ⟨k + 1, by omega, by go_num, hq.drewN _, by rw [List.take_succ_eq_append_getElem k1, List.take_succ_eq_append_getElem k2, HT.out, HE.out]⟩
          case measure => simp [intOf]; omega
        · have hd : decide (l[k] = l2[k]) = false := by simpa using heq
          have HE := Lib.hid heq
          clear heq
          go_wp2
          go_quiet (fail)
          go_wp2
          go_ret
          exact ⟨ret_bool (by symm; simp only [decide_eq_false_iff_not]; rintro rfl; exact HE.out rfl), hq.drewN _⟩
      · go_wp2
        go_ret
        exact ⟨ret_bool (by symm; simp only [decide_eq_true_eq]; have h1 := HT.out; rwa [List.take_of_length_le (by have := L1.out; omega), List.take_of_length_le (by have := L2.out; omega)] at h1), hq⟩
  · have n1 : ((n : Int) != (m : Int)) = true := by simp; omega
    have n2 : (n != m) = true := by simp; omega
    have n3 : (n == m) = false := by simp; omega
    have n4 : ((n : Int) == (m : Int)) = false := by simp; omega
    have n5 : ¬ (n : Int) = m := by omega
    have HN := Lib.hid hnm
    go_enter Try.func17, Try.ntmps17
    go_wp2
    go_ret
    exact ⟨ret_bool (by symm; simp only [decide_eq_false_iff_not]; rintro rfl; exact HN.out (L1.out.symm.trans L2.out)), Q.refl _⟩

theorem fold_any (A : Option Addr) (n c : Nat) (ws : List Wr) (w : World) (hw : Lst writeK w A n ws) (hb : n * 32 ≤ 140737488355328) :
    Calls Try.prog 20 #[.slice A n c] w fun e w' => RetL pairK w (apply [] ws).length (apply [] ws) e w' := by
  have HW := Lib.hid hw
  have HB := Lib.hid hb
  clear hw hb
  go_enter Try.func20, Try.ntmps20
  go_wp2_with fail
  refine (apply_any none A 0 0 n c [] ws _ (In_.none_ _ _) HW.out (by have := HB.out; omega)).mono ?_
  rintro e w1 ⟨A1, c1, rfl, o1, q1⟩
  go_wp2
  go_ret
  exact ⟨A1, c1, rfl, o1, q1⟩
theorem refFold_any (A : Option Addr) (n c : Nat) (ws : List Wr) (w : World) (hw : Lst writeK w A n ws) (hb : n * 32 ≤ 140737488355328) (hk : WKeysIn ws) :
    Calls Try.prog 21 #[.slice A n c] w fun e w' => RetL pairK w (apply [] ws).length (apply [] ws) e w' := by
  have HW := Lib.hid hw
  have HB := Lib.hid hb
  have HK := Lib.hid hk
  clear hw hb hk
  go_enter Try.func21, Try.ntmps21
  go_wp2_with fail
  refine (refApply_any none A 0 0 n c [] ws _ (In_.none_ _ _) HW.out (by have := HB.out; omega) (fun p hp => by simp at hp) HK.out).mono ?_
  rintro e w1 ⟨A1, c1, rfl, o1, q1⟩
  go_wp2
  go_ret
  exact ⟨A1, c1, rfl, o1, q1⟩
end Go.Proofs.Ytodfdklcioafmaa

/- Plain mathematics of Adler-32: nothing of the program. -/
namespace Go.Proofs.Ytodfdklcioafmaa.Sm
set_option maxRecDepth 100000

def step (p : Int × Int) (c : UInt8) : Int × Int := ((p.1 + (c.toNat : Int)) % 65521, (p.2 + (p.1 + (c.toNat : Int))) % 65521)
def adF (p : Int × Int) (l : List UInt8) : Int × Int := l.foldl step p
def ad (l : List UInt8) : Int × Int := adF (1, 0) l
def lo (l : List UInt8) : Int := (ad l).1
def hi (l : List UInt8) : Int := (ad l).2
def adler (l : List UInt8) : Int := hi l * 65536 + lo l

/-- the sum of the bytes, and the sum of the sums. -/
def S : List UInt8 → Int
  | [] => 0
  | c :: l => (c.toNat : Int) + S l
def T : List UInt8 → Int
  | [] => 0
  | c :: l => ((l.length : Int) + 1) * (c.toNat : Int) + T l

theorem mod_of {x y : Int} (k : Int) (h : x = y + 65521 * k) : x % 65521 = y % 65521 := by
  rw [h]; exact Int.add_mul_emod_self_left _ _ _

theorem adF_closed (l : List UInt8) : ∀ a b : Int, 0 ≤ a → a < 65521 → 0 ≤ b → b < 65521 →
    (adF (a, b) l).1 = (a + S l) % 65521 ∧ (adF (a, b) l).2 = (b + (l.length : Int) * a + T l) % 65521 := by
  induction l with
  | nil => intro a b h0 h1 h2 h3; simp only [adF, List.foldl, S, T, List.length]; omega
  | cons c l ih =>
    intro a b h0 h1 h2 h3
    have e : adF (a, b) (c :: l) = adF ((a + (c.toNat : Int)) % 65521, (b + (a + (c.toNat : Int))) % 65521) l := rfl
    obtain ⟨i1, i2⟩ := ih ((a + (c.toNat : Int)) % 65521) ((b + (a + (c.toNat : Int))) % 65521) (by omega) (by omega) (by omega) (by omega)
    rw [e, i1, i2]
    refine ⟨by simp only [S]; omega, ?_⟩
    simp only [T, List.length_cons]
    have q1 : (a + (c.toNat : Int)) % 65521 = (a + (c.toNat : Int)) - 65521 * ((a + (c.toNat : Int)) / 65521) := by omega
    have q2 : (b + (a + (c.toNat : Int))) % 65521 = (b + (a + (c.toNat : Int))) - 65521 * ((b + (a + (c.toNat : Int))) / 65521) := by omega
    rw [q1, q2]
    generalize (a + (c.toNat : Int)) / 65521 = u
    generalize (b + (a + (c.toNat : Int))) / 65521 = v
    refine mod_of (-v - (l.length : Int) * u) ?_
    push_cast
    generalize (l.length : Int) = n
    generalize (c.toNat : Int) = d
    grind

theorem lo_eq (l : List UInt8) : lo l = (1 + S l) % 65521 := (adF_closed l 1 0 (by omega) (by omega) (by omega) (by omega)).1
theorem hi_eq (l : List UInt8) : hi l = ((l.length : Int) + T l) % 65521 := by
  have h := (adF_closed l 1 0 (by omega) (by omega) (by omega) (by omega)).2
  unfold hi ad; rw [h]; congr 1; omega
theorem lo_range (l : List UInt8) : 0 ≤ lo l ∧ lo l < 65521 := by rw [lo_eq]; omega
theorem hi_range (l : List UInt8) : 0 ≤ hi l ∧ hi l < 65521 := by rw [hi_eq]; omega
theorem adler_range (l : List UInt8) : 0 ≤ adler l ∧ adler l < 4294967296 := by
  have := lo_range l; have := hi_range l; unfold adler; omega
theorem adler_lo (l : List UInt8) : adler l % 65536 = lo l := by
  have := lo_range l; have := hi_range l; unfold adler; omega
theorem adler_hi (l : List UInt8) : adler l / 65536 = hi l := by
  have := lo_range l; have := hi_range l; unfold adler; omega
theorem lo_nil : lo [] = 1 := rfl
theorem hi_nil : hi [] = 0 := rfl
theorem lo_snoc (l : List UInt8) (c : UInt8) : lo (l ++ [c]) = (lo l + (c.toNat : Int)) % 65521 := by
  unfold lo ad adF; rw [List.foldl_append]; rfl
theorem hi_snoc (l : List UInt8) (c : UInt8) : hi (l ++ [c]) = (hi l + (lo l + (c.toNat : Int))) % 65521 := by
  unfold hi lo ad adF; rw [List.foldl_append]; rfl

theorem S_append (a b : List UInt8) : S (a ++ b) = S a + S b := by
  induction a with
  | nil => simp [S]
  | cons c l ih => simp only [List.cons_append, S, ih]; omega
theorem T_append (a b : List UInt8) : T (a ++ b) = T a + (b.length : Int) * S a + T b := by
  induction a with
  | nil => simp [S, T]
  | cons c l ih =>
    simp only [List.cons_append, T, S, ih, List.length_append]
    push_cast
    generalize (l.length : Int) = n
    generalize (b.length : Int) = m
    generalize (c.toNat : Int) = d
    grind

/-- the halves of two texts, one behind the other. -/
theorem lo_append (a b : List UInt8) : lo (a ++ b) = (lo a + lo b + 65520) % 65521 := by
  simp only [lo_eq, S_append]; omega
theorem hi_append (a b : List UInt8) : hi (a ++ b) = (hi a + hi b + (b.length : Int) % 65521 * (lo a + 65520)) % 65521 := by
  have e1 := hi_eq (a ++ b)
  rw [e1, T_append]
  rw [hi_eq a, hi_eq b, lo_eq a]
  have q1 : ((a.length : Int) + T a) % 65521 = ((a.length : Int) + T a) - 65521 * (((a.length : Int) + T a) / 65521) := by omega
  have q2 : ((b.length : Int) + T b) % 65521 = ((b.length : Int) + T b) - 65521 * (((b.length : Int) + T b) / 65521) := by omega
  have q3 : (1 + S a) % 65521 = (1 + S a) - 65521 * ((1 + S a) / 65521) := by omega
  have q4 : (b.length : Int) % 65521 = (b.length : Int) - 65521 * ((b.length : Int) / 65521) := by omega
  rw [q1, q2, q3, q4]
  generalize ((a.length : Int) + T a) / 65521 = u1
  generalize ((b.length : Int) + T b) / 65521 = u2
  generalize (1 + S a) / 65521 = u3
  generalize hu : (b.length : Int) / 65521 = u4
  rw [List.length_append]
  push_cast
  generalize (a.length : Int) = m
  generalize (b.length : Int) = n
  symm
  refine mod_of (-u1 - u2 - n * u3 + n - u4 * (1 + S a - 65521 * u3 + 65520)) ?_
  grind

/-- one byte changed. -/
theorem tells (x y : List UInt8) (c d : UInt8) (h : c ≠ d) : adler (x ++ d :: y) ≠ adler (x ++ c :: y) := by
  intro e
  have e1 : lo (x ++ d :: y) = lo (x ++ c :: y) := by rw [← adler_lo, e, adler_lo]
  rw [lo_eq, lo_eq, S_append, S_append] at e1
  simp only [S] at e1
  have hc := c.toNat_lt
  have hd := d.toNat_lt
  have hn : c.toNat ≠ d.toNat := fun k => h (UInt8.toNat_inj.1 k)
  omega

/-- two that stand together changed places. -/
theorem swaps (x y : List UInt8) (c d : UInt8) (h : c ≠ d) : adler (x ++ d :: c :: y) ≠ adler (x ++ c :: d :: y) := by
  intro e
  have e1 : hi (x ++ d :: c :: y) = hi (x ++ c :: d :: y) := by rw [← adler_hi, e, adler_hi]
  rw [hi_eq, hi_eq, T_append, T_append] at e1
  simp only [T, List.length_append, List.length_cons] at e1
  have hc := c.toNat_lt
  have hd := d.toNat_lt
  have hn : c.toNat ≠ d.toNat := fun k => h (UInt8.toNat_inj.1 k)
  push_cast at e1
  have p1 : ((y.length : Int) + 1 + 1) * (d.toNat : Int) = (y.length : Int) * (d.toNat : Int) + 2 * (d.toNat : Int) := by grind
  have p2 : ((y.length : Int) + 1 + 1) * (c.toNat : Int) = (y.length : Int) * (c.toNat : Int) + 2 * (c.toNat : Int) := by grind
  have p3 : ((y.length : Int) + 1) * (d.toNat : Int) = (y.length : Int) * (d.toNat : Int) + (d.toNat : Int) := by grind
  have p4 : ((y.length : Int) + 1) * (c.toNat : Int) = (y.length : Int) * (c.toNat : Int) + (c.toNat : Int) := by grind
  rw [p1, p2, p3, p4] at e1
  generalize (y.length : Int) * (d.toNat : Int) = r1 at e1
  generalize (y.length : Int) * (c.toNat : Int) = r2 at e1
  generalize ((y.length : Int) + 1 + 1) * S x = r3 at e1
  omega
end Go.Proofs.Ytodfdklcioafmaa.Sm

/- Contracts of package sum's Of and of the document's own. -/
namespace Go.Proofs.Ytodfdklcioafmaa
set_option maxRecDepth 100000
open Go.RowKit

theorem or_halves (a b : Int) (h0 : 0 ≤ a) (h1 : a < 65536) (h2 : 0 ≤ b) (h3 : b < 65536) : bits BinOp.or IntKind.u64 (b * 65536) a % 4294967296 = b * 65536 + a := by
  have e : bits BinOp.or IntKind.u64 (b * 65536) a = b * 65536 + a := by
    refine bits_join .u64 40 (by decide) (fun n p q => IntWalk.u64_in n ⟨p, by omega⟩) 16 (b * 65536) a ?_ ?_ ?_ ?_ ?_ ?_ <;> omega
  rw [e]; omega

set_option maxHeartbeats 400000 in
theorem whole_any (a b : Int) (w : World) (h0 : 0 ≤ a) (h1 : a < 65536) (h2 : 0 ≤ b) (h3 : b < 65536) :
    Calls Try.prog 107 #[.agg #[.int .u64 a, .int .u64 b]] w fun e w' => e = .returned (.int .u32 (b * 65536 + a)) ∧ Q w w' := by
  go_enter Try.func107, Try.ntmps107
  go_wp2
  go_ret
  exact ⟨ret_int (or_halves a b h0 h1 h2 h3), (Q.refl _).alloc _⟩

theorem take_snoc (s : ByteArray) (k : Nat) (h : k < s.size) : s.data.toList.take (k + 1) = s.data.toList.take k ++ [s[k]] := by
  rw [List.take_succ_eq_append_getElem (by simpa using h)]; rfl
theorem take_all (s : ByteArray) (k : Nat) (h : s.size ≤ k) : s.data.toList.take k = s.data.toList := List.take_of_length_le (by simpa using h)

set_option maxHeartbeats 400000 in
theorem refOf_any (s : ByteArray) (w : World) (hs : s.size ≤ maxLen) :
    Calls Try.prog 90 #[.string s] w fun e w' => e = .returned (.int .u32 (Sm.adler s.data.toList)) ∧ Q w w' := by
  unfold maxLen at hs
  go_enter Try.func90, Try.ntmps90
  go_wp2
  go_loop [3, 4, 5] (fun a b i => ∃ k : Nat, k ≤ s.size ∧ i = .int .i64 k ∧ a = .int .i64 (Sm.lo (s.data.toList.take k)) ∧ b = .int .i64 (Sm.hi (s.data.toList.take k))) (fun _ _ i => s.size - (intOf i).toNat)
  case atStart => exact ⟨0, Nat.zero_le _, rfl, rfl, rfl⟩
  case round =>
    obtain ⟨k, hk, rfl, rfl, rfl⟩ := hrel
    have r1 := Sm.lo_range (s.data.toList.take k)
    have r2 := Sm.hi_range (s.data.toList.take k)
    by_cases hlt : k < s.size
    · have hts := take_snoc s k hlt
      have e1 := Sm.lo_snoc (s.data.toList.take k) s[k]
      have e2 := Sm.hi_snoc (s.data.toList.take k) s[k]
      rw [← hts] at e1 e2
      have H1 := Lib.hid e1
      have H2 := Lib.hid e2
      clear e1 e2 hts
      generalize Sm.lo (s.data.toList.take k) = A at *
      generalize Sm.hi (s.data.toList.take k) = B at *
      have hb := s[k].toNat_lt
      go_wp2
      go_round
      case rel => exact ⟨k + 1, by omega, by go_num, by rw [H1.out], by rw [H2.out]; congr 1; omega⟩
      case measure => simp [intOf]; omega
    · have hall := take_all s k (by omega)
      have hf : Sm.adler s.data.toList = Sm.hi s.data.toList * 65536 + Sm.lo s.data.toList := rfl
      rw [hall] at r1 r2 ⊢
      have Hf := Lib.hid hf
      clear hf hall
      go_wp2
      go_ret
      exact ⟨ret_int (by rw [Hf.out]; omega), Q.refl _⟩

set_option maxHeartbeats 400000 in
theorem add_any (c a b : Int) (w : World) (h0 : 0 ≤ a) (h1 : a < 65521) (h2 : 0 ≤ b) (h3 : b < 65521) (h4 : 0 ≤ c) (h5 : c < 256) :
    Calls Try.prog 106 #[.int .u8 c, .pointer (some ⟨w.heap.size, 0, none⟩)] (w.alloc (.cells #[.int .u64 a, .int .u64 b] 147)) fun e w' => e = .returned (.tuple #[]) ∧ w.alloc (.cells #[.int .u64 ((a + c) % 65521), .int .u64 ((b + (a + c)) % 65521)] 147) = w' := by
  go_enter Try.func106, Try.ntmps106
  go_wp2
  go_end0
  exact ⟨rfl, rfl⟩

set_option maxHeartbeats 400000 in
theorem of_any (s : ByteArray) (w : World) (hs : s.size ≤ maxLen) :
    Calls Try.prog 82 #[.string s] w fun e w' => e = .returned (.int .u32 (Sm.adler s.data.toList)) ∧ Q w w' := by
  unfold maxLen at hs
  go_enter Try.func82, Try.ntmps82
  go_wp2
  go_loopw [10] (fun i wr => ∃ k : Nat, k ≤ s.size ∧ i = .int .i64 k ∧ w.alloc (.cells #[.int .u64 (Sm.lo (s.data.toList.take k)), .int .u64 (Sm.hi (s.data.toList.take k))] 147) = wr) (fun i _ => s.size - (intOf i).toNat)
  case atStart => exact ⟨0, Nat.zero_le _, rfl, rfl⟩
  case round =>
    obtain ⟨k, hk, rfl, rfl⟩ := hrel
    have r1 := Sm.lo_range (s.data.toList.take k)
    have r2 := Sm.hi_range (s.data.toList.take k)
    by_cases hlt : k < s.size
    · have hts := take_snoc s k hlt
      have e1 := Sm.lo_snoc (s.data.toList.take k) s[k]
      have e2 := Sm.hi_snoc (s.data.toList.take k) s[k]
      rw [← hts] at e1 e2
      have H1 := Lib.hid e1
      have H2 := Lib.hid e2
      clear e1 e2 hts
      generalize Sm.lo (s.data.toList.take k) = A at *
      generalize Sm.hi (s.data.toList.take k) = B at *
      have hb := s[k].toNat_lt
      go_wp2_with (go_at_call 106; refine (add_any _ _ _ _ (by omega) (by omega) (by omega) (by omega) (by omega) (by omega)).mono ?_; rintro e w' ⟨rfl, rfl⟩)
      go_roundw
      case rel => exact ⟨k + 1, by omega, by go_num, by rw [H1.out, H2.out]⟩
      case measure => simp [intOf]; omega
    · have hall := take_all s k (by omega)
      rw [hall] at r1 r2 ⊢
      clear hall
      have hf : Sm.adler s.data.toList = Sm.hi s.data.toList * 65536 + Sm.lo s.data.toList := rfl
      have Hf := Lib.hid hf
      clear hf
      go_wp2_with (go_at_call 107; refine (whole_any _ _ _ (by omega) (by omega) (by omega) (by omega)).mono ?_; rintro e w' ⟨rfl, hq⟩)
      go_ret
      exact ⟨ret_int (by rw [Hf.out]), ((Q.refl _).alloc _).trans hq⟩
end Go.Proofs.Ytodfdklcioafmaa

/- Strings and bytes in memory. -/
namespace Go.Proofs.Ytodfdklcioafmaa
set_option maxRecDepth 100000
open Go.RowKit
set_option linter.unusedVariables false

theorem Blk.cell_new (w : World) (cs : Array Value) (t : TypeId) (i : Nat) : (w.alloc (.cells cs t)).cell? ⟨w.heap.size, i, none⟩ = cs[i]? :=
  cell_of_row (w.alloc (.cells cs t)) w.heap.size i cs t (0, 0) (heap_alloc_new w _)

theorem conv_row (W : World) (b o n cap : Nat) (l : List UInt8) (hn : l.length = n) (hc : ∀ k (h : k < l.length), W.cell? ⟨b, o + k, none⟩ = some (.int .u8 (l[k].toNat : Int))) :
    (convert 77 9 (.slice (some ⟨b, o, none⟩) n cap)).run Try.prog W = .ok (.string ⟨l.toArray⟩) W := by
  subst hn
  refine run_convert_bytes_back W 77 9 5 ⟨b, o, none⟩ cap l Try.underlying77 Try.underlying5 Try.underlying9 (fun j hj => ?_)
  have e : (⟨b, o, none⟩ : Addr).add j = ⟨b, o + j, none⟩ := by
    unfold Addr.add
    by_cases hz : j = 0
    · subst hz; rfl
    · rw [if_neg hz]
  rw [e]; exact hc j hj

theorem app_list (l : List UInt8) (s : ByteArray) : (⟨l.toArray⟩ : ByteArray) ++ s = ⟨(l ++ s.data.toList).toArray⟩ := by
  apply ByteArray.ext
  rw [ByteArray.data_append]
  simp
theorem app_lists (l m : List UInt8) : (⟨l.toArray⟩ : ByteArray) ++ ⟨m.toArray⟩ = ⟨(l ++ m).toArray⟩ := by rw [app_list]
theorem ret_str {a b : ByteArray} (h : a = b) : Ending.returned (.string a) = .returned (.string b) := by rw [h]
theorem str_eq {a b : ByteArray} (h : a = b) : Value.string a = .string b := by rw [h]

theorem size_list (s : ByteArray) : s.data.toList.length = s.size := by simp

/-- '[]byte(s)': a new row that holds the bytes, and may be written. -/
theorem to_bytes (W : World) (s : ByteArray) : ∃ cap W2, (convert 9 77 (.string s)).run Try.prog W = .ok (.slice (some ⟨W.heap.size, 0, none⟩) s.size cap) W2 ∧ Q W W2 ∧ W2.heap.size = W.heap.size + 1 ∧
    (∀ i (h : i < s.size), W2.cell? ⟨W.heap.size, i, none⟩ = some (.int .u8 (s[i].toNat : Int))) ∧ (∀ i, i < s.size → W2.frozen? ⟨W.heap.size, i, none⟩ = false) := by
  refine ⟨_, _, run_bytes_of_string W 9 77 5 s Try.underlying9 Try.underlying77 Try.underlying5, (Q.refl W).drew.alloc _, ?_, ?_, ?_⟩
  · show (W.heap.push _).size = _
    simp
  · intro i h
    have e := World.cell?_alloc_mark W.drew (bytesRow s (grownCap W s.size 0 5)) 5 ((bytesRow s (grownCap W s.size 0 5)).size, (bytesRow s (grownCap W s.size 0 5)).size + 1) i
    refine e.trans ?_
    unfold bytesRow
    have h1 : i < (s.data.map (fun b => Value.int .u8 b.toNat)).size := by simpa using h
    rw [Array.getElem?_append_left h1]
    simp only [Array.getElem?_map]
    have h2 : s.data[i]? = some s[i] := Array.getElem?_eq_getElem (by simpa using h)
    rw [h2]; rfl
  · intro i h
    have e := World.frozen?_alloc_mark W.drew (bytesRow s (grownCap W s.size 0 5)) 5 (bytesRow s (grownCap W s.size 0 5)).size ((bytesRow s (grownCap W s.size 0 5)).size + 1) i
    refine e.trans ?_
    have h1 : i < (bytesRow s (grownCap W s.size 0 5)).size := by
      unfold bytesRow; simp; omega
    have h2 : decide ((bytesRow s (grownCap W s.size 0 5)).size ≤ i) = false := by simp; omega
    rw [h2]; rfl

/-- a row with one byte written holds the list with it. -/
theorem cells_set (W : World) (g : Nat) (l : List UInt8) (k : Nat) (c : UInt8) (a : Int) (ha : (c.toNat : Int) = a) (hk : k < l.length)
    (hc : ∀ i (h : i < l.length), W.cell? ⟨g, i, none⟩ = some (.int .u8 (l[i].toNat : Int))) :
    ∀ i (h : i < (l.set k c).length), (W.setCell ⟨g, k, none⟩ (.int .u8 a)).cell? ⟨g, i, none⟩ = some (.int .u8 ((l.set k c)[i].toNat : Int)) := by
  intro i h
  by_cases e : k = i
  · subst e
    rw [World.cell?_setCell_same _ _ _ (hc k hk)]
    simp [← ha]
  · rw [World.cell?_setCell_other _ _ _ _ (by intro he; injection he with _ he; exact e he)]
    rw [hc i (by simpa using h)]
    simp [e]
end Go.Proofs.Ytodfdklcioafmaa

/- Plain mathematics of package dec: numbers and texts as bytes. Nothing of the program. -/
namespace Go.Proofs.Ytodfdklcioafmaa.Dm
set_option maxRecDepth 100000

def digit (n : Nat) : UInt8 := UInt8.ofNat (48 + n)
def dg (v : Nat) : List UInt8 := if v < 10 then [digit v] else dg (v / 10) ++ [digit (v % 10)]
def dgz (v : Nat) : List UInt8 := if v = 0 then [] else dg v
/-- a number's bytes. -/
def num (v : Nat) : List UInt8 := dg v ++ [59]

theorem digit_toNat (n : Nat) (h : n < 10) : (digit n).toNat = 48 + n := by
  unfold digit; simp only [UInt8.toNat_ofNat']; omega
theorem dg_split (v : Nat) : dg v = dgz (v / 10) ++ [digit (v % 10)] := by
  rw [dg]
  by_cases h : v < 10
  · rw [if_pos h]; unfold dgz; rw [if_pos (by omega)]
    rw [show v % 10 = v from by omega]; rfl
  · rw [if_neg h]; unfold dgz; rw [if_neg (by omega)]
theorem dgz_pos (v : Nat) (h : v ≠ 0) : dgz v = dg v := by unfold dgz; rw [if_neg h]
theorem dgz_zero : dgz 0 = [] := rfl
theorem dg_ne (v : Nat) : dg v ≠ [] := by rw [dg_split]; simp
theorem dg_pos (v : Nat) : 1 ≤ (dg v).length := by rw [dg_split]; simp

def isD (c : UInt8) : Bool := 48 ≤ c.toNat && c.toNat ≤ 57
def dv (c : UInt8) : Nat := c.toNat - 48
/-- what figures tell. -/
def val (l : List UInt8) : Nat := l.foldl (fun v c => 10 * v + dv c) 0

theorem val_snoc (l : List UInt8) (c : UInt8) : val (l ++ [c]) = 10 * val l + dv c := by simp [val]
theorem dv_digit (n : Nat) (h : n < 10) : dv (digit n) = n := by unfold dv; rw [digit_toNat n h]; omega
theorem isD_digit (n : Nat) (h : n < 10) : isD (digit n) = true := by unfold isD; rw [digit_toNat n h]; simp; omega
theorem isD_iff (c : UInt8) : isD c = true ↔ 48 ≤ c.toNat ∧ c.toNat ≤ 57 := by simp [isD]

theorem val_dg (v : Nat) : val (dg v) = v := by
  induction v using Nat.strongRecOn with
  | _ v ih =>
    rw [dg]
    by_cases h : v < 10
    · rw [if_pos h]; simp [val, dv_digit v h]
    · rw [if_neg h, val_snoc, ih (v / 10) (by omega), dv_digit _ (by omega)]; omega
theorem all_dg (v : Nat) : ∀ c ∈ dg v, isD c = true := by
  induction v using Nat.strongRecOn with
  | _ v ih =>
    rw [dg]
    by_cases h : v < 10
    · rw [if_pos h]; intro c hc; simp at hc; subst hc; exact isD_digit v h
    · rw [if_neg h]; intro c hc
      rcases List.mem_append.1 hc with hc | hc
      · exact ih (v / 10) (by omega) c hc
      · simp at hc; subst hc; exact isD_digit _ (by omega)
/-- no leading nought but of 0 itself. -/
theorem head_dg (v : Nat) (h : 10 ≤ v) : ∀ c r, dg v = c :: r → c.toNat ≠ 48 := by
  induction v using Nat.strongRecOn with
  | _ v ih =>
    intro c r e
    rw [dg, if_neg (by omega)] at e
    by_cases h2 : v / 10 < 10
    · rw [dg, if_pos h2] at e
      simp at e
      rw [← e.1, digit_toNat _ h2]; omega
    · obtain ⟨c', r', e'⟩ : ∃ c' r', dg (v / 10) = c' :: r' := by
        cases hd : dg (v / 10) with
        | nil => exact absurd hd (dg_ne _)
        | cons a b => exact ⟨a, b, rfl⟩
      rw [e'] at e
      simp at e
      rw [← e.1]
      exact ih (v / 10) (by omega) (by omega) c' r' e'

theorem dg_length_lt (j : Nat) : ∀ v, v < 10 ^ j → 1 ≤ j → (dg v).length ≤ j := by
  induction j with
  | zero => intro v h h1; omega
  | succ j ih =>
    intro v h _
    rw [dg]
    by_cases h2 : v < 10
    · rw [if_pos h2]; simp
    · rw [if_neg h2]
      rw [Nat.pow_succ] at h
      have hj : 1 ≤ j := by
        rcases Nat.eq_zero_or_pos j with e | e
        · subst e; simp at h; omega
        · exact e
      have := ih (v / 10) (by omega) hj
      simp; omega
theorem num_length (v : Nat) (h : v < 18446744073709551616) : (num v).length ≤ 21 := by
  have := dg_length_lt 20 v (by omega) (by omega)
  unfold num; simp; omega
end Go.Proofs.Ytodfdklcioafmaa.Dm
