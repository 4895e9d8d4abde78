/- Contracts: the document's answer for pairs: Put, Apply. -/
import Derived.Test.YtcclgepccahhbaaTableRef2
import Derived.Deep.DeepCutAuto
namespace Go.Proofs.Ytcclgepccahhbaa
set_option maxRecDepth 100000
open Go.RowKit Prm
set_option linter.unusedVariables false
set_option linter.unusedSimpArgs false

/-- the list so far. -/
def Lo (w : World) (t : List Pr) (v : Value) (wr : World) : Prop :=
  ∃ A1 c1, v = .slice A1 t.length c1 ∧ OwnK pairK wr w.heap.size A1 t.length c1 t ∧ Q w wr
theorem Lo.step {w wr w5 : World} {o t : List Pr} {x : Pr} {A5 : Option Addr} {c5 : Nat} (ht : t = o ++ [x]) (o5 : OwnK pairK w5 w.heap.size A5 (o.length + 1) c5 (o ++ [x])) (q : Q w wr) (b5 : Below w.heap.size wr w5) : Lo w t (.slice A5 (o.length + 1) c5) w5 := by
  subst ht
  exact ⟨A5, c5, by simp, by simpa using o5, q.below.trans b5⟩

theorem set_take_other {l : List Pr} {i k : Nat} {p : Pr} (hk : k < l.length) (h : k ≠ i) : (l.set i p).take (k + 1) = (l.set i p).take k ++ [l[k]] := by
  rw [List.take_succ_eq_append_getElem (by simpa using hk), List.getElem_set_ne (by omega)]
theorem set_take_same {l : List Pr} {i : Nat} {p : Pr} (hk : i < l.length) : (l.set i p).take (i + 1) = (l.set i p).take i ++ [p] := by
  rw [List.take_succ_eq_append_getElem (by simpa using hk), List.getElem_set_self]

set_option maxHeartbeats 4000000 in
theorem refPut_has (key val : ByteArray) (A : Option Addr) (n c : Nat) (l : List Pr) (w : World) (hf : Lst pairK w A n l) (hb : (n + 1) * 32 ≤ 140737488355328) (i : Nat) (hi : i < l.length) (hh : hasK key l[i] = true) (hfirst : ∀ j, ∀ hj : j < l.length, j < i → hasK key l[j] = false) :
    Calls Try.prog 43 #[.slice A n c, .string key, .string val] w fun e w' => RetL pairK w n (l.set i ⟨key, val⟩) e w' := by
  have HF := Lib.hid hf
  have HL := Lib.hid hf.len
  have HB := Lib.hid hb
  have K0 := Lib.hid (fun W (h : Lst pairK W A n l) => refFind_any key A n c l W h (by unfold maxLen; omega))
  rw [find_at hi hh hfirst] at K0
  have HFi := Lib.hid hfirst
  have HH := Lib.hid hh
  have hn : n ≤ 9223372036854775807 := by omega
  have hin : i < n := by have := HL.out; omega
  clear hf hb hh hfirst
  generalize hv : l[i].val = v0 at K0
  have HV := Lib.hid hv
  clear hv
  go_enter Try.func43, Try.ntmps43
  go_wp2_with fail
  refine (K0.out _ HF.out).mono ?_
  rintro e w1 ⟨rfl, rfl⟩
  go_wp2
  go_loopw [9, 10, 11] (fun v d j wr => ∃ k : Nat, k ≤ n ∧ j = .int .i64 k ∧ d = .bool (decide (i < k)) ∧ Lo w ((l.set i ⟨key, val⟩).take k) v wr) (fun _ _ j _ => n - (intOf j).toNat)
  case atStart => exact ⟨0, Nat.zero_le _, rfl, rfl, none, 0, rfl, OwnK.nil_ _ _ _, Q.refl _⟩
  case round =>
    obtain ⟨k, hk, rfl, rfl, A3, c3, rfl, o3, q3⟩ := hrel
    have hol : ((l.set i ⟨key, val⟩).take k).length = k := by rw [List.length_take, List.length_set]; have := HL.out; omega
    have O3 := Lib.hid o3
    have Q3 := Lib.hid q3
    clear o3 q3
    by_cases hlt : k < n
    · have hkl : k < l.length := by have := HL.out; omega
      obtain ⟨ad, rfl, hab, x0, x1⟩ := load_pair (HF.out.q Q3.out) hlt hkl
      have hkm : (k : Int) < (n : Int) := by omega
      have e1 := same_str l[k].key key
      by_cases hki : k = i
      · subst hki
        rw [show decide (l[k].key = key) = true from HH.out] at e1
        have d1 : decide (k < k) = false := by simp
        have hE := Lib.hid (set_take_same (p := ⟨key, val⟩) hkl)
        have hlen2 := Lib.hid (show (((l.set k ⟨key, val⟩).take k).length + 1) * 32 ≤ 140737488355328 by have := HB.out; omega)
        have hdd : decide (k < k + 1) = true := by simp
        clear hol
        generalize ((l.set k ⟨key, val⟩).take k) = o at O3 hE hlen2 ⊢
        generalize l[k] = x at x0 x1 e1
        go_wp2_with (at_builtin
                     refine wpl_appK pairK rfl (.tmp 51) (.tmp 55) 31 rfl rfl w.heap.size A3 o.length c3 o rfl (O3.out.alloc _) (some ⟨wr.heap.size, 0, none⟩) 1 1 [⟨key, val⟩] rfl (lit_pair wr ⟨key, val⟩) (fun e => by cases e) hlen2.out (by have := Q3.out.size; simp; omega) ?_
                     intro A5 c5 w5 o5 b5
                     have S5 := Lib.hid (Lo.step hE.out o5 (Q3.out.alloc _) b5)
                     clear o5 b5)
        go_roundw
        case rel => exact ⟨k + 1, by omega, by go_num, by rw [hdd], S5.out⟩
        case measure => simp [intOf]; omega
      · have hE := Lib.hid (set_take_other (p := ⟨key, val⟩) hkl hki)
        have hlen2 := Lib.hid (show (((l.set i ⟨key, val⟩).take k).length + 1) * 32 ≤ 140737488355328 by have := HB.out; omega)
        by_cases hlt2 : k < i
        · have d1 : decide (i < k) = false := by simp; omega
          have d2 : decide (i < k + 1) = false := by simp; omega
          rw [show decide (l[k].key = key) = false from HFi.out k hkl hlt2] at e1
          rw [d1]
          clear hol
          generalize ((l.set i ⟨key, val⟩).take k) = o at O3 hE hlen2 ⊢
          generalize l[k] = x at x0 x1 e1 hE
          have D2 := Lib.hid d2
          clear d1 d2
          go_wp2_with (at_builtin
                       refine wpl_appK pairK rfl (.tmp 58) (.tmp 63) 31 rfl rfl w.heap.size A3 o.length c3 o rfl (O3.out.alloc _) (some ⟨wr.heap.size, 0, none⟩) 1 1 [x] rfl (lit_pair wr x) (fun e => by cases e) hlen2.out (by have := Q3.out.size; simp; omega) ?_
                       intro A5 c5 w5 o5 b5
                       have S5 := Lib.hid (Lo.step hE.out o5 (Q3.out.alloc _) b5)
                       clear o5 b5)
          go_roundw
          case rel => exact ⟨k + 1, by omega, by go_num, by rw [D2.out], S5.out⟩
          case measure => simp [intOf]; omega
        · have d1 : decide (i < k) = true := by simp; omega
          have d2 : decide (i < k + 1) = true := by simp; omega
          rw [d1]
          clear hol
          generalize ((l.set i ⟨key, val⟩).take k) = o at O3 hE hlen2 ⊢
          generalize l[k] = x at x0 x1 e1 hE
          have D2 := Lib.hid d2
          clear d1 d2 e1
          go_wp2_with (at_builtin
                       refine wpl_appK pairK rfl (.tmp 58) (.tmp 63) 31 rfl rfl w.heap.size A3 o.length c3 o rfl (O3.out.alloc _) (some ⟨wr.heap.size, 0, none⟩) 1 1 [x] rfl (lit_pair wr x) (fun e => by cases e) hlen2.out (by have := Q3.out.size; simp; omega) ?_
                       intro A5 c5 w5 o5 b5
                       have S5 := Lib.hid (Lo.step hE.out o5 (Q3.out.alloc _) b5)
                       clear o5 b5)
          go_roundw
          case rel => exact ⟨k + 1, by omega, by go_num, by rw [D2.out], S5.out⟩
          case measure => simp [intOf]; omega
    · have HE := Lib.hid (show (l.set i ⟨key, val⟩).take k = l.set i ⟨key, val⟩ from List.take_of_length_le (by rw [List.length_set]; have := HL.out; omega))
      have HN := Lib.hid (show (l.set i ⟨key, val⟩).length = n by rw [List.length_set]; exact HL.out)
      rw [HE.out] at O3 ⊢
      have d1 : decide (i < k) = true := by simp; omega
      rw [d1]
      clear d1
      generalize hgo : l.set i ⟨key, val⟩ = o at O3 HN
      have HGo := Lib.hid hgo
      clear hgo
      go_wp2
      go_ret
      exact ⟨A3, c3, by rw [HN.out]; rfl, by have := O3.out; rw [HN.out] at this; rw [HGo.out]; exact this, Q3.out⟩
end Go.Proofs.Ytcclgepccahhbaa
