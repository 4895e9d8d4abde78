/- Contracts: the document's answer for pairs: Right, Range, Put, Apply. -/
import Derived.Test.YtcclgepccahhbaaTableRef
namespace Go.Proofs.Ytcclgepccahhbaa
set_option maxRecDepth 100000
open Go.RowKit Prm
set_option linter.unusedVariables false
set_option linter.unusedSimpArgs false

/-- the sizes of a list's keys. -/
def KeysIn (l : List Pr) : Prop := ∀ p ∈ l, p.key.size ≤ maxLen
theorem KeysIn.at_ {l : List Pr} (h : KeysIn l) {k : Nat} (hk : k < l.length) : l[k].key.size ≤ maxLen := h _ (List.getElem_mem hk)

set_option maxHeartbeats 2000000 in
theorem refRight_any (A : Option Addr) (n c : Nat) (l : List Pr) (w : World) (hd : Lst pairK w A n l) (hmx : n ≤ maxLen) (hs : KeysIn l) :
    Calls Try.prog 23 #[.slice A n c] w fun e w' => e = .returned (.bool (right l)) ∧ Q w w' := by
  have HD := Lib.hid hd
  have HL := Lib.hid hd.len
  have HS := Lib.hid hs
  unfold maxLen at hmx
  clear hd hs
  go_enter Try.func23, Try.ntmps23
  go_wp2
  go_loopw [3] (fun i wr => ∃ k : Nat, k ≤ n ∧ i = .int .i64 ((k : Int) + 1) ∧ Q w wr ∧ ∀ j, ∀ h : j + 1 < l.length, j < k → lt (l[j]'(by omega)).key l[j + 1].key = true) (fun i _ => n + 1 - (intOf i).toNat)
  case atStart => exact ⟨0, Nat.zero_le _, by go_num, Q.refl _, fun j _ h => by omega⟩
  case round =>
    obtain ⟨k, hk, rfl, q, hall⟩ := hrel
    have HA := Lib.hid hall
    have HQ := Lib.hid q
    clear hall q
    by_cases hlt : k + 1 < n
    · have hkl : k + 1 < l.length := by have := HL.out; omega
      have hkl0 : k < l.length := by omega
      obtain ⟨ad, rfl, hab, x0, x1⟩ := load_pair (HD.out.q HQ.out) (Nat.lt_of_succ_lt hlt) hkl0
      obtain ⟨ad', e, hab', y0, y1⟩ := load_pair (HD.out.q HQ.out) hlt hkl
      injection e with e
      subst e
      have e1 : IntKind.i64.wrap ((k : Int) + 1 - 1) = k := by rw [IntKind.wrap_i64]; omega
      have e2 : ((k : Int) + 1).toNat = k + 1 := by omega
      have e3 : (k : Int) + 1 < (n : Int) := by omega
      have e4 : (k : Int) < (n : Int) := by omega
      have e5 : (0 : Int) ≤ (k : Int) + 1 := by omega
      have K1 := Lib.hid (fun W => less_any l[k].key l[k + 1].key W (HS.out.at_ hkl0) (HS.out.at_ hkl))
      by_cases hh : lt l[k].key l[k + 1].key = true
      · have HN := Lib.hid (fun (j : Nat) (h : j + 1 < l.length) (hj : j < k + 1) => show lt (l[j]'(by omega)).key l[j + 1].key = true from by
          by_cases e : j < k
          · exact HA.out j h e
          · have e : j = k := by omega
            subst e
            exact hh)
        rw [hh] at K1
        clear hh x1 y1
        generalize l[k].key = a at x0 K1
        generalize l[k + 1].key = b at y0 K1
        go_wp2
        go_quiet ((go_at_call 29; exact Calls.quiet_of (K1.out _)))
        all_goals
          go_wp2
          go_roundw
          case rel => exact ⟨k + 1, by omega, by go_num, HQ.out.drewN _, HN.out⟩
          case measure => simp [intOf]; omega
      · have hh' : lt l[k].key l[k + 1].key = false := by simpa using hh
        have HE := Lib.hid (right_not hkl hh')
        rw [hh'] at K1
        clear hh hh' x1 y1
        generalize l[k].key = a at x0 K1
        generalize l[k + 1].key = b at y0 K1
        go_wp2
        go_quiet ((go_at_call 29; exact Calls.quiet_of (K1.out _)))
        all_goals
          go_wp2
          go_ret
          exact ⟨by rw [HE.out]; rfl, HQ.out.drewN _⟩
    · have HE := Lib.hid (show right l = true from right_all fun i hi => HA.out i hi (by have := HL.out; omega))
      have e3 : ¬ ((k : Int) + 1 < (n : Int)) := by omega
      go_wp2
      go_ret
      exact ⟨by rw [HE.out]; rfl, HQ.out⟩

set_option maxHeartbeats 4000000 in
theorem refRange_any (lo hi : ByteArray) (most : Int) (A : Option Addr) (n c : Nat) (l : List Pr) (w : World) (hd : Lst pairK w A n l) (hb : n * 32 ≤ 140737488355328) (hm : most ≤ 9223372036854775807) (hs : KeysIn l) (hlo : lo.size ≤ maxLen) (hhi : hi.size ≤ maxLen) :
    Calls Try.prog 25 #[.slice A n c, .string lo, .string hi, .int .i64 most] w fun e w' => RetL pairK w (range l lo hi most).length (range l lo hi most) e w' := by
  have HD := Lib.hid hd
  have HL := Lib.hid hd.len
  have HFew := Lib.hid hb
  have HS := Lib.hid hs
  have HLo := Lib.hid hlo
  have HHi := Lib.hid hhi
  have hmx : n ≤ 9223372036854775807 := by omega
  clear hd hb hs hlo hhi
  go_enter Try.func25, Try.ntmps25
  go_wp2
  go_loopw [9, 10] (fun v i wr => ∃ k : Nat, k ≤ n ∧ i = .int .i64 k ∧ RgS w l lo hi most k v wr) (fun _ i _ => n - (intOf i).toNat)
  case atStart => exact ⟨0, Nat.zero_le _, rfl, none, 0, rfl, OwnK.nil_ _ _ _, Q.refl _, Nat.zero_le _⟩
  case round =>
    obtain ⟨k, hk, rfl, A3, c3, rfl, o3, q3, hle⟩ := hrel
    have hfl : ((l.take k).filter (inR lo hi)).length ≤ k := Nat.le_trans (List.length_filter_le _ _) (List.length_take_le _ _)
    have O3 := Lib.hid o3
    have Q3 := Lib.hid q3
    have HLe := Lib.hid hle
    clear o3 q3
    by_cases hlt : k < n
    · have hkl : k < l.length := by have := HL.out; omega
      obtain ⟨ad, rfl, hab, x0, x1⟩ := load_pair (HD.out.q Q3.out) hlt hkl
      have hkm : (k : Int) < (n : Int) := by omega
      by_cases hmo : most ≤ ((l.take k).filter (inR lo hi)).length
      · have HE := Lib.hid (range_cut HLe.out hmo)
        generalize ((l.take k).filter (inR lo hi)) = o at O3 HLe hfl HE hmo ⊢
        have hmo2 : ¬ ((o.length : Int) < most) := by omega
        go_wp2
        go_ret
        exact ⟨A3, c3, by rw [HE.out]; rfl, by rw [HE.out]; exact O3.out, Q3.out⟩
      · have hmo' : ((((l.take k).filter (inR lo hi)).length : Nat) : Int) < most := by omega
        have K1 := Lib.hid (fun W => refBetween_any l[k].key lo hi W (HS.out.at_ hkl) HLo.out HHi.out)
        by_cases hin : btw lo hi l[k].key = true
        · have HF := Lib.hid (filter_yes (f := inR lo hi) hkl hin)
          rw [hin] at K1
          have hlen1 := Lib.hid (show ((l.take (k + 1)).filter (inR lo hi)).length ≤ most.toNat by rw [HF.out, List.length_append, List.length_singleton]; omega)
          have hlen2 := Lib.hid (show (((l.take k).filter (inR lo hi)).length + 1) * 32 ≤ 140737488355328 by have := HFew.out; omega)
          have hlen3 := Lib.hid (show ((l.take (k + 1)).filter (inR lo hi)).length = ((l.take k).filter (inR lo hi)).length + 1 by rw [HF.out, List.length_append, List.length_singleton])
          clear hin hmo
          generalize hgo : ((l.take k).filter (inR lo hi)) = o at O3 HLe hfl hmo' HF hlen2 hlen3 ⊢
          have HGo := Lib.hid hgo
          clear hgo
          generalize hgx : l[k] = x at x0 x1 HF K1
          have HGx := Lib.hid hgx
          clear hgx
          go_wp2_with fail
          refine (K1.out _).mono ?_
          rintro e w4 ⟨rfl, q4⟩
          have z0 := box_ q4 x0
          have z1 := box_ q4 x1
          have Q4 := Lib.hid q4
          clear x0 x1 q4
          go_wp2_with (at_builtin
                       refine wpl_appK pairK rfl (.tmp 33) (.tmp 38) 31 rfl rfl w.heap.size A3 o.length c3 o rfl ((O3.out.q Q4.out).alloc _) (some ⟨w4.heap.size, 0, none⟩) 1 1 [x] rfl (lit_pair w4 x) (fun e => by cases e) hlen2.out (by have := (Q3.out.trans Q4.out).size; simp; omega) ?_
                       intro A5 c5 w5 o5 b5
                       have S5 := Lib.hid (show RgS w l lo hi most (k + 1) (.slice A5 (o.length + 1) c5) w5 from ⟨A5, c5, by rw [hlen3.out], by rw [hlen3.out, HF.out]; exact o5, (((Q3.out.trans Q4.out).alloc _).below).trans b5, hlen1.out⟩)
                       clear o5 b5)
          go_roundw
          case rel => exact ⟨k + 1, by omega, by go_num, S5.out⟩
          case measure => simp [intOf]; omega
        · have hin' : btw lo hi l[k].key = false := by simpa using hin
          have HF := Lib.hid (filter_no (f := inR lo hi) hkl hin')
          rw [hin'] at K1
          have S5 := Lib.hid (fun w4 (q4 : Q wr w4) => show RgS w l lo hi most (k + 1) (.slice A3 ((l.take k).filter (inR lo hi)).length c3) w4 from ⟨A3, c3, by rw [HF.out], by rw [HF.out]; exact O3.out.q q4, Q3.out.trans q4, by rw [HF.out]; exact HLe.out⟩)
          clear hin hmo hin'
          generalize ((l.take k).filter (inR lo hi)) = o at O3 HLe hfl hmo' HF S5 ⊢
          generalize l[k] = x at x0 x1 K1
          go_wp2_with fail
          refine (K1.out _).mono ?_
          rintro e w4 ⟨rfl, q4⟩
          go_wp2
          go_roundw
          case rel => exact ⟨k + 1, by omega, by go_num, S5.out _ q4⟩
          case measure => simp [intOf]; omega
    · have HE := Lib.hid (range_full (l := l) (lo := lo) (hi := hi) (most := most) (k := k) (by have := HL.out; omega) HLe.out)
      generalize ((l.take k).filter (inR lo hi)) = o at O3 HLe hfl HE ⊢
      go_wp2
      go_ret
      exact ⟨A3, c3, by rw [HE.out]; rfl, by rw [HE.out]; exact O3.out, Q3.out⟩
end Go.Proofs.Ytcclgepccahhbaa
