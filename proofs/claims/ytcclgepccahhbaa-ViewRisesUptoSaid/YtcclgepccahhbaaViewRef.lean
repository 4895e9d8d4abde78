/- Contracts: the document's answer for a view: Rises, Size, at, Get, Scan. -/
import Derived.Test.YtcclgepccahhbaaViewUp
import Derived.Test.YtcclgepccahhbaaTableRef5
namespace Go.Proofs.Ytcclgepccahhbaa
set_option maxRecDepth 100000
open Go.RowKit Prm Vm
set_option linter.unusedVariables false
set_option linter.unusedSimpArgs false

theorem WKeysIn.at_ {l : List Wr} (h : WKeysIn l) {k : Nat} (hk : k < l.length) : l[k].key.size ≤ maxLen := h _ (List.getElem_mem hk)

set_option maxHeartbeats 2000000 in
theorem rvRises_any (A : Option Addr) (n c : Nat) (l : List Wr) (w : World) (hd : Lst writeK w A n l) (hmx : n ≤ maxLen) (hs : WKeysIn l) :
    Calls Try.prog 17 #[.slice A n c] w fun e w' => e = .returned (.bool (risesB l)) ∧ Q w w' := by
  have HD := Lib.hid hd
  have HL := Lib.hid hd.len
  have HS := Lib.hid hs
  unfold maxLen at hmx
  clear hd hs
  go_enter Try.func17, Try.ntmps17
  go_wp2
  go_loopw [3] (fun i wr => ∃ k : Nat, k ≤ n ∧ i = .int .i64 ((k : Int) + 1) ∧ Q w wr ∧ ∀ j, ∀ h : j + 1 < l.length, j < k → lt (l[j]'(by omega)).key l[j + 1].key = true) (fun i _ => n + 1 - (intOf i).toNat)
  case atStart => exact ⟨0, Nat.zero_le _, by go_num, Q.refl _, fun j _ h => by omega⟩
  case round =>
    obtain ⟨k, hk, rfl, q, hall⟩ := hrel
    have HA := Lib.hid hall
    have HQ := Lib.hid q
    clear hall q
    by_cases hlt : k + 1 < n
    · have hkl : k + 1 < l.length := by have := HL.out; omega
      have hkl0 : k < l.length := by omega
      obtain ⟨ad, rfl, hab, x0, x1, x2⟩ := load_write (HD.out.q HQ.out) (Nat.lt_of_succ_lt hlt) hkl0
      obtain ⟨ad', e, hab', y0, y1, y2⟩ := load_write (HD.out.q HQ.out) hlt hkl
      injection e with e
      subst e
      have e1 : IntKind.i64.wrap ((k : Int) + 1 - 1) = k := by rw [IntKind.wrap_i64]; omega
      have e2 : ((k : Int) + 1).toNat = k + 1 := by omega
      have e3 : (k : Int) + 1 < (n : Int) := by omega
      have e4 : (k : Int) < (n : Int) := by omega
      have e5 : (0 : Int) ≤ (k : Int) + 1 := by omega
      have K1 := Lib.hid (fun W => less_any l[k].key l[k + 1].key W (HS.out.at_ hkl0) (HS.out.at_ hkl))
      by_cases hh : lt l[k].key l[k + 1].key = true
      · have HN := Lib.hid (fun (j : Nat) (h : j + 1 < l.length) (hj : j < k + 1) => show lt (l[j]'(by omega)).key l[j + 1].key = true from by
          by_cases e : j < k
          · exact HA.out j h e
          · have e : j = k := by omega
            subst e
            exact hh)
        rw [hh] at K1
        clear hh x1 y1 x2 y2
        generalize l[k].key = a at x0 K1
        generalize l[k + 1].key = b at y0 K1
        go_wp2
        go_quiet ((go_at_call 29; exact Calls.quiet_of (K1.out _)))
        all_goals
          go_wp2
          go_roundw
          case rel => exact ⟨k + 1, by omega, by go_num, HQ.out.drewN _, HN.out⟩
          case measure => simp [intOf]; omega
      · have hh' : lt l[k].key l[k + 1].key = false := by simpa using hh
        have HE := Lib.hid (risesB_not hkl hh')
        rw [hh'] at K1
        clear hh hh' x1 y1 x2 y2
        generalize l[k].key = a at x0 K1
        generalize l[k + 1].key = b at y0 K1
        go_wp2
        go_quiet ((go_at_call 29; exact Calls.quiet_of (K1.out _)))
        all_goals
          go_wp2
          go_ret
          exact ⟨by rw [HE.out]; rfl, HQ.out.drewN _⟩
    · have HE := Lib.hid (show risesB l = true from risesB_all fun i hi => HA.out i hi (by have := HL.out; omega))
      have e3 : ¬ ((k : Int) + 1 < (n : Int)) := by omega
      go_wp2
      go_ret
      exact ⟨by rw [HE.out]; rfl, HQ.out⟩


set_option maxHeartbeats 2000000 in
theorem rvSize_any (A : Option Addr) (n c : Nat) (l : List Wr) (w : World) (hd : Lst writeK w A n l) (hn : n ≤ maxLen) (hs : WSizes l) :
    Calls Try.prog 15 #[.slice A n c] w fun e w' => e = .returned (.int .i64 (szI l)) ∧ Q w w' := by
  have HD := Lib.hid hd
  have HL := Lib.hid hd.len
  have HS := Lib.hid hs
  unfold maxLen at hn
  clear hd hs
  go_enter Try.func15, Try.ntmps15
  go_wp2
  go_loopw [3, 4] (fun s i wr => ∃ k : Nat, k ≤ n ∧ i = .int .i64 k ∧ s = .int .i64 (szI (l.take k)) ∧ Q w wr) (fun _ i _ => n - (intOf i).toNat)
  case atStart => exact ⟨0, Nat.zero_le _, rfl, by rw [List.take_zero, szI_nil], Q.refl _⟩
  case round =>
    obtain ⟨k, hk, rfl, rfl, hq⟩ := hrel
    by_cases hlt : k < n
    · have hkl : k < l.length := by have := HL.out; omega
      obtain ⟨ad, rfl, hb, c0, c1, c2⟩ := load_write (HD.out.q hq) hlt hkl
      have hkn : (k : Int) < (n : Int) := by omega
      obtain ⟨s1, s2⟩ := HS.out _ (List.getElem_mem hkl)
      have E := szI_step hkl
      generalize hT : szI (l.take (k + 1)) = T at E
      have HT := Lib.hid hT
      clear hT
      generalize szI (l.take k) = S at E ⊢
      generalize l[k] = x at c0 c1 c2 s1 s2 E
      have e2 := E.2.symm
      obtain ⟨M, hM⟩ : ∃ M, IntKind.i64.wrap (S + (x.key.size : Int)) = M := ⟨_, rfl⟩
      rw [hM] at e2
      clear E s1 s2
      go_wp2
      go_quiet (fail)
      all_goals
        (try go_wp2)
        go_roundw
        case rel => exact ⟨k + 1, by omega, by go_num, by rw [HT.out], hq.drewN _⟩
        case measure => simp [intOf]; omega
    · have hkn : k = n := by omega
      have HE := Lib.hid (show l.take k = l by rw [List.take_of_length_le (by have := HL.out; omega)])
      clear hkn
      rw [HE.out]
      go_wp2
      go_ret
      exact ⟨rfl, hq⟩

set_option maxHeartbeats 1000000 in
theorem rvat_any (key : ByteArray) (A : Option Addr) (n c : Nat) (l : List Wr) (w : World) (hf : Lst writeK w A n l) (hn : n ≤ maxLen) (i0 : Nat) (h1 : Fst (hasW key) l i0) (r : Int) (hr : (i0 < n ∧ r = i0) ∨ (i0 = n ∧ r = -1)) :
    Calls Try.prog 28 #[.slice A n c, .string key] w fun e w' => e = .returned (.int .i64 r) ∧ w = w' := by
  have HF := Lib.hid hf
  have HL := Lib.hid hf.len
  have H1 := Lib.hid h1
  have HR := Lib.hid hr
  unfold maxLen at hn
  clear hf h1 hr
  go_enter Try.func28, Try.ntmps28
  go_wp2
  go_loop [5] (fun i => ∃ k : Nat, k ≤ n ∧ k ≤ i0 ∧ i = .int .i64 k) (fun i => n - (intOf i).toNat)
  case atStart => exact ⟨0, Nat.zero_le _, Nat.zero_le _, rfl⟩
  case round =>
    obtain ⟨k, hk, hki, rfl⟩ := hrel
    by_cases hlt : k < n
    · have hkl : k < l.length := by have := HL.out; omega
      obtain ⟨ad, rfl, hb, c0, c1, c2⟩ := load_write HF.out hlt hkl
      have hkn : (k : Int) < (n : Int) := by omega
      have e1 := same_str l[k].key key
      by_cases hh : hasW key l[k] = true
      · rw [show decide (l[k].key = key) = true from hh] at e1
        have hki0 : k = i0 := Nat.le_antisymm hki (Nat.le_of_not_lt fun h => by have := H1.out.no k hkl h; rw [hh] at this; cases this)
        have HE := Lib.hid (show (k : Int) = r by
          rcases HR.out with ⟨_, e⟩ | ⟨e, _⟩
          · rw [e, hki0]
          · omega)
        clear hh hki0
        go_wp2
        go_ret
        exact ⟨ret_int HE.out, rfl⟩
      · have hki1 : k < i0 := Nat.lt_of_le_of_ne hki fun e => by subst e; exact hh (H1.out.yes hkl)
        rw [show decide (l[k].key = key) = false from by simpa [hasW] using hh] at e1
        clear hh
        go_wp2
        go_round
        case rel => exact ⟨k + 1, by omega, by omega, by go_num⟩
        case measure => simp [intOf]; omega
    · have HE := Lib.hid (show (-1 : Int) = r by
        rcases HR.out with ⟨e, _⟩ | ⟨_, e⟩
        · omega
        · exact e.symm)
      go_wp2
      go_ret
      exact ⟨ret_int HE.out, rfl⟩

set_option maxHeartbeats 1000000 in
theorem rvGet_any (key : ByteArray) (A A2 : Option Addr) (n c m d : Nat) (l : List Wr) (base : List Pr) (w : World) (hf : Lst writeK w A n l) (hn : n ≤ maxLen) (hb : Lst pairK w A2 m base) (hm : m ≤ maxLen) :
    Calls Try.prog 19 #[.slice A n c, .slice A2 m d, .string key] w fun e w' => e = .returned (.tuple #[.string (get l base key).1, .bool (get l base key).2]) ∧ w = w' := by
  have HF := Lib.hid hf
  have HB := Lib.hid hb
  have HM := Lib.hid hm
  have HN := Lib.hid hn
  have HL := Lib.hid hf.len
  unfold maxLen at hn
  clear hf hb
  obtain ⟨i0, h1⟩ := fst_at (hasW key) l
  have K1 := rvat_any key A n c l w HF.out HN.out i0 h1
  by_cases hi : i0 < n
  · have K2 := Lib.hid (K1 i0 (.inl ⟨hi, rfl⟩))
    have hil : i0 < l.length := by have := HL.out; omega
    have HG := Lib.hid (Vm.get_at base hil (h1.yes hil) h1.no)
    obtain ⟨ad, rfl, hbk, c0, c1, c2⟩ := load_write HF.out hi hil
    clear K1 h1
    generalize hx : l[i0] = x at HG c0 c1 c2
    clear hx
    obtain ⟨xk, xv, xd⟩ := x
    have hi2 : (i0 : Int) < (n : Int) := by omega
    cases xd
    all_goals
      go_enter Try.func19, Try.ntmps19
      go_wp2_with fail
      refine K2.out.mono ?_
      rintro e w1 ⟨rfl, rfl⟩
      go_wp2
      go_ret2
      exact ⟨by rw [HG.out]; rfl, rfl⟩
  · have hin : i0 = n := by have := h1.le; have := HL.out; omega
    have K2 := Lib.hid (K1 (-1) (.inr ⟨hin, rfl⟩))
    have HG := Lib.hid (Vm.get_none base (h1.none (by have := HL.out; omega)))
    clear K1 h1 hin hi
    rw [HG.out]
    have KF := Lib.hid (refFind_any key A2 m d base w HB.out HM.out)
    generalize find key base = r at KF ⊢
    obtain ⟨r1, r2⟩ := r
    go_enter Try.func19, Try.ntmps19
    go_wp2_with fail
    refine K2.out.mono ?_
    rintro e w1 ⟨rfl, rfl⟩
    go_wp2_with fail
    refine KF.out.mono ?_
    rintro e w2 ⟨rfl, rfl⟩
    go_wp2
    go_ret2
    exact ⟨rfl, rfl⟩

theorem rvScan_any (lo hi : ByteArray) (most : Int) (A A2 : Option Addr) (n c m d : Nat) (l : List Wr) (base : List Pr) (w : World) (hf : Lst writeK w A n l) (hd : In_ pairK w A2 m d base) (hb : (m + n) * 32 ≤ 140737488355328) (hm : most ≤ 9223372036854775807)
    (hk : KeysIn base) (hw : WKeysIn l) (hlo : lo.size ≤ maxLen) (hhi : hi.size ≤ maxLen) :
    Calls Try.prog 22 #[.slice A n c, .slice A2 m d, .string lo, .string hi, .int .i64 most] w fun e w' => RetL pairK w (range (apply base l) lo hi most).length (range (apply base l) lo hi most) e w' := by
  have HF := Lib.hid hf
  have HD := Lib.hid hd
  have HB := Lib.hid hb
  have HL := Lib.hid (show (apply base l).length * 32 ≤ 140737488355328 by have := apply_len base l; have := hd.len; have := hf.len; omega)
  have HM := Lib.hid hm
  have HK := Lib.hid hk
  have HW := Lib.hid hw
  have HLo := Lib.hid hlo
  have HHi := Lib.hid hhi
  have HA := Lib.hid (show KeysIn (apply base l) from apply_keys hk hw)
  have KA := Lib.hid (refApply_any A2 A m d n c base l w hd hf hb hk hw)
  clear hf hd hb hm hk hw hlo hhi
  generalize apply base l = r at KA HL HA ⊢
  go_enter Try.func22, Try.ntmps22
  go_wp2_with fail
  refine KA.out.mono ?_
  rintro e w1 ⟨A1, c1, rfl, o1, q1⟩
  have I1 := Lib.hid (o1.in_ HL.out)
  have Q1 := Lib.hid q1
  clear o1 q1
  go_wp2_with fail
  refine (refRange_any lo hi most A1 _ c1 _ _ I1.out.lst HL.out HM.out HA.out HLo.out HHi.out).mono ?_
  rintro e w2 ⟨A2, c2, rfl, o2, q2⟩
  go_wp2
  go_ret
  exact ⟨A2, c2, rfl, o2.lower Q1.out.size, Q1.out.trans q2⟩
end Go.Proofs.Ytcclgepccahhbaa
