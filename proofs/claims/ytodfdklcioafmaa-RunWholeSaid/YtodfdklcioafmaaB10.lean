/- RunTake2, RunRef, RunLoad, Builder, RunBytes, RunShown, DiskApart, DiskWhole, RunWhole: merged. -/
import Derived.Test.YtodfdklcioafmaaB9
import Derived.Test.YtodfdklcioafmaaB1
import Derived.Test.YtodfdklcioafmaaShelf
import Derived.Lib.Builder
import Derived.Lib.AppendStr
import Derived.OwnWalk
import Derived.Test.YtodfdklcioafmaaB4
/- The contracts of run.Take and of the document's. -/
namespace Go.Proofs.Ytodfdklcioafmaa
set_option maxRecDepth 100000
open Go.RowKit Prm
set_option linter.unusedVariables false
set_option linter.unusedSimpArgs false

/-- pairs, and the errno. -/
def RetT (w : World) (x : List Pr × Nat) (e : Ending) (w' : World) : Prop :=
  ∃ A c, e = .returned (.tuple #[.slice A x.1.length c, .int .i64 (x.2 : Int)]) ∧ OwnK pairK w' w.heap.size A x.1.length c x.1 ∧ Q w w'
theorem RetT.bad {w w' : World} (q : Q w w') : RetT w ([], 3) (.returned (.tuple #[.slice none 0 0, .int .i64 3])) w' := ⟨none, 0, rfl, OwnK.nil_ _ _ _, q⟩

theorem topen_len (l : List UInt8) (most : Int) : (topen l most).1.length ≤ l.length ∧ (topen l most).2.1.length ≤ l.length := by
  have h := ttext_len l most
  have h2 := Dm.tnum_len (Dm.ttext l most).2.1
  unfold topen topen1 topen2
  split
  · simp
  · split
    · simp
    · split
      · simp
      · simp only; omega
theorem str_nonempty {s : ByteArray} {l : List UInt8} (h : s.data.toList = l) (hl : l ≠ []) : s.toList ≠ [] ∧ s.toList.isEmpty = false ∧ (s.toList == []) = false := by
  have h1 : s.toList ≠ [] := by rw [ByteArray.toList_eq, h]; exact hl
  exact ⟨h1, by simpa using h1, by simpa using h1⟩
theorem str_empty {s : ByteArray} {l : List UInt8} (h : s.data.toList = l) (hl : l = []) : s = ⟨#[]⟩ := ByteArray.ext (by rw [← Array.toList_inj, h, hl])
theorem may_cases {l : List Pr} : Rn.may l = true ∨ Rn.may l = false := by cases Rn.may l <;> simp

set_option maxHeartbeats 4000000 in
theorem rtake_any (s : ByteArray) (w : World) (hs : s.size ≤ 8796093022208) :
    Calls Try.prog 23 #[.string s] w (RetT w (Rn.take s.data.toList s.size)) := by
  have K1 := sopen_any s s.size w (by unfold maxLen; omega) (by omega) (by omega)
  have hln := topen_len s.data.toList s.size
  have hT : Rn.take s.data.toList s.size = Rn.tk1 (topen s.data.toList s.size) := rfl
  rw [Rn.size_data] at hln
  generalize topen s.data.toList s.size = x at K1 hT hln
  generalize Rn.take s.data.toList s.size = T at hT ⊢
  obtain ⟨b, r, e1⟩ := x
  obtain ⟨BB, hB, hBs, hBl⟩ := bytes_of b
  obtain ⟨RB, hR, hRs, hRl⟩ := bytes_of r
  unfold ttR at K1
  simp only at K1 hln
  rw [← hB, ← hR] at K1
  rw [← hBs] at hln
  have HK := Lib.hid K1
  have HB := Lib.hid hln.1
  clear K1 hln
  unfold Rn.tk1 at hT
  simp only at hT
  by_cases c1 : e1 = 0
  · subst c1
    by_cases c2 : r = []
    · rw [if_neg (by simpa using c2)] at hT
      have hre := str_empty hRl c2
      rw [hre] at HK
      have K2 := takePairs_any BB
      rw [hBl] at K2
      generalize Rn.tkps b = y at K2 hT
      obtain ⟨l, r2, e2⟩ := y
      unfold RetP at K2
      simp only at K2
      obtain ⟨SB, hS, hSs, hSl⟩ := bytes_of r2
      rw [← hS] at K2
      have HK2 := Lib.hid (fun W => K2 W (Nat.le_trans HB.out hs))
      unfold Rn.tk2 at hT
      simp only at hT
      clear K2 hre hR hRs hRl hB hBs hBl c2 HB
      by_cases c3 : e2 = 0
      · subst c3
        by_cases c4 : r2 = []
        · have hse := str_empty hSl c4
          rw [hse] at HK2
          rcases may_cases (l := l) with c5 | c5
          · have HT := Lib.hid (show T = (l, 0) by rw [hT, if_neg (by simp [c4, c5])])
            have HM := Lib.hid c5
            clear hT c4 hse hS hSs hSl c5
            go_enter Try.func23, Try.ntmps23
            go_wp2_with fail
            refine HK.out.mono ?_
            rintro e w1 ⟨rfl, q1⟩
            go_wp2_with fail
            refine (HK2.out _).mono ?_
            rintro e w2 ⟨A, c, rfl, o2, q2⟩
            have O2 := Lib.hid o2
            have Q2 := Lib.hid (q1.trans q2)
            have hcap := o2.le
            have hcap2 := o2.cap
            clear o2
            go_wp2_with fail
            refine (mayBe_any A l.length c l _ O2.out.lst (by unfold maxLen at *; omega)).mono ?_
            rw [HM.out]
            rintro e w3 ⟨rfl, q3⟩
            go_wp2_with fail
            go_ret2
            rw [HT.out]
            exact ⟨A, c, rfl, (O2.out.lower q1.size).q q3, Q2.out.trans q3⟩
          · have HT := Lib.hid (show T = ([], 3) by rw [hT, if_pos (.inr (.inr c5))])
            have HM := Lib.hid c5
            clear hT c4 hse hS hSs hSl c5
            go_enter Try.func23, Try.ntmps23
            go_wp2_with fail
            refine HK.out.mono ?_
            rintro e w1 ⟨rfl, q1⟩
            go_wp2_with fail
            refine (HK2.out _).mono ?_
            rintro e w2 ⟨A, c, rfl, o2, q2⟩
            have O2 := Lib.hid o2
            have Q2 := Lib.hid (q1.trans q2)
            have hcap := o2.le
            have hcap2 := o2.cap
            clear o2
            go_wp2_with fail
            refine (mayBe_any A l.length c l _ O2.out.lst (by unfold maxLen at *; omega)).mono ?_
            rw [HM.out]
            rintro e w3 ⟨rfl, q3⟩
            go_wp2_with fail
            go_ret2
            rw [HT.out]
            exact RetT.bad (Q2.out.trans q3)
        · have HT := Lib.hid (show T = ([], 3) by rw [hT, if_pos (.inr (.inl c4))])
          obtain ⟨n1, n2, n3⟩ := str_nonempty hSl c4
          clear hT c4 hS hSs hSl
          go_enter Try.func23, Try.ntmps23
          go_wp2_with fail
          refine HK.out.mono ?_
          rintro e w1 ⟨rfl, q1⟩
          go_wp2_with fail
          refine (HK2.out _).mono ?_
          rintro e w2 ⟨A, c, rfl, o2, q2⟩
          have Q2 := Lib.hid (q1.trans q2)
          clear o2
          go_wp2_with fail
          go_ret2
          rw [HT.out]
          exact RetT.bad Q2.out
      · have HT := Lib.hid (show T = ([], 3) by rw [hT, if_pos (.inl c3)])
        have hne : ((e2 : Int) != 0) = true := by simp; omega
        clear hT c3 hS hSs hSl
        go_enter Try.func23, Try.ntmps23
        go_wp2_with fail
        refine HK.out.mono ?_
        rintro e w1 ⟨rfl, q1⟩
        go_wp2_with fail
        refine (HK2.out _).mono ?_
        rintro e w2 ⟨A, c, rfl, o2, q2⟩
        have Q2 := Lib.hid (q1.trans q2)
        clear o2
        go_wp2_with fail
        go_ret2
        rw [HT.out]
        exact RetT.bad Q2.out
    · rw [if_pos (.inr c2)] at hT
      obtain ⟨n1, n2, n3⟩ := str_nonempty hRl c2
      have HT := Lib.hid hT
      clear hT c2 hR hRs hRl hB hBs hBl HB
      go_enter Try.func23, Try.ntmps23
      go_wp2_with fail
      refine HK.out.mono ?_
      rintro e w1 ⟨rfl, q1⟩
      go_wp2_with fail
      go_ret2
      rw [HT.out]
      exact RetT.bad q1
  · rw [if_pos (.inl c1)] at hT
    have hne : ((e1 : Int) != 0) = true := by simp; omega
    have HT := Lib.hid hT
    clear hT c1 hR hRs hRl hB hBs hBl HB
    go_enter Try.func23, Try.ntmps23
    go_wp2_with fail
    refine HK.out.mono ?_
    rintro e w1 ⟨rfl, q1⟩
    go_wp2_with fail
    go_ret2
    rw [HT.out]
    exact RetT.bad q1
end Go.Proofs.Ytodfdklcioafmaa

/- Contracts: the document's may and Take. -/
namespace Go.Proofs.Ytodfdklcioafmaa
set_option maxRecDepth 100000
open Go.RowKit Prm
set_option linter.unusedVariables false
set_option linter.unusedSimpArgs false

theorem big_no {l : List Pr} {k : Nat} (hk : k < l.length) (h : Rn.big l[k] = false) (ha : ∀ j, ∀ h : j < l.length, j < k → Rn.big l[j] = false) : ∀ j, ∀ h : j < l.length, j < k + 1 → Rn.big l[j] = false := fun j hj hjk => by
  by_cases e : j < k
  · exact ha j hj e
  · have e : j = k := by omega
    subst e; exact h
theorem may_of {l : List Pr} (ha : ∀ j, ∀ h : j < l.length, Rn.big l[j] = false) : Rn.may l = right l := by
  have : l.any Rn.big = false := by
    rw [List.any_eq_false]
    intro x hx
    obtain ⟨i, hi, rfl⟩ := List.getElem_of_mem hx
    simp [ha i hi]
  unfold Rn.may
  rw [this]; simp
theorem may_not {l : List Pr} {k : Nat} (hk : k < l.length) (h : Rn.big l[k] = true) : Rn.may l = false := by
  have : l.any Rn.big = true := List.any_eq_true.2 ⟨_, List.getElem_mem hk, h⟩
  unfold Rn.may
  rw [this]; simp

set_option maxHeartbeats 2000000 in
theorem refMay_any (A : Option Addr) (n c : Nat) (l : List Pr) (w : World) (hd : Lst pairK w A n l) (hmx : n ≤ maxLen) (hks : KeysIn l) :
    Calls Try.prog 71 #[.slice A n c] w fun e w' => e = .returned (.bool (Rn.may l)) ∧ Q w w' := by
  have HD := Lib.hid hd
  have HL := Lib.hid hd.len
  have HKs := Lib.hid hks
  have HN := Lib.hid hmx
  unfold maxLen at hmx
  clear hd hks
  go_enter Try.func71, Try.ntmps71
  go_wp2
  go_loopw [3] (fun i wr => ∃ k : Nat, k ≤ n ∧ i = .int .i64 k ∧ Q w wr ∧ ∀ j, ∀ h : j < l.length, j < k → Rn.big l[j] = false) (fun i _ => n - (intOf i).toNat)
  case atStart => exact ⟨0, Nat.zero_le _, rfl, Q.refl _, fun j _ h => by omega⟩
  case round =>
    obtain ⟨k, hk, rfl, q, hall⟩ := hrel
    have HA := Lib.hid hall
    have HQ := Lib.hid q
    clear hall q
    by_cases hlt : k < n
    · have hkl : k < l.length := by have := HL.out; omega
      obtain ⟨ad, rfl, hab, x0, x1⟩ := load_pair (HD.out.q HQ.out) hlt hkl
      have hkn : (k : Int) < (n : Int) := by omega
      have hno := fun h => big_no hkl h HA.out
      have hye := fun h => may_not hkl h
      generalize l[k] = p at x0 x1 hno hye
      obtain ⟨a, b⟩ := p
      by_cases h1 : (65536 : Int) < (a.size : Int)
      · have HR := Lib.hid (hye (by unfold Rn.big; simp; omega))
        clear hno hye
        go_wp2
        go_ret
        exact ⟨ret_bool HR.out.symm, HQ.out⟩
      · by_cases h2 : (65536 : Int) < (b.size : Int)
        · have HR := Lib.hid (hye (by unfold Rn.big; simp; omega))
          clear hno hye
          go_wp2
          go_ret
          exact ⟨ret_bool HR.out.symm, HQ.out⟩
        · have HR := Lib.hid (hno (by unfold Rn.big; simp; omega))
          clear hno hye
          go_wp2
          go_roundw
          case rel => exact ⟨k + 1, by omega, by go_num, HQ.out, HR.out⟩
          case measure => simp [intOf]; omega
    · have HE := Lib.hid (may_of fun j hj => HA.out j hj (by have := HL.out; omega))
      go_wp2_with fail
      refine (refRight_any A n c l _ (HD.out.q HQ.out) HN.out HKs.out).mono ?_
      rintro e w2 ⟨rfl, q2⟩
      go_wp2_with fail
      go_ret
      exact ⟨ret_bool HE.out.symm, HQ.out.trans q2⟩

/-- where the document's Take stands behind k pairs. -/
def TrS (w : World) (sz : Nat) (T : List Pr × List UInt8 × Nat) (v k : Nat) (s8 s10 : Value) (wr : World) : Prop :=
  ∃ (r : ByteArray) (acc : List Pr) (A : Option Addr) (c : Nat), s8 = .string r ∧ s10 = .slice A acc.length c ∧ OwnK pairK wr w.heap.size A acc.length c acc ∧ Q w wr ∧ 4 * acc.length + r.size ≤ sz ∧
    T = Rn.tkp (v - k) r.data.toList acc
theorem TrS.step {w wr w2 : World} {sz : Nat} {T : List Pr × List UInt8 × Nat} {v k : Nat} {s8 s10 : Value} (h : TrS w sz T v k s8 s10 wr) (q : Q wr w2) : TrS w sz T v k s8 s10 w2 := by
  obtain ⟨r, acc, A, c, h1, h3, h4, h5, h6⟩ := h
  exact ⟨r, acc, A, c, h1, h3, h4.q q, h5.trans q, h6⟩

theorem tkp_keys : ∀ (n : Nat) (r : List UInt8) (acc : List Pr), (∀ p ∈ acc, p.key.size ≤ 9223372036854775807) → (r.length ≤ 9223372036854775807) → ∀ p ∈ (Rn.tkp n r acc).1, p.key.size ≤ 9223372036854775807
  | 0, r, acc, h, _ => h
  | n + 1, r, acc, h, hr => by
    rw [Rn.tkp]
    split
    · exact h
    · split
      · exact h
      · have h1 := ttext_len r 65536
        have h2 := ttext_len (Dm.ttext r 65536).2.1 65536
        refine tkp_keys n _ _ ?_ (by omega)
        intro p hp
        rcases List.mem_append.1 hp with hp | hp
        · exact h p hp
        · simp only [List.mem_singleton] at hp
          subst hp
          show (Dm.ttext r 65536).1.toArray.size ≤ _
          rw [List.size_toArray]; omega

set_option maxHeartbeats 8000000 in
set_option maxRecDepth 100000 in
theorem refTake_any (s : ByteArray) (w : World) (hs : s.size ≤ 8796093022208) :
    Calls Try.prog 39 #[.string s] w (RetT w (Rn.take s.data.toList 1073741824)) := by
  have K1 := refOpen_any s 1073741824 w (by unfold maxLen; omega) (by omega) (by omega)
  have hln := topen_len s.data.toList 1073741824
  have hT : Rn.take s.data.toList 1073741824 = Rn.tk1 (topen s.data.toList 1073741824) := rfl
  rw [Rn.size_data] at hln
  generalize topen s.data.toList 1073741824 = x at K1 hT hln
  generalize Rn.take s.data.toList 1073741824 = T at hT ⊢
  obtain ⟨b, r, e1⟩ := x
  obtain ⟨BB, hB, hBs, hBl⟩ := bytes_of b
  obtain ⟨RB, hR, hRs, hRl⟩ := bytes_of r
  unfold ttR at K1
  simp only at K1 hln
  rw [← hB, ← hR] at K1
  rw [← hBs] at hln
  have HK := Lib.hid K1
  have HB := Lib.hid hln.1
  clear K1 hln
  unfold Rn.tk1 at hT
  simp only at hT
  by_cases c1 : e1 = 0
  · subst c1
    by_cases c2 : r = []
    · rw [if_neg (by simpa using c2)] at hT
      have hre := str_empty hRl c2
      rw [hre] at HK
      have K2 := fun W => refTakeNum_any BB W (by have := HB.out; unfold maxLen; omega)
      rw [hBl] at K2
      have hlen := Dm.tnum_len b
      have hle := Dm.tnum_le b
      have htps : Rn.tkps b = if (Dm.tnum b).2.2 ≠ 0 then ([], [], (Dm.tnum b).2.2) else Rn.tkp (Dm.tnum b).1 (Dm.tnum b).2.1 [] := rfl
      generalize Dm.tnum b = y at K2 hlen hle htps
      obtain ⟨v, r0, e2⟩ := y
      unfold tnR at K2
      simp only at K2 hlen hle htps
      obtain ⟨R0, h0, h0s, h0l⟩ := bytes_of r0
      rw [← h0] at K2
      have HK2 := Lib.hid K2
      by_cases c3 : e2 = 0
      · subst c3
        rw [if_neg (by simp)] at htps
        have HSz := Lib.hid (show R0.size ≤ s.size by rw [h0s]; have := HB.out; rw [← hBs] at hlen; omega)
        have htk : T = Rn.tk2 (Rn.tkp v r0 []) := by rw [hT, htps]
        have S0 := Lib.hid (show TrS w s.size (Rn.tkp v r0 []) v 0 (.string R0) (.slice none 0 0) w from
          ⟨R0, [], none, 0, rfl, rfl, OwnK.nil_ _ _ _, Q.refl _, by have := HSz.out; simp; omega, by rw [Nat.sub_zero, h0l]⟩)
        have HKy := Lib.hid (tkp_keys v r0 [] (by simp) (by have := HSz.out; rw [h0s] at this; omega))
        generalize Rn.tkp v r0 [] = T2 at S0 htk HKy
        have HTk := Lib.hid htk
        have hv1 : (v : Int) ≤ 18446744073709551615 := by unfold Dm.maxU at hle; omega
        clear K2 hT htps hre hR hRs hRl hB hBs hBl c2 HB h0 h0s h0l hlen hle htk HSz
        go_enter Try.func39, Try.ntmps39
        go_wp2_with fail
        refine HK.out.mono ?_
        rintro e w1 ⟨rfl, q1⟩
        go_wp2_with fail
        refine (HK2.out _).mono ?_
        rintro e w2 ⟨rfl, q2⟩
        have S1 := Lib.hid (S0.out.step (q1.trans q2))
        clear S0 q1 q2
        go_wp2_with fail
        go_loopw [8, 10, 11] (fun s8 s10 s11 wr => ∃ k : Nat, k ≤ v ∧ s11 = .int .u64 k ∧ TrS w s.size T2 v k s8 s10 wr) (fun _ _ s11 _ => v - (intOf s11).toNat)
        case atStart => exact ⟨0, Nat.zero_le _, rfl, S1.out⟩
        case round =>
          obtain ⟨k, hk, rfl, r, acc, A, c, rfl, rfl, o1, q1, hsz, hT⟩ := hrel
          have HO := Lib.hid o1
          have HQ := Lib.hid q1
          have HT := Lib.hid hT
          clear o1 q1 hT S1 HK HK2
          by_cases hlt : k < v
          · have hkv : (k : Int) < (v : Int) := by omega
            obtain ⟨m, hm⟩ : ∃ m, v - k = m + 1 := ⟨v - k - 1, by omega⟩
            have hT := HT.out
            rw [hm] at hT
            have hm2 : m = v - (k + 1) := by omega
            have K1 := fun W => refTakeText_any r 65536 W (by unfold maxLen; omega) (by omega) (by omega)
            have l1 := ttext_len r.data.toList 65536
            have t1 := Rn.ttext_takes r.data.toList 65536
            rw [Rn.size_data] at l1 t1
            have a1 := fun h => tkp_key (n := m) (r := r.data.toList) (acc := acc) h
            have a2 := fun h h2 => tkp_val (n := m) (r := r.data.toList) (acc := acc) h h2
            have a3 := fun h h2 => tkp_both (n := m) (r := r.data.toList) (acc := acc) h h2
            generalize Dm.ttext r.data.toList 65536 = x1 at K1 l1 t1 a1 a2 a3
            obtain ⟨k1, r1, e1⟩ := x1
            simp only at l1 t1 a1 a2 a3
            obtain ⟨KB, hKB, hKBs, hKBl⟩ := bytes_of k1
            obtain ⟨RB, hRB, hRBs, hRBl⟩ := bytes_of r1
            unfold ttR at K1
            simp only at K1
            rw [← hKB, ← hRB] at K1
            have HKK := Lib.hid K1
            clear K1
            by_cases c1 : e1 = 0
            · subst c1
              have K2 := fun W => refTakeText_any RB 65536 W (by unfold maxLen; omega) (by omega) (by omega)
              have l2 := ttext_len r1 65536
              have t2 := Rn.ttext_takes r1 65536
              have t1' := t1 rfl
              have a2' := a2 rfl
              have a3' := a3 rfl
              rw [hRBl] at K2
              generalize Dm.ttext r1 65536 = x2 at K2 l2 t2 a2' a3'
              obtain ⟨k2, r2, e2⟩ := x2
              simp only at l2 t2 a2' a3'
              obtain ⟨VB, hVB, hVBs, hVBl⟩ := bytes_of k2
              obtain ⟨SB, hSB, hSBs, hSBl⟩ := bytes_of r2
              unfold ttR at K2
              simp only at K2
              rw [← hVB, ← hSB] at K2
              rw [← hKB, ← hVB] at a3'
              have HK2 := Lib.hid K2
              clear K2 a1 a2 a3 t1 l1 hKB hKBs hKBl hRB hVB hVBs hVBl
              by_cases c2 : e2 = 0
              · subst c2
                have HA := Lib.hid (hT.trans (a3' rfl))
                have t2' := t2 rfl
                have HM := Lib.hid hm2
                have HSl := Lib.hid hSBl
                have HSS := Lib.hid (show 4 * (acc.length + 1) + SB.size ≤ s.size by rw [hSBs]; omega)
                have HAp := Lib.hid (show (acc.length + 1) * 32 ≤ 140737488355328 by omega)
                clear hT t2 a2' a3' hSB hSBs hSBl hRBs hRBl t1' l2 hm hm2 t2' hsz
                go_wp2_with fail
                refine (HKK.out _).mono ?_
                rintro e w3 ⟨rfl, q3⟩
                go_wp2_with fail
                refine (HK2.out _).mono ?_
                rintro e w4 ⟨rfl, q4⟩
                have Q4 := Lib.hid (q3.trans q4)
                clear q3 q4
                go_wp2_with (at_builtin
                             refine wpl_appK pairK rfl (.tmp 61) (.tmp 65) 31 rfl rfl w.heap.size A acc.length c acc rfl ((HO.out.q Q4.out).alloc _) (some ⟨w4.heap.size, 0, none⟩) 1 1 [⟨KB, VB⟩] rfl (by have := lit_pair w4 ⟨KB, VB⟩; simpa using this) (fun e => by cases e) HAp.out (by have := HQ.out.size; have := Q4.out.size; simp; omega) ?_
                             intro A5 c5 w5 o5 b5
                             have S5 := Lib.hid (show TrS w s.size T2 v (k + 1) (.string SB) (.slice A5 (acc.length + 1) c5) w5 from ⟨SB, acc ++ [⟨KB, VB⟩], A5, c5, rfl, by rw [List.length_append]; rfl, by rw [List.length_append]; exact o5, ((HQ.out.trans Q4.out).alloc _).below.trans b5, by rw [List.length_append]; exact HSS.out, by rw [HSl.out, ← HM.out]; exact HA.out⟩)
                             clear o5 b5)
                go_roundw
                case rel => exact ⟨k + 1, by omega, by go_num, S5.out⟩
                case measure => simp [intOf]; omega
              · have HT3 := Lib.hid (show T = ([], 3) by rw [HTk.out, hT, a2' c2]; unfold Rn.tk2; rw [if_pos (.inl c2)])
                have hne : ((e2 : Int) != 0) = true := by simp; omega
                clear hT t2 a2' a3' hSB hSBs hSBl hRBs hRBl t1' l2 hm hm2 hsz c2
                go_wp2_with fail
                refine (HKK.out _).mono ?_
                rintro e w3 ⟨rfl, q3⟩
                go_wp2_with fail
                refine (HK2.out _).mono ?_
                rintro e w4 ⟨rfl, q4⟩
                go_wp2_with fail
                go_ret2
                rw [HT3.out]
                exact RetT.bad (HQ.out.trans (q3.trans q4))
            · have HT3 := Lib.hid (show T = ([], 3) by rw [HTk.out, hT, a1 c1]; unfold Rn.tk2; rw [if_pos (.inl c1)])
              have hne : ((e1 : Int) != 0) = true := by simp; omega
              clear hT a1 a2 a3 hKB hKBs hKBl hRB hRBs hRBl t1 l1 hm hm2 hsz c1
              go_wp2_with fail
              refine (HKK.out _).mono ?_
              rintro e w3 ⟨rfl, q3⟩
              go_wp2_with fail
              go_ret2
              rw [HT3.out]
              exact RetT.bad (HQ.out.trans q3)
          · have hT2 : T2 = (acc, r.data.toList, 0) := by rw [HT.out, show v - k = 0 by omega]; rfl
            have hTT := HTk.out
            rw [hT2] at hTT
            unfold Rn.tk2 at hTT
            simp only at hTT
            have HKa := Lib.hid (show KeysIn acc by have h := HKy.out; rw [hT2] at h; exact fun p hp => by have := h p hp; unfold maxLen; omega)
            have hcap := HO.out.le
            have hcap2 := HO.out.cap
            rcases may_cases (l := acc) with c5 | c5
            · by_cases c6 : r.data.toList = []
              · have HT3 := Lib.hid (show T = (acc, 0) by rw [hTT, if_neg (by simp [c6, c5])])
                have hre := str_empty (s := r) rfl c6
                subst hre
                have HM := Lib.hid c5
                clear hT2 hTT c5 c6 HT
                go_wp2_with fail
                refine (refMay_any A acc.length c acc _ HO.out.lst (by unfold maxLen at *; omega) HKa.out).mono ?_
                rw [HM.out]
                rintro e w3 ⟨rfl, q3⟩
                go_wp2_with fail
                go_ret2
                rw [HT3.out]
                exact ⟨A, c, rfl, HO.out.q q3, HQ.out.trans q3⟩
              · have HT3 := Lib.hid (show T = ([], 3) by rw [hTT, if_pos (.inr (.inl c6))])
                have hsz0 : 0 < r.size := by
                  have : 0 < r.data.toList.length := List.length_pos_iff.2 c6
                  rw [Rn.size_data] at this; omega
                have HM := Lib.hid c5
                clear hT2 hTT c5 c6 HT
                go_wp2_with fail
                refine (refMay_any A acc.length c acc _ HO.out.lst (by unfold maxLen at *; omega) HKa.out).mono ?_
                rw [HM.out]
                rintro e w3 ⟨rfl, q3⟩
                go_wp2_with fail
                go_ret2
                rw [HT3.out]
                exact RetT.bad (HQ.out.trans q3)
            · have HT3 := Lib.hid (show T = ([], 3) by rw [hTT, if_pos (.inr (.inr c5))])
              have HM := Lib.hid c5
              clear hT2 hTT c5 HT
              by_cases c6 : r.data.toList = []
              case' pos =>
                have hre := str_empty (s := r) rfl c6
                subst hre
                clear c6
              case' neg =>
                have hsz0 : 0 < r.size := by
                  have : 0 < r.data.toList.length := List.length_pos_iff.2 c6
                  rw [Rn.size_data] at this; omega
                clear c6
              all_goals
                go_wp2_with fail
                refine (refMay_any A acc.length c acc _ HO.out.lst (by unfold maxLen at *; omega) HKa.out).mono ?_
                rw [HM.out]
                rintro e w3 ⟨rfl, q3⟩
                go_wp2_with fail
                go_ret2
                rw [HT3.out]
                exact RetT.bad (HQ.out.trans q3)
      · rw [if_pos c3] at htps
        have HT := Lib.hid (show T = ([], 3) by rw [hT, htps]; unfold Rn.tk2; rw [if_pos (.inl c3)])
        have hne : ((e2 : Int) != 0) = true := by simp; omega
        clear K2 hT htps hre hR hRs hRl hB hBs hBl c2 HB h0 h0s h0l hlen hle c3
        go_enter Try.func39, Try.ntmps39
        go_wp2_with fail
        refine HK.out.mono ?_
        rintro e w1 ⟨rfl, q1⟩
        go_wp2_with fail
        refine (HK2.out _).mono ?_
        rintro e w2 ⟨rfl, q2⟩
        go_wp2_with fail
        go_ret2
        rw [HT.out]
        exact RetT.bad (q1.trans q2)
    · rw [if_pos (.inr c2)] at hT
      have hsz0 : 0 < RB.size := by
        have : 0 < r.length := List.length_pos_iff.2 c2
        omega
      have HT := Lib.hid hT
      clear hT c2 hR hRs hRl hB hBs hBl HB
      go_enter Try.func39, Try.ntmps39
      go_wp2_with fail
      refine HK.out.mono ?_
      rintro e w1 ⟨rfl, q1⟩
      go_wp2_with fail
      go_ret2
      rw [HT.out]
      exact RetT.bad q1
  · rw [if_pos (.inl c1)] at hT
    have hne : ((e1 : Int) != 0) = true := by simp; omega
    have HT := Lib.hid hT
    clear hT c1 hR hRs hRl hB hBs hBl HB
    go_enter Try.func39, Try.ntmps39
    go_wp2_with fail
    refine HK.out.mono ?_
    rintro e w1 ⟨rfl, q1⟩
    go_wp2_with fail
    go_ret2
    rw [HT.out]
    exact RetT.bad q1
end Go.Proofs.Ytodfdklcioafmaa

/- Contracts: run.Load, and the document's. -/
namespace Go.Proofs.Ytodfdklcioafmaa
set_option maxRecDepth 100000
open Go.RowKit Dkm
set_option linter.unusedVariables false
set_option linter.unusedSimpArgs false

namespace Rn
/-- the row of a file, and the errno. -/
def loadM (nm : ByteArray) (l : List Fil) : List Prm.Pr × Nat := if (redd nm l).2 ≠ 0 then ([], 7) else take (redd nm l).1.data.toList 1073741824
end Rn
theorem redd_err (nm : ByteArray) (l : List Fil) : (redd nm l).2 = 0 ∨ (redd nm l).2 = 7 := by
  unfold redd; split <;> simp
theorem redd_size {nm : ByteArray} {l : List Fil} {B : Nat} (h : ∀ f ∈ l, f.sf.size + f.wt.size ≤ B) : (redd nm l).1.size ≤ B := by
  rcases plc_cases nm l with ⟨_, hall⟩ | ⟨k, hk, _, hkn, hf⟩
  · rw [redd_none hall]; exact Nat.zero_le _
  · rw [redd_at hk hkn hf, ByteArray.size_append]; exact h _ (List.getElem_mem hk)
theorem RetT.none_ {w w' : World} (q : Q w w') : RetT w ([], 7) (.returned (.tuple #[.slice none 0 0, .int .i64 7])) w' := ⟨none, 0, rfl, OwnK.nil_ _ _ _, q⟩
theorem RetT.after {w w1 w' : World} {x : List Prm.Pr × Nat} {e : Ending} (q : Q w w1) (h : RetT w1 x e w') : RetT w x e w' := by
  obtain ⟨A, c, h1, h2, h3⟩ := h
  exact ⟨A, c, h1, h2.lower q.size, q.trans h3⟩

set_option maxHeartbeats 1000000 in
theorem load_any (nm : ByteArray) (A : Option Addr) (n c : Nat) (d : Dk) (w : World) (hd : Dsk w A n c d.fs) (hs : ∀ f ∈ d.fs, f.sf.size + f.wt.size ≤ 1073741824) :
    Calls Try.prog 13 #[dkv A n c d.room d.fuse d.off, .string nm] w (RetT w (Rn.loadM nm d.fs)) := by
  have HR := Lib.hid (fun W (h : Files W A n d.fs) => read_any nm A n c d.room d.fuse d.off d.fs W h hd.max (fun f hf => Nat.le_trans (hs f hf) (by unfold maxLen; omega)))
  have hz := redd_size (nm := nm) hs
  have her := redd_err nm d.fs
  have hM : Rn.loadM nm d.fs = if (redd nm d.fs).2 ≠ 0 then ([], 7) else Rn.take (redd nm d.fs).1.data.toList 1073741824 := rfl
  generalize Rn.loadM nm d.fs = T at hM ⊢
  generalize redd nm d.fs = x at HR hz her hM
  obtain ⟨s, er⟩ := x
  simp only at hz her hM HR
  have HD := Lib.hid hd
  clear hs hd
  rcases her with rfl | rfl
  · have HT := Lib.hid (show T = Rn.take s.data.toList s.size by rw [hM, if_neg (by simp)]; exact (Rn.take_most _ _ _ (by rw [Rn.size_data]; omega) (by rw [Rn.size_data]; omega)))
    have HZ := Lib.hid hz
    clear hM hz
    go_enter Try.func13, Try.ntmps13
    go_wp2_with fail
    refine (HR.out _ (HD.out.files.q ((Q.refl _).alloc _))).mono ?_
    rintro e w1 ⟨rfl, q1⟩
    go_wp2_with fail
    refine (rtake_any s _ (by have := HZ.out; omega)).mono ?_
    rw [← HT.out]
    rintro e w2 ⟨A2, c2, rfl, o2, q2⟩
    go_wp2_with fail
    go_ret2
    exact ⟨A2, c2, rfl, o2.lower (((Q.refl _).alloc _).trans q1).size, (((Q.refl _).alloc _).trans q1).trans q2⟩
  · have HT := Lib.hid (show T = ([], 7) by rw [hM, if_pos (by simp)])
    clear hM hz
    go_enter Try.func13, Try.ntmps13
    go_wp2_with fail
    refine (HR.out _ (HD.out.files.q ((Q.refl _).alloc _))).mono ?_
    rintro e w1 ⟨rfl, q1⟩
    go_wp2_with fail
    go_ret2
    rw [HT.out]
    exact RetT.none_ (((Q.refl _).alloc _).trans q1)

set_option maxHeartbeats 1000000 in
theorem refLoad_any (nm : ByteArray) (A : Option Addr) (n c : Nat) (d : Dk) (w : World) (hd : Dsk w A n c d.fs) (hs : ∀ f ∈ d.fs, f.sf.size + f.wt.size ≤ 1073741824) :
    Calls Try.prog 14 #[dkv A n c d.room d.fuse d.off, .string nm] w (RetT w (Rn.loadM nm d.fs)) := by
  have HR := Lib.hid (fun W (h : Files W A n d.fs) => ref_read nm A n c d.room d.fuse d.off d.fs W h hd.max (fun f hf => Nat.le_trans (hs f hf) (by unfold maxLen; omega)))
  have hz := redd_size (nm := nm) hs
  have her := redd_err nm d.fs
  have hM : Rn.loadM nm d.fs = if (redd nm d.fs).2 ≠ 0 then ([], 7) else Rn.take (redd nm d.fs).1.data.toList 1073741824 := rfl
  generalize Rn.loadM nm d.fs = T at hM ⊢
  generalize redd nm d.fs = x at HR hz her hM
  obtain ⟨s, er⟩ := x
  simp only at hz her hM HR
  have HD := Lib.hid hd
  clear hs hd
  rcases her with rfl | rfl
  · have HT := Lib.hid (show T = Rn.take s.data.toList 1073741824 by rw [hM, if_neg (by simp)])
    have HZ := Lib.hid hz
    clear hM hz
    go_enter Try.func14, Try.ntmps14
    go_wp2_with fail
    refine (HR.out _ (HD.out.files.q ((Q.refl _).alloc _))).mono ?_
    rintro e w1 ⟨rfl, q1⟩
    go_wp2_with fail
    refine (refTake_any s _ (by have := HZ.out; omega)).mono ?_
    rw [← HT.out]
    rintro e w2 ⟨A2, c2, rfl, o2, q2⟩
    go_wp2_with fail
    go_ret2
    exact ⟨A2, c2, rfl, o2.lower (((Q.refl _).alloc _).trans q1).size, (((Q.refl _).alloc _).trans q1).trans q2⟩
  · have HT := Lib.hid (show T = ([], 7) by rw [hM, if_pos (by simp)])
    clear hM hz
    go_enter Try.func14, Try.ntmps14
    go_wp2_with fail
    refine (HR.out _ (HD.out.files.q ((Q.refl _).alloc _))).mono ?_
    rintro e w1 ⟨rfl, q1⟩
    go_wp2_with fail
    go_ret2
    rw [HT.out]
    exact RetT.none_ (((Q.refl _).alloc _).trans q1)

end Go.Proofs.Ytodfdklcioafmaa

/- Contracts: strings.Builder's copyCheck, WriteString, String, at a builder that the call has made. -/
namespace Go.Proofs.Ytodfdklcioafmaa
set_option maxRecDepth 100000
open Go.RowKit
set_option linter.unusedVariables false

theorem bld_size : (Try.prog.info? 79).map (fun i => i.size) = some 2 := by kernel_rfl
theorem bld_lies : liesAt Try.prog Try.prog.depth 79 (2 / Try.prog.cellsOf 79) 0 79 1 = true := by kernel_rfl
theorem byte_info : (Try.prog.info? 5).map (fun i => (i.zero, i.size, i.bytes)) = some (some (.int .u8 0), 1, 1) := by kernel_rfl

set_option maxHeartbeats 1000000 in
set_option maxRecDepth 100000 in
theorem check_used (b : Nat) (w : World) (h0 : w.cell? ⟨b, 0, none⟩ = some (.pointer (some ⟨b, 0, none⟩))) :
    Calls Try.prog 81 #[.pointer (some ⟨b, 0, none⟩)] w fun e w' => e = .returned (.tuple #[]) ∧ w' = w := by
  obtain ⟨j, hj, _⟩ := Option.map_eq_some_iff.1 bld_size
  go_enter Try.func81, Try.ntmps81
  go_wp2
  rw [Lib.run_neq_ptr_same w _ Try.underlying76 hj]
  go_wp2
  go_end0
  exact ⟨rfl, rfl⟩

set_option maxHeartbeats 1000000 in
set_option maxRecDepth 100000 in
theorem check_fresh (b : Nat) (w : World) (h0 : w.cell? ⟨b, 0, none⟩ = some (.pointer none)) (hsh : w.shape? b = some (79, 2)) (hfz : w.frozen? ⟨b, 0, none⟩ = false) :
    Calls Try.prog 81 #[.pointer (some ⟨b, 0, none⟩)] w fun e w' => e = .returned (.tuple #[]) ∧ w' = w.setCell ⟨b, 0, none⟩ (.pointer (some ⟨b, 0, none⟩)) := by
  obtain ⟨j, hj, hjs⟩ := Option.map_eq_some_iff.1 bld_size
  go_enter Try.func81, Try.ntmps81
  go_wp2
  rw [Lib.run_to_unsafe w ⟨b, 0, none⟩ Try.underlying76 Try.underlying144 hj (by rw [hjs]; decide) hsh (Nat.zero_lt_succ 1)]
  simp only [Result.andThen]
  rw [Oper.upon_value]
  go_wp2
  rw [run_callFunc_extern Try.func105 (by kernel_rfl) (by kernel_rfl) (by kernel_rfl) (e := Extern.AbiNoEscape.same) (by kernel_rfl)]
  rw [Lib.run_noEscape]
  simp only [Result.andThen]
  rw [Oper.upon_value]
  go_wp2
  rw [Lib.run_from_unsafe w ⟨b, 0, none⟩ Try.underlying144 Try.underlying76 hj hsh bld_lies]
  simp only [Result.andThen]
  rw [Oper.upon_value]
  go_wp2
  go_end0
  exact ⟨rfl, rfl⟩

abbrev BldAt (B b : Nat) (p : Value) (l : List UInt8) (w : World) : Prop := Lib.BuilderAt 79 5 B b p (Lib.byteCells l) w
/-- a builder in block b that holds these bytes. -/
def Bld (B b : Nat) (l : List UInt8) (w : World) : Prop := Lib.IsBuilder 79 5 B b (Lib.byteCells l) w

theorem check_any (B b : Nat) (l : List UInt8) (w : World) (h : Bld B b l w) :
    Calls Try.prog 81 #[.pointer (some ⟨b, 0, none⟩)] w fun e w' => e = .returned (.tuple #[]) ∧ BldAt B b (.pointer (some ⟨b, 0, none⟩)) l w' ∧ Below B w w' ∧ ∀ X, X ≠ b → w'.heap[X]? = w.heap[X]? := by
  rcases h with h | h
  · refine (check_fresh b w h.cell0 h.shape h.frozen0).mono ?_
    rintro e w' ⟨rfl, rfl⟩
    exact ⟨rfl, h.used _, (Below.refl B w).setCell (p := ⟨b, 0, none⟩) h.1 _, fun X hX => heap_setCell_other w ⟨b, 0, none⟩ X _ hX⟩
  · refine (check_used b w h.cell0).mono ?_
    rintro e w' ⟨rfl, rfl⟩
    exact ⟨rfl, h, Below.refl B _, fun _ _ => rfl⟩
/-- all rows but those of bytes, and the builder itself, are as they were. -/
def KeepB (b : Nat) (w w' : World) : Prop := ∀ X cs T fr, w.heap[X]? = some (.cells cs T fr) → T ≠ 5 → X ≠ b → w'.heap[X]? = some (.cells cs T fr)

theorem str_cells (s : ByteArray) : Lib.strCells s = Lib.byteCells s.data.toList := rfl
theorem byteCells_app (l m : List UInt8) : Lib.byteCells l ++ Lib.byteCells m = Lib.byteCells (l ++ m) := by simp [Lib.byteCells]
theorem byteCells_len (l : List UInt8) : (Lib.byteCells l).length = l.length := by simp [Lib.byteCells]

set_option maxHeartbeats 2000000 in
set_option maxRecDepth 100000 in
theorem write_any (B b : Nat) (l : List UInt8) (s : ByteArray) (w : World) (h : Bld B b l w) (hlen : l.length + s.size ≤ 140737488355328) (hBw : B ≤ w.heap.size) :
    Calls Try.prog 47 #[.pointer (some ⟨b, 0, none⟩), .string s] w fun e w' => e = .returned (.tuple #[.int .i64 s.size, .nilIface]) ∧ Bld B b (l ++ s.data.toList) w' ∧ Below B w w' ∧ KeepB b w w' := by
  obtain ⟨i0, hi, hz0, hz1, hz2⟩ := info_parts byte_info
  have hne : (79 : TypeId) ≠ 5 := by decide
  have hbl := byteCells_len l
  have HBL := Lib.hid hbl
  clear hbl
  go_enter Try.func47, Try.ntmps47
  go_wp2_with fail
  refine (check_any B b l _ h).mono ?_
  rintro e w1 ⟨rfl, ⟨hB, v, hbk, hown, hnv⟩, hb1, hk1⟩
  have HK1 := Lib.hid hk1
  clear hk1
  have c0 : w1.cell? ⟨b, 0, none⟩ = some (.pointer (some ⟨b, 0, none⟩)) := by rw [Lib.cell_of_heap hbk]; rfl
  have c1 : w1.cell? ⟨b, 1, none⟩ = some v := by rw [Lib.cell_of_heap hbk]; rfl
  go_wp2_with (at_builtin; refine Lib.wpList_append_own_string _ rfl _ _ 77 9 rfl B 5 i0 Try.underlying77 Try.underlying9 hi hz0 hz1 hz2 _ _ _ rfl hown s rfl ?c3 ?c4 ?c5 ?_)
  case c3 => unfold maxLen; have := HBL.out; omega
  case c4 => have := HBL.out; omega
  case c5 => have := hb1.size; omega
  intro v' w2 hown' hgrow _
  have hlt : b < w1.heap.size := by
    rcases Nat.lt_or_ge b w1.heap.size with h' | h'
    · exact h'
    · simp [Array.getElem?_eq_none h'] at hbk
  have hb2 : w2.heap[b]? = some (.cells #[.pointer (some ⟨b, 0, none⟩), v] 79 (0, 0)) := by
    rw [hgrow.block b hlt (fun e => hnv e.symm)]
    exact hbk
  have d0 : w2.cell? ⟨b, 0, none⟩ = some (.pointer (some ⟨b, 0, none⟩)) := by rw [Lib.cell_of_heap hb2]; rfl
  have d1 : w2.cell? ⟨b, 1, none⟩ = some v := by rw [Lib.cell_of_heap hb2]; rfl
  have f1 : w2.frozen? ⟨b, 1, none⟩ = false := Lib.frozen_of_heap hb2 1
  obtain ⟨ao, n', cap, rfl⟩ : ∃ ao n' cap, v' = .slice ao n' cap := by
    rcases hown'.2 with ⟨hv, _⟩ | ⟨g, cap, cur, hv, _⟩
    · exact ⟨_, _, _, hv⟩
    · exact ⟨_, _, _, hv⟩
  go_wp2
  go_ret2
  refine ⟨rfl, .inr ?_, ?_, fun X cs T fr hX hT hXb => ?_⟩
  · have := Lib.BuilderAt.put (T := 79) (e := 5) hB hb2 (bs' := Lib.byteCells l ++ Lib.strCells s) (by simpa [Lib.strCells_length] using hown') hne
    rw [str_cells, byteCells_app] at this
    exact this
  · exact (hb1.grown hgrow (by have := hb1.size; omega) (fun k hk => (hown.lt k hk).1)).setCell (p := ⟨b, 1, none⟩) hB _
  · rw [heap_setCell_other w2 ⟨b, 1, none⟩ X _ hXb]
    have hX1 : w1.heap[X]? = some (.cells cs T fr) := (HK1.out X hXb).trans hX
    have hlt1 : X < w1.heap.size := by
      rcases Nat.lt_or_ge X w1.heap.size with h' | h'
      · exact h'
      · rw [Array.getElem?_eq_none h'] at hX1; cases hX1
    rw [hgrow.block X hlt1 (fun e => Lib.ownBlock_ne hown hX1 hT e.symm)]
    exact hX1

theorem string_any (B b : Nat) (l : List UInt8) (w : World) (h : Bld B b l w) (hBw : B ≤ w.heap.size) :
    Calls Try.prog 51 #[.pointer (some ⟨b, 0, none⟩)] w fun e w' => e = .returned (.string ⟨l.toArray⟩) ∧ Below B w w' := Try.Builder_String_any B b l w h hBw
theorem owns_q {w w' : World} {base : Nat} {T : TypeId} {k : Nat} {v : Value} {n : Nat} {xs : List Value} (h : w.ownsRow base T k v n xs) (q : Q w w') : w'.ownsRow base T k v n xs := by
  refine ⟨h.1, ?_⟩
  rcases h.2 with ⟨e, h0⟩ | ⟨g, cap, cur, e, hg, hh, r⟩
  · exact .inl ⟨e, h0⟩
  · have hlt : g < w.heap.size := by
      rcases Nat.lt_or_ge g w.heap.size with hlt | hge
      · exact hlt
      · rw [Array.getElem?_eq_none hge] at hh; cases hh
    exact .inr ⟨g, cap, cur, e, hg, (q.below.block g hlt).trans hh, r⟩
theorem Bld.q {B b : Nat} {l : List UInt8} {w w' : World} (h : Bld B b l w) (q : Q w w') : Bld B b l w' := by
  have key : ∀ p, BldAt B b p l w → BldAt B b p l w' := by
    rintro p ⟨hB, v, hbk, hown, hnv⟩
    have hlt : b < w.heap.size := by
      rcases Nat.lt_or_ge b w.heap.size with h' | h'
      · exact h'
      · simp [Array.getElem?_eq_none h'] at hbk
    exact ⟨hB, v, (q.below.block b hlt).trans hbk, owns_q hown q, hnv⟩
  rcases h with h | h
  · exact .inl (key _ h)
  · exact .inr (key _ h)
theorem Bld.lt {B b : Nat} {l : List UInt8} {w : World} (h : Bld B b l w) : b < w.heap.size := by
  rcases h with h | h
  · exact h.lt
  · exact h.lt
theorem Bld.fresh (w : World) : Bld w.heap.size w.heap.size [] (w.alloc (.cells #[.pointer none, .slice none 0 0] 79)) := Lib.fresh_isBuilder _ _ w
end Go.Proofs.Ytodfdklcioafmaa

/- The contract of run.Bytes. -/
namespace Go.Proofs.Ytodfdklcioafmaa
set_option maxRecDepth 100000
open Go.RowKit Prm
set_option linter.unusedVariables false
set_option linter.unusedSimpArgs false

namespace Rn
def bytesM (l : List Pr) : List UInt8 × Int := if may l then (bytes l, 0) else ([], 1)
theorem flat_len : ∀ (l : List Pr), (∀ p ∈ l, p.key.size ≤ 65536 ∧ p.val.size ≤ 65536) → (flat l).length ≤ l.length * 131114
  | [], _ => by simp [flat]
  | p :: m, hm => by
    have h1 := hm p (by simp)
    have h2 := flat_len m fun q hq => hm q (by simp [hq])
    have h3 := Dm.num_length p.key.size (by omega)
    have h4 := Dm.num_length p.val.size (by omega)
    simp only [flat, one, ptx, List.length_append, List.length_cons, size_data, Nat.add_mul]
    omega
theorem ptx_eq (s : ByteArray) : Dm.num s.size ++ s.data.toList = ptx s := by unfold ptx; rw [size_data]
end Rn

set_option maxHeartbeats 4000000 in
theorem bytes_any (A : Option Addr) (n c : Nat) (l : List Pr) (w : World) (hf : Lst pairK w A n l) (hn : n ≤ 536870912) :
    Calls Try.prog 22 #[.slice A n c] w fun e w' => e = .returned (.tuple #[.string ⟨(Rn.bytesM l).1.toArray⟩, .int .i64 (Rn.bytesM l).2]) ∧ Q w w' := by
  have KM := Lib.hid (mayBe_any A n c l w hf (by unfold maxLen; omega))
  have HF := Lib.hid hf
  have hlen := hf.len
  cases hm : Rn.may l with
  | false =>
    rw [hm] at KM
    have HR := Lib.hid (show Rn.bytesM l = ([], 1) by unfold Rn.bytesM; rw [hm]; rfl)
    clear hf hm hlen
    go_enter Try.func22, Try.ntmps22
    go_wp2_with fail
    refine KM.out.mono ?_
    rintro e w1 ⟨rfl, q1⟩
    go_wp2_with fail
    go_ret2
    exact ⟨by rw [HR.out]; rfl, q1⟩
  | true =>
    rw [hm] at KM
    have HR := Lib.hid (show Rn.bytesM l = (Rn.bytes l, 0) by unfold Rn.bytesM; rw [hm]; rfl)
    have HB := Lib.hid (Rn.may_big hm)
    have HL := Lib.hid hlen
    have HN := Lib.hid (Dm.num_length n (by omega))
    have HTot := Lib.hid (show ∀ k, k ≤ n → (Dm.num n ++ Rn.flat (l.take k)).length ≤ 21 + k * 131114 from fun k hk => by
      have h1 := Rn.flat_len (l.take k) fun p hp => HB.out p (List.mem_of_mem_take hp)
      rw [List.length_take, Nat.min_eq_left (by omega)] at h1
      rw [List.length_append]
      have := HN.out
      omega)
    have e1 : 0 ≤ (n : Int) := by omega
    clear hf hm hlen
    go_enter Try.func22, Try.ntmps22
    go_wp2_with fail
    refine KM.out.mono ?_
    rintro e w1 ⟨rfl, q1⟩
    have Q1 := Lib.hid q1
    have B1 := Lib.hid (Bld.fresh w1)
    clear q1
    go_wp2_with fail
    refine (num_any _ _ (by omega) (by omega)).mono ?_
    rintro e w2 ⟨rfl, q2⟩
    have Q2 := Lib.hid q2
    clear q2
    go_wp2_with fail
    refine (write_any w1.heap.size w1.heap.size [] _ _ (B1.out.q Q2.out) (by have := HN.out; simp [ByteArray.size]; omega) (by have := Q2.out.size; simp at this; omega)).mono ?_
    rintro e w3 ⟨rfl, b3, be3, _⟩
    have B3 := Lib.hid (show Bld w1.heap.size w1.heap.size (Dm.num n ++ Rn.flat (l.take 0)) w3 by simpa [Rn.flat] using b3)
    have Q3 := Lib.hid (show Below w1.heap.size w1 w3 from (((Q.refl w1).alloc _).trans Q2.out).below.trans be3)
    clear b3 be3 Q2 B1
    go_wp2
    go_loopw [17] (fun i wr => ∃ k : Nat, k ≤ n ∧ i = .int .i64 k ∧ Bld w1.heap.size w1.heap.size (Dm.num n ++ Rn.flat (l.take k)) wr ∧ Below w1.heap.size w1 wr) (fun i _ => n - (intOf i).toNat)
    case atStart => exact ⟨0, Nat.zero_le _, rfl, B3.out, Q3.out⟩
    case round =>
      obtain ⟨k, hk, rfl, b4, be4⟩ := hrel
      have B4 := Lib.hid b4
      have Q4 := Lib.hid (show Q w1 wr from be4)
      clear b4 be4 B3 Q3
      by_cases hlt : k < n
      · have hkl : k < l.length := by have := HL.out; omega
        have hbk := HB.out l[k] (List.getElem_mem hkl)
        have ht0 := HTot.out k (by omega)
        have HS := Lib.hid (Rn.flat_snoc l hkl)
        obtain ⟨ad, rfl, hab, x0, x1⟩ := load_pair (HF.out.q (Q1.out.trans Q4.out)) hlt hkl
        have hkn : (k : Int) < (n : Int) := by omega
        generalize hx : l[k] = x at x0 x1 hbk HS
        have HX := Lib.hid hx
        clear hx
        have hk1 := Dm.num_length x.key.size (by omega)
        have hk2 := Dm.num_length x.val.size (by omega)
        generalize hacc : Dm.num n ++ Rn.flat (l.take k) = acc at B4 ht0
        have HAcc := Lib.hid hacc
        clear hacc
        have KT1 := Lib.hid (fun W => text_any x.key W (by omega))
        have KT2 := Lib.hid (fun W => text_any x.val W (by omega))
        have ez1 : (⟨(Dm.num x.key.size ++ x.key.data.toList).toArray⟩ : ByteArray).size ≤ 65600 := by
          show (Dm.num x.key.size ++ x.key.data.toList).toArray.size ≤ _
          rw [List.size_toArray, List.length_append, Rn.size_data]; omega
        have ez2 : (⟨(Dm.num x.val.size ++ x.val.data.toList).toArray⟩ : ByteArray).size ≤ 65600 := by
          show (Dm.num x.val.size ++ x.val.data.toList).toArray.size ≤ _
          rw [List.size_toArray, List.length_append, Rn.size_data]; omega
        generalize hs1 : (⟨(Dm.num x.key.size ++ x.key.data.toList).toArray⟩ : ByteArray) = s1 at KT1 ez1
        generalize hs2 : (⟨(Dm.num x.val.size ++ x.val.data.toList).toArray⟩ : ByteArray) = s2 at KT2 ez2
        have HS1 := Lib.hid (show s1.data.toList = Rn.ptx x.key by rw [← hs1, ← Rn.ptx_eq])
        have HS2 := Lib.hid (show s2.data.toList = Rn.ptx x.val by rw [← hs2, ← Rn.ptx_eq])
        have HE1 := Lib.hid ez1
        have HE2 := Lib.hid ez2
        have HT0 := Lib.hid ht0
        clear hs1 hs2 hk1 hk2 hbk ez1 ez2 ht0
        go_wp2_with fail
        refine (KT1.out _).mono ?_
        rintro e w5 ⟨rfl, q5⟩
        have Q5 := Lib.hid (((Q.refl wr).alloc (.cells #[.string x.key, .string x.val] 62)).trans q5)
        have Y1 := Lib.hid (show w5.heap[wr.heap.size]? = some (.cells #[.string x.key, .string x.val] 62 (0, 0)) from (q5.below.block _ (by simp)).trans (heap_alloc_new wr _))
        clear q5
        go_wp2_with fail
        refine (write_any w1.heap.size w1.heap.size acc s1 _ (B4.out.q Q5.out) (by have := HT0.out; have := HE1.out; omega) (by have := Q4.out.size; have := Q5.out.size; omega)).mono ?_
        rintro e w6 ⟨rfl, b6, be6, k6⟩
        have B6 := Lib.hid b6
        have Q6 := Lib.hid (show Q w1 w6 from (Q4.out.trans Q5.out).below.trans be6)
        have y6 := k6 _ _ _ _ Y1.out (by decide) (by have := Q4.out.size; have := B4.out.lt; omega)
        have z1 : w6.cell? ⟨wr.heap.size, 1, none⟩ = some (.string x.val) := by rw [Lib.cell_of_heap y6]; rfl
        clear b6 be6 k6 y6 Y1
        go_wp2_with fail
        refine (KT2.out _).mono ?_
        rintro e w7 ⟨rfl, q7⟩
        have Q7 := Lib.hid q7
        clear q7
        go_wp2_with fail
        refine (write_any w1.heap.size w1.heap.size (acc ++ s1.data.toList) s2 _ (B6.out.q Q7.out) (by rw [List.length_append, Rn.size_data]; have := HT0.out; have := HE1.out; have := HE2.out; omega) (by have := Q6.out.size; have := Q7.out.size; omega)).mono ?_
        rintro e w8 ⟨rfl, b8, be8, _⟩
        have B8 := Lib.hid (show Bld w1.heap.size w1.heap.size (Dm.num n ++ Rn.flat (l.take (k + 1))) w8 by
          rw [HS.out, ← List.append_assoc, HAcc.out, Rn.one, ← List.append_assoc, ← HS1.out, ← HS2.out]; exact b8)
        have Q8 := Lib.hid (show Below w1.heap.size w1 w8 from (Q6.out.trans Q7.out).below.trans be8)
        clear b8 be8
        go_wp2
        go_roundw
        case rel => exact ⟨k + 1, by omega, by go_num, B8.out, Q8.out⟩
        case measure => simp [intOf]; omega
      · have hkn : k = n := by omega
        have hbody := HTot.out n (Nat.le_refl _)
        have hfull : Dm.num n ++ Rn.flat (l.take k) = Rn.body l := by
          unfold Rn.body
          rw [HL.out, hkn, List.take_of_length_le (by rw [HL.out]; exact Nat.le_refl _)]
        have hfull2 : Dm.num n ++ Rn.flat (l.take n) = Rn.body l := by
          unfold Rn.body
          rw [HL.out, List.take_of_length_le (by rw [HL.out]; exact Nat.le_refl _)]
        rw [hfull2] at hbody
        rw [hfull] at B4
        have HBody := Lib.hid hbody
        clear hfull hfull2 hbody hkn
        generalize hbo : Rn.body l = bo at B4 HBody
        have HBo := Lib.hid hbo
        clear hbo
        go_wp2_with fail
        refine (string_any w1.heap.size w1.heap.size bo _ B4.out Q4.out.size).mono ?_
        rintro e w5 ⟨rfl, be5⟩
        have Q5 := Lib.hid (show Q w1 w5 from Q4.out.below.trans be5)
        clear be5
        go_wp2_with fail
        refine (seal_any ⟨bo.toArray⟩ _ (by show bo.toArray.size ≤ _; have := HBody.out; simp; omega)).mono ?_
        rintro e w6 ⟨rfl, q6⟩
        go_wp2_with fail
        go_ret2
        exact ⟨by rw [HR.out, Rn.bytes, HBo.out]; rfl, Q1.out.trans (Q5.out.trans q6)⟩
end Go.Proofs.Ytodfdklcioafmaa

/- The example of chapter 6, at the head of each law. -/
namespace Go.Proofs.Ytodfdklcioafmaa
set_option maxRecDepth 100000
open Go.RowKit Prm
set_option linter.unusedVariables false
set_option linter.unusedSimpArgs false

def exPr : Pr := ⟨⟨#[97]⟩, ⟨#[49]⟩⟩
theorem rex_may : Rn.may [exPr] = true := by decide
theorem rex_adler : Sm.adler [49, 59, 49, 59, 97, 49, 59, 49] = 137888215 := by decide
theorem rex_body : Rn.body [exPr] = [49, 59, 49, 59, 97, 49, 59, 49] := by
  have e1 : Dm.dg 1 = [49] := by rw [Dm.dg]; rfl
  unfold Rn.body Rn.flat Rn.one Rn.ptx Dm.num Rn.flat
  show Dm.dg 1 ++ [59] ++ (Dm.dg 1 ++ [59] ++ [97] ++ (Dm.dg 1 ++ [59] ++ [49]) ++ []) = _
  rw [e1]; rfl
theorem rex_bytes : Rn.bytes [exPr] = [56, 59, 49, 59, 49, 59, 97, 49, 59, 49, 49, 51, 55, 56, 56, 56, 50, 49, 53, 59] := by
  unfold Rn.bytes
  rw [rex_body]
  unfold sld Dm.num
  rw [rex_adler]
  have e8 : Dm.dg 8 = [56] := by rw [Dm.dg]; rfl
  have f0 : Dm.dg 1 = [49] := by rw [Dm.dg]; rfl
  have f1 : Dm.dg 13 = [49, 51] := by rw [Dm.dg, if_neg (by omega), show 13 / 10 = 1 from rfl, f0]; rfl
  have f2 : Dm.dg 137 = [49, 51, 55] := by rw [Dm.dg, if_neg (by omega), show 137 / 10 = 13 from rfl, f1]; rfl
  have f3 : Dm.dg 1378 = [49, 51, 55, 56] := by rw [Dm.dg, if_neg (by omega), show 1378 / 10 = 137 from rfl, f2]; rfl
  have f4 : Dm.dg 13788 = [49, 51, 55, 56, 56] := by rw [Dm.dg, if_neg (by omega), show 13788 / 10 = 1378 from rfl, f3]; rfl
  have f5 : Dm.dg 137888 = [49, 51, 55, 56, 56, 56] := by rw [Dm.dg, if_neg (by omega), show 137888 / 10 = 13788 from rfl, f4]; rfl
  have f6 : Dm.dg 1378882 = [49, 51, 55, 56, 56, 56, 50] := by rw [Dm.dg, if_neg (by omega), show 1378882 / 10 = 137888 from rfl, f5]; rfl
  have f7 : Dm.dg 13788821 = [49, 51, 55, 56, 56, 56, 50, 49] := by rw [Dm.dg, if_neg (by omega), show 13788821 / 10 = 1378882 from rfl, f6]; rfl
  have f8 : Dm.dg 137888215 = [49, 51, 55, 56, 56, 56, 50, 49, 53] := by rw [Dm.dg, if_neg (by omega), show 137888215 / 10 = 13788821 from rfl, f7]; rfl
  rw [show (137888215 : Int).toNat = 137888215 from rfl, f8, show ([49, 59, 49, 59, 97, 49, 59, 49] : List UInt8).length = 8 from rfl, e8]; rfl
def exS : ByteArray := ⟨#[56, 59, 49, 59, 49, 59, 97, 49, 59, 49, 49, 51, 55, 56, 56, 56, 50, 49, 53, 59]⟩
theorem exS_size : exS.size = 20 := rfl
theorem rex_take : Rn.take exS.data.toList exS.size = ([exPr], 0) := by
  rw [show exS.data.toList = Rn.bytes [exPr] by rw [rex_bytes]; rfl]
  exact Rn.take_bytes [exPr] exS.size rex_may (by rw [rex_body]; decide) (by rw [rex_body]; decide)
theorem bytes_ex (w : World) : Calls Try.prog 22 #[.slice (some ⟨w.heap.size, 0, none⟩) 1 1] (w.alloc (.cells #[.string ⟨#[97]⟩, .string ⟨#[49]⟩] 62)) fun e w' => e = .returned (.tuple #[.string exS, .int .i64 0]) ∧ Q (w.alloc (.cells #[.string ⟨#[97]⟩, .string ⟨#[49]⟩] 62)) w' := by
  have h := bytes_any (some ⟨w.heap.size, 0, none⟩) 1 1 [exPr] _ (lit_pair w exPr) (by omega)
  rw [show Rn.bytesM [exPr] = (Rn.bytes [exPr], 0) by unfold Rn.bytesM; rw [rex_may]; rfl, rex_bytes] at h
  exact h
theorem take_ex (w : World) : Calls Try.prog 23 #[.string exS] w fun e w' => ∃ A c, e = .returned (.tuple #[.slice A 1 c, .int .i64 0]) ∧ OwnK pairK w' w.heap.size A 1 c [exPr] ∧ Q w w' := by
  have h := rtake_any exS w (by rw [exS_size]; omega)
  rw [rex_take] at h
  exact h

set_option maxHeartbeats 2000000 in
theorem rshown_any (w : World) : Calls Try.prog 10 #[] w fun e w' => e = .returned (.bool true) ∧ Q w w' := by
  go_enter Try.func10, Try.ntmps10
  go_wp2_with fail
  refine (bytes_ex _).mono ?_
  rintro e w1 ⟨rfl, q1⟩
  have Q1 := Lib.hid (((Q.refl w).alloc _).trans q1)
  clear q1
  go_wp2_with fail
  refine (take_ex _).mono ?_
  rintro e w2 ⟨A, c, rfl, o2, q2⟩
  have Q2 := Lib.hid (Q1.out.trans q2)
  obtain ⟨ad, rfl, hb, x0, x1⟩ := load_pair o2.lst (k := 0) (by simp) (by simp)
  simp only [List.getElem_cons_zero, Nat.zero_mul] at x0 x1
  rw [show ad.add 0 = ad from rfl] at x0 x1
  clear q2 o2
  have hz : ((10 : Int) < (exS.size : Int)) := by decide
  have hz2 : ((10 : Int) ≤ (exS.size : Int)) := by decide
  have hx : exS.extract 0 10 = ⟨#[56, 59, 49, 59, 49, 59, 97, 49, 59, 49]⟩ := by decide
  unfold exPr at x0 x1
  go_wp2
  go_ret
  exact ⟨by first | rfl | simp, Q2.out⟩
end Go.Proofs.Ytodfdklcioafmaa

/- What is done with one file changes no other one: the mathematics. -/
namespace Go.Proofs.Ytodfdklcioafmaa
set_option maxRecDepth 100000
open Go.RowKit Dkm
set_option linter.unusedVariables false
namespace Dkm
theorem find_mid (o : ByteArray) (a b : List Fil) (f g : Fil) (hf : f.nm ≠ o) (hg : g.nm ≠ o) : (a ++ f :: b).find? (fun x => decide (x.nm = o)) = (a ++ g :: b).find? (fun x => decide (x.nm = o)) := by
  simp [List.find?_append, hf, hg]
theorem find_del (o : ByteArray) (a b : List Fil) (f : Fil) (hf : f.nm ≠ o) : (a ++ f :: b).find? (fun x => decide (x.nm = o)) = (a ++ b).find? (fun x => decide (x.nm = o)) := by
  simp [List.find?_append, hf]
theorem hit_set {o : ByteArray} {l : List Fil} {k : Nat} {g : Fil} (hk : k < l.length) (h1 : l[k].nm ≠ o) (h2 : g.nm ≠ o) : hit o (l.set k g) = hit o l := by
  have e1 : l.set k g = l.take k ++ g :: l.drop (k + 1) := List.set_eq_take_append_cons_drop.trans (by rw [if_pos hk])
  have e2 : l = l.take k ++ l[k] :: l.drop (k + 1) := by rw [← List.drop_eq_getElem_cons hk, List.take_append_drop]
  have : (l.set k g).find? (fun x => decide (x.nm = o)) = l.find? (fun x => decide (x.nm = o)) := by
    rw [e1]; conv => rhs; rw [e2]
    exact find_mid o _ _ _ _ h2 h1
  unfold hit; rw [this]
theorem hit_erase {o : ByteArray} {l : List Fil} {k : Nat} (hk : k < l.length) (h1 : l[k].nm ≠ o) : hit o (l.eraseIdx k) = hit o l := by
  have e2 : l = l.take k ++ l[k] :: l.drop (k + 1) := by rw [← List.drop_eq_getElem_cons hk, List.take_append_drop]
  have : (l.eraseIdx k).find? (fun x => decide (x.nm = o)) = l.find? (fun x => decide (x.nm = o)) := by
    rw [List.eraseIdx_eq_take_drop_succ]; conv => rhs; rw [e2]
    exact (find_del o _ _ _ h1).symm
  unfold hit; rw [this]
theorem hit_snoc {o : ByteArray} {l : List Fil} {g : Fil} (h : g.nm ≠ o) : hit o (l ++ [g]) = hit o l := by
  have : (l ++ [g]).find? (fun x => decide (x.nm = o)) = l.find? (fun x => decide (x.nm = o)) := by simp [List.find?_append, h]
  unfold hit; rw [this]
theorem appd_apart {o nm s : ByteArray} (d : Dk) (h : o ≠ nm) : hit o (appd d nm s).1.fs = hit o d.fs := by
  unfold appd
  split; rfl
  split; rfl
  split; rfl
  split; rfl
  show hit o (put _ _ _) = _
  rcases plc_cases nm d.fs with ⟨_, hall⟩ | ⟨k, hk, _, hkn, hfirst⟩
  · rw [opn_none hall]; unfold put; rw [if_pos rfl]; exact hit_snoc (fun e => h e.symm)
  · rw [opn_at hk hkn hfirst]; unfold put; simp only
    rw [if_neg (by omega)]
    exact hit_set hk (fun e => h (e.symm.trans hkn)) (fun e => h (e.symm.trans hkn))
theorem syn_apart {o nm : ByteArray} (d : Dk) (h : o ≠ nm) : hit o (syn d nm).1.fs = hit o d.fs := by
  obtain ⟨l, room, fuse, off⟩ := d
  cases off
  · rcases plc_cases nm l with ⟨hp, hall⟩ | ⟨k, hk, hp, hkn, hfirst⟩
    · rw [syn_none hall]
    · rw [syn_at hk hkn hfirst]
      exact hit_set hk (fun e => h (e.symm.trans hkn)) (fun e => h (e.symm.trans hkn))
  · rfl
theorem lss_apart {o : ByteArray} (d : Dk) {k : Nat} (hk : k < d.fs.length) (h : d.fs[k].nm ≠ o) : hit o (lss d k).fs = hit o d.fs := hit_erase hk h
theorem del_apart {o nm : ByteArray} (d : Dk) (h : o ≠ nm) : hit o (del d nm).1.fs = hit o d.fs := by
  unfold del
  split; rfl
  split; rfl
  split; rw [pow_fs]
  rename_i _ h2 _
  rcases plc_cases nm d.fs with ⟨_, hall⟩ | ⟨k, hk, _, hkn, hfirst⟩
  · rw [hit_none hall] at h2; exact absurd rfl h2
  · rw [opn_at hk hkn hfirst]
    have e := pow_fs d
    exact (lss_apart (pow d).1 (k := k) (by rw [e]; exact hk) (by simp only [e]; exact fun e => h (e.symm.trans hkn))).trans (by rw [e])
theorem nmd_apart {o tu : ByteArray} (d : Dk) {k : Nat} (hk : k < d.fs.length) (h : d.fs[k].nm ≠ o) (h2 : tu ≠ o) : hit o (nmd d k tu).fs = hit o d.fs := hit_set hk h h2
theorem nmd_name (d : Dk) (k q : Nat) (tu : ByteArray) (hq : q < (nmd d k tu).fs.length) (hq2 : q < d.fs.length) (h : d.fs[q].nm = tu) : (nmd d k tu).fs[q].nm = tu := by
  unfold nmd at hq ⊢
  simp only [List.getElem_set]
  split
  · rfl
  · exact h
theorem ren_apart {o fr tu : ByteArray} (d : Dk) (h1 : o ≠ fr) (h2 : o ≠ tu) : hit o (ren d fr tu).1.fs = hit o d.fs := by
  unfold ren
  split; rfl
  split; rfl
  split; rfl
  split; rfl
  split; rw [pow_fs]
  rename_i _ _ h3 _ _
  have e := pow_fs d
  rcases plc_cases fr d.fs with ⟨_, hall⟩ | ⟨k, hk, _, hkn, hfirst⟩
  · rw [hit_none hall] at h3; exact absurd rfl h3
  have hk' : k < (pow d).1.fs.length := by rw [e]; exact hk
  have hn : hit o (nmd (pow d).1 k tu).fs = hit o d.fs := by
    rw [nmd_apart (pow d).1 hk' (by simp only [e]; exact fun x => h1 (x.symm.trans hkn)) (fun x => h2 x.symm), e]
  rw [opn_at hk hkn hfirst]
  split
  · rename_i h5
    rcases plc_cases tu d.fs with ⟨_, hall⟩ | ⟨q, hq, _, hqn, hqf⟩
    · rw [hit_none hall] at h5; cases h5
    rw [opn_at hq hqn hqf]
    have hq' : q < (nmd (pow d).1 k tu).fs.length := by rw [nmd_len, e]; exact hq
    rw [lss_apart _ hq' ?_, hn]
    have : (nmd (pow d).1 k tu).fs[q].nm = tu := nmd_name (pow d).1 k q tu hq' (by rw [e]; exact hq) (by simp only [e]; exact hqn)
    rw [this]; exact fun x => h2 x.symm
  · exact hn
theorem does_apart {o : ByteArray} (d : Dk) (kind num : Int) (nm s : ByteArray) (h5 : kind ≠ 5) (h1 : o ≠ nm) (h3 : kind = 3 → o ≠ s) : hit o (doesM d kind num nm s).1.fs = hit o d.fs := by
  unfold doesM
  split; exact appd_apart d h1
  split; exact syn_apart d h1
  split; rename_i h; exact ren_apart d h1 (h3 h)
  split; exact del_apart d h1
  split <;> rfl
end Dkm
end Go.Proofs.Ytodfdklcioafmaa

/- A rename gives the one file's bytes the other one's name: the mathematics. -/
namespace Go.Proofs.Ytodfdklcioafmaa
set_option maxRecDepth 100000
open Go.RowKit Dkm
set_option linter.unusedVariables false
namespace Dkm
def Uniq (l : List Fil) : Prop := ∀ i j, ∀ hi : i < l.length, ∀ hj : j < l.length, l[i].nm = l[j].nm → i = j
/-- a rename that isn't OK: the same files and room. -/
theorem ren_bad (d : Dk) (fr tu : ByteArray) (h : (ren d fr tu).2 ≠ 0) : (ren d fr tu).1.fs = d.fs ∧ (ren d fr tu).1.room = d.room := by
  unfold ren at *
  have hp := pow_fs d
  have hr : (pow d).1.room = d.room := by unfold pow; split; rfl; split <;> rfl
  repeat' split at h
  all_goals (try (exact absurd rfl h))
  all_goals simp_all
theorem find_uniq {l : List Fil} {nm : ByteArray} {i : Nat} (hi : i < l.length) (hn : l[i].nm = nm) (hu : ∀ j, ∀ hj : j < l.length, l[j].nm = nm → j = i) : redd nm l = (l[i].sf ++ l[i].wt, 0) :=
  redd_at hi hn (fun j hj hji e => by have := hu j hj e; omega)
theorem find_none {l : List Fil} {nm : ByteArray} (hu : ∀ j, ∀ hj : j < l.length, l[j].nm ≠ nm) : redd nm l = (⟨#[]⟩, 7) :=
  redd_none (fun f hf => by obtain ⟨i, hi, rfl⟩ := List.getElem_of_mem hf; exact hu i hi)
/-- a rename that is OK, of a disk whose names are unlike each other. -/
theorem ren_good (d : Dk) (fr tu : ByteArray) (hu : Uniq d.fs) (h : (ren d fr tu).2 = 0) : (redd fr d.fs).2 = 0 ∧ redd tu (ren d fr tu).1.fs = redd fr d.fs ∧ (fr = tu ∨ (redd fr (ren d fr tu).1.fs).2 = 7) := by
  obtain ⟨l, room, fuse, off⟩ := d
  have hv : Uniq l := hu
  cases off
  case true => simp [ren] at h
  cases hok : nmOk tu
  · simp [ren, hok] at h
  rcases plc_cases fr l with ⟨hp, hall⟩ | ⟨k, hk, hp, hkn, hfirst⟩
  · simp [ren, hok, hit_none hall] at h
  by_cases he : fr = tu
  · subst he
    rw [show ren ⟨l, room, fuse, false⟩ fr fr = (⟨l, room, fuse, false⟩, 0) by simp [ren, hok, hit_at hk hkn hfirst]]
    exact ⟨by rw [redd_at hk hkn hfirst], rfl, .inl rfl⟩
  by_cases hz : fuse = 0
  · subst hz
    simp [ren, hok, hit_at hk hkn hfirst, he, pow_zero] at h
  obtain ⟨f2, hpw⟩ : ∃ f2, pow ⟨l, room, fuse, false⟩ = (⟨l, room, f2, false⟩, true) := by
    rcases Int.lt_or_gt_of_ne hz with h | h
    · exact ⟨fuse, pow_neg _ _ _ _ h⟩
    · exact ⟨fuse - 1, pow_pos _ _ _ _ h⟩
  have hg : ∀ (j : Nat) (hj : j < (l.set k ⟨tu, l[k].sf, l[k].wt⟩).length), (l.set k ⟨tu, l[k].sf, l[k].wt⟩)[j] = if k = j then ⟨tu, l[k].sf, l[k].wt⟩ else l[j]'(by simpa using hj) := fun j hj => List.getElem_set ..
  have hrd := redd_at hk hkn hfirst
  rcases plc_cases tu l with ⟨hp2, hall2⟩ | ⟨o, ho, hp2, hon, hfirst2⟩
  · rw [show ren ⟨l, room, fuse, false⟩ fr tu = (nmd ⟨l, room, f2, false⟩ k tu, 0) by simp [ren, hok, hit_at hk hkn hfirst, opn_at hk hkn hfirst, he, hpw, hit_none hall2], nmd_at hk]
    have hk2 : k < (l.set k ⟨tu, l[k].sf, l[k].wt⟩).length := by simpa using hk
    refine ⟨by simp only [hrd], ?_, .inr ?_⟩
    · show redd tu (l.set k _) = redd fr l
      rw [hrd, find_uniq hk2 (by rw [hg, if_pos rfl]) (fun j hj e => by
        rw [hg] at e
        split at e
        · omega
        · exact absurd e (hall2 _ (List.getElem_mem _)))]
      rw [hg, if_pos rfl]
    · show (redd fr (l.set k _)).2 = 7
      rw [find_none (fun j hj e => by
        rw [hg] at e
        split at e
        · exact he e.symm
        · rename_i hne
          exact hne (hv k j hk (by simpa using hj) (hkn.trans e.symm)))]
  · have hne : o ≠ k := by rintro rfl; exact he (hkn.symm.trans hon)
    have ho2 : o < (l.set k ⟨tu, l[k].sf, l[k].wt⟩).length := by simpa using ho
    rw [show ren ⟨l, room, fuse, false⟩ fr tu = (lss (nmd ⟨l, room, f2, false⟩ k tu) o, 0) by simp [ren, hok, hit_at hk hkn hfirst, opn_at hk hkn hfirst, he, hpw, hit_at ho hon hfirst2, opn_at ho hon hfirst2], nmd_at hk, lss_at ho2]
    have hel : ∀ (j : Nat) (hj : j < ((l.set k ⟨tu, l[k].sf, l[k].wt⟩).eraseIdx o).length), ((l.set k ⟨tu, l[k].sf, l[k].wt⟩).eraseIdx o)[j] = if h : j < o then (l.set k ⟨tu, l[k].sf, l[k].wt⟩)[j]'(by omega) else (l.set k ⟨tu, l[k].sf, l[k].wt⟩)[j + 1]'(by rw [List.length_eraseIdx, if_pos ho2] at hj; omega) := fun j hj => List.getElem_eraseIdx ..
    have hlen : ((l.set k ⟨tu, l[k].sf, l[k].wt⟩).eraseIdx o).length = l.length - 1 := by rw [List.length_eraseIdx, if_pos ho2, List.length_set]
    refine ⟨by simp only [hrd], ?_, .inr ?_⟩
    · show redd tu ((l.set k _).eraseIdx o) = redd fr l
      rw [hrd]
      obtain ⟨i, hi, hval⟩ : ∃ i, ∃ hi : i < ((l.set k ⟨tu, l[k].sf, l[k].wt⟩).eraseIdx o).length, ((l.set k ⟨tu, l[k].sf, l[k].wt⟩).eraseIdx o)[i] = ⟨tu, l[k].sf, l[k].wt⟩ ∧ (if i < o then i else i + 1) = k := by
        by_cases hko : k < o
        · refine ⟨k, by omega, ?_, by rw [if_pos hko]⟩
          rw [hel, dif_pos hko, hg, if_pos rfl]
        · refine ⟨k - 1, by omega, ?_, by rw [if_neg (by omega)]; omega⟩
          rw [hel, dif_neg (by omega), hg, if_pos (by omega)]
      rw [find_uniq hi (by rw [hval.1]) (fun j hj e => by
        rw [hel] at e
        split at e
        · rename_i hjo
          rw [hg] at e
          split at e
          · have := hval.2; split at this <;> omega
          · have := hv j o (by omega) ho (e.trans hon.symm); omega
        · rename_i hjo
          rw [hg] at e
          split at e
          · have := hval.2; split at this <;> omega
          · have := hv (j + 1) o (by omega) ho (e.trans hon.symm); omega), hval.1]
    · show (redd fr ((l.set k _).eraseIdx o)).2 = 7
      rw [find_none (fun j hj e => by
        rw [hel] at e
        split at e
        · rw [hg] at e
          split at e
          · exact he e.symm
          · rename_i hne2; exact hne2 (hv k j hk (by omega) (hkn.trans e.symm))
        · rw [hg] at e
          split at e
          · exact he e.symm
          · rename_i hne2; exact hne2 (hv k (j + 1) hk (by omega) (hkn.trans e.symm)))]
end Dkm
end Go.Proofs.Ytodfdklcioafmaa

/- The mathematics of a laying: a file that is laid is as it was, or as it was laid. -/
namespace Go.Proofs.Ytodfdklcioafmaa
set_option maxRecDepth 100000
open Dkm
set_option linter.unusedVariables false
set_option linter.unusedSimpArgs false
namespace Rn

/-- nothing waits. -/
def Dry (l : List Fil) : Prop := ∀ f ∈ l, f.wt = ⟨#[]⟩
theorem uniq_pw (l : List Fil) : Uniq l ↔ l.Pairwise fun a b => a.nm ≠ b.nm := by
  rw [List.pairwise_iff_getElem]
  constructor
  · intro h i j hi hj hij e
    have := h i j hi hj e; omega
  · intro h i j hi hj e
    rcases Nat.lt_trichotomy i j with hlt | he | hlt
    · exact absurd e (h i j hi hj hlt)
    · exact he
    · exact absurd e.symm (h j i hj hi hlt)
theorem uniq_erase {l : List Fil} (h : Uniq l) (k : Nat) : Uniq (l.eraseIdx k) := (uniq_pw _).2 (((uniq_pw _).1 h).sublist (List.eraseIdx_sublist l k))
theorem erase_gone {l : List Fil} (hu : Uniq l) {k : Nat} (hk : k < l.length) {nm : ByteArray} (hn : l[k].nm = nm) : ∀ f ∈ l.eraseIdx k, f.nm ≠ nm := by
  intro f hf e
  obtain ⟨i, hi, hne, rfl⟩ := List.mem_eraseIdx_iff_getElem.1 hf
  exact hne (hu i k hi hk (e.trans hn.symm))
theorem uniq_snoc {l : List Fil} (hu : Uniq l) {f : Fil} (hf : ∀ g ∈ l, g.nm ≠ f.nm) : Uniq (l ++ [f]) := by
  rw [uniq_pw, List.pairwise_append]
  exact ⟨(uniq_pw _).1 hu, by simp, fun a ha b hb => by simp at hb; subst hb; exact hf a ha⟩
theorem hit_some {nm : ByteArray} {l : List Fil} (h : (hit nm l).2 = true) : ∃ k, ∃ hk : k < l.length, l[k].nm = nm ∧ (∀ j, ∀ h : j < l.length, j < k → l[j].nm ≠ nm) ∧ hit nm l = (l[k], true) ∧ (opn nm l).2 = k := by
  rcases plc_cases nm l with ⟨_, hall⟩ | ⟨k, hk, _, hkn, hf⟩
  · rw [hit_none hall] at h; cases h
  · exact ⟨k, hk, hkn, hf, hit_at hk hkn hf, by rw [opn_at hk hkn hf]⟩
theorem hit_no {nm : ByteArray} {l : List Fil} (h : (hit nm l).2 = false) : ∀ f ∈ l, f.nm ≠ nm := by
  rcases plc_cases nm l with ⟨_, hall⟩ | ⟨k, hk, _, hkn, hf⟩
  · exact hall
  · rw [hit_at hk hkn hf] at h; cases h
theorem del_ok {d : Dk} {nm : ByteArray} (h : (del d nm).2 = 0) : ∃ k, ∃ hk : k < d.fs.length, d.fs[k].nm = nm ∧ (del d nm).1.fs = d.fs.eraseIdx k := by
  unfold del at h ⊢
  split at h
  · simp at h
  · rename_i h1
    split at h
    · simp at h
    · rename_i h2
      split at h
      · simp at h
      · rename_i h3
        rw [if_neg h1, if_neg h2, if_neg h3]
        obtain ⟨k, hk, hkn, _, _, ho⟩ := hit_some (nm := nm) (l := d.fs) (by simpa using h2)
        refine ⟨k, hk, hkn, ?_⟩
        unfold lss
        simp only [ho, pow_fs]
theorem appd_ok {d : Dk} {nm s : ByteArray} (hall : ∀ f ∈ d.fs, f.nm ≠ nm) (h : (appd d nm s).2 = 0) : (appd d nm s).1.fs = d.fs ++ [⟨nm, ⟨#[]⟩, s⟩] := by
  unfold appd at h ⊢
  rw [opn_none hall] at h ⊢
  split at h
  · simp at h
  · rename_i h1
    split at h
    · simp at h
    · rename_i h2
      split at h
      · simp at h
      · rename_i h3
        split at h
        · simp at h
        · rename_i h4
          rw [if_neg h1, if_neg h2, if_neg h3, if_neg h4]
          simp only at h ⊢
          have hs : short d.fuse s = false := by
            cases hh : short d.fuse s with
            | false => rfl
            | true => rw [hh] at h; simp at h
          have hc : cut d.fuse s = s := by unfold cut; rw [hs]; rfl
          rw [hc]
          unfold put
          rw [if_pos rfl]
          have e : (⟨#[]⟩ : ByteArray) ++ s = s := ByteArray.empty_append
          rw [e]
theorem syn_ok {d : Dk} {nm s : ByteArray} {l : List Fil} (hfs : d.fs = l ++ [⟨nm, ⟨#[]⟩, s⟩]) (hall : ∀ f ∈ l, f.nm ≠ nm) (h : (syn d nm).2 = 0) : (syn d nm).1.fs = l ++ [⟨nm, s, ⟨#[]⟩⟩] := by
  obtain ⟨fs, room, fuse, off⟩ := d
  simp only at hfs
  subst hfs
  cases off with
  | true => simp [syn] at h
  | false =>
    have hk : l.length < (l ++ [(⟨nm, ⟨#[]⟩, s⟩ : Fil)]).length := by simp
    have hg : (l ++ [(⟨nm, ⟨#[]⟩, s⟩ : Fil)])[l.length] = ⟨nm, ⟨#[]⟩, s⟩ := by simp
    rw [syn_at hk (by rw [hg]) (fun j hj hjl => by rw [List.getElem_append_left hjl]; exact hall _ (List.getElem_mem hjl))]
    rw [hg]
    have e : (⟨#[]⟩ : ByteArray) ++ s = s := ByteArray.empty_append
    simp [e]

theorem fresh_ne (nm : ByteArray) : nm ≠ freshB nm := by
  intro e
  have := congrArg ByteArray.size e
  unfold freshB at this
  rw [ByteArray.size_append] at this
  have h2 : (⟨#[110, 46]⟩ : ByteArray).size = 2 := rfl
  omega
theorem lay1_ok {d : Dk} {nm : ByteArray} (hu : Uniq d.fs) (hd : Dry d.fs) (h : (lay1 d nm).2 = 0) : Uniq (lay1 d nm).1.fs ∧ Dry (lay1 d nm).1.fs ∧ ∀ f ∈ (lay1 d nm).1.fs, f.nm ≠ freshB nm := by
  unfold lay1 at h ⊢
  split at h
  · rename_i hh
    rw [if_pos hh]
    obtain ⟨k, hk, hkn, he⟩ := del_ok h
    rw [he]
    exact ⟨uniq_erase hu k, fun f hf => hd f (List.mem_of_mem_eraseIdx hf), erase_gone hu hk hkn⟩
  · rename_i hh
    rw [if_neg hh]
    exact ⟨hu, hd, hit_no (by simpa using hh)⟩
theorem lay3_ok {d : Dk} {nm s : ByteArray} (hu : Uniq d.fs) (hd : Dry d.fs) (h : (lay3 d nm s).2 = 0) : ∃ l, (lay3 d nm s).1.fs = l ++ [⟨freshB nm, s, ⟨#[]⟩⟩] ∧ Uniq (lay3 d nm s).1.fs ∧ Dry (lay3 d nm s).1.fs ∧ ∀ f ∈ l, f.nm ≠ freshB nm := by
  have h2 : (lay2 d nm s).2 = 0 := by
    unfold lay3 at h
    split at h
    · assumption
    · exact h
  have h1 : (lay1 d nm).2 = 0 := by
    unfold lay2 at h2
    split at h2
    · assumption
    · exact h2
  obtain ⟨u1, d1, g1⟩ := lay1_ok hu hd h1
  have e2 : lay2 d nm s = appd (lay1 d nm).1 (freshB nm) s := by unfold lay2; rw [if_pos h1]
  have e3 : lay3 d nm s = syn (lay2 d nm s).1 (freshB nm) := by unfold lay3; rw [if_pos h2]
  rw [e2] at h2
  have f2 := appd_ok g1 h2
  rw [e3] at h ⊢
  have f3 := syn_ok (by rw [e2]; exact f2) g1 h
  refine ⟨(lay1 d nm).1.fs, f3, by rw [f3]; exact uniq_snoc u1 g1, ?_, g1⟩
  rw [f3]
  intro f hf
  rcases List.mem_append.1 hf with hf | hf
  · exact d1 f hf
  · simp at hf; subst hf; rfl
theorem dry_ren {d : Dk} {fr tu : ByteArray} (h : Dry d.fs) : Dry (ren d fr tu).1.fs := by
  have hn : ∀ (d : Dk) (k : Nat) (tu : ByteArray), Dry d.fs → Dry (nmd d k tu).fs := by
    intro d k tu h f hf
    unfold nmd at hf
    simp only at hf
    by_cases hk : k < d.fs.length
    · rcases List.mem_or_eq_of_mem_set hf with hf | rfl
      · exact h f hf
      · simp only [List.getD_eq_getElem?_getD, List.getElem?_eq_getElem hk, Option.getD_some]
        exact h _ (List.getElem_mem hk)
    · rw [List.set_eq_of_length_le (by omega)] at hf
      exact h f hf
  have hp : Dry (pow d).1.fs := by rw [pow_fs]; exact h
  unfold ren
  split; exact h
  split; exact h
  split; exact h
  split; exact h
  split; exact hp
  split
  · intro f hf
    exact hn _ _ _ hp f (List.mem_of_mem_eraseIdx hf)
  · exact hn _ _ _ hp
/-- what a crash leaves of a file of which nothing waits. -/
theorem hit_crs (d : Dk) (ks : List Int) (nm : ByteArray) (h : Dry d.fs ∨ (hit nm d.fs).1.wt = ⟨#[]⟩) : (hit nm (crs d ks).fs).2 = (hit nm d.fs).2 ∧ (hit nm (crs d ks).fs).1.sf = (hit nm d.fs).1.sf := by
  have e : (crs d ks).fs = d.fs.mapIdx (crf ks) := by
    show crl ks d.fs d.fs.length = _
    unfold crl; rw [List.take_length, List.drop_length, List.append_nil]
  rw [e]
  rcases plc_cases nm d.fs with ⟨_, hall⟩ | ⟨k, hk, _, hkn, hf⟩
  · rw [hit_none hall, hit_none]
    · exact ⟨rfl, rfl⟩
    · intro f hfm
      obtain ⟨i, hi, rfl⟩ := List.getElem_of_mem hfm
      rw [List.getElem_mapIdx]
      exact hall (d.fs[i]'(by simpa using hi)) (List.getElem_mem _)
  · have hk' : k < (d.fs.mapIdx (crf ks)).length := by simpa using hk
    have hw : d.fs[k].wt = ⟨#[]⟩ := by
      rcases h with h | h
      · exact h _ (List.getElem_mem hk)
      · rw [hit_at hk hkn hf] at h; exact h
    rw [hit_at hk hkn hf, hit_at hk' (by rw [List.getElem_mapIdx]; exact hkn) (fun j hj hjk => by rw [List.getElem_mapIdx]; exact hf j (by simpa using hj) hjk), List.getElem_mapIdx]
    refine ⟨rfl, ?_⟩
    show d.fs[k].sf ++ d.fs[k].wt.extract 0 _ = d.fs[k].sf
    rw [hw]
    have e1 : (⟨#[]⟩ : ByteArray).extract 0 (kp ks k d.fs[k]) = ⟨#[]⟩ := by ext1; simp
    rw [e1]
    exact ByteArray.append_empty
/-- a laying whose end is OK. -/
theorem lay_good {d : Dk} {nm s : ByteArray} (ks : List Int) (hu : Uniq d.fs) (hd : Dry d.fs) (h : (lay d nm s).2 = 0) : (hit nm (crs (lay d nm s).1 ks).fs).2 = true ∧ (hit nm (crs (lay d nm s).1 ks).fs).1.sf = s := by
  have h3 : (lay3 d nm s).2 = 0 := by
    unfold lay at h
    split at h
    · assumption
    · exact h
  have e4 : lay d nm s = ren (lay3 d nm s).1 (freshB nm) nm := by unfold lay; rw [if_pos h3]
  obtain ⟨l, f3, u3, d3, g3⟩ := lay3_ok hu hd h3
  rw [e4] at h ⊢
  obtain ⟨_, hr, _⟩ := ren_good _ _ _ u3 h
  have hrf : redd (freshB nm) (lay3 d nm s).1.fs = (s, 0) := by
    have hk : l.length < (l ++ [(⟨freshB nm, s, ⟨#[]⟩⟩ : Fil)]).length := by simp
    have hg : (l ++ [(⟨freshB nm, s, ⟨#[]⟩⟩ : Fil)])[l.length] = ⟨freshB nm, s, ⟨#[]⟩⟩ := by simp
    rw [f3, redd_at hk (by rw [hg]) (fun j hj hjl => by rw [List.getElem_append_left hjl]; exact g3 _ (List.getElem_mem hjl)), hg]
    have e : s ++ (⟨#[]⟩ : ByteArray) = s := ByteArray.append_empty
    rw [e]
  rw [hrf] at hr
  have d4 := dry_ren (fr := freshB nm) (tu := nm) d3
  obtain ⟨c1, c2⟩ := hit_crs (ren (lay3 d nm s).1 (freshB nm) nm).1 ks nm (.inl d4)
  rw [c1, c2]
  unfold redd at hr
  split at hr
  · rename_i hh
    refine ⟨hh, ?_⟩
    obtain ⟨k, hk, _, _, hhit, _⟩ := hit_some hh
    rw [hhit] at hr ⊢
    have hw := d4 _ (List.getElem_mem hk)
    simp only [Prod.mk.injEq] at hr
    rw [hw] at hr
    have e : ∀ x : ByteArray, x ++ (⟨#[]⟩ : ByteArray) = x := fun x => ByteArray.append_empty
    rw [e] at hr
    exact hr.1
  · simp at hr
/-- one whose end isn't. -/
theorem lay_apart {d : Dk} {nm s : ByteArray} (h : (lay d nm s).2 ≠ 0) : hit nm (lay d nm s).1.fs = hit nm d.fs := by
  have hne := fresh_ne nm
  have a1 : hit nm (lay1 d nm).1.fs = hit nm d.fs := by unfold lay1; split; exact del_apart d hne; rfl
  have a2 : hit nm (lay2 d nm s).1.fs = hit nm d.fs := by unfold lay2; split; exact (appd_apart _ hne).trans a1; exact a1
  have a3 : hit nm (lay3 d nm s).1.fs = hit nm d.fs := by unfold lay3; split; exact (syn_apart _ hne).trans a2; exact a2
  unfold lay at h ⊢
  split at h
  · rename_i h0
    rw [if_pos h0, (ren_bad _ _ _ h).1]
    exact a3
  · rename_i h0
    rw [if_neg h0]
    exact a3
theorem lay_bad {d : Dk} {nm s : ByteArray} (ks : List Int) (hd : Dry d.fs) (h : (lay d nm s).2 ≠ 0) : (hit nm (crs (lay d nm s).1 ks).fs).2 = (hit nm d.fs).2 ∧ (hit nm (crs (lay d nm s).1 ks).fs).1.sf = (hit nm d.fs).1.sf := by
  have e := lay_apart h
  have hw : (hit nm d.fs).1.wt = ⟨#[]⟩ := by
    rcases plc_cases nm d.fs with ⟨_, hall⟩ | ⟨k, hk, _, hkn, hf⟩
    · rw [hit_none hall]
    · rw [hit_at hk hkn hf]; exact hd _ (List.getElem_mem hk)
  have := hit_crs (lay d nm s).1 ks nm (.inr (by rw [e]; exact hw))
  rw [e] at this
  exact this
theorem crs_dry (d : Dk) : Dry (crs d []).fs := by
  have e : (crs d []).fs = d.fs.mapIdx (crf []) := by
    show crl [] d.fs d.fs.length = _
    unfold crl; rw [List.take_length, List.drop_length, List.append_nil]
  rw [e]
  intro f hf
  obtain ⟨i, hi, rfl⟩ := List.getElem_of_mem hf
  rw [List.getElem_mapIdx]; rfl
theorem crs_uniq (d : Dk) (ks : List Int) (hu : Uniq d.fs) : Uniq (crs d ks).fs := by
  have e : (crs d ks).fs = d.fs.mapIdx (crf ks) := by
    show crl ks d.fs d.fs.length = _
    unfold crl; rw [List.take_length, List.drop_length, List.append_nil]
  rw [e]
  intro i j hi hj he
  rw [List.getElem_mapIdx, List.getElem_mapIdx] at he
  exact hu i j (by simpa using hi) (by simpa using hj) he
end Rn
end Go.Proofs.Ytodfdklcioafmaa
