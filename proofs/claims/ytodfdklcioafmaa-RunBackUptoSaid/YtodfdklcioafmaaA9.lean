/- RunMay, RunTake, DecRef, DecRefText, SumRefOpen, RunTake2: merged. -/
import Derived.Test.YtodfdklcioafmaaA8
import Derived.Test.YtodfdklcioafmaaA5
import Derived.Test.YtodfdklcioafmaaA6
import Derived.Test.YtodfdklcioafmaaA1
import Derived.Deep.LoopGhost
/- Contracts: run.long, slices.ContainsFunc of it, run.mayBe; the document's may. -/
namespace Go.Proofs.Ytodfdklcioafmaa
set_option maxRecDepth 100000
open Go.RowKit Prm
set_option linter.unusedVariables false
set_option linter.unusedSimpArgs false

theorem long_any (p : Pr) (w : World) : Calls Try.prog 80 #[p.v] w fun e w' => e = .returned (.bool (Rn.big p)) ∧ Q w w' := by
  obtain ⟨a, b⟩ := p
  by_cases h1 : (65536 : Int) < (a.size : Int)
  · have hr : Rn.big ⟨a, b⟩ = true := by unfold Rn.big; simp; omega
    have HR := Lib.hid hr
    clear hr
    go_enter Try.func80, Try.ntmps80
    go_wp2
    go_ret
    exact ⟨ret_bool HR.out.symm, (Q.refl _).alloc _⟩
  · by_cases h2 : (65536 : Int) < (b.size : Int)
    · have hr : Rn.big ⟨a, b⟩ = true := by unfold Rn.big; simp; omega
      have HR := Lib.hid hr
      clear hr
      go_enter Try.func80, Try.ntmps80
      go_wp2
      go_ret
      exact ⟨ret_bool HR.out.symm, (Q.refl _).alloc _⟩
    · have hr : Rn.big ⟨a, b⟩ = false := by unfold Rn.big; simp; omega
      have HR := Lib.hid hr
      clear hr
      go_enter Try.func80, Try.ntmps80
      go_wp2
      go_ret
      exact ⟨ret_bool HR.out.symm, (Q.refl _).alloc _⟩

set_option maxHeartbeats 1000000 in
theorem indexLong (A : Option Addr) (n c : Nat) (l : List Pr) (w : World) (hf : Lst pairK w A n l) (hn : n ≤ maxLen) :
    Calls Try.prog 104 #[.slice A n c, .func (.func 80) #[] #[]] w fun e w' => e = .returned (.int .i64 (idx Rn.big l 0)) ∧ Q w w' := by
  unfold maxLen at hn
  have HF := Lib.hid hf
  clear hf
  go_enter Try.func104, Try.ntmps104
  go_wp2
  go_loopw [8] (fun i wr => ∃ k : Nat, k ≤ n ∧ i = .int .i64 k ∧ Q w wr ∧ idx Rn.big l 0 = idx Rn.big (l.drop k) k) (fun i _ => n - (intOf i).toNat)
  case atStart => exact ⟨0, Nat.zero_le _, rfl, Q.refl _, rfl⟩
  case round =>
    obtain ⟨k, hk, rfl, hq, hp⟩ := hrel
    have HP := Lib.hid hp
    clear hp
    by_cases hlt : k < n
    · have hlen := HF.out.len
      have hkl : k < l.length := by omega
      obtain ⟨ad, rfl, hb, c0, c1⟩ := load_pair (HF.out.q hq) hlt hkl
      clear hlen
      go_wp2_with fail
      refine (long_any l[k] _).mono ?_
      rintro e w1 ⟨rfl, q1⟩
      by_cases hh : Rn.big l[k] = true
      · go_wp2
        go_ret
        exact ⟨ret_int (by rw [HP.out, idx_drop _ _ hkl, if_pos hh]), hq.trans q1⟩
      · have hd : Rn.big l[k] = false := by simpa using hh
        go_wp2
        go_roundw
        case rel => exact ⟨k + 1, by omega, by go_num, hq.trans q1, by rw [HP.out, idx_drop _ _ hkl, if_neg hh]⟩
        case measure => simp [intOf]; omega
    · have hlen := HF.out.len
      have HL := Lib.hid hlen
      clear hlen
      go_wp2
      go_ret
      exact ⟨ret_int (by rw [HP.out, idx_end _ _ (by have := HL.out; omega)]), hq⟩

theorem containsLong (A : Option Addr) (n c : Nat) (l : List Pr) (w : World) (hf : Lst pairK w A n l) (hn : n ≤ maxLen) :
    Calls Try.prog 79 #[.slice A n c, .func (.func 80) #[] #[]] w fun e w' => e = .returned (.bool (l.any Rn.big)) ∧ Q w w' := by
  have K := Lib.hid (indexLong A n c l w hf hn)
  rcases idx_cases Rn.big l 0 with ⟨hp, hall⟩ | ⟨k, hk, hp, hkn, hfirst⟩
  · have hr : l.any Rn.big = false := by rw [List.any_eq_false]; intro x hx; simp [hall x hx]
    have HR := Lib.hid hr
    have HP := Lib.hid hp
    clear hr hp hall hf
    go_enter Try.func79, Try.ntmps79
    go_wp2_with fail
    refine K.out.mono ?_
    rintro e w1 ⟨rfl, q1⟩
    rw [HP.out]
    go_wp2
    go_ret
    exact ⟨ret_bool HR.out.symm, q1⟩
  · have hr : l.any Rn.big = true := List.any_eq_true.2 ⟨_, List.getElem_mem hk, hkn⟩
    have HR := Lib.hid hr
    have HP := Lib.hid (hp.trans (by simp : ((0 + k : Nat) : Int) = (k : Int)))
    clear hr hp hfirst hf hkn
    have h0 : (0 : Int) ≤ (k : Int) := by omega
    go_enter Try.func79, Try.ntmps79
    go_wp2_with fail
    refine K.out.mono ?_
    rintro e w1 ⟨rfl, q1⟩
    rw [HP.out]
    go_wp2
    go_ret
    exact ⟨ret_bool HR.out.symm, q1⟩

theorem mayBe_any (A : Option Addr) (n c : Nat) (l : List Pr) (w : World) (hf : Lst pairK w A n l) (hn : n ≤ maxLen) :
    Calls Try.prog 46 #[.slice A n c] w fun e w' => e = .returned (.bool (Rn.may l)) ∧ Q w w' := by
  have K := Lib.hid (right_any A n c l w hf hn)
  have HF := Lib.hid hf
  have HN := Lib.hid hn
  have hm : Rn.may l = (right l && !l.any Rn.big) := rfl
  have HM := Lib.hid hm
  clear hf hn hm
  generalize hr : right l = r at K HM
  have HR := Lib.hid hr
  clear hr
  cases r with
  | false =>
    go_enter Try.func46, Try.ntmps46
    go_wp2_with fail
    refine K.out.mono ?_
    rintro e w1 ⟨rfl, q1⟩
    go_wp2_with fail
    go_ret
    exact ⟨ret_bool (by rw [HM.out]; rfl), q1⟩
  | true =>
    go_enter Try.func46, Try.ntmps46
    go_wp2_with fail
    refine K.out.mono ?_
    rintro e w1 ⟨rfl, q1⟩
    go_wp2_with fail
    refine (containsLong A n c l _ (HF.out.q q1) HN.out).mono ?_
    rintro e w2 ⟨rfl, q2⟩
    generalize l.any Rn.big = b at HM
    cases b
    all_goals
      go_wp2_with fail
      go_ret
      exact ⟨ret_bool (by rw [HM.out]; rfl), q1.trans q2⟩
end Go.Proofs.Ytodfdklcioafmaa

/- The contract of run.takePairs. -/
namespace Go.Proofs.Ytodfdklcioafmaa
set_option maxRecDepth 100000
open Go.RowKit Prm
set_option linter.unusedVariables false
set_option linter.unusedSimpArgs false

/-- pairs, what stands behind them, and the errno. -/
def RetP (w : World) (x : List Pr × List UInt8 × Nat) (e : Ending) (w' : World) : Prop :=
  ∃ A c, e = .returned (.tuple #[.slice A x.1.length c, .string ⟨x.2.1.toArray⟩, .int .i64 (x.2.2 : Int)]) ∧ OwnK pairK w' w.heap.size A x.1.length c x.1 ∧ Q w w'

theorem tnum_nil (l : List UInt8) (h : (Dm.tnum l).2.2 ≠ 0) : Dm.tnum l = (0, [], (Dm.tnum l).2.2) := by
  unfold Dm.tnum at h ⊢
  split at h
  · rename_i a; rw [if_pos a]
  · rename_i a
    split at h
    · rename_i b; rw [if_neg a, if_pos b]
    · rename_i b
      split at h
      · rename_i c; rw [if_neg a, if_neg b, if_pos c]
      · simp at h
theorem ttext_nil (l : List UInt8) (m : Int) (h : (Dm.ttext l m).2.2 ≠ 0) : Dm.ttext l m = ([], [], (Dm.ttext l m).2.2) := by
  unfold Dm.ttext at h ⊢
  split at h
  · rename_i a; rw [if_pos a]
  · rename_i a
    split at h
    · rename_i b; rw [if_neg a, if_pos b]
    · rename_i b
      split at h
      · rename_i c; rw [if_neg a, if_neg b, if_pos c]
      · simp at h

/-- where takePairs stands behind k pairs. -/
def TpS (w : World) (sz : Nat) (T : List Pr × List UInt8 × Nat) (v er : Nat) (k : Nat) (s6 s7 s8 : Value) (wr : World) : Prop :=
  ∃ (r : ByteArray) (acc : List Pr) (A : Option Addr) (c : Nat), s6 = .string r ∧ s7 = .int .i64 (er : Int) ∧ s8 = .slice A acc.length c ∧ OwnK pairK wr w.heap.size A acc.length c acc ∧ Q w wr ∧ 4 * acc.length + r.size ≤ sz ∧
    (k < v → er = 0) ∧ T = (if er ≠ 0 then (acc, r.data.toList, er) else Rn.tkp (v - k) r.data.toList acc)

theorem TpS.step {w wr w2 : World} {sz : Nat} {T : List Pr × List UInt8 × Nat} {v er k : Nat} {s6 s7 s8 : Value} (h : TpS w sz T v er k s6 s7 s8 wr) (q : Q wr w2) : TpS w sz T v er k s6 s7 s8 w2 := by
  obtain ⟨r, acc, A, c, h1, h2, h3, h4, h5, h6⟩ := h
  exact ⟨r, acc, A, c, h1, h2, h3, h4.q q, h5.trans q, h6⟩
theorem tkp_key {n : Nat} {r : List UInt8} {acc : List Pr} (h : (Dm.ttext r 65536).2.2 ≠ 0) : Rn.tkp (n + 1) r acc = (acc, [], (Dm.ttext r 65536).2.2) := by rw [Rn.tkp, if_pos h]
theorem tkp_val {n : Nat} {r : List UInt8} {acc : List Pr} (h1 : (Dm.ttext r 65536).2.2 = 0) (h : (Dm.ttext (Dm.ttext r 65536).2.1 65536).2.2 ≠ 0) : Rn.tkp (n + 1) r acc = (acc, [], (Dm.ttext (Dm.ttext r 65536).2.1 65536).2.2) := by
  rw [Rn.tkp, if_neg (by simpa using h1), if_pos h]
theorem tkp_both {n : Nat} {r : List UInt8} {acc : List Pr} (h1 : (Dm.ttext r 65536).2.2 = 0) (h : (Dm.ttext (Dm.ttext r 65536).2.1 65536).2.2 = 0) :
    Rn.tkp (n + 1) r acc = Rn.tkp n (Dm.ttext (Dm.ttext r 65536).2.1 65536).2.1 (acc ++ [⟨⟨(Dm.ttext r 65536).1.toArray⟩, ⟨(Dm.ttext (Dm.ttext r 65536).2.1 65536).1.toArray⟩⟩]) := by
  rw [Rn.tkp, if_neg (by simpa using h1), if_neg (by simpa using h)]

set_option maxHeartbeats 4000000 in
set_option maxRecDepth 100000 in
theorem takePairs_any (s : ByteArray) (w : World) (hs : s.size ≤ 8796093022208) :
    Calls Try.prog 53 #[.string s] w (RetP w (Rn.tkps s.data.toList)) := by
  have hcall := takeNum_any s w (by unfold maxLen; omega)
  have hlen := Dm.tnum_len s.data.toList
  have hle := Dm.tnum_le s.data.toList
  have herr := Dm.tnum_err s.data.toList
  have hnl := tnum_nil s.data.toList
  have hT : Rn.tkps s.data.toList = if (Dm.tnum s.data.toList).2.2 ≠ 0 then ([], [], (Dm.tnum s.data.toList).2.2) else Rn.tkp (Dm.tnum s.data.toList).1 (Dm.tnum s.data.toList).2.1 [] := rfl
  generalize Rn.tkps s.data.toList = T at hT ⊢
  generalize Dm.tnum s.data.toList = x at *
  obtain ⟨v, r0, er⟩ := x
  simp only at hlen hle herr hnl hT
  rw [Rn.size_data] at hlen
  obtain ⟨R, hR, hRs, hRl⟩ := bytes_of r0
  unfold tnR at hcall
  simp only at hcall
  rw [← hR] at hcall
  have HC := Lib.hid hcall
  have S0 := Lib.hid (show TpS w s.size T v er 0 (.string R) (.int .i64 (er : Int)) (.slice none 0 0) w from
    ⟨R, [], none, 0, rfl, rfl, rfl, OwnK.nil_ _ _ _, Q.refl _, by simp; omega, fun h => Classical.byContradiction fun hh => by
      have := hnl hh; simp only [Prod.mk.injEq] at this; omega, by
      rw [hT]
      by_cases hh : er = 0
      · rw [if_neg (by simpa using hh), if_neg (by simpa using hh), Nat.sub_zero, hRl]
      · rw [if_pos hh, if_pos hh]
        have := hnl hh; simp only [Prod.mk.injEq] at this
        rw [hRl, this.2.1]⟩)
  have hv1 : (v : Int) ≤ 18446744073709551615 := by unfold Dm.maxU at hle; omega
  clear hcall hT hnl hRl hR hRs hlen hle herr
  go_enter Try.func53, Try.ntmps53
  go_wp2_with fail
  go_step3
  go_wp2_with fail
  refine HC.out.mono ?_
  rintro e w1 ⟨rfl, q1⟩
  go_wp2_with fail
  go_step3
  go_wp2
  have S1 := Lib.hid (S0.out.step q1)
  clear S0 q1
  go_loopg [6, 7, 8, 18] v (fun g s6 s7 s8 s18 wr => ∃ k : Nat, k + g = v ∧ s18 = .int .u64 k ∧ TpS w s.size T v er k s6 s7 s8 wr)
  case atStart => exact ⟨0, by omega, rfl, S1.out⟩
  case round =>
    obtain ⟨k, hkg, rfl, r, acc, A, c, rfl, rfl, rfl, o1, q1, hsz, her, hT⟩ := hrel
    obtain ⟨wo, rfl⟩ : ∃ x, x = wr := ⟨_, rfl⟩
    have HO := Lib.hid o1
    have HQ := Lib.hid q1
    have HT := Lib.hid hT
    clear o1 q1 hT S1 HC
    by_cases hlt : k < v
    · obtain ⟨g, rfl⟩ : ∃ g, gk = g + 1 := ⟨gk - 1, by omega⟩
      have h0 := her hlt
      subst h0
      have hkv : (k : Int) < (v : Int) := by omega
      obtain ⟨m, hm⟩ : ∃ m, v - k = m + 1 := ⟨v - k - 1, by omega⟩
      have hT := HT.out
      rw [if_neg (by simp), hm] at hT
      have hm2 : m = v - (k + 1) := by omega
      have K1 := fun W => takeText_any r 65536 W (by unfold maxLen; omega) (by omega) (by omega)
      have l1 := ttext_len r.data.toList 65536
      have t1 := Rn.ttext_takes r.data.toList 65536
      rw [Rn.size_data] at l1 t1
      have n1 := ttext_nil r.data.toList 65536
      have a1 := fun h => tkp_key (n := m) (r := r.data.toList) (acc := acc) h
      have a2 := fun h h2 => tkp_val (n := m) (r := r.data.toList) (acc := acc) h h2
      have a3 := fun h h2 => tkp_both (n := m) (r := r.data.toList) (acc := acc) h h2
      generalize Dm.ttext r.data.toList 65536 = x1 at K1 l1 t1 n1 a1 a2 a3
      obtain ⟨k1, r1, e1⟩ := x1
      simp only at l1 t1 n1 a1 a2 a3
      obtain ⟨KB, hKB, hKBs, hKBl⟩ := bytes_of k1
      obtain ⟨RB, hRB, hRBs, hRBl⟩ := bytes_of r1
      unfold ttR at K1
      simp only at K1
      rw [← hKB, ← hRB] at K1
      by_cases c1 : e1 = 0
      · subst c1
        have K2 := fun W => takeText_any RB 65536 W (by unfold maxLen; omega) (by omega) (by omega)
        have l2 := ttext_len r1 65536
        have t2 := Rn.ttext_takes r1 65536
        have n2 := ttext_nil r1 65536
        have t1' := t1 rfl
        have a2' := a2 rfl
        have a3' := a3 rfl
        rw [hRBl] at K2
        generalize Dm.ttext r1 65536 = x2 at K2 l2 t2 n2 a2' a3'
        obtain ⟨k2, r2, e2⟩ := x2
        simp only at l2 t2 n2 a2' a3'
        obtain ⟨VB, hVB, hVBs, hVBl⟩ := bytes_of k2
        obtain ⟨SB, hSB, hSBs, hSBl⟩ := bytes_of r2
        unfold ttR at K2
        simp only at K2
        rw [← hVB, ← hSB] at K2
        rw [← hKB, ← hVB] at a3'
        have HKK := Lib.hid K1
        have HK2 := Lib.hid K2
        have hz0 : ((0 : Int) != 0) = false := by decide
        clear K1 K2 n1 a1 a2 a3 t1 l1 hKB hKBs hKBl hRB hVB hVBs hVBl
        have X0 := Lib.hid (Bx.new wo [.string ⟨#[]⟩, .string ⟨#[]⟩] 126)
        by_cases c2 : e2 = 0
        · subst c2
          have HA := Lib.hid (hT.trans (a3' rfl))
          have t2' := t2 rfl
          have HM := Lib.hid hm2
          have HSl := Lib.hid hSBl
          have hss : 4 * (acc.length + 1) + SB.size ≤ s.size := by rw [hSBs]; omega
          have HSS := Lib.hid hss
          have hap : (acc.length + 1) * 32 ≤ 140737488355328 := by omega
          have HAp := Lib.hid hap
          clear hT n2 t2 a2' a3' hSB hSBs hSBl hRBs hRBl t1' l2 hm hm2 t2' hsz hss hap
          go_wp2_with fail
          go_loopw [6, 7, 20] (fun s6 s7 s20 wx => s7 = .int .i64 0 ∧ Q wo wx ∧ ((s6 = .string r ∧ s20 = .int .i64 0 ∧ Bx wx wo.heap.size [.string ⟨#[]⟩, .string ⟨#[]⟩]) ∨ (s6 = .string RB ∧ s20 = .int .i64 1 ∧ Bx wx wo.heap.size [.string KB, .string ⟨#[]⟩]) ∨ (s6 = .string SB ∧ s20 = .int .i64 2 ∧ Bx wx wo.heap.size [.string KB, .string VB]))) (fun _ _ s20 _ => (2 - intOf s20).toNat)
          case atStart => exact ⟨rfl, (Q.refl _).alloc _, .inl ⟨rfl, rfl, X0.out⟩⟩
          case round =>
            obtain ⟨rfl, q2, ⟨rfl, rfl, x2⟩ | ⟨rfl, rfl, x2⟩ | ⟨rfl, rfl, x2⟩⟩ := hrel
            · have Q2 := Lib.hid q2
              have X2 := Lib.hid x2
              clear q2 x2
              go_wp2_with fail
              refine (HKK.out _).mono ?_
              rintro e w3 ⟨rfl, q3⟩
              obtain ⟨b0, g0⟩ := (X2.out.q q3) 0 _ rfl
              have X3 := Lib.hid ((X2.out.q q3).set (k := 0) (by simp) (.string KB))
              have Q3 := Lib.hid ((Q2.out.trans q3).setCell (p := ⟨wo.heap.size, 0, none⟩) (Nat.le_refl _) (.string KB))
              clear q3 X2 Q2
              go_wp2_with fail
              go_roundw
              case rel => exact ⟨rfl, Q3.out, .inr (.inl ⟨rfl, rfl, X3.out⟩)⟩
              case measure => simp [intOf]
            · have Q2 := Lib.hid q2
              have X2 := Lib.hid x2
              clear q2 x2
              go_wp2_with fail
              refine (HK2.out _).mono ?_
              rintro e w3 ⟨rfl, q3⟩
              obtain ⟨b0, g0⟩ := (X2.out.q q3) 1 _ rfl
              have X3 := Lib.hid ((X2.out.q q3).set (k := 1) (by simp) (.string VB))
              have Q3 := Lib.hid ((Q2.out.trans q3).setCell (p := ⟨wo.heap.size, 1, none⟩) (Nat.le_refl _) (.string VB))
              clear q3 X2 Q2
              go_wp2_with fail
              go_roundw
              case rel => exact ⟨rfl, Q3.out, .inr (.inr ⟨rfl, rfl, X3.out⟩)⟩
              case measure => simp [intOf]
            · have Q2 := Lib.hid q2
              obtain ⟨b0, _⟩ := x2 0 _ rfl
              obtain ⟨b1, _⟩ := x2 1 _ rfl
              clear q2 x2
              go_wp2_with (at_builtin
                           refine wpl_appK pairK rfl (.tmp 34) (.tmp 40) 31 rfl rfl w.heap.size A acc.length c acc rfl ((HO.out.q Q2.out).alloc _) (some ⟨wr.heap.size, 0, none⟩) 1 1 [⟨KB, VB⟩] rfl (by have := lit_pair wr ⟨KB, VB⟩; simpa using this) (fun e => by cases e) HAp.out (by have := HQ.out.size; have := Q2.out.size; simp; omega) ?_
                           intro A5 c5 w5 o5 b5
                           have S5 := Lib.hid (show TpS w s.size T v 0 (k + 1) (.string SB) (.int .i64 0) (.slice A5 (acc.length + 1) c5) w5 from ⟨SB, acc ++ [⟨KB, VB⟩], A5, c5, rfl, rfl, by rw [List.length_append]; rfl, by rw [List.length_append]; exact o5, ((HQ.out.trans Q2.out).alloc _).below.trans b5, by rw [List.length_append]; exact HSS.out, fun _ => rfl, by rw [if_neg (by simp), HSl.out, ← HM.out]; exact HA.out⟩)
                           clear o5 b5)
              go_roundg g
              case measure => omega
              case rel => exact ⟨k + 1, by omega, by go_num, S5.out⟩
        · have HA := Lib.hid (hT.trans (a2' c2))
          have hr2 := n2 c2
          simp only [Prod.mk.injEq, and_true] at hr2
          have hne : ((e2 : Int) != 0) = true := by simp; omega
          have HRe := Lib.hid (show SB = ⟨#[]⟩ by rw [hSB, hr2.2])
          clear hT n2 t2 a2' a3' hSB hSBs hSBl hRBs hRBl hr2 t1' l2 c2 hm hm2
          go_wp2_with fail
          go_loopw [6, 7, 20] (fun s6 s7 s20 wx => s7 = .int .i64 0 ∧ Q wo wx ∧ ((s6 = .string r ∧ s20 = .int .i64 0 ∧ Bx wx wo.heap.size [.string ⟨#[]⟩, .string ⟨#[]⟩]) ∨ (s6 = .string RB ∧ s20 = .int .i64 1 ∧ Bx wx wo.heap.size [.string KB, .string ⟨#[]⟩]))) (fun _ _ s20 _ => (2 - intOf s20).toNat)
          case atStart => exact ⟨rfl, (Q.refl _).alloc _, .inl ⟨rfl, rfl, X0.out⟩⟩
          case round =>
            obtain ⟨rfl, q2, ⟨rfl, rfl, x2⟩ | ⟨rfl, rfl, x2⟩⟩ := hrel
            · have Q2 := Lib.hid q2
              have X2 := Lib.hid x2
              clear q2 x2
              go_wp2_with fail
              refine (HKK.out _).mono ?_
              rintro e w3 ⟨rfl, q3⟩
              obtain ⟨b0, g0⟩ := (X2.out.q q3) 0 _ rfl
              have X3 := Lib.hid ((X2.out.q q3).set (k := 0) (by simp) (.string KB))
              have Q3 := Lib.hid ((Q2.out.trans q3).setCell (p := ⟨wo.heap.size, 0, none⟩) (Nat.le_refl _) (.string KB))
              clear q3 X2 Q2
              go_wp2_with fail
              go_roundw
              case rel => exact ⟨rfl, Q3.out, .inr ⟨rfl, rfl, X3.out⟩⟩
              case measure => simp [intOf]
            · have Q2 := Lib.hid q2
              have X2 := Lib.hid x2
              clear q2 x2
              go_wp2_with fail
              refine (HK2.out _).mono ?_
              rintro e w3 ⟨rfl, q3⟩
              obtain ⟨b0, g0⟩ := (X2.out.q q3) 1 _ rfl
              have Q3 := Lib.hid (Q2.out.trans q3)
              clear q3
              go_wp2_with fail
              (try rw [Exit.noGoto_ret])
              go_ret3
              rw [HA.out]
              exact ⟨A, c, by rw [HRe.out]; rfl, HO.out.q (Q3.out.setCell (p := ⟨wo.heap.size, 1, none⟩) (Nat.le_refl _) _), HQ.out.trans (Q3.out.setCell (p := ⟨wo.heap.size, 1, none⟩) (Nat.le_refl _) _)⟩
      · have HA := Lib.hid (hT.trans (a1 c1))
        have hr1 := n1 c1
        simp only [Prod.mk.injEq, and_true] at hr1
        have HKK := Lib.hid K1
        have hne : ((e1 : Int) != 0) = true := by simp; omega
        have hRe : RB = ⟨#[]⟩ := by rw [hRB, hr1.2]
        have HRe := Lib.hid hRe
        clear hT K1 n1 a1 a2 a3 hKB hKBs hKBl hRB hRBs hRBl hr1 t1 l1 hRe c1 hm hm2
        have X0 := Lib.hid (Bx.new wo [.string ⟨#[]⟩, .string ⟨#[]⟩] 126)
        go_wp2_with fail
        go_loopw [6, 7, 20] (fun s6 s7 s20 wx => s6 = .string r ∧ s7 = .int .i64 0 ∧ s20 = .int .i64 0 ∧ Q wo wx ∧ Bx wx wo.heap.size [.string ⟨#[]⟩, .string ⟨#[]⟩]) (fun _ _ _ _ => 0)
        case atStart => exact ⟨rfl, rfl, rfl, (Q.refl _).alloc _, X0.out⟩
        case round =>
          obtain ⟨rfl, rfl, rfl, q2, x2⟩ := hrel
          have Q2 := Lib.hid q2
          have X2 := Lib.hid x2
          clear q2 x2
          go_wp2_with fail
          refine (HKK.out _).mono ?_
          rintro e w3 ⟨rfl, q3⟩
          obtain ⟨b0, g0⟩ := (X2.out.q q3) 0 _ rfl
          have Q3 := Lib.hid (Q2.out.trans q3)
          clear q3
          go_wp2_with fail
          (try rw [Exit.noGoto_ret])
          go_ret3
          rw [HA.out]
          exact ⟨A, c, by rw [HRe.out]; rfl, HO.out.q (Q3.out.setCell (p := ⟨wo.heap.size, 0, none⟩) (Nat.le_refl _) _), HQ.out.trans (Q3.out.setCell (p := ⟨wo.heap.size, 0, none⟩) (Nat.le_refl _) _)⟩
    · have hkm : k = v := by omega
      have HE := Lib.hid (show T = (acc, r.data.toList, er) by
        rw [HT.out]
        by_cases hh : er = 0
        · rw [if_neg (by simpa using hh), show v - k = 0 by omega, hh]; rfl
        · rw [if_pos hh])
      clear hkm
      go_wp2
      try rw [Exit.noGoto_ret]
      go_ret3
      rw [HE.out]
      exact ⟨A, c, by simp, HO.out, HQ.out⟩
end Go.Proofs.Ytodfdklcioafmaa

/- Contracts of the document's own TakeNum, TakeText. -/
namespace Go.Proofs.Ytodfdklcioafmaa
set_option maxRecDepth 100000
open Go.RowKit
set_option linter.unusedVariables false

/-- how the figures end. -/
theorem figs_end (l : List UInt8) : (Dm.figs l).length = l.length ∨ ∃ h : (Dm.figs l).length < l.length, Dm.isD (l[(Dm.figs l).length]) = false := by
  rcases Nat.lt_or_ge (Dm.figs l).length l.length with h | h
  · right
    refine ⟨h, ?_⟩
    have hr : Dm.rest l = l[(Dm.figs l).length] :: l.drop ((Dm.figs l).length + 1) := by rw [Dm.rest_eq, List.drop_eq_getElem_cons h]
    have hne : Dm.rest l ≠ [] := by rw [hr]; exact List.cons_ne_nil _ _
    have := List.head_dropWhile_not Dm.isD hne
    have e : (List.dropWhile Dm.isD l).head hne = l[(Dm.figs l).length] := by
      show (Dm.rest l).head hne = _
      simp only [hr, List.head_cons]
    rw [e] at this
    simpa using this
  · left; have := Dm.figs_len l; omega
theorem figs_get (l : List UInt8) (i : Nat) (h : i < (Dm.figs l).length) (h' : i < l.length) : Dm.isD l[i] = true := by
  have := Dm.figs_all l _ (List.getElem_mem h)
  have e := Dm.figs_eq l
  have e2 : (Dm.figs l)[i] = l[i] := by
    have : (Dm.figs l)[i]? = (l.take (Dm.figs l).length)[i]? := by rw [← e]
    rw [List.getElem?_take, if_pos h, List.getElem?_eq_getElem h, List.getElem?_eq_getElem h'] at this
    injection this
  rw [← e2]; exact this
theorem bad_long (l : List UInt8) (h : 20 < (Dm.figs l).length) : Dm.bad l = true := by
  cases hl : l with
  | nil => rw [hl] at h; simp [Dm.figs] at h
  | cons c r =>
    rw [← hl]
    have hh : l.head? = some c := by rw [hl]; rfl
    by_cases h0 : c.toNat = 48
    · have hc : c = 48 := UInt8.toNat_inj.1 (by rw [h0]; rfl)
      unfold Dm.bad; rw [decide_eq_true (show 1 < (Dm.figs l).length by omega), hh, hc]; rfl
    · have hl0 : 0 < l.length := by rw [hl]; simp
      have hd := figs_get l 0 (by omega) hl0
      have e : l[0] = c := by simp [hl]
      rw [e] at hd
      cases hf : Dm.figs l with
      | nil => rw [hf] at h; simp at h
      | cons c2 r2 =>
        have hc2 : c2 = c := by
          have := Dm.figs_rest l
          rw [hf, hl] at this
          simp at this; exact this.1
        have := Dm.val_big (Dm.figs l) c2 r2 hf (by rw [hc2]; exact hd) (by rw [hc2]; exact h0) h
        unfold Dm.bad; rw [decide_eq_true this, Bool.or_true]
theorem bad_lead (l : List UInt8) (h : 1 < (Dm.figs l).length) (h0 : l.head? = some 48) : Dm.bad l = true := by
  unfold Dm.bad; rw [decide_eq_true h, h0]; rfl
theorem tnum_bad (l : List UInt8) (h : Dm.bad l = true) : Dm.tnum l = (0, [], 3) := by unfold Dm.tnum; rw [if_pos h]

theorem tnum_more (l : List UInt8) (hb : Dm.bad l = false) (h : (Dm.figs l).length = l.length) : Dm.tnum l = (0, [], 2) := by
  unfold Dm.tnum
  rw [hb, if_neg (by simp), if_pos (by rw [Dm.rest_eq, h, List.drop_length])]
theorem rest_cons (l : List UInt8) (h : (Dm.figs l).length < l.length) : Dm.rest l = l[(Dm.figs l).length] :: l.drop ((Dm.figs l).length + 1) := by
  rw [Dm.rest_eq, List.drop_eq_getElem_cons h]
theorem tnum_other (l : List UInt8) (hb : Dm.bad l = false) (h : (Dm.figs l).length < l.length) (hc : l[(Dm.figs l).length] ≠ 59 ∨ (Dm.figs l).length = 0) : Dm.tnum l = (0, [], 3) := by
  unfold Dm.tnum
  rw [hb, if_neg (by simp), rest_cons l h, if_neg (List.cons_ne_nil _ _), if_pos]
  rcases hc with hc | hc
  · left; rw [List.head?_cons]; intro e; injection e with e; exact hc e
  · right; exact List.length_eq_zero_iff.1 hc
theorem tnum_ok (l : List UInt8) (hb : Dm.bad l = false) (h : (Dm.figs l).length < l.length) (hc : l[(Dm.figs l).length] = 59) (h0 : (Dm.figs l).length ≠ 0) :
    Dm.tnum l = (Dm.val (Dm.figs l), l.drop ((Dm.figs l).length + 1), 0) := by
  unfold Dm.tnum
  rw [hb, if_neg (by simp), rest_cons l h, if_neg (List.cons_ne_nil _ _), if_neg]
  · rfl
  · rintro (e | e)
    · simp [hc] at e
    · exact h0 (List.length_eq_zero_iff.2 e)

set_option maxHeartbeats 1000000 in
theorem refTakeNum_any (s : ByteArray) (w : World) (hs : s.size ≤ maxLen) :
    Calls Try.prog 69 #[.string s] w fun e w' => e = .returned (tnR (Dm.tnum s.data.toList)) ∧ Q w w' := by
  unfold maxLen at hs
  have hend0 := figs_end s.data.toList
  have hle : (Dm.figs s.data.toList).length ≤ s.size := by have := Dm.figs_len s.data.toList; rw [size_list] at this; exact this
  have hget := figs_get s.data.toList
  have hfe := Dm.figs_eq s.data.toList
  have hbl := bad_long s.data.toList
  have hbz := bad_lead s.data.toList
  have hbb := tnum_bad s.data.toList
  have hrest := Dm.rest_eq s.data.toList
  have hnil : Dm.figs s.data.toList = [] ↔ (Dm.figs s.data.toList).length = 0 := List.length_eq_zero_iff.symm
  obtain ⟨N, hN⟩ : ∃ N, N = (Dm.figs s.data.toList).length := ⟨_, rfl⟩
  rw [← hN] at hle hget hbl hbz hrest hnil
  have hdig : ∀ i (h : i < N) (h' : i < s.size), 48 ≤ s[i].toNat ∧ s[i].toNat ≤ 57 := by
    intro i h h'
    have := hget i h (by rw [size_list]; exact h')
    rw [get_list, Dm.isD_iff] at this; exact this
  have hend : s.size ≤ N ∨ (∃ h : N < s.size, s[N].toNat < 48) ∨ (∃ h : N < s.size, 57 < s[N].toNat) := by
    rcases hend0 with h | ⟨h, h2⟩
    · left; rw [hN, h, size_list]; exact Nat.le_refl _
    · right
      have h3 : N < s.size := by rw [hN]; rw [size_list] at h; exact h
      have h4 : Dm.isD s[N] = false := by
        have : s[N] = s.data.toList[(Dm.figs s.data.toList).length] := by simp only [hN]; rfl
        rw [this]; exact h2
      unfold Dm.isD at h4
      simp only [Bool.and_eq_false_iff, decide_eq_false_iff_not] at h4
      rcases h4 with h4 | h4
      · left; exact ⟨h3, by omega⟩
      · right; exact ⟨h3, by omega⟩
  have HDIG := Lib.hid hdig
  have HFE := Lib.hid hfe
  have HNIL := Lib.hid hnil
  have HREST := Lib.hid hrest
  have HBB := Lib.hid hbb
  have HN := Lib.hid hN
  clear hend0 hget hfe hdig hnil hrest hbb
  by_cases cL : 20 < N ∨ (1 < N ∧ ∃ h : 0 < s.size, s[0].toNat = 48)
  · have hbad : Dm.bad s.data.toList = true := by
      rcases cL with h | ⟨h, h1, h2⟩
      · exact hbl h
      · exact hbz h (by rw [head_list s h1]; congr 1; exact UInt8.toNat_inj.1 (by rw [h2]; rfl))
    have ht := HBB.out hbad
    have HT := Lib.hid ht
    have CL := Lib.hid cL
    clear ht hbl hbz cL hbad hN
    rcases hend with hend | ⟨hlt, hend⟩ | ⟨hlt, hend⟩
    all_goals
      go_enter Try.func69, Try.ntmps69
      go_wp2
      go_loop [5] (fun n => ∃ k : Nat, k ≤ N ∧ n = .int .i64 k) (fun n => N - (intOf n).toNat)
      case atStart => exact ⟨0, Nat.zero_le _, rfl⟩
      case round =>
        obtain ⟨k, hk, rfl⟩ := hrel
        by_cases c : k < N
        · have hks : k < s.size := by omega
          obtain ⟨d1, d2⟩ := HDIG.out k c hks
          go_wp2
          go_round
          case rel => exact ⟨k + 1, by omega, by go_num⟩
          case measure => simp [intOf]; omega
        · obtain rfl : k = N := by omega
          by_cases cN : 20 < k
          · have dN : decide (20 < (k : Int)) = true := by simp; omega
            go_wp2
            go_ret3
            exact ⟨by rw [HT.out]; rfl, Q.refl _⟩
          · have h1 : 1 < k := by have := CL.out; omega
            have h0s : 0 < s.size := by omega
            have hb : ((s[0].toNat : Int) == 48) = true := by
              rcases CL.out with h | ⟨_, _, h⟩
              · omega
              · simp; omega
            go_wp2
            go_ret3
            exact ⟨by rw [HT.out]; rfl, Q.refl _⟩
  have cN : N ≤ 20 := by
    rcases Nat.lt_or_ge 20 N with h | h
    · exact absurd (.inl h) cL
    · exact h
  have hz : 1 < N → ∀ h : 0 < s.size, ((s[0].toNat : Int) == 48) = false := by
    intro h1 h2
    have : ¬ s[0].toNat = 48 := fun e => cL (.inr ⟨h1, h2, e⟩)
    simp; omega
  have HZ := Lib.hid hz
  have dN : decide (20 < (N : Int)) = false := by simp; omega
  have hvl : Dm.val (s.data.toList.take N) = Dm.val (Dm.figs s.data.toList) := by rw [HN.out]; rw [← HFE.out]
  have HVL := Lib.hid hvl
  have hmono : ∀ k, k < N → Dm.maxU < Dm.val (s.data.toList.take (k + 1)) → Dm.tnum s.data.toList = (0, [], 3) := by
    intro k hk h
    apply HBB.out
    refine Dm.bad_big s.data.toList k (by rw [size_list]; omega) ?_ h
    intro i hi
    rw [get_list, Dm.isD_iff]; exact HDIG.out i (by omega) (by omega)
  have HM := Lib.hid hmono
  have hgood : Dm.val (Dm.figs s.data.toList) ≤ Dm.maxU → Dm.bad s.data.toList = false := by
    intro h
    refine Dm.bad_not s.data.toList N (by rw [HN.out]; exact HFE.out) (by rw [size_list]; exact hle) ?_ (by rw [hvl]; exact h)
    intro h1 e
    have h2 : 0 < s.size := by omega
    rw [head_list s h2] at e
    injection e with e
    have := hz h1 h2
    rw [e] at this
    exact absurd this (by decide)
  have HG := Lib.hid hgood
  clear hbl hbz cL hz hN hvl hmono hgood
  rcases hend with hend | ⟨hlt, hend⟩ | ⟨hlt, hend⟩
  all_goals
    go_enter Try.func69, Try.ntmps69
    go_wp2
    go_loop [5] (fun n => ∃ k : Nat, k ≤ N ∧ n = .int .i64 k) (fun n => N - (intOf n).toNat)
    case atStart => exact ⟨0, Nat.zero_le _, rfl⟩
    case round =>
      obtain ⟨k, hk, rfl⟩ := hrel
      by_cases c : k < N
      · have hks : k < s.size := by omega
        obtain ⟨d1, d2⟩ := HDIG.out k c hks
        go_wp2
        go_round
        case rel => exact ⟨k + 1, by omega, by go_num⟩
        case measure => simp [intOf]; omega
      · obtain rfl : k = N := by omega
        have hcase : k ≤ 1 ∨ (1 < k ∧ ∃ h : 0 < s.size, ((s[0].toNat : Int) == 48) = false) := by
          rcases Nat.lt_or_ge 1 k with h | h
          · exact .inr ⟨h, by omega, HZ.out h (by omega)⟩
          · exact .inl h
        rcases hcase with h1 | ⟨h1, h0s, hb0⟩
        all_goals
          go_wp2
          go_loop [6, 7] (fun v i => ∃ j : Nat, j ≤ k ∧ i = .int .i64 j ∧ v = .int .u64 (Dm.val (s.data.toList.take j)) ∧ Dm.val (s.data.toList.take j) ≤ Dm.maxU) (fun _ i => k - (intOf i).toNat)
          case atStart => exact ⟨0, Nat.zero_le _, rfl, rfl, Nat.zero_le _⟩
          case round =>
            obtain ⟨j, hj, rfl, rfl, hv⟩ := hrel
            by_cases c2 : j < k
            · have hjs : j < s.size := by omega
              obtain ⟨d1, d2⟩ := HDIG.out j c2 hjs
              have e1 := Dm.val_snoc (s.data.toList.take j) s[j]
              rw [← take_snoc' s j hjs] at e1
              have hov := HM.out j c2
              generalize hA : Dm.val (s.data.toList.take j) = A at *
              rw [e1] at hov
              have hdv : Dm.dv s[j] = s[j].toNat - 48 := rfl
              rw [hdv] at e1 hov
              have H1 := Lib.hid e1
              have HO := Lib.hid hov
              unfold Dm.maxU at hv
              clear e1 hov hdv hA
              by_cases c3 : 1844674407370955161 < A
              · have HT := Lib.hid (HO.out (by unfold Dm.maxU; omega))
                have c3' : decide ((1844674407370955161 : Int) < (A : Int)) = true := by simp; omega
                go_wp2
                go_ret3
                exact ⟨by rw [HT.out]; rfl, Q.refl _⟩
              have c3' : decide ((1844674407370955161 : Int) < (A : Int)) = false := by simp; omega
              by_cases c4 : A = 1844674407370955161
              · have c4' : ((A : Int) == 1844674407370955161) = true := by simp; omega
                by_cases c5 : 53 < s[j].toNat
                · have HT := Lib.hid (HO.out (by unfold Dm.maxU; omega))
                  clear c4
                  go_wp2
                  go_ret3
                  exact ⟨by rw [HT.out]; rfl, Q.refl _⟩
                · have c5' : s[j].toNat ≤ 53 := by omega
                  have hle2 : 10 * A + (s[j].toNat - 48) ≤ 18446744073709551615 := by omega
                  have hle3 : 10 * (A : Int) + ((s[j].toNat : Int) - 48) ≤ 18446744073709551615 := by omega
                  have HN2 := Lib.hid (show ((10 * A + (s[j].toNat - 48) : Nat) : Int) = 10 * (A : Int) + ((s[j].toNat : Int) - 48) by omega)
                  have HL2 := Lib.hid hle2
                  clear c4 hle2
                  go_wp2
                  go_round
                  case rel => exact ⟨j + 1, by omega, by go_num, by rw [H1.out, HN2.out], by rw [H1.out]; exact HL2.out⟩
                  case measure => simp [intOf]; omega
              · have c4' : ((A : Int) == 1844674407370955161) = false := by simp; omega
                have hle2 : 10 * A + (s[j].toNat - 48) ≤ 18446744073709551615 := by omega
                have hle3 : 10 * (A : Int) + ((s[j].toNat : Int) - 48) ≤ 18446744073709551615 := by omega
                have HN2 := Lib.hid (show ((10 * A + (s[j].toNat - 48) : Nat) : Int) = 10 * (A : Int) + ((s[j].toNat : Int) - 48) by omega)
                have HL2 := Lib.hid hle2
                clear c4 hle2
                go_wp2
                go_round
                case rel => exact ⟨j + 1, by omega, by go_num, by rw [H1.out, HN2.out], by rw [H1.out]; exact HL2.out⟩
                case measure => simp [intOf]; omega
            · obtain rfl : j = k := by omega
              have hg := HG.out (by rw [← HVL.out]; exact hv)
              by_cases c6 : j = s.size
              · have HT := Lib.hid (tnum_more s.data.toList hg (by rw [size_list, ← HN.out]; exact c6))
                have hbe : ((j : Int) == (s.size : Int)) = true := by simp; omega
                clear hg
                first
                  | (exfalso; omega)
                  | (clear c6
                     go_wp2
                     go_ret3
                     exact ⟨by rw [HT.out]; rfl, Q.refl _⟩)
              · have hbe : ((j : Int) == (s.size : Int)) = false := by simp; omega
                have hjs : j < s.size := by omega
                have hgt : s.data.toList[(Dm.figs s.data.toList).length]'(by rw [size_list, ← HN.out]; exact hjs) = s[j] := by
                  simp only [← HN.out]; rfl
                all_goals (try (exfalso; omega))
                all_goals
                  by_cases c7 : s[j].toNat = 59 ∧ j ≠ 0
                  · obtain ⟨c7, c8⟩ := c7
                    have ht := tnum_ok s.data.toList hg (by rw [size_list, ← HN.out]; exact hjs) (by rw [hgt]; exact UInt8.toNat_inj.1 (by rw [c7]; rfl)) (by rw [← HN.out]; exact c8)
                    rw [← HN.out, ← HVL.out] at ht
                    have he := extract_list s (j + 1) s.size
                    rw [List.take_of_length_le (by rw [size_list]; omega)] at he
                    have HT := Lib.hid ht
                    have HE := Lib.hid he
                    have hne : ((s[j].toNat : Int) != 59) = false := by simp; omega
                    have h0 : ((j : Int) == 0) = false := by simp; omega
                    have e1 : IntKind.i64.wrap ((j : Int) + 1) = (j : Int) + 1 := IntWalk.i64_in _ (by omega)
                    have e2 : 0 ≤ (j : Int) + 1 := by omega
                    have e3 : ((j : Int) + 1).toNat = j + 1 := by omega
                    have e4 : (j : Int) + 1 ≤ (s.size : Int) := by omega
                    clear ht he hg hgt c7 c8 c6 hend
                    generalize Dm.val (s.data.toList.take j) = A at *
                    go_wp2
                    go_quiet (fail)
                    go_wp2
                    go_ret3
                    refine ⟨?_, (Q.refl _).drewN _⟩
                    rw [HT.out]; unfold tnR
                    simp only [← HE.out]; rfl
                  · have HT := Lib.hid (tnum_other s.data.toList hg (by rw [size_list, ← HN.out]; exact hjs) (by
                      rw [hgt, ← HN.out]
                      rcases Nat.eq_zero_or_pos j with e | e
                      · exact .inr e
                      · left; intro e2; exact c7 ⟨by rw [e2]; rfl, by omega⟩))
                    have C7 := Lib.hid c7
                    clear hg hgt c7 c6
                    by_cases c8 : s[j].toNat = 59
                    · have hne : ((s[j].toNat : Int) != 59) = false := by simp; omega
                      have h0 : ((j : Int) == 0) = true := by have := C7.out; simp; omega
                      clear c8
                      go_wp2
                      go_ret3
                      exact ⟨by rw [HT.out]; rfl, Q.refl _⟩
                    · have hne : ((s[j].toNat : Int) != 59) = true := by simp; omega
                      clear c8
                      go_wp2
                      go_ret3
                      exact ⟨by rw [HT.out]; rfl, Q.refl _⟩
end Go.Proofs.Ytodfdklcioafmaa

/- The contract of the document's own TakeText. -/
namespace Go.Proofs.Ytodfdklcioafmaa
set_option maxRecDepth 100000
open Go.RowKit
set_option linter.unusedVariables false

set_option maxHeartbeats 400000 in
theorem refTakeText_any (s : ByteArray) (most : Int) (w : World) (hs : s.size ≤ maxLen) (hm0 : -9223372036854775808 ≤ most) (hm1 : most ≤ 9223372036854775807) :
    Calls Try.prog 70 #[.string s, .int .i64 most] w fun e w' => e = .returned (ttR (Dm.ttext s.data.toList most)) ∧ Q w w' := by
  have hlen := Dm.tnum_len s.data.toList
  have hle := Dm.tnum_le s.data.toList
  have hcall := refTakeNum_any s w hs
  have htx : Dm.ttext s.data.toList most = if (Dm.tnum s.data.toList).2.2 ≠ 0 then ([], [], (Dm.tnum s.data.toList).2.2) else if most < 0 ∨ most < ((Dm.tnum s.data.toList).1 : Int) then ([], [], 4) else if (Dm.tnum s.data.toList).2.1.length < (Dm.tnum s.data.toList).1 then ([], [], 2)
    else ((Dm.tnum s.data.toList).2.1.take (Dm.tnum s.data.toList).1, (Dm.tnum s.data.toList).2.1.drop (Dm.tnum s.data.toList).1, 0) := rfl
  have herr := Dm.tnum_err s.data.toList
  generalize Dm.tnum s.data.toList = x at *
  obtain ⟨n, r, er⟩ := x
  obtain ⟨R, hR⟩ : ∃ R : ByteArray, R = ⟨r.toArray⟩ := ⟨_, rfl⟩
  have hsz : R.size = r.length := by rw [hR]; show r.toArray.size = _; simp
  have hl : R.data.toList = r := by rw [hR]
  unfold tnR at hcall
  simp only at hlen hle hcall htx herr
  rw [← hR] at hcall
  have hRle : R.size ≤ s.size := by rw [hsz]; rw [size_list] at hlen; exact hlen
  unfold maxLen at hs
  unfold Dm.maxU at hle
  have HC := Lib.hid hcall
  have HT := Lib.hid htx
  have HSZ := Lib.hid hsz
  have HL := Lib.hid hl
  clear hcall htx hsz hl hR hlen
  by_cases c0 : er = 0
  · subst c0
    clear herr
    by_cases c1 : most < 0 ∨ most < (n : Int)
    · have ht : Dm.ttext s.data.toList most = ([], [], 4) := by rw [HT.out, if_neg (by simp), if_pos c1]
      have HT2 := Lib.hid ht
      have C1 := Lib.hid c1
      clear ht c1
      by_cases c3 : most < 0
      · have d3 : decide (most < 0) = true := by simpa using c3
        go_enter Try.func70, Try.ntmps70
        go_wp2_with fail
        refine HC.out.mono ?_
        rintro e w1 ⟨rfl, q1⟩
        go_wp2_with fail
        go_ret3
        exact ⟨by rw [HT2.out]; rfl, q1⟩
      · have c3' : 0 ≤ most := by omega
        have d3 : decide (most < 0) = false := by simpa using c3'
        have c4 : most < (n : Int) := by have := C1.out; omega
        clear c3
        go_enter Try.func70, Try.ntmps70
        go_wp2_with fail
        refine HC.out.mono ?_
        rintro e w1 ⟨rfl, q1⟩
        go_wp2_with fail
        go_ret3
        exact ⟨by rw [HT2.out]; rfl, q1⟩
    have c1' : 0 ≤ most := by omega
    have c1'' : (n : Int) ≤ most := by omega
    have d3 : decide (most < 0) = false := by simpa using c1'
    by_cases c2 : R.size < n
    · have ht : Dm.ttext s.data.toList most = ([], [], 2) := by rw [HT.out, if_neg (by simp), if_neg c1, if_pos (by rw [← HSZ.out]; exact c2)]
      have HT2 := Lib.hid ht
      clear ht c1
      go_enter Try.func70, Try.ntmps70
      go_wp2_with fail
      refine HC.out.mono ?_
      rintro e w1 ⟨rfl, q1⟩
      go_wp2_with fail
      go_ret3
      exact ⟨by rw [HT2.out]; rfl, q1⟩
    have c2' : n ≤ R.size := by omega
    have ht : Dm.ttext s.data.toList most = (r.take n, r.drop n, 0) := by rw [HT.out, if_neg (by simp), if_neg c1, if_neg (by rw [← HSZ.out]; exact c2)]
    have he1 := extract_list R 0 n
    have he2 := extract_list R n R.size
    rw [List.take_of_length_le (by rw [size_list]; omega), HL.out] at he2
    rw [HL.out, List.drop_zero] at he1
    have HT2 := Lib.hid ht
    have HE1 := Lib.hid he1
    have HE2 := Lib.hid he2
    have e4 : (n : Int) ≤ (R.size : Int) := by omega
    clear ht c1 c2 he1 he2
    go_enter Try.func70, Try.ntmps70
    go_wp2_with fail
    refine HC.out.mono ?_
    rintro e w1 ⟨rfl, q1⟩
    go_wp2_with fail
    go_quiet (fail)
    go_wp2_with fail
    go_ret3
    refine ⟨?_, q1.drewN _⟩
    rw [HT2.out]; unfold ttR
    simp only [← HE1.out, ← HE2.out]; rfl
  · have ht : Dm.ttext s.data.toList most = ([], [], er) := by rw [HT.out, if_pos c0]
    have HT2 := Lib.hid ht
    have hne : ((er : Int) != 0) = true := by simp; omega
    clear ht c0 herr
    go_enter Try.func70, Try.ntmps70
    go_wp2_with fail
    refine HC.out.mono ?_
    rintro e w1 ⟨rfl, q1⟩
    go_wp2_with fail
    go_ret3
    exact ⟨by rw [HT2.out]; rfl, q1⟩
end Go.Proofs.Ytodfdklcioafmaa

/- The contract of the document's own Open. -/
namespace Go.Proofs.Ytodfdklcioafmaa
set_option maxRecDepth 100000
open Go.RowKit
set_option linter.unusedVariables false

set_option maxHeartbeats 400000 in
theorem refOpen_any (f : ByteArray) (most : Int) (w : World) (hs : f.size ≤ maxLen) (hm0 : -9223372036854775808 ≤ most) (hm1 : most ≤ 9223372036854775807) :
    Calls Try.prog 68 #[.string f, .int .i64 most] w fun e w' => e = .returned (ttR (topen f.data.toList most)) ∧ Q w w' := by
  have hcall := refTakeText_any f most w hs hm0 hm1
  have hlen := ttext_len f.data.toList most
  have herr := ttext_err f.data.toList most
  rw [size_list] at hlen
  have htx : topen f.data.toList most = topen1 (Dm.ttext f.data.toList most) := rfl
  generalize topen f.data.toList most = out at *
  subst htx
  generalize Dm.ttext f.data.toList most = x at *
  obtain ⟨t, r, er⟩ := x
  obtain ⟨S, hS, hSs, hSl⟩ := bytes_of t
  obtain ⟨R, hR, hRs, hRl⟩ := bytes_of r
  unfold ttR at hcall
  simp only at hlen hcall herr
  rw [← hS, ← hR] at hcall
  rw [← hSs, ← hRs] at hlen
  obtain ⟨hl1, hl2⟩ := hlen
  have HC := Lib.hid hcall
  have HSL := Lib.hid hSl
  have HRL := Lib.hid hRl
  have HS := Lib.hid hS
  clear hcall hSl hRl hS hR hSs hRs
  by_cases c0 : er = 0
  · subst c0
    clear herr
    have ho : topen1 (t, r, 0) = topen2 t (Dm.tnum r) := by unfold topen1; rw [if_neg (by simp)]
    rw [ho]
    have hcall2 := fun W => refTakeNum_any R W (Nat.le_trans hl2 hs)
    have hle := Dm.tnum_le r
    have hlen := Dm.tnum_len r
    have herr := Dm.tnum_err r
    rw [HRL.out] at hcall2
    generalize Dm.tnum r = y at *
    obtain ⟨v, r2, er2⟩ := y
    obtain ⟨R2, hR2, hR2s, hR2l⟩ := bytes_of r2
    unfold tnR at hcall2
    simp only at hle hlen herr hcall2
    rw [← hR2] at hcall2
    have HR2 := Lib.hid hR2
    have HC2 := Lib.hid hcall2
    clear ho hcall2 hR2 hR2s hR2l hlen
    unfold Dm.maxU at hle
    by_cases c1 : er2 = 0
    · subst c1
      clear herr
      have hof := fun W => refOf_any S W (Nat.le_trans hl1 hs)
      rw [HSL.out] at hof
      have hr := Sm.adler_range t
      have HOF := Lib.hid hof
      clear hof
      unfold maxLen at hs
      by_cases c2 : (v : Int) = Sm.adler t
      · have hfin : topen2 t (v, r2, 0) = (t, r2, 0) := by unfold topen2; rw [if_neg (by simp), if_neg (by simpa using c2)]
        have hbn : ((v : Int) != Sm.adler t) = false := by simpa using c2
        have HF := Lib.hid hfin
        clear hfin c2
        generalize Sm.adler t = ad at *
        go_enter Try.func68, Try.ntmps68
        go_wp2_with fail
        refine HC.out.mono ?_
        rintro e w1 ⟨rfl, q1⟩
        go_wp2_with fail
        refine (HC2.out _).mono ?_
        rintro e w2 ⟨rfl, q2⟩
        go_wp2_with fail
        refine (HOF.out _).mono ?_
        rintro e w3 ⟨rfl, q3⟩
        go_wp2_with fail
        go_ret3
        refine ⟨?_, q1.trans (q2.trans q3)⟩
        rw [HF.out]; unfold ttR
        simp only [← HR2.out, ← HS.out]; rfl
      · have hfin : topen2 t (v, r2, 0) = ([], [], 10) := by unfold topen2; rw [if_neg (by simp), if_pos (by simpa using c2)]
        have hbn : ((v : Int) != Sm.adler t) = true := by simpa using c2
        have HF := Lib.hid hfin
        clear hfin c2
        generalize Sm.adler t = ad at *
        go_enter Try.func68, Try.ntmps68
        go_wp2_with fail
        refine HC.out.mono ?_
        rintro e w1 ⟨rfl, q1⟩
        go_wp2_with fail
        refine (HC2.out _).mono ?_
        rintro e w2 ⟨rfl, q2⟩
        go_wp2_with fail
        refine (HOF.out _).mono ?_
        rintro e w3 ⟨rfl, q3⟩
        go_wp2_with fail
        go_ret3
        exact ⟨by rw [HF.out]; rfl, q1.trans (q2.trans q3)⟩
    · have hfin : topen2 t (v, r2, er2) = ([], [], er2) := by unfold topen2; rw [if_pos c1]
      have hne : ((er2 : Int) != 0) = true := by simp; omega
      have HF := Lib.hid hfin
      clear hfin c1 herr
      go_enter Try.func68, Try.ntmps68
      go_wp2_with fail
      refine HC.out.mono ?_
      rintro e w1 ⟨rfl, q1⟩
      go_wp2_with fail
      refine (HC2.out _).mono ?_
      rintro e w2 ⟨rfl, q2⟩
      go_wp2_with fail
      go_ret3
      exact ⟨by rw [HF.out]; rfl, q1.trans q2⟩
  · have ho : topen1 (t, r, er) = ([], [], er) := by unfold topen1; rw [if_pos c0]
    have hne : ((er : Int) != 0) = true := by simp; omega
    have HF := Lib.hid ho
    clear ho c0 herr
    go_enter Try.func68, Try.ntmps68
    go_wp2_with fail
    refine HC.out.mono ?_
    rintro e w1 ⟨rfl, q1⟩
    go_wp2_with fail
    go_ret3
    exact ⟨by rw [HF.out]; rfl, q1⟩

end Go.Proofs.Ytodfdklcioafmaa

/- The contracts of run.Take and of the document's. -/
namespace Go.Proofs.Ytodfdklcioafmaa
set_option maxRecDepth 100000
open Go.RowKit Prm
set_option linter.unusedVariables false
set_option linter.unusedSimpArgs false

/-- pairs, and the errno. -/
def RetT (w : World) (x : List Pr × Nat) (e : Ending) (w' : World) : Prop :=
  ∃ A c, e = .returned (.tuple #[.slice A x.1.length c, .int .i64 (x.2 : Int)]) ∧ OwnK pairK w' w.heap.size A x.1.length c x.1 ∧ Q w w'
theorem RetT.bad {w w' : World} (q : Q w w') : RetT w ([], 3) (.returned (.tuple #[.slice none 0 0, .int .i64 3])) w' := ⟨none, 0, rfl, OwnK.nil_ _ _ _, q⟩

theorem topen_len (l : List UInt8) (most : Int) : (topen l most).1.length ≤ l.length ∧ (topen l most).2.1.length ≤ l.length := by
  have h := ttext_len l most
  have h2 := Dm.tnum_len (Dm.ttext l most).2.1
  unfold topen topen1 topen2
  split
  · simp
  · split
    · simp
    · split
      · simp
      · simp only; omega
theorem str_nonempty {s : ByteArray} {l : List UInt8} (h : s.data.toList = l) (hl : l ≠ []) : s.toList ≠ [] ∧ s.toList.isEmpty = false ∧ (s.toList == []) = false := by
  have h1 : s.toList ≠ [] := by rw [ByteArray.toList_eq, h]; exact hl
  exact ⟨h1, by simpa using h1, by simpa using h1⟩
theorem str_empty {s : ByteArray} {l : List UInt8} (h : s.data.toList = l) (hl : l = []) : s = ⟨#[]⟩ := ByteArray.ext (by rw [← Array.toList_inj, h, hl])
theorem may_cases {l : List Pr} : Rn.may l = true ∨ Rn.may l = false := by cases Rn.may l <;> simp

set_option maxHeartbeats 4000000 in
theorem rtake_any (s : ByteArray) (w : World) (hs : s.size ≤ 8796093022208) :
    Calls Try.prog 23 #[.string s] w (RetT w (Rn.take s.data.toList s.size)) := by
  have K1 := sopen_any s s.size w (by unfold maxLen; omega) (by omega) (by omega)
  have hln := topen_len s.data.toList s.size
  have hT : Rn.take s.data.toList s.size = Rn.tk1 (topen s.data.toList s.size) := rfl
  rw [Rn.size_data] at hln
  generalize topen s.data.toList s.size = x at K1 hT hln
  generalize Rn.take s.data.toList s.size = T at hT ⊢
  obtain ⟨b, r, e1⟩ := x
  obtain ⟨BB, hB, hBs, hBl⟩ := bytes_of b
  obtain ⟨RB, hR, hRs, hRl⟩ := bytes_of r
  unfold ttR at K1
  simp only at K1 hln
  rw [← hB, ← hR] at K1
  rw [← hBs] at hln
  have HK := Lib.hid K1
  have HB := Lib.hid hln.1
  clear K1 hln
  unfold Rn.tk1 at hT
  simp only at hT
  by_cases c1 : e1 = 0
  · subst c1
    by_cases c2 : r = []
    · rw [if_neg (by simpa using c2)] at hT
      have hre := str_empty hRl c2
      rw [hre] at HK
      have K2 := takePairs_any BB
      rw [hBl] at K2
      generalize Rn.tkps b = y at K2 hT
      obtain ⟨l, r2, e2⟩ := y
      unfold RetP at K2
      simp only at K2
      obtain ⟨SB, hS, hSs, hSl⟩ := bytes_of r2
      rw [← hS] at K2
      have HK2 := Lib.hid (fun W => K2 W (Nat.le_trans HB.out hs))
      unfold Rn.tk2 at hT
      simp only at hT
      clear K2 hre hR hRs hRl hB hBs hBl c2 HB
      by_cases c3 : e2 = 0
      · subst c3
        by_cases c4 : r2 = []
        · have hse := str_empty hSl c4
          rw [hse] at HK2
          rcases may_cases (l := l) with c5 | c5
          · have HT := Lib.hid (show T = (l, 0) by rw [hT, if_neg (by simp [c4, c5])])
            have HM := Lib.hid c5
            clear hT c4 hse hS hSs hSl c5
            go_enter Try.func23, Try.ntmps23
            go_wp2_with fail
            refine HK.out.mono ?_
            rintro e w1 ⟨rfl, q1⟩
            go_wp2_with fail
            refine (HK2.out _).mono ?_
            rintro e w2 ⟨A, c, rfl, o2, q2⟩
            have O2 := Lib.hid o2
            have Q2 := Lib.hid (q1.trans q2)
            have hcap := o2.le
            have hcap2 := o2.cap
            clear o2
            go_wp2_with fail
            refine (mayBe_any A l.length c l _ O2.out.lst (by unfold maxLen at *; omega)).mono ?_
            rw [HM.out]
            rintro e w3 ⟨rfl, q3⟩
            go_wp2_with fail
            go_ret2
            rw [HT.out]
            exact ⟨A, c, rfl, (O2.out.lower q1.size).q q3, Q2.out.trans q3⟩
          · have HT := Lib.hid (show T = ([], 3) by rw [hT, if_pos (.inr (.inr c5))])
            have HM := Lib.hid c5
            clear hT c4 hse hS hSs hSl c5
            go_enter Try.func23, Try.ntmps23
            go_wp2_with fail
            refine HK.out.mono ?_
            rintro e w1 ⟨rfl, q1⟩
            go_wp2_with fail
            refine (HK2.out _).mono ?_
            rintro e w2 ⟨A, c, rfl, o2, q2⟩
            have O2 := Lib.hid o2
            have Q2 := Lib.hid (q1.trans q2)
            have hcap := o2.le
            have hcap2 := o2.cap
            clear o2
            go_wp2_with fail
            refine (mayBe_any A l.length c l _ O2.out.lst (by unfold maxLen at *; omega)).mono ?_
            rw [HM.out]
            rintro e w3 ⟨rfl, q3⟩
            go_wp2_with fail
            go_ret2
            rw [HT.out]
            exact RetT.bad (Q2.out.trans q3)
        · have HT := Lib.hid (show T = ([], 3) by rw [hT, if_pos (.inr (.inl c4))])
          obtain ⟨n1, n2, n3⟩ := str_nonempty hSl c4
          clear hT c4 hS hSs hSl
          go_enter Try.func23, Try.ntmps23
          go_wp2_with fail
          refine HK.out.mono ?_
          rintro e w1 ⟨rfl, q1⟩
          go_wp2_with fail
          refine (HK2.out _).mono ?_
          rintro e w2 ⟨A, c, rfl, o2, q2⟩
          have Q2 := Lib.hid (q1.trans q2)
          clear o2
          go_wp2_with fail
          go_ret2
          rw [HT.out]
          exact RetT.bad Q2.out
      · have HT := Lib.hid (show T = ([], 3) by rw [hT, if_pos (.inl c3)])
        have hne : ((e2 : Int) != 0) = true := by simp; omega
        clear hT c3 hS hSs hSl
        go_enter Try.func23, Try.ntmps23
        go_wp2_with fail
        refine HK.out.mono ?_
        rintro e w1 ⟨rfl, q1⟩
        go_wp2_with fail
        refine (HK2.out _).mono ?_
        rintro e w2 ⟨A, c, rfl, o2, q2⟩
        have Q2 := Lib.hid (q1.trans q2)
        clear o2
        go_wp2_with fail
        go_ret2
        rw [HT.out]
        exact RetT.bad Q2.out
    · rw [if_pos (.inr c2)] at hT
      obtain ⟨n1, n2, n3⟩ := str_nonempty hRl c2
      have HT := Lib.hid hT
      clear hT c2 hR hRs hRl hB hBs hBl HB
      go_enter Try.func23, Try.ntmps23
      go_wp2_with fail
      refine HK.out.mono ?_
      rintro e w1 ⟨rfl, q1⟩
      go_wp2_with fail
      go_ret2
      rw [HT.out]
      exact RetT.bad q1
  · rw [if_pos (.inl c1)] at hT
    have hne : ((e1 : Int) != 0) = true := by simp; omega
    have HT := Lib.hid hT
    clear hT c1 hR hRs hRl hB hBs hBl HB
    go_enter Try.func23, Try.ntmps23
    go_wp2_with fail
    refine HK.out.mono ?_
    rintro e w1 ⟨rfl, q1⟩
    go_wp2_with fail
    go_ret2
    rw [HT.out]
    exact RetT.bad q1
end Go.Proofs.Ytodfdklcioafmaa
