/- Contracts: lock's closures over holds and claims; slices.IndexFunc, ContainsFunc, Clone, Equal at these. -/
import Derived.Test.YtenemdpjhoebpaaLockK
import Derived.Test.YtenemdpjhoebpaaSpan3
import Derived.Test.YtenemdpjhoebpaaPair
namespace Go.Proofs.Ytenemdpjhoebpaa
set_option maxRecDepth 100000
open Go.RowKit Prm Lm Sm
set_option linter.unusedVariables false
set_option linter.unusedSimpArgs false

def isH (txn : Int) (h : Ho) : Bool := decide (h.txn = txn)
def isC (txn : Int) (h : Cl) : Bool := decide (h.txn = txn)
def hasH (txn : Int) (x : Wn) (h : Ho) : Bool := decide (h.txn = txn) && covers h.w x
/-- the captured variables. -/
def Cap1 (w : World) (txn : Int) (B : Nat) : Prop := B < w.heap.size ∧ w.cell? ⟨B, 0, none⟩ = some (.int .i64 txn)
def Cap2 (w : World) (txn : Int) (x : Wn) (B C : Nat) : Prop := B < w.heap.size ∧ C < w.heap.size ∧ w.cell? ⟨B, 0, none⟩ = some (.int .i64 txn) ∧ Wx w C x
theorem Cap1.q {w w' : World} {txn : Int} {B : Nat} (h : Cap1 w txn B) (q : Q w w') : Cap1 w' txn B := ⟨Nat.lt_of_lt_of_le h.1 q.size, box_ q h.2⟩
theorem Cap2.q {w w' : World} {txn : Int} {x : Wn} {B C : Nat} (h : Cap2 w txn x B C) (q : Q w w') : Cap2 w' txn x B C := ⟨Nat.lt_of_lt_of_le h.1 q.size, Nat.lt_of_lt_of_le h.2.1 q.size, box_ q h.2.2.1, h.2.2.2.q q⟩
theorem int_eq (a b : Int) : (a == b) = decide (a = b) := by
  by_cases h : a = b
  · subst h; simp
  · simp [h]

theorem waits1_any (h : Cl) (txn : Int) (B : Nat) (w : World) (hc : Cap1 w txn B) :
    Calls Try.prog 42 #[clV h, .pointer (some ⟨B, 0, none⟩)] w fun e w' => e = .returned (.bool (isC txn h)) ∧ Q w w' := by
  obtain ⟨hB, hc⟩ := hc
  obtain ⟨a, ⟨m, lo, hi⟩, tl⟩ := h
  go_enter Try.func42, Try.ntmps42
  go_wp2
  go_ret
  exact ⟨ret_bool (int_eq a txn), (Q.refl _).alloc _⟩
set_option maxHeartbeats 1000000 in
theorem index_waits1 (txn : Int) (B : Nat) (A : Option Addr) (n c : Nat) (l : List Cl) (w : World) (hc : Cap1 w txn B) (hf : Lst claimK w A n l) (hn : n ≤ maxLen) :
    Calls Try.prog 63 #[.slice A n c, .func (.func 42) #[] #[.pointer (some ⟨B, 0, none⟩)]] w fun e w' => e = .returned (.int .i64 (idx (isC txn) l 0)) ∧ Q w w' := by
  unfold maxLen at hn
  have HC := Lib.hid hc
  have HF := Lib.hid hf
  clear hc hf
  generalize hP : (isC txn) = P
  have HP0 := Lib.hid hP
  clear hP
  go_enter Try.func63, Try.ntmps63
  go_wp2
  go_loopw [8] (fun i wr => ∃ k : Nat, k ≤ n ∧ i = .int .i64 k ∧ Q w wr ∧ idx P l 0 = idx P (l.drop k) k) (fun i _ => n - (intOf i).toNat)
  case atStart => exact ⟨0, Nat.zero_le _, rfl, Q.refl _, rfl⟩
  case round =>
    obtain ⟨k, hk, rfl, hq, hp⟩ := hrel
    have HP := Lib.hid hp
    clear hp
    by_cases hlt : k < n
    · have hlen := HF.out.len
      have hkl : k < l.length := by omega
      obtain ⟨ad, rfl, hb, c0, c1, c2, c3, c4⟩ := load_claim (HF.out.q hq) hlt hkl
      clear hlen
      have HCq := Lib.hid (HC.out.q hq)
      go_wp2_with fail
      refine (waits1_any l[k] txn B _ HCq.out).mono ?_
      rintro e w1 ⟨rfl, q1⟩
      rw [HP0.out]
      by_cases hh : P l[k] = true
      · go_wp2
        go_ret
        exact ⟨ret_int (by rw [HP.out, idx_drop _ _ hkl, if_pos hh]), hq.trans q1⟩
      · have hd : P l[k] = false := by simpa using hh
        go_wp2
        go_roundw
        case rel => exact ⟨k + 1, by omega, by go_num, hq.trans q1, by rw [HP.out, idx_drop _ _ hkl, if_neg hh]⟩
        case measure => simp [intOf]; omega
    · have hlen := HF.out.len
      have HL := Lib.hid hlen
      clear hlen
      go_wp2
      go_ret
      exact ⟨ret_int (by rw [HP.out, idx_end _ _ (by have := HL.out; omega)]), hq⟩

theorem free1_any (h : Ho) (txn : Int) (B : Nat) (w : World) (hc : Cap1 w txn B) :
    Calls Try.prog 47 #[hoV h, .pointer (some ⟨B, 0, none⟩)] w fun e w' => e = .returned (.bool (isH txn h)) ∧ Q w w' := by
  obtain ⟨hB, hc⟩ := hc
  obtain ⟨a, ⟨m, lo, hi⟩⟩ := h
  go_enter Try.func47, Try.ntmps47
  go_wp2
  go_ret
  exact ⟨ret_bool (int_eq a txn), (Q.refl _).alloc _⟩
set_option maxHeartbeats 1000000 in
theorem index_free1 (txn : Int) (B : Nat) (A : Option Addr) (n c : Nat) (l : List Ho) (w : World) (hc : Cap1 w txn B) (hf : Lst holdK w A n l) (hn : n ≤ maxLen) :
    Calls Try.prog 64 #[.slice A n c, .func (.func 47) #[] #[.pointer (some ⟨B, 0, none⟩)]] w fun e w' => e = .returned (.int .i64 (idx (isH txn) l 0)) ∧ Q w w' := by
  unfold maxLen at hn
  have HC := Lib.hid hc
  have HF := Lib.hid hf
  clear hc hf
  generalize hP : (isH txn) = P
  have HP0 := Lib.hid hP
  clear hP
  go_enter Try.func64, Try.ntmps64
  go_wp2
  go_loopw [8] (fun i wr => ∃ k : Nat, k ≤ n ∧ i = .int .i64 k ∧ Q w wr ∧ idx P l 0 = idx P (l.drop k) k) (fun i _ => n - (intOf i).toNat)
  case atStart => exact ⟨0, Nat.zero_le _, rfl, Q.refl _, rfl⟩
  case round =>
    obtain ⟨k, hk, rfl, hq, hp⟩ := hrel
    have HP := Lib.hid hp
    clear hp
    by_cases hlt : k < n
    · have hlen := HF.out.len
      have hkl : k < l.length := by omega
      obtain ⟨ad, rfl, hb, c0, c1, c2, c3⟩ := load_hold (HF.out.q hq) hlt hkl
      clear hlen
      have HCq := Lib.hid (HC.out.q hq)
      go_wp2_with fail
      refine (free1_any l[k] txn B _ HCq.out).mono ?_
      rintro e w1 ⟨rfl, q1⟩
      rw [HP0.out]
      by_cases hh : P l[k] = true
      · go_wp2
        go_ret
        exact ⟨ret_int (by rw [HP.out, idx_drop _ _ hkl, if_pos hh]), hq.trans q1⟩
      · have hd : P l[k] = false := by simpa using hh
        go_wp2
        go_roundw
        case rel => exact ⟨k + 1, by omega, by go_num, hq.trans q1, by rw [HP.out, idx_drop _ _ hkl, if_neg hh]⟩
        case measure => simp [intOf]; omega
    · have hlen := HF.out.len
      have HL := Lib.hid hlen
      clear hlen
      go_wp2
      go_ret
      exact ⟨ret_int (by rw [HP.out, idx_end _ _ (by have := HL.out; omega)]), hq⟩

theorem free2_any (h : Cl) (txn : Int) (B : Nat) (w : World) (hc : Cap1 w txn B) :
    Calls Try.prog 49 #[clV h, .pointer (some ⟨B, 0, none⟩)] w fun e w' => e = .returned (.bool (isC txn h)) ∧ Q w w' := by
  obtain ⟨hB, hc⟩ := hc
  obtain ⟨a, ⟨m, lo, hi⟩, tl⟩ := h
  go_enter Try.func49, Try.ntmps49
  go_wp2
  go_ret
  exact ⟨ret_bool (int_eq a txn), (Q.refl _).alloc _⟩
set_option maxHeartbeats 1000000 in
theorem index_free2 (txn : Int) (B : Nat) (A : Option Addr) (n c : Nat) (l : List Cl) (w : World) (hc : Cap1 w txn B) (hf : Lst claimK w A n l) (hn : n ≤ maxLen) :
    Calls Try.prog 63 #[.slice A n c, .func (.func 49) #[] #[.pointer (some ⟨B, 0, none⟩)]] w fun e w' => e = .returned (.int .i64 (idx (isC txn) l 0)) ∧ Q w w' := by
  unfold maxLen at hn
  have HC := Lib.hid hc
  have HF := Lib.hid hf
  clear hc hf
  generalize hP : (isC txn) = P
  have HP0 := Lib.hid hP
  clear hP
  go_enter Try.func63, Try.ntmps63
  go_wp2
  go_loopw [8] (fun i wr => ∃ k : Nat, k ≤ n ∧ i = .int .i64 k ∧ Q w wr ∧ idx P l 0 = idx P (l.drop k) k) (fun i _ => n - (intOf i).toNat)
  case atStart => exact ⟨0, Nat.zero_le _, rfl, Q.refl _, rfl⟩
  case round =>
    obtain ⟨k, hk, rfl, hq, hp⟩ := hrel
    have HP := Lib.hid hp
    clear hp
    by_cases hlt : k < n
    · have hlen := HF.out.len
      have hkl : k < l.length := by omega
      obtain ⟨ad, rfl, hb, c0, c1, c2, c3, c4⟩ := load_claim (HF.out.q hq) hlt hkl
      clear hlen
      have HCq := Lib.hid (HC.out.q hq)
      go_wp2_with fail
      refine (free2_any l[k] txn B _ HCq.out).mono ?_
      rintro e w1 ⟨rfl, q1⟩
      rw [HP0.out]
      by_cases hh : P l[k] = true
      · go_wp2
        go_ret
        exact ⟨ret_int (by rw [HP.out, idx_drop _ _ hkl, if_pos hh]), hq.trans q1⟩
      · have hd : P l[k] = false := by simpa using hh
        go_wp2
        go_roundw
        case rel => exact ⟨k + 1, by omega, by go_num, hq.trans q1, by rw [HP.out, idx_drop _ _ hkl, if_neg hh]⟩
        case measure => simp [intOf]; omega
    · have hlen := HF.out.len
      have HL := Lib.hid hlen
      clear hlen
      go_wp2
      go_ret
      exact ⟨ret_int (by rw [HP.out, idx_end _ _ (by have := HL.out; omega)]), hq⟩

set_option maxHeartbeats 1000000 in
theorem has1_any (h : Ho) (txn : Int) (x : Sm.Wn) (B C : Nat) (w : World) (hc : Cap2 w txn x B C) :
    Calls Try.prog 57 #[hoV h, .pointer (some ⟨B, 0, none⟩), .pointer (some ⟨C, 0, none⟩)] w fun e w' => e = .returned (.bool (hasH txn x h)) ∧ Q w w' := by
  have K := Lib.hid (fun W => scovers_any h.w x W)
  obtain ⟨hB, hC, hc, c0, c1, c2⟩ := hc
  unfold hasH
  generalize covers h.w x = r at K ⊢
  obtain ⟨a, ⟨m, lo, hi⟩⟩ := h
  unfold wnV at K
  simp only at K
  by_cases ht : a = txn
  · subst ht
    go_enter Try.func57, Try.ntmps57
    go_wp2_with fail
    refine (K.out _).mono ?_
    rintro e w1 ⟨rfl, q1⟩
    go_wp2
    go_ret
    exact ⟨by first | rfl | (simp; done), ((Q.refl _).alloc _).trans q1⟩
  · have hd : (a == txn) = false := by simpa using ht
    rw [show decide (a = txn) = false by simpa using ht]
    clear ht
    go_enter Try.func57, Try.ntmps57
    go_wp2
    go_ret
    exact ⟨by first | rfl | (simp; done), (Q.refl _).alloc _⟩
set_option maxHeartbeats 1000000 in
theorem index_has1 (txn : Int) (x : Sm.Wn) (B C : Nat) (A : Option Addr) (n c : Nat) (l : List Ho) (w : World) (hc : Cap2 w txn x B C) (hf : Lst holdK w A n l) (hn : n ≤ maxLen) :
    Calls Try.prog 64 #[.slice A n c, .func (.func 57) #[] #[.pointer (some ⟨B, 0, none⟩), .pointer (some ⟨C, 0, none⟩)]] w fun e w' => e = .returned (.int .i64 (idx (hasH txn x) l 0)) ∧ Q w w' := by
  unfold maxLen at hn
  have HC := Lib.hid hc
  have HF := Lib.hid hf
  clear hc hf
  generalize hP : (hasH txn x) = P
  have HP0 := Lib.hid hP
  clear hP
  go_enter Try.func64, Try.ntmps64
  go_wp2
  go_loopw [8] (fun i wr => ∃ k : Nat, k ≤ n ∧ i = .int .i64 k ∧ Q w wr ∧ idx P l 0 = idx P (l.drop k) k) (fun i _ => n - (intOf i).toNat)
  case atStart => exact ⟨0, Nat.zero_le _, rfl, Q.refl _, rfl⟩
  case round =>
    obtain ⟨k, hk, rfl, hq, hp⟩ := hrel
    have HP := Lib.hid hp
    clear hp
    by_cases hlt : k < n
    · have hlen := HF.out.len
      have hkl : k < l.length := by omega
      obtain ⟨ad, rfl, hb, c0, c1, c2, c3⟩ := load_hold (HF.out.q hq) hlt hkl
      clear hlen
      have HCq := Lib.hid (HC.out.q hq)
      go_wp2_with fail
      refine (has1_any l[k] txn x B C _ HCq.out).mono ?_
      rintro e w1 ⟨rfl, q1⟩
      rw [HP0.out]
      by_cases hh : P l[k] = true
      · go_wp2
        go_ret
        exact ⟨ret_int (by rw [HP.out, idx_drop _ _ hkl, if_pos hh]), hq.trans q1⟩
      · have hd : P l[k] = false := by simpa using hh
        go_wp2
        go_roundw
        case rel => exact ⟨k + 1, by omega, by go_num, hq.trans q1, by rw [HP.out, idx_drop _ _ hkl, if_neg hh]⟩
        case measure => simp [intOf]; omega
    · have hlen := HF.out.len
      have HL := Lib.hid hlen
      clear hlen
      go_wp2
      go_ret
      exact ⟨ret_int (by rw [HP.out, idx_end _ _ (by have := HL.out; omega)]), hq⟩

theorem contains_waits1 (txn : Int) (B : Nat) (A : Option Addr) (n c : Nat) (l : List Cl) (w : World) (hc : Cap1 w txn B) (hf : Lst claimK w A n l) (hn : n ≤ maxLen) :
    Calls Try.prog 41 #[.slice A n c, .func (.func 42) #[] #[.pointer (some ⟨B, 0, none⟩)]] w fun e w' => e = .returned (.bool (l.any (isC txn))) ∧ Q w w' := by
  have K := Lib.hid (index_waits1 txn B A n c l w hc hf hn)
  rcases idx_cases (isC txn) l 0 with ⟨hp, hall⟩ | ⟨k, hk, hp, hkn, hfirst⟩
  · have hr : l.any (isC txn) = false := by rw [List.any_eq_false]; intro x hx; simp [hall x hx]
    have HR := Lib.hid hr
    have HP := Lib.hid hp
    clear hr hp hall hf hc
    go_enter Try.func41, Try.ntmps41
    go_wp2_with fail
    refine K.out.mono ?_
    rintro e w1 ⟨rfl, q1⟩
    rw [HP.out]
    go_wp2
    go_ret
    exact ⟨ret_bool HR.out.symm, q1⟩
  · have hr : l.any (isC txn) = true := List.any_eq_true.2 ⟨_, List.getElem_mem hk, hkn⟩
    have HR := Lib.hid hr
    have HP := Lib.hid (hp.trans (by simp : ((0 + k : Nat) : Int) = (k : Int)))
    clear hr hp hfirst hf hkn hc
    have h0 : (0 : Int) ≤ (k : Int) := by omega
    go_enter Try.func41, Try.ntmps41
    go_wp2_with fail
    refine K.out.mono ?_
    rintro e w1 ⟨rfl, q1⟩
    rw [HP.out]
    go_wp2
    go_ret
    exact ⟨ret_bool HR.out.symm, q1⟩

theorem contains_has1 (txn : Int) (x : Sm.Wn) (B C : Nat) (A : Option Addr) (n c : Nat) (l : List Ho) (w : World) (hc : Cap2 w txn x B C) (hf : Lst holdK w A n l) (hn : n ≤ maxLen) :
    Calls Try.prog 56 #[.slice A n c, .func (.func 57) #[] #[.pointer (some ⟨B, 0, none⟩), .pointer (some ⟨C, 0, none⟩)]] w fun e w' => e = .returned (.bool (l.any (hasH txn x))) ∧ Q w w' := by
  have K := Lib.hid (index_has1 txn x B C A n c l w hc hf hn)
  rcases idx_cases (hasH txn x) l 0 with ⟨hp, hall⟩ | ⟨k, hk, hp, hkn, hfirst⟩
  · have hr : l.any (hasH txn x) = false := by rw [List.any_eq_false]; intro x hx; simp [hall x hx]
    have HR := Lib.hid hr
    have HP := Lib.hid hp
    clear hr hp hall hf hc
    go_enter Try.func56, Try.ntmps56
    go_wp2_with fail
    refine K.out.mono ?_
    rintro e w1 ⟨rfl, q1⟩
    rw [HP.out]
    go_wp2
    go_ret
    exact ⟨ret_bool HR.out.symm, q1⟩
  · have hr : l.any (hasH txn x) = true := List.any_eq_true.2 ⟨_, List.getElem_mem hk, hkn⟩
    have HR := Lib.hid hr
    have HP := Lib.hid (hp.trans (by simp : ((0 + k : Nat) : Int) = (k : Int)))
    clear hr hp hfirst hf hkn hc
    have h0 : (0 : Int) ≤ (k : Int) := by omega
    go_enter Try.func56, Try.ntmps56
    go_wp2_with fail
    refine K.out.mono ?_
    rintro e w1 ⟨rfl, q1⟩
    rw [HP.out]
    go_wp2
    go_ret
    exact ⟨ret_bool HR.out.symm, q1⟩

set_option maxHeartbeats 1000000 in
theorem cloneHolds (A : Option Addr) (n c : Nat) (l : List Ho) (w : World) (hd : In_ holdK w A n c l) :
    Calls Try.prog 53 #[.slice A n c] w fun e w' => RetL holdK w n l e w' := by
  have HD := Lib.hid hd
  clear hd
  cases A with
  | none =>
    obtain ⟨h1, h2⟩ := HD.out.nil rfl
    subst h1 h2
    have hl : l = [] := List.eq_nil_of_length_eq_zero HD.out.len
    subst hl
    have hnil := fun W : World => eql_nilK 22 52 Try.underlying22 W none 0 0
    go_enter Try.func53, Try.ntmps53
    go_wp2
    go_ret
    exact ⟨none, 0, rfl, OwnK.nil_ _ _ _, Q.refl _⟩
  | some ad =>
    have hnil := fun W : World => eql_nilK 22 52 Try.underlying22 W (some ad) n c
    go_enter Try.func53, Try.ntmps53
    go_wp2_with (at_builtin
                 refine wpl_appK holdK rfl (.tmp 5) (.tmp 6) 22 rfl rfl w.heap.size (some ⟨w.heap.size, 0, none⟩) 0 0 [] rfl (OwnK.lit0 holdK w _ (Nat.le_refl _)) (some ad) n c l rfl (HD.out.lst.q ((Q.refl _).alloc _)) (fun e => by cases e) (by have := HD.out.few; simpa using this) (by simp) ?_
                 intro A1 c1 w1 ho1 hb1)
    go_ret
    refine ⟨A1, c1, by simp, by simpa using ho1, ((Q.refl _).alloc _).below.trans hb1⟩

set_option maxHeartbeats 1000000 in
theorem equalHolds (A B : Option Addr) (n c m d : Nat) (l l2 : List Ho) (w : World) (h1 : Lst holdK w A n l) (h2 : Lst holdK w B m l2) (hn : n ≤ maxLen) (hm : m ≤ maxLen) :
    Calls Try.prog 43 #[.slice A n c, .slice B m d] w fun e w' => e = .returned (.bool (decide (l = l2))) ∧ Q w w' := by
  unfold maxLen at hn hm
  have H1 := Lib.hid h1
  have H2 := Lib.hid h2
  have L1 := Lib.hid h1.len
  have L2 := Lib.hid h2.len
  clear h1 h2
  by_cases hnm : n = m
  · subst hnm
    go_enter Try.func43, Try.ntmps43
    go_wp2
    go_loopw [13] (fun i wr => ∃ k : Nat, k ≤ n ∧ i = .int .i64 k ∧ Q w wr ∧ l.take k = l2.take k) (fun i _ => n - (intOf i).toNat)
    case atStart => exact ⟨0, Nat.zero_le _, rfl, Q.refl _, by simp⟩
    case round =>
      obtain ⟨k, hk, rfl, hq, ht⟩ := hrel
      have HT := Lib.hid ht
      clear ht
      by_cases hlt : k < n
      · have k1 : k < l.length := by have := L1.out; omega
        have k2 : k < l2.length := by have := L2.out; omega
        obtain ⟨ad, rfl, hb, c0, c1, c2, c3⟩ := load_hold (H1.out.q hq) hlt k1
        obtain ⟨ae, rfl, he, d0, d1, d2, d3⟩ := load_hold (H2.out.q hq) hlt k2
        have hne := fun W => neq_ho W l[k] l2[k]
        have hkn : (k : Int) < (n : Int) := by omega
        by_cases heq : l[k] = l2[k]
        · have hd : decide (l[k] = l2[k]) = true := by simpa using heq
          have HE := Lib.hid heq
          clear heq
          go_wp2
          go_quiet (fail)
          go_wp2
          go_roundw
          case rel => exact ⟨k + 1, by omega, by go_num, hq.drewN _, by rw [List.take_succ_eq_append_getElem k1, List.take_succ_eq_append_getElem k2, HT.out, HE.out]⟩
          case measure => simp [intOf]; omega
        · have hd : decide (l[k] = l2[k]) = false := by simpa using heq
          have HE := Lib.hid heq
          clear heq
          go_wp2
          go_quiet (fail)
          go_wp2
          go_ret
          exact ⟨ret_bool (by symm; simp only [decide_eq_false_iff_not]; rintro rfl; exact HE.out rfl), hq.drewN _⟩
      · go_wp2
        go_ret
        exact ⟨ret_bool (by symm; simp only [decide_eq_true_eq]; have h1 := HT.out; rwa [List.take_of_length_le (by have := L1.out; omega), List.take_of_length_le (by have := L2.out; omega)] at h1), hq⟩
  · have hb : ((n : Int) == (m : Int)) = false := by simp; omega
    have HN := Lib.hid hnm
    clear hnm
    go_enter Try.func43, Try.ntmps43
    go_wp2
    go_ret
    exact ⟨ret_bool (by symm; simp only [decide_eq_false_iff_not]; rintro rfl; exact HN.out (L1.out.symm.trans L2.out)), Q.refl _⟩

set_option maxHeartbeats 1000000 in
theorem cloneClaims (A : Option Addr) (n c : Nat) (l : List Cl) (w : World) (hd : In_ claimK w A n c l) :
    Calls Try.prog 54 #[.slice A n c] w fun e w' => RetL claimK w n l e w' := by
  have HD := Lib.hid hd
  clear hd
  cases A with
  | none =>
    obtain ⟨h1, h2⟩ := HD.out.nil rfl
    subst h1 h2
    have hl : l = [] := List.eq_nil_of_length_eq_zero HD.out.len
    subst hl
    have hnil := fun W : World => eql_nilK 23 55 Try.underlying23 W none 0 0
    go_enter Try.func54, Try.ntmps54
    go_wp2
    go_ret
    exact ⟨none, 0, rfl, OwnK.nil_ _ _ _, Q.refl _⟩
  | some ad =>
    have hnil := fun W : World => eql_nilK 23 55 Try.underlying23 W (some ad) n c
    go_enter Try.func54, Try.ntmps54
    go_wp2_with (at_builtin
                 refine wpl_appK claimK rfl (.tmp 5) (.tmp 6) 23 rfl rfl w.heap.size (some ⟨w.heap.size, 0, none⟩) 0 0 [] rfl (OwnK.lit0 claimK w _ (Nat.le_refl _)) (some ad) n c l rfl (HD.out.lst.q ((Q.refl _).alloc _)) (fun e => by cases e) (by have := HD.out.few; simpa using this) (by simp) ?_
                 intro A1 c1 w1 ho1 hb1)
    go_ret
    refine ⟨A1, c1, by simp, by simpa using ho1, ((Q.refl _).alloc _).below.trans hb1⟩

set_option maxHeartbeats 1000000 in
theorem equalClaims (A B : Option Addr) (n c m d : Nat) (l l2 : List Cl) (w : World) (h1 : Lst claimK w A n l) (h2 : Lst claimK w B m l2) (hn : n ≤ maxLen) (hm : m ≤ maxLen) :
    Calls Try.prog 44 #[.slice A n c, .slice B m d] w fun e w' => e = .returned (.bool (decide (l = l2))) ∧ Q w w' := by
  unfold maxLen at hn hm
  have H1 := Lib.hid h1
  have H2 := Lib.hid h2
  have L1 := Lib.hid h1.len
  have L2 := Lib.hid h2.len
  clear h1 h2
  by_cases hnm : n = m
  · subst hnm
    go_enter Try.func44, Try.ntmps44
    go_wp2
    go_loopw [13] (fun i wr => ∃ k : Nat, k ≤ n ∧ i = .int .i64 k ∧ Q w wr ∧ l.take k = l2.take k) (fun i _ => n - (intOf i).toNat)
    case atStart => exact ⟨0, Nat.zero_le _, rfl, Q.refl _, by simp⟩
    case round =>
      obtain ⟨k, hk, rfl, hq, ht⟩ := hrel
      have HT := Lib.hid ht
      clear ht
      by_cases hlt : k < n
      · have k1 : k < l.length := by have := L1.out; omega
        have k2 : k < l2.length := by have := L2.out; omega
        obtain ⟨ad, rfl, hb, c0, c1, c2, c3, c4⟩ := load_claim (H1.out.q hq) hlt k1
        obtain ⟨ae, rfl, he, d0, d1, d2, d3, d4⟩ := load_claim (H2.out.q hq) hlt k2
        have hne := fun W => neq_cl W l[k] l2[k]
        have hkn : (k : Int) < (n : Int) := by omega
        by_cases heq : l[k] = l2[k]
        · have hd : decide (l[k] = l2[k]) = true := by simpa using heq
          have HE := Lib.hid heq
          clear heq
          go_wp2
          go_quiet (fail)
          go_wp2
          go_roundw
          case rel => exact ⟨k + 1, by omega, by go_num, hq.drewN _, by rw [List.take_succ_eq_append_getElem k1, List.take_succ_eq_append_getElem k2, HT.out, HE.out]⟩
          case measure => simp [intOf]; omega
        · have hd : decide (l[k] = l2[k]) = false := by simpa using heq
          have HE := Lib.hid heq
          clear heq
          go_wp2
          go_quiet (fail)
          go_wp2
          go_ret
          exact ⟨ret_bool (by symm; simp only [decide_eq_false_iff_not]; rintro rfl; exact HE.out rfl), hq.drewN _⟩
      · go_wp2
        go_ret
        exact ⟨ret_bool (by symm; simp only [decide_eq_true_eq]; have h1 := HT.out; rwa [List.take_of_length_le (by have := L1.out; omega), List.take_of_length_le (by have := L2.out; omega)] at h1), hq⟩
  · have hb : ((n : Int) == (m : Int)) = false := by simp; omega
    have HN := Lib.hid hnm
    clear hnm
    go_enter Try.func44, Try.ntmps44
    go_wp2
    go_ret
    exact ⟨ret_bool (by symm; simp only [decide_eq_false_iff_not]; rintro rfl; exact HN.out (L1.out.symm.trans L2.out)), Q.refl _⟩

end Go.Proofs.Ytenemdpjhoebpaa
