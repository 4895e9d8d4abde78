/- RingRef, RingRefA, RingRefB, RingRefC, LockAll, Bulk, FrameU: merged. -/
import Derived.Test.YtncnfblnelkmbaaA3
import Derived.Test.YtncnfblnelkmbaaA5
import Derived.Test.YtncnfblnelkmbaaA2
import Derived.Test.YtncnfblnelkmbaaA1
import Derived.Test.YtncnfblnelkmbaaA8
import Derived.Deep.CondSized
/- Contracts: the document's has, put (chapter 11), and the laws' has. -/
namespace Go.Proofs.Ytncnfblnelkmbaa
set_option maxRecDepth 100000
open Go.RowKit Lm
set_option linter.unusedVariables false
set_option linter.unusedSimpArgs false

theorem mem_upto {l : List Int} {x : Int} {k : Nat} (hk : k < l.length) (h : x ∉ l.take k) (he : l[k] ≠ x) : x ∉ l.take (k + 1) := by
  rw [List.take_succ_eq_append_getElem hk, List.mem_append]
  simp only [List.mem_singleton, not_or]
  exact ⟨h, fun e => he e.symm⟩
theorem ins_has {x : Int} : ∀ {l : List Int}, l.Pairwise (· < ·) → x ∈ l → ins x l = l
  | [], _, h => by cases h
  | a :: l, hs, h => by
    unfold ins
    by_cases e : a = x
    · rw [if_pos e]
    · rw [if_neg e]
      have hx : x ∈ l := by
        rcases List.mem_cons.1 h with h | h
        · exact absurd h.symm e
        · exact h
      have ha := (List.pairwise_cons.1 hs).1 x hx
      rw [if_neg (by omega), ins_has (List.pairwise_cons.1 hs).2 hx]
theorem ins_split {x : Int} : ∀ {l : List Int} {k : Nat}, k ≤ l.length → (∀ i (h : i < l.length), i < k → l[i] < x) → (∀ h : k < l.length, ¬ l[k] < x) → x ∉ l → ins x l = l.take k ++ [x] ++ l.drop k
  | [], k, hk, _, _, _ => by simp at hk; subst hk; simp [ins]
  | a :: l, 0, hk, h1, h2, hx => by
    have h := h2 (by simp)
    simp at h
    simp at hx
    unfold ins
    rw [if_neg (fun e => hx.1 e.symm), if_pos (by omega)]
    simp
  | a :: l, k + 1, hk, h1, h2, hx => by
    have h := h1 0 (by simp) (by omega)
    simp at h
    simp at hx
    unfold ins
    rw [if_neg (fun e => hx.1 e.symm), if_neg (by omega), ins_split (k := k) (by simpa using hk) (fun i hi hik => by have := h1 (i + 1) (by simpa using hi) (by omega); simpa using this) (fun h => by have := h2 (by simpa using h); simpa using this) hx.2]
    simp

theorem lst_dropN {w : World} {ad : Addr} {n k : Nat} {l : List Int} (h : Lst numK w (some ad) n l) (hk : k ≤ n) : Lst numK w (some (ad.add k)) (n - k) (l.drop k) := by
  have h1 := h.dropK hk
  rwa [show k * numK.k = k from Nat.mul_one k] at h1
set_option maxHeartbeats 1000000 in
theorem rhas_any (x : Int) (A : Option Addr) (n c : Nat) (l : List Int) (w : World) (hl : Lst numK w A n l) (hn : n ≤ 100000000) :
    Calls Try.prog 30 #[.slice A n c, .int .i64 x] w fun e w' => e = .returned (.bool (decide (x ∈ l))) ∧ Q w w' := by
  have HL := Lib.hid hl
  have HN := Lib.hid hl.len
  clear hl
  go_enter Try.func30, Try.ntmps30
  go_wp2
  go_loopw [5] (fun i wr => ∃ k : Nat, k ≤ n ∧ i = .int .i64 k ∧ Q w wr ∧ x ∉ l.take k) (fun i _ => n - (intOf i).toNat)
  case atStart => exact ⟨0, Nat.zero_le _, rfl, Q.refl _, by simp⟩
  case round =>
    obtain ⟨k, hk, rfl, q1, hx⟩ := hrel
    have HQ := Lib.hid q1
    have HX := Lib.hid hx
    clear q1 hx
    by_cases hlt : k < n
    · have hkl : k < l.length := by have := HN.out; omega
      obtain ⟨ad, rfl, hab, x0⟩ := load_num (HL.out.q HQ.out) hlt hkl
      have hkn : (k : Int) < (n : Int) := by omega
      have HS := Lib.hid (fun e => mem_upto hkl HX.out e)
      have HM := Lib.hid (show l[k] ∈ l from List.getElem_mem hkl)
      generalize l[k] = a at x0 HS HM
      by_cases e : a = x
      · have ea : (a == x) = true := by simpa using e
        go_wp2
        go_ret
        exact ⟨ret_bool (by rw [← e]; simp [HM.out]), HQ.out⟩
      · have ea : (a == x) = false := by simpa using e
        go_wp2
        go_roundw
        case rel => exact ⟨k + 1, by omega, by go_num, HQ.out, HS.out e⟩
        case measure => simp [intOf]; omega
    · have HF := Lib.hid (show x ∉ l by have := HX.out; rwa [List.take_of_length_le (by have := HN.out; omega)] at this)
      go_wp2
      go_ret
      exact ⟨ret_bool (by simp [HF.out]), HQ.out⟩
set_option maxHeartbeats 1000000 in
theorem whas_any (x : Int) (A : Option Addr) (n c : Nat) (l : List Int) (w : World) (hl : Lst numK w A n l) (hn : n ≤ 100000000) :
    Calls Try.prog 19 #[.slice A n c, .int .i64 x] w fun e w' => e = .returned (.bool (decide (x ∈ l))) ∧ Q w w' := by
  have HL := Lib.hid hl
  have HN := Lib.hid hl.len
  clear hl
  go_enter Try.func19, Try.ntmps19
  go_wp2
  go_loopw [5] (fun i wr => ∃ k : Nat, k ≤ n ∧ i = .int .i64 k ∧ Q w wr ∧ x ∉ l.take k) (fun i _ => n - (intOf i).toNat)
  case atStart => exact ⟨0, Nat.zero_le _, rfl, Q.refl _, by simp⟩
  case round =>
    obtain ⟨k, hk, rfl, q1, hx⟩ := hrel
    have HQ := Lib.hid q1
    have HX := Lib.hid hx
    clear q1 hx
    by_cases hlt : k < n
    · have hkl : k < l.length := by have := HN.out; omega
      obtain ⟨ad, rfl, hab, x0⟩ := load_num (HL.out.q HQ.out) hlt hkl
      have hkn : (k : Int) < (n : Int) := by omega
      have HS := Lib.hid (fun e => mem_upto hkl HX.out e)
      have HM := Lib.hid (show l[k] ∈ l from List.getElem_mem hkl)
      generalize l[k] = a at x0 HS HM
      by_cases e : a = x
      · have ea : (a == x) = true := by simpa using e
        go_wp2
        go_ret
        exact ⟨ret_bool (by rw [← e]; simp [HM.out]), HQ.out⟩
      · have ea : (a == x) = false := by simpa using e
        go_wp2
        go_roundw
        case rel => exact ⟨k + 1, by omega, by go_num, HQ.out, HS.out e⟩
        case measure => simp [intOf]; omega
    · have HF := Lib.hid (show x ∉ l by have := HX.out; rwa [List.take_of_length_le (by have := HN.out; omega)] at this)
      go_wp2
      go_ret
      exact ⟨ret_bool (by simp [HF.out]), HQ.out⟩

set_option maxHeartbeats 2000000 in
theorem rput_any (x : Int) (A : Option Addr) (n c base : Nat) (l : List Int) (w : World) (h : OwnK numK w base A n c l) (hb : base ≤ w.heap.size) (hs : l.Pairwise (· < ·)) (hn : n ≤ 100000000) :
    Calls Try.prog 27 #[.slice A n c, .int .i64 x] w fun e w' => ∃ A' c', e = .returned (.slice A' (ins x l).length c') ∧ OwnK numK w' base A' (ins x l).length c' (ins x l) ∧ Q w w' := by
  have HO := Lib.hid h
  have HL := Lib.hid h.lst
  have HN := Lib.hid h.len
  have HC := Lib.hid (And.intro h.le h.cap)
  have HP := Lib.hid h.parts
  have K := Lib.hid (fun W hl => rhas_any x A n c l W hl hn)
  have HH := Lib.hid (fun h => ins_has (x := x) hs h)
  have HS := Lib.hid (fun k a b c d => ins_split (l := l) (x := x) (k := k) a b c d)
  have HI := Lib.hid (ins_len (n := x) l)
  generalize ins x l = r at HH HS HI ⊢
  clear h hs
  go_enter Try.func27, Try.ntmps27
  go_wp2_with fail
  refine (K.out _ HL.out).mono ?_
  rintro e w1 ⟨rfl, q1⟩
  have Q1 := Lib.hid q1
  clear q1
  by_cases hx : x ∈ l
  · have e : decide (x ∈ l) = true := by simp [hx]
    have E := Lib.hid (HH.out hx)
    go_wp2
    go_ret
    exact ⟨A, c, by rw [E.out, HN.out]; rfl, by rw [E.out, HN.out]; exact HO.out.q Q1.out, Q1.out⟩
  · have e : decide (x ∈ l) = false := by simp [hx]
    have HX := Lib.hid hx
    clear hx HH
    go_wp2
    go_loopw [6] (fun i wr => ∃ k : Nat, k ≤ n ∧ i = .int .i64 k ∧ wr = w1 ∧ ∀ i (h : i < l.length), i < k → l[i] < x) (fun i _ => n - (intOf i).toNat)
    case atStart => exact ⟨0, Nat.zero_le _, rfl, rfl, fun i h hk => absurd hk (by omega)⟩
    case round =>
      obtain ⟨k, hk, rfl, rfl, hsm⟩ := hrel
      have HSm := Lib.hid hsm
      clear hsm
      by_cases hlt : k < n
      · have hkl : k < l.length := by have := HN.out; omega
        obtain ⟨ad, hae, hab, x0⟩ := load_num (HL.out.q Q1.out) hlt hkl
        have hkn : (k : Int) < (n : Int) := by omega
        by_cases hlx : l[k] < x
        · have HS1 := Lib.hid (show ∀ i (h : i < l.length), i < k + 1 → l[i] < x from fun i h hik => by
            by_cases e : i = k
            · subst e; exact hlx
            · exact HSm.out i h (by omega))
          subst hae
          generalize l[k] = a at x0 hlx
          have hd : decide (a < x) = true := by simpa using hlx
          go_wp2
          go_roundw
          case rel => exact ⟨k + 1, by omega, by go_num, trivial, HS1.out⟩
          case measure => simp [intOf]; omega
        · have HF := Lib.hid (HS.out k (by omega) HSm.out (fun _ => by simpa using hlx) HX.out)
          subst hae
          generalize l[k] = a at x0 hlx
          have hd : decide (a < x) = false := decide_eq_false hlx
          clear hlx
          have hck : ¬ c = k := by have := HC.out.1; omega
          have hkc : k ≤ c := by have := HC.out.1; omega
          have HLEN := Lib.hid (show k + 1 + (n - k) = r.length by rw [HF.out]; have := HN.out; simp; try omega)
          go_wp2_with (first
              | (at_builtin; refine wpl_appKM numK rfl (.tmp 27) (.tmp 30) 29 rfl rfl w.heap.size (some ⟨wr.heap.size, 0, none⟩) 0 0 [] rfl (OwnK.lit0 numK wr w.heap.size Q1.out.size) (some ad) k c (l.take k) rfl (((HL.out.takeK (by omega)).q Q1.out).q ((Q.refl wr).alloc _)) (fun e => by cases e) k (by omega) (l.take k) (by simp) (by show k * 8 ≤ _; have := HI.out; have := HN.out; omega) (Q1.out.alloc _).size ?_; intro A5 c5 w5 o5 b5; have O5 := Lib.hid o5; have Q5 := Lib.hid (show Q w w5 from (Q1.out.alloc (.cells #[] 3)).below.trans b5); clear o5 b5)
              | (at_builtin; refine wpl_appKM numK rfl (.tmp 32) (.tmp 34) 29 rfl rfl w.heap.size A5 k c5 (l.take k) rfl (O5.out.alloc _) (some ⟨w5.heap.size, 0, none⟩) 1 1 [x] rfl (lst_lit1 w5 x) (fun e => by cases e) (k + 1) (by omega) ((l.take k) ++ [x]) (by simp) (by show (k + 1) * 8 ≤ _; have := HI.out; have := HN.out; omega) (Q5.out.alloc _).size ?_; intro A6 c6 w6 o6 b6; have O6 := Lib.hid o6; have Q6 := Lib.hid (show Q w w6 from (Q5.out.alloc (.cells #[.int .i64 x] 3)).below.trans b6); clear o6 b6)
              | (at_builtin; refine wpl_appKM numK rfl (.tmp 36) (.tmp 39) 29 rfl rfl w.heap.size A6 (k + 1) c6 ((l.take k) ++ [x]) rfl O6.out (some (ad.add k)) (n - k) (c - k) (l.drop k) rfl ((lst_dropN HL.out (k := k) (by omega)).q Q6.out) (fun e => by cases e) r.length HLEN.out r HF.out.symm (by show r.length * 8 ≤ _; have := HI.out; have := HN.out; omega) Q6.out.size ?_; intro A7 c7 w7 o7 b7; have O7 := Lib.hid o7; have Q7 := Lib.hid (show Q w w7 from Q6.out.below.trans b7); clear o7 b7))
          all_goals
            go_wp2
            go_ret
            exact ⟨A7, c7, rfl, O7.out.lower hb, Q7.out⟩

      · have hkn : k = n := by omega
        have HF := Lib.hid (HS.out k (by have := HN.out; omega) HSm.out (fun h => absurd h (by have := HN.out; omega)) HX.out)
        subst hkn
        rcases HP.out with ⟨e1, e2, e3, e4⟩ | ⟨g, cur, e1, _⟩
        · subst e1 e3 e4
          have e2 : k = 0 := e2
          subst e2
          have HF := Lib.hid (show r = [x] ++ [] by rw [HF.out]; simp)
          have HLEN := Lib.hid (show 1 + 0 = r.length by rw [HF.out]; have := HN.out; simp; try omega)
          go_wp2_with (first
              | (at_builtin; refine wpl_appKM numK rfl (.tmp 27) (.tmp 30) 29 rfl rfl w.heap.size (some ⟨wr.heap.size, 0, none⟩) 0 0 [] rfl (OwnK.lit0 numK wr w.heap.size Q1.out.size) none 0 0 [] rfl (Lst.nil _ _) (fun _ => ⟨rfl, rfl⟩) 0 (by omega) ([] : List Int) (by simp) (by show 0 * 8 ≤ _; have := HI.out; have := HN.out; omega) (Q1.out.alloc _).size ?_; intro A5 c5 w5 o5 b5; have O5 := Lib.hid o5; have Q5 := Lib.hid (show Q w w5 from (Q1.out.alloc (.cells #[] 3)).below.trans b5); clear o5 b5)
              | (at_builtin; refine wpl_appKM numK rfl (.tmp 32) (.tmp 34) 29 rfl rfl w.heap.size A5 0 c5 ([] : List Int) rfl (O5.out.alloc _) (some ⟨w5.heap.size, 0, none⟩) 1 1 [x] rfl (lst_lit1 w5 x) (fun e => by cases e) 1 (by omega) [x] (by simp) (by show 1 * 8 ≤ _; have := HI.out; have := HN.out; omega) (Q5.out.alloc _).size ?_; intro A6 c6 w6 o6 b6; have O6 := Lib.hid o6; have Q6 := Lib.hid (show Q w w6 from (Q5.out.alloc (.cells #[.int .i64 x] 3)).below.trans b6); clear o6 b6)
              | (at_builtin; refine wpl_appKM numK rfl (.tmp 36) (.tmp 39) 29 rfl rfl w.heap.size A6 1 c6 [x] rfl O6.out none 0 0 [] rfl (Lst.nil _ _) (fun _ => ⟨rfl, rfl⟩) r.length HLEN.out r HF.out.symm (by show r.length * 8 ≤ _; have := HI.out; have := HN.out; omega) Q6.out.size ?_; intro A7 c7 w7 o7 b7; have O7 := Lib.hid o7; have Q7 := Lib.hid (show Q w w7 from Q6.out.below.trans b7); clear o7 b7))
          all_goals
            go_wp2
            go_ret
            exact ⟨A7, c7, rfl, O7.out.lower hb, Q7.out⟩

        · have HF := Lib.hid (show r = l ++ [x] ++ [] by rw [HF.out, List.take_of_length_le (by have := HN.out; omega), List.drop_of_length_le (by have := HN.out; omega)])
          obtain ⟨ad, rfl⟩ : ∃ ad, A = some ad := ⟨_, e1⟩
          clear e1
          have hkc : k ≤ c := HC.out.1
          have HLEN := Lib.hid (show k + 1 + 0 = r.length by rw [HF.out]; have := HN.out; simp; try omega)
          go_wp2_with (first
              | (at_builtin; refine wpl_appKM numK rfl (.tmp 27) (.tmp 30) 29 rfl rfl w.heap.size (some ⟨wr.heap.size, 0, none⟩) 0 0 [] rfl (OwnK.lit0 numK wr w.heap.size Q1.out.size) (some ad) k c l rfl ((HL.out.q Q1.out).q ((Q.refl wr).alloc _)) (fun e => by cases e) k (by omega) l (by simp) (by show k * 8 ≤ _; have := HI.out; have := HN.out; omega) (Q1.out.alloc _).size ?_; intro A5 c5 w5 o5 b5; have O5 := Lib.hid o5; have Q5 := Lib.hid (show Q w w5 from (Q1.out.alloc (.cells #[] 3)).below.trans b5); clear o5 b5)
              | (at_builtin; refine wpl_appKM numK rfl (.tmp 32) (.tmp 34) 29 rfl rfl w.heap.size A5 k c5 l rfl (O5.out.alloc _) (some ⟨w5.heap.size, 0, none⟩) 1 1 [x] rfl (lst_lit1 w5 x) (fun e => by cases e) (k + 1) (by omega) (l ++ [x]) (by simp) (by show (k + 1) * 8 ≤ _; have := HI.out; have := HN.out; omega) (Q5.out.alloc _).size ?_; intro A6 c6 w6 o6 b6; have O6 := Lib.hid o6; have Q6 := Lib.hid (show Q w w6 from (Q5.out.alloc (.cells #[.int .i64 x] 3)).below.trans b6); clear o6 b6)
              | (at_builtin; refine wpl_appKM numK rfl (.tmp 36) (.tmp 39) 29 rfl rfl w.heap.size A6 (k + 1) c6 (l ++ [x]) rfl O6.out (if c = k then some ad else some (ad.add k)) 0 (c - k) [] rfl (Lst.nil _ _) (fun e => by split at e <;> cases e) r.length HLEN.out r HF.out.symm (by show r.length * 8 ≤ _; have := HI.out; have := HN.out; omega) Q6.out.size ?_; intro A7 c7 w7 o7 b7; have O7 := Lib.hid o7; have Q7 := Lib.hid (show Q w w7 from Q6.out.below.trans b7); clear o7 b7))
          all_goals
            go_wp2
            go_ret
            exact ⟨A7, c7, rfl, O7.out.lower hb, Q7.out⟩

end Go.Proofs.Ytncnfblnelkmbaa

/- Contract: the document's After (chapter 11). -/
namespace Go.Proofs.Ytncnfblnelkmbaa
set_option maxRecDepth 100000
open Go.RowKit Lm Sm
set_option linter.unusedVariables false
set_option linter.unusedSimpArgs false

set_option maxHeartbeats 8000000 in
set_option maxRecDepth 100000 in
theorem rafter_any (A B : Option Addr) (n c m d : Nat) (l : Lo) (txn : Int) (w : World) (hA : Lst holdK w A n l.held) (hB : Lst claimK w B m l.queue) (hh : WnsH l.held) (hc : WnsC l.queue) (hn : n + m ≤ 4000) :
    Calls Try.prog 12 #[locV A n c B m d, .int .i64 txn] w fun e w' => RetL numK w (aft l txn).length (aft l txn) e w' := by
  have HA := Lib.hid hA
  have HB := Lib.hid hB
  have HWH := Lib.hid hh
  have HWC := Lib.hid hc
  have HAl := Lib.hid hA.len
  have HBl := Lib.hid hB.len
  have R0 := Lib.hid (Bx.new w [.slice A n c, .slice B m d] 25)
  have Q0 := Lib.hid ((Q.refl w).alloc (.cells #[.slice A n c, .slice B m d] 25))
  have HR := Lib.hid (show aftN l txn m = aft l txn by rw [← HBl.out]; rfl)
  generalize aft l txn = out at HR ⊢
  clear hA hB hh hc
  go_enter Try.func12, Try.ntmps12
  go_upto_region 2 with (fail)
  generalize w.alloc (.cells #[.slice A n c, .slice B m d] 25) = W0 at R0 Q0 ⊢
  go_wp2
  go_loopw [5, 6] (fun o i wr => ∃ (k : Nat) (C : Option Addr) (q : Nat) (os : List Int), k ≤ m ∧ i = .int .i64 k ∧ o = .slice C os.length q ∧ OwnK numK wr (w.heap.size + 1) C os.length q os ∧ aftN l txn k = os ∧ Q w wr ∧ Bx wr w.heap.size [.slice A n c, .slice B m d]) (fun _ i _ => m - (Go.RowKit.intOf i).toNat)
  case atStart => exact ⟨0, none, 0, [], Nat.zero_le _, rfl, rfl, OwnK.nil_ _ _ _, rfl, Q0.out, R0.out⟩
  case round =>
    clear R0 Q0
    obtain ⟨k, C, q, os, hk, rfl, rfl, o1, he, q1, r1⟩ := hrel
    have HO := Lib.hid o1
    have HE := Lib.hid he
    have HQ := Lib.hid q1
    have HX := Lib.hid r1
    have hos : os.length ≤ 4000 * 4000 := by
      have h1 := aftN_len (l := l) (a := txn) (n := k) (by have := HBl.out; omega)
      rw [he] at h1
      have h2 : k * (l.held.length + l.queue.length) ≤ 4000 * 4000 := Nat.mul_le_mul (by omega) (by have := HAl.out; have := HBl.out; omega)
      omega
    have HS := Lib.hid (show os.Pairwise (· < ·) by rw [← he]; exact aftN_rise l txn k)
    clear o1 he q1 r1
    obtain ⟨⟨b0, b1⟩, f0, f1⟩ := HX.out.get2
    by_cases hlt : k < m
    · have hkl : k < l.queue.length := by have := HBl.out; omega
      have hkn : (k : Int) < (m : Int) := by omega
      obtain ⟨ad, hae, hab, y0, y1, y2, y3, y4⟩ := load_claim (HB.out.q HQ.out) hlt hkl
      subst hae
      have HY := Lib.hid (fun h => aftN_yes (l := l) (a := txn) hkl h)
      have HN := Lib.hid (fun h => aftN_no (l := l) (a := txn) hkl h)
      have KB := Lib.hid (fun W q => rblk_any A (some ad) n c m d l txn l.queue[k].w (k : Int) W (HA.out.q q) (HB.out.q q) (HWC.out _ (List.getElem_mem hkl)) HWH.out HWC.out (by omega) (by omega))
      have hbl := blk_len l txn l.queue[k].w k
      have HL := Lib.hid (show (blk l txn l.queue[k].w k).length ≤ 4000 by have := HAl.out; have := HBl.out; omega)
      clear hbl
      rw [Int.toNat_natCast] at KB
      generalize blk l txn l.queue[k].w k = bl at KB HY HL
      generalize l.queue[k] = h at y0 y1 y2 y3 y4 HY HN KB
      obtain ⟨ht, ⟨mo, lo, hi⟩, tl⟩ := h
      simp only at y0 y1 y2 y3 y4 HY HN KB
      unfold wnV at KB
      simp only at KB
      by_cases e : ht = txn
      · subst e
        have HG := Lib.hid (HY.out rfl)
        clear HY HN
        go_wp2
        refine wp_region_held_drew (S := Q wr) (by kernel_rfl) ?szz0 (fun hHeld => ?rzz0)
        case szz0 =>
          exact (Q.refl wr).drew
        case' rzz0 => skip
        refine wpAnyH_take (i := 0) (oi := ?ozz1) (v := ?vzz1) ?hzz1 ?azz1 ?bzz1 ?czz1 ?qzz1 ?yzz1 ?szz1 ?rzz1
        case hzz1 => simp only [List.getElem?_toArray, List.getElem?_cons_zero]; rfl
        case azz1 => kernel_rfl
        case bzz1 => kernel_rfl
        case czz1 => kernel_rfl
        case yzz1 =>
          refine Or.inl ⟨by rfl, ?_⟩
          intro w hSw
          have z0 := box_ hSw b0; have z1 := box_ hSw b1; have z2 := box_ hSw y1; have z3 := box_ hSw y2; have z4 := box_ hSw y3; clear hSw
          go_simp
          try with_reducible rfl
        case qzz1 => exact fun _ _ _ h => h
        case szz1 => first | assumption | trivial
        case' rzz1 => simp only [Act.put, List.setIfInBounds_toArray, List.set_cons_zero, List.set_cons_succ]
        refine wpAnyH_take (i := 1) (oi := ?ozz2) (v := ?vzz2) ?hzz2 ?azz2 ?bzz2 ?czz2 ?qzz2 ?yzz2 ?szz2 ?rzz2
        case hzz2 => simp only [List.getElem?_toArray, List.getElem?_cons_zero, List.getElem?_cons_succ]; rfl
        case azz2 => kernel_rfl
        case bzz2 => kernel_rfl
        case czz2 => kernel_rfl
        case yzz2 =>
          refine Or.inl ⟨by rfl, ?_⟩
          intro w hSw
          have z0 := box_ hSw b0; have z1 := box_ hSw b1; have z2 := box_ hSw y1; have z3 := box_ hSw y2; have z4 := box_ hSw y3; clear hSw
          go_simp
          try with_reducible rfl
        case qzz2 => exact fun _ _ _ h => h
        case szz2 => first | assumption | trivial
        case' rzz2 => simp only [Act.put, List.setIfInBounds_toArray, List.set_cons_zero, List.set_cons_succ]
        refine wpAnyH_take (i := 2) (oi := ?ozz3) (v := ?vzz3) ?hzz3 ?azz3 ?bzz3 ?czz3 ?qzz3 ?yzz3 ?szz3 ?rzz3
        case hzz3 => simp only [List.getElem?_toArray, List.getElem?_cons_zero, List.getElem?_cons_succ]; rfl
        case azz3 => kernel_rfl
        case bzz3 => kernel_rfl
        case czz3 => kernel_rfl
        case yzz3 =>
          refine Or.inl ⟨by rfl, ?_⟩
          intro w hSw
          have z0 := box_ hSw b0; have z1 := box_ hSw b1; have z2 := box_ hSw y1; have z3 := box_ hSw y2; have z4 := box_ hSw y3; clear hSw
          go_simp
          try with_reducible rfl
        case qzz3 => exact fun _ _ _ h => h
        case szz3 => first | assumption | trivial
        case' rzz3 => simp only [Act.put, List.setIfInBounds_toArray, List.set_cons_zero, List.set_cons_succ]
        refine wpAnyH_take (i := 3) (oi := ?ozz4) (v := ?vzz4) ?hzz4 ?azz4 ?bzz4 ?czz4 ?qzz4 ?yzz4 ?szz4 ?rzz4
        case hzz4 => simp only [List.getElem?_toArray, List.getElem?_cons_zero, List.getElem?_cons_succ]; rfl
        case azz4 => kernel_rfl
        case bzz4 => kernel_rfl
        case czz4 => kernel_rfl
        case yzz4 =>
          refine Or.inl ⟨by rfl, ?_⟩
          intro w hSw
          have z0 := box_ hSw b0; have z1 := box_ hSw b1; have z2 := box_ hSw y1; have z3 := box_ hSw y2; have z4 := box_ hSw y3; clear hSw
          go_simp
          try with_reducible rfl
        case qzz4 => exact fun _ _ _ h => h
        case szz4 => first | assumption | trivial
        case' rzz4 => simp only [Act.put, List.setIfInBounds_toArray, List.set_cons_zero, List.set_cons_succ]
        refine wpAnyH_take (i := 4) (oi := ?ozz5) (v := ?vzz5) ?hzz5 ?azz5 ?bzz5 ?czz5 ?qzz5 ?yzz5 ?szz5 ?rzz5
        case hzz5 => simp only [List.getElem?_toArray, List.getElem?_cons_zero, List.getElem?_cons_succ]; rfl
        case azz5 => kernel_rfl
        case bzz5 => kernel_rfl
        case czz5 => kernel_rfl
        case yzz5 =>
          refine Or.inl ⟨by rfl, ?_⟩
          intro w hSw
          have z0 := box_ hSw b0; have z1 := box_ hSw b1; have z2 := box_ hSw y1; have z3 := box_ hSw y2; have z4 := box_ hSw y3; clear hSw
          go_simp
          try with_reducible rfl
        case qzz5 => exact fun _ _ _ h => h
        case szz5 => first | assumption | trivial
        case' rzz5 => simp only [Act.put, List.setIfInBounds_toArray, List.set_cons_zero, List.set_cons_succ]
        refine wpAnyH_take (i := 5) (oi := ?ozz6) (v := ?vzz6) ?hzz6 ?azz6 ?bzz6 ?czz6 ?qzz6 ?yzz6 ?szz6 ?rzz6
        case hzz6 => simp only [List.getElem?_toArray, List.getElem?_cons_zero, List.getElem?_cons_succ]; rfl
        case azz6 => kernel_rfl
        case bzz6 => kernel_rfl
        case czz6 => kernel_rfl
        case yzz6 =>
          refine Or.inl ⟨by rfl, ?_⟩
          intro w hSw
          have z0 := box_ hSw b0; have z1 := box_ hSw b1; have z2 := box_ hSw y1; have z3 := box_ hSw y2; have z4 := box_ hSw y3; clear hSw
          go_simp
          try with_reducible rfl
        case qzz6 => exact fun _ _ _ h => h
        case szz6 => first | assumption | trivial
        case' rzz6 => simp only [Act.put, List.setIfInBounds_toArray, List.set_cons_zero, List.set_cons_succ]
        refine wpAnyH_take (i := 6) (oi := ?ozz7) (v := ?vzz7) ?hzz7 ?azz7 ?bzz7 ?czz7 ?qzz7 ?yzz7 ?szz7 ?rzz7
        case hzz7 => simp only [List.getElem?_toArray, List.getElem?_cons_zero, List.getElem?_cons_succ]; rfl
        case azz7 => kernel_rfl
        case bzz7 => kernel_rfl
        case czz7 => kernel_rfl
        case yzz7 =>
          refine Or.inl ⟨by rfl, ?_⟩
          intro w hSw
          have z0 := box_ hSw b0; have z1 := box_ hSw b1; have z2 := box_ hSw y1; have z3 := box_ hSw y2; have z4 := box_ hSw y3; clear hSw
          go_simp
          try with_reducible rfl
        case qzz7 => exact fun _ _ _ h => h
        case szz7 => first | assumption | trivial
        case' rzz7 => simp only [Act.put, List.setIfInBounds_toArray, List.set_cons_zero, List.set_cons_succ]
        refine wpAnyH_take (i := 7) (oi := ?ozz8) (v := ?vzz8) ?hzz8 ?azz8 ?bzz8 ?czz8 ?qzz8 ?yzz8 ?szz8 ?rzz8
        case hzz8 => simp only [List.getElem?_toArray, List.getElem?_cons_zero, List.getElem?_cons_succ]; rfl
        case azz8 => kernel_rfl
        case bzz8 => kernel_rfl
        case czz8 => kernel_rfl
        case yzz8 =>
          refine Or.inl ⟨by rfl, ?_⟩
          intro w hSw
          have z0 := box_ hSw b0; have z1 := box_ hSw b1; have z2 := box_ hSw y1; have z3 := box_ hSw y2; have z4 := box_ hSw y3; clear hSw
          go_simp
          try with_reducible rfl
        case qzz8 => exact fun _ _ _ h => h
        case szz8 => first | assumption | trivial
        case' rzz8 => simp only [Act.put, List.setIfInBounds_toArray, List.set_cons_zero, List.set_cons_succ]
        refine wpAnyH_take (i := 8) (oi := ?ozz9) (v := ?vzz9) ?hzz9 ?azz9 ?bzz9 ?czz9 ?qzz9 ?yzz9 ?szz9 ?rzz9
        case hzz9 => simp only [List.getElem?_toArray, List.getElem?_cons_zero, List.getElem?_cons_succ]; rfl
        case azz9 => kernel_rfl
        case bzz9 => kernel_rfl
        case czz9 => kernel_rfl
        case yzz9 =>
          refine Or.inl ⟨by rfl, ?_⟩
          intro w hSw
          have z0 := box_ hSw b0; have z1 := box_ hSw b1; have z2 := box_ hSw y1; have z3 := box_ hSw y2; have z4 := box_ hSw y3; clear hSw
          go_simp
          try with_reducible rfl
        case qzz9 => exact fun _ _ _ h => h
        case szz9 => first | assumption | trivial
        case' rzz9 => simp only [Act.put, List.setIfInBounds_toArray, List.set_cons_zero, List.set_cons_succ]
        refine wpAnyH_ready (rs := [9]) (by kernel_rfl) (by simp) ?_
        refine AllReadyH.cons (o := ?ozz11) ?hzz11 (fun K hK => ?kzz11) ?mzz11
        case hzz11 => simp only [List.getElem?_toArray, List.getElem?_cons_zero, List.getElem?_cons_succ]; rfl
        case kzz11 =>
          go_simp
          refine (KB.out _ (HQ.out.trans hHeld)).mono ?_
          rintro e w2 ⟨A1, c1, rfl, o1, q1⟩
          go_wp2_with fail
          refine hK.out _ _ ?Szz11 (fun hHeld => ?Rzz11)
          case Szz11 =>
            exact hHeld.trans q1
          case Rzz11 =>
            clear hK K
            try simp only [Act.put, List.setIfInBounds_toArray, List.set_cons_zero, List.set_cons_succ]
            refine wpAnyH_take (i := 10) (oi := ?ozz10) (v := ?vzz10) ?hzz10 ?azz10 ?bzz10 ?czz10 ?qzz10 ?yzz10 ?szz10 ?rzz10
            case hzz10 => simp only [List.getElem?_toArray, List.getElem?_cons_zero, List.getElem?_cons_succ]; rfl
            case azz10 => kernel_rfl
            case bzz10 => kernel_rfl
            case czz10 => kernel_rfl
            case yzz10 =>
              refine Or.inl ⟨by rfl, ?_⟩
              intro w hSw
              have z0 := box_ hSw b0; have z1 := box_ hSw b1; have z2 := box_ hSw y1; have z3 := box_ hSw y2; have z4 := box_ hSw y3; clear hSw
              go_simp
              try with_reducible rfl
            case qzz10 => exact fun _ _ _ h => h
            case szz10 => first | assumption | trivial
            case' rzz10 => simp only [Act.put, List.setIfInBounds_toArray, List.set_cons_zero, List.set_cons_succ]
            refine wpAnyH_done (by kernel_rfl) ?_ _
            have O1 := Lib.hid (o1.lower (b2 := w.heap.size + 1) (show w.heap.size + 1 ≤ wr.drew.heap.size from HX.out.lt))
            have HZ := Lib.hid hHeld
            clear o1 y0 y1 y2 y3 y4 b0 b1 f0 f1
            go_wp2
            go_loopw [5, 8] (fun o i wr2 => ∃ (j : Nat) (C : Option Addr) (q : Nat) (os2 : List Int), j ≤ bl.length ∧ i = .int .i64 j ∧ o = .slice C os2.length q ∧ OwnK numK wr2 (w.heap.size + 1) C os2.length q os2 ∧ insL os (bl.take j) = os2 ∧ Q wr wr2 ∧ Q w2 wr2) (fun _ i _ => bl.length - (Go.RowKit.intOf i).toNat)
            case atStart => exact ⟨0, C, q, os, Nat.zero_le _, rfl, rfl, HO.out.q HZ.out, rfl, HZ.out, Q.refl _⟩
            case round =>
              clear HO
              obtain ⟨j, C, q, os2, hj, rfl, rfl, o2, he2, q2, q3⟩ := hrel
              have HO := Lib.hid o2
              have HE2 := Lib.hid he2
              have HQ2 := Lib.hid q2
              have HQ3 := Lib.hid q3
              have hbl4 := HL.out
              have h1 := insL_len (l := bl.take j) (o := os)
              have hos2 : os2.length ≤ 4000 * 4000 + 4000 := by
                rw [he2, List.length_take] at h1
                have := HL.out
                omega
              have HS2 := Lib.hid (show os2.Pairwise (· < ·) by rw [← he2]; exact insL_rise HS.out)
              clear o2 he2 q2 q3 h1
              by_cases hjl : j < bl.length
              · have HI := Lib.hid (insL_at (o := os) hjl)
                obtain ⟨ad2, hae2, hab2, x0⟩ := load_num (O1.out.lst.q HQ3.out) hjl hjl
                subst hae2
                generalize bl[j] = v at x0 HI
                have KP := Lib.hid (rput_any v C os2.length q (w.heap.size + 1) os2 _ HO.out (Nat.le_trans HX.out.lt HQ2.out.size) HS2.out (by omega))
                have hjn : (j : Int) < (bl.length : Int) := by omega
                rw [HE2.out] at HI
                generalize ins v os2 = os3 at KP HI
                go_wp2_with fail
                refine KP.out.mono ?_
                rintro e w5 ⟨A5, c5, rfl, o5, q5⟩
                have O5 := Lib.hid o5
                have HQ5 := Lib.hid q5
                clear o5 q5
                go_wp2
                go_roundw
                case rel => exact ⟨j + 1, A5, c5, os3, by omega, by go_num, rfl, O5.out, HI.out, HQ2.out.trans HQ5.out, HQ3.out.trans HQ5.out⟩
                case measure => simp [Go.RowKit.intOf]; omega
              · have HF := Lib.hid (show insL os bl = os2 by have := HE2.out; rwa [List.take_of_length_le (by omega)] at this)
                go_wp2
                go_roundw
                case rel => exact ⟨k + 1, C, q, os2, by omega, by go_num, rfl, HO.out, by rw [HG.out, HE.out, HF.out], HQ.out.trans HQ2.out, HX.out.q HQ2.out⟩
                case measure => simp [Go.RowKit.intOf]; omega
        case' mzz11 => skip
        exact AllReadyH.nil

      · have HG := Lib.hid (HN.out e)
        have et : (ht != txn) = true := by simpa using e
        clear HY HN
        go_wp2
        go_roundw
        case rel => exact ⟨k + 1, C, q, os, by omega, by go_num, rfl, HO.out, by rw [HG.out, HE.out], HQ.out, HX.out⟩
        case measure => simp [Go.RowKit.intOf]; omega
    · have hkm : k = m := by omega
      subst hkm
      have HF := Lib.hid (show os = out by rw [← HE.out]; exact HR.out)
      go_wp2
      go_ret
      exact ⟨C, q, by rw [← HF.out]; rfl, by rw [← HF.out]; exact HO.out.lower (Nat.le_succ _), HQ.out⟩
end Go.Proofs.Ytncnfblnelkmbaa

/- Contract: the document's Reach (chapter 11). -/
namespace Go.Proofs.Ytncnfblnelkmbaa
set_option maxRecDepth 100000
open Go.RowKit Lm Sm
set_option linter.unusedVariables false
set_option linter.unusedSimpArgs false

/-- how the document's loop stands. -/
structure Rr (l : Lo) (a : Int) (os : List Int) (mo : Bool) : Prop where
  rise : os.Pairwise (· < ·)
  sub : ∀ x ∈ aft l a, x ∈ os
  rc : ∀ x ∈ os, Rch l a x
  cl : mo = false → ∀ x ∈ os, ∀ y ∈ aft l x, y ∈ os
structure Rj (l : Lo) (a : Int) (os0 seen gone os : List Int) (mo : Bool) : Prop where
  rise : os.Pairwise (· < ·)
  sub : ∀ x ∈ os0, x ∈ os
  rc : ∀ x ∈ os, Rch l a x
  eq : mo = false → os = os0 ∧ (∀ x ∈ seen, ∀ y ∈ aft l x, y ∈ os0) ∧ ∀ y ∈ gone, y ∈ os0
  gr : mo = true → os0.length < os.length
  le : os0.length ≤ os.length
theorem Rr.first (l : Lo) (a : Int) : Rr l a (aft l a) true := ⟨aft_rise l a, fun x h => h, fun x h => .one (mem_aft.1 h), fun h => by cases h⟩
section
variable {l : Lo} {a : Int} {os0 os seen gone : List Int} {mo : Bool} {x y : Int}
theorem Rr.start (h : Rr l a os0 mo) : Rj l a os0 [] [] os0 false := ⟨h.rise, fun x h => h, h.rc, fun _ => ⟨rfl, by simp, by simp⟩, (fun h => by cases h), Nat.le_refl _⟩
theorem Rj.has (h : Rj l a os0 seen gone os mo) (hy : y ∈ os) : Rj l a os0 seen (gone ++ [y]) os mo := by
  refine ⟨h.rise, h.sub, h.rc, fun hm => ?_, h.gr, h.le⟩
  obtain ⟨h1, h2, h3⟩ := h.eq hm
  refine ⟨h1, h2, fun z hz => ?_⟩
  rcases List.mem_append.1 hz with hz | hz
  · exact h3 z hz
  · rw [List.mem_singleton] at hz; subst hz; rw [← h1]; exact hy
theorem ins_new {v : Int} : ∀ {l : List Int}, v ∉ l → (ins v l).length = l.length + 1
  | [], _ => rfl
  | b :: l, h => by
    simp at h
    unfold ins
    rw [if_neg (fun e => h.1 e.symm)]
    split
    · rfl
    · simp only [List.length_cons]; rw [ins_new h.2]
theorem Rj.put (h : Rj l a os0 seen gone os mo) (hy : y ∉ os) (hx : x ∈ os) (hxy : y ∈ aft l x) : Rj l a os0 seen (gone ++ [y]) (ins y os) true := by
  refine ⟨ins_rise h.rise, fun z hz => ?_, fun z hz => ?_, (fun h => by cases h), fun _ => ?_, ?_⟩
  · rw [mem_ins]; exact .inr (h.sub z hz)
  · rw [mem_ins] at hz
    rcases hz with e | hz
    · subst e; exact .more (h.rc x hx) (mem_aft.1 hxy)
    · exact h.rc z hz
  · rw [ins_new hy]; have := h.le; omega
  · rw [ins_new hy]; have := h.le; omega
theorem Rj.next (h : Rj l a os0 seen (aft l x) os mo) : Rj l a os0 (seen ++ [x]) [] os mo := by
  refine ⟨h.rise, h.sub, h.rc, fun hm => ?_, h.gr, h.le⟩
  obtain ⟨h1, h2, h3⟩ := h.eq hm
  refine ⟨h1, fun z hz => ?_, by simp⟩
  rcases List.mem_append.1 hz with hz | hz
  · exact h2 z hz
  · rw [List.mem_singleton] at hz; subst hz; exact h3
theorem Rj.fin {m0 : Bool} (h0 : Rr l a os0 m0) (h : Rj l a os0 os0 [] os mo) : Rr l a os mo := by
  refine ⟨h.rise, fun x hx => h.sub x (h0.sub x hx), h.rc, fun hm => ?_⟩
  obtain ⟨h1, h2, _⟩ := h.eq hm
  subst h1
  exact h2
theorem Rj.small (h : Rj l a os0 seen gone os mo) : os.length ≤ (nodes l).length := nodup_len (h.rise.imp fun h => Int.ne_of_lt h) fun x hx => rch_node (h.rc x hx)
theorem Rr.small (h : Rr l a os mo) : os.length ≤ (nodes l).length := nodup_len (h.rise.imp fun h => Int.ne_of_lt h) fun x hx => rch_node (h.rc x hx)
theorem Rr.fin (h : Rr l a os false) : os = reach l a := reach_is h.rise fun x => reach_closed (fun x hx => h.sub x (mem_aft.2 hx)) h.rc (fun x hx y hy => h.cl rfl x hx y (mem_aft.2 hy)) x
end
/-- how long a slice is. -/
def sLen : Value → Nat
  | .slice _ n _ => n
  | _ => 0

set_option maxHeartbeats 8000000 in
set_option maxRecDepth 100000 in
theorem rreach_any (A B : Option Addr) (n c m d : Nat) (l : Lo) (txn : Int) (w : World) (hA : Lst holdK w A n l.held) (hB : Lst claimK w B m l.queue) (hh : WnsH l.held) (hc : WnsC l.queue) (hn : n + m ≤ 4000) :
    Calls Try.prog 14 #[locV A n c B m d, .int .i64 txn] w fun e w' => RetL numK w (reach l txn).length (reach l txn) e w' := by
  have KA := Lib.hid (fun x W q => rafter_any A B n c m d l x W (hA.q q) (hB.q q) hh hc hn)
  have HNd := Lib.hid (show (nodes l).length ≤ 4000 by have := nodes_len l; have := hA.len; have := hB.len; omega)
  have HF := Lib.hid (fun os (h : Rr l txn os false) => h.fin)
  have H0 := Lib.hid (Rr.first l txn)
  have R0 := Lib.hid (Bx.new w [.slice A n c, .slice B m d] 25)
  have Q0 := Lib.hid ((Q.refl w).alloc (.cells #[.slice A n c, .slice B m d] 25))
  generalize reach l txn = out at HF ⊢
  clear hA hB hh hc
  go_enter Try.func14, Try.ntmps14
  go_upto_region 1 with (fail)
  generalize w.alloc (.cells #[.slice A n c, .slice B m d] 25) = W0 at R0 Q0 ⊢
  obtain ⟨⟨b0, b1⟩, f0, f1⟩ := R0.out.get2
  go_wp2_with fail
  refine (KA.out txn _ Q0.out).mono ?_
  rintro e w1 ⟨A1, c1, rfl, o1, q1⟩
  have O1 := Lib.hid (o1.lower (b2 := w.heap.size + 1) R0.out.lt)
  have R1 := Lib.hid (R0.out.q q1)
  have Q1 := Lib.hid (Q0.out.trans q1)
  clear o1 q1 b0 b1 f0 f1 R0 Q0
  generalize hG : aft l txn = os0 at H0 O1
  clear hG
  go_wp2
  go_loopw [5, 6] (fun o mv wr => ∃ (C : Option Addr) (q : Nat) (os : List Int) (mo : Bool), o = .slice C os.length q ∧ mv = .bool mo ∧ OwnK numK wr (w.heap.size + 1) C os.length q os ∧ Rr l txn os mo ∧ Q w wr ∧ Bx wr w.heap.size [.slice A n c, .slice B m d]) (fun o mv _ => ((nodes l).length - sLen o) * 2 + boolN mv)
  case atStart => exact ⟨A1, c1, os0, true, rfl, rfl, O1.out, H0.out, Q1.out, R1.out⟩
  case round =>
    clear O1 H0 Q1 R1
    obtain ⟨C, q, os, mo, rfl, rfl, o1, h1, q1, r1⟩ := hrel
    have HO := Lib.hid o1
    have HR := Lib.hid h1
    have HQ := Lib.hid q1
    have HX := Lib.hid r1
    have hos := h1.small
    have hnd := HNd.out
    clear o1 h1 q1 r1
    cases mo with
    | false =>
      have HE := Lib.hid (HF.out os HR.out)
      go_wp2
      go_ret
      exact ⟨C, q, by rw [← HE.out]; rfl, by rw [← HE.out]; exact HO.out.lower (Nat.le_succ _), HQ.out⟩
    | true =>
      go_wp2
      go_loopw [5, 6, 8] (fun o mv i wr2 => ∃ (k : Nat) (C2 : Option Addr) (q2 : Nat) (os2 : List Int) (mo : Bool), k ≤ os.length ∧ i = .int .i64 k ∧ o = .slice C2 os2.length q2 ∧ mv = .bool mo ∧ OwnK numK wr2 (w.heap.size + 1) C2 os2.length q2 os2 ∧ Rj l txn os (os.take k) [] os2 mo ∧ Q wr wr2) (fun _ _ i _ => os.length - (Go.RowKit.intOf i).toNat)
      case atStart => exact ⟨0, C, q, os, false, Nat.zero_le _, rfl, rfl, rfl, HO.out, HR.out.start, Q.refl _⟩
      case round =>
        obtain ⟨k, C2, q2, os2, mo, hk, rfl, rfl, rfl, o2, h2, y2⟩ := hrel
        have HO2 := Lib.hid o2
        have HJ := Lib.hid h2
        have HQ2 := Lib.hid y2
        clear o2 h2 y2
        by_cases hlt : k < os.length
        · have hkn : (k : Int) < (os.length : Int) := by omega
          obtain ⟨ad, hae, hab, x0⟩ := load_num (HO.out.lst.q HQ2.out) hlt hlt
          subst hae
          obtain ⟨⟨b0, b1⟩, f0, f1⟩ := (HX.out.q HQ2.out).get2
          have HM := Lib.hid (show os[k] ∈ os from List.getElem_mem hlt)
          have HT := Lib.hid (show os.take (k + 1) = os.take k ++ [os[k]] from List.take_succ_eq_append_getElem hlt)
          generalize os[k] = u at x0 HM HT
          have hal := aft_len l u
          go_wp2
          refine wp_region_held_drew (S := Q wr) (by kernel_rfl) ?szz0 (fun hHeld => ?rzz0)
          case szz0 =>
            exact (Q.refl wr).drew
          case' rzz0 => skip
          refine wpAnyH_take (i := 0) (oi := ?ozz1) (v := ?vzz1) ?hzz1 ?azz1 ?bzz1 ?czz1 ?qzz1 ?yzz1 ?szz1 ?rzz1
          case hzz1 => simp only [List.getElem?_toArray, List.getElem?_cons_zero]; rfl
          case azz1 => kernel_rfl
          case bzz1 => kernel_rfl
          case czz1 => kernel_rfl
          case yzz1 =>
            refine Or.inl ⟨by rfl, ?_⟩
            intro w hSw
            have z0 := box_ hSw b0; have z1 := box_ hSw b1; have z2 := box_ hSw x0; clear hSw
            go_simp
            try with_reducible rfl
          case qzz1 => exact fun _ _ _ h => h
          case szz1 => first | assumption | trivial
          case' rzz1 => simp only [Act.put, List.setIfInBounds_toArray, List.set_cons_zero, List.set_cons_succ]
          refine wpAnyH_take (i := 1) (oi := ?ozz2) (v := ?vzz2) ?hzz2 ?azz2 ?bzz2 ?czz2 ?qzz2 ?yzz2 ?szz2 ?rzz2
          case hzz2 => simp only [List.getElem?_toArray, List.getElem?_cons_zero, List.getElem?_cons_succ]; rfl
          case azz2 => kernel_rfl
          case bzz2 => kernel_rfl
          case czz2 => kernel_rfl
          case yzz2 =>
            refine Or.inl ⟨by rfl, ?_⟩
            intro w hSw
            have z0 := box_ hSw b0; have z1 := box_ hSw b1; have z2 := box_ hSw x0; clear hSw
            go_simp
            try with_reducible rfl
          case qzz2 => exact fun _ _ _ h => h
          case szz2 => first | assumption | trivial
          case' rzz2 => simp only [Act.put, List.setIfInBounds_toArray, List.set_cons_zero, List.set_cons_succ]
          refine wpAnyH_take (i := 2) (oi := ?ozz3) (v := ?vzz3) ?hzz3 ?azz3 ?bzz3 ?czz3 ?qzz3 ?yzz3 ?szz3 ?rzz3
          case hzz3 => simp only [List.getElem?_toArray, List.getElem?_cons_zero, List.getElem?_cons_succ]; rfl
          case azz3 => kernel_rfl
          case bzz3 => kernel_rfl
          case czz3 => kernel_rfl
          case yzz3 =>
            refine Or.inl ⟨by rfl, ?_⟩
            intro w hSw
            have z0 := box_ hSw b0; have z1 := box_ hSw b1; have z2 := box_ hSw x0; clear hSw
            go_simp
            try with_reducible rfl
          case qzz3 => exact fun _ _ _ h => h
          case szz3 => first | assumption | trivial
          case' rzz3 => simp only [Act.put, List.setIfInBounds_toArray, List.set_cons_zero, List.set_cons_succ]
          refine wpAnyH_take (i := 3) (oi := ?ozz4) (v := ?vzz4) ?hzz4 ?azz4 ?bzz4 ?czz4 ?qzz4 ?yzz4 ?szz4 ?rzz4
          case hzz4 => simp only [List.getElem?_toArray, List.getElem?_cons_zero, List.getElem?_cons_succ]; rfl
          case azz4 => kernel_rfl
          case bzz4 => kernel_rfl
          case czz4 => kernel_rfl
          case yzz4 =>
            refine Or.inl ⟨by rfl, ?_⟩
            intro w hSw
            have z0 := box_ hSw b0; have z1 := box_ hSw b1; have z2 := box_ hSw x0; clear hSw
            go_simp
            try with_reducible rfl
          case qzz4 => exact fun _ _ _ h => h
          case szz4 => first | assumption | trivial
          case' rzz4 => simp only [Act.put, List.setIfInBounds_toArray, List.set_cons_zero, List.set_cons_succ]
          refine wpAnyH_take (i := 4) (oi := ?ozz5) (v := ?vzz5) ?hzz5 ?azz5 ?bzz5 ?czz5 ?qzz5 ?yzz5 ?szz5 ?rzz5
          case hzz5 => simp only [List.getElem?_toArray, List.getElem?_cons_zero, List.getElem?_cons_succ]; rfl
          case azz5 => kernel_rfl
          case bzz5 => kernel_rfl
          case czz5 => kernel_rfl
          case yzz5 =>
            refine Or.inl ⟨by rfl, ?_⟩
            intro w hSw
            have z0 := box_ hSw b0; have z1 := box_ hSw b1; have z2 := box_ hSw x0; clear hSw
            go_simp
            try with_reducible rfl
          case qzz5 => exact fun _ _ _ h => h
          case szz5 => first | assumption | trivial
          case' rzz5 => simp only [Act.put, List.setIfInBounds_toArray, List.set_cons_zero, List.set_cons_succ]
          refine wpAnyH_ready (rs := [5]) (by kernel_rfl) (by simp) ?_
          refine AllReadyH.cons (o := ?ozz7) ?hzz7 (fun K hK => ?kzz7) ?mzz7
          case hzz7 => simp only [List.getElem?_toArray, List.getElem?_cons_zero, List.getElem?_cons_succ]; rfl
          case kzz7 =>
            go_simp
            refine (KA.out u _ (HQ.out.trans (HQ2.out.trans hHeld))).mono ?_
            rintro e w2 ⟨A1, c1, rfl, o1, q1⟩
            go_wp2_with fail
            refine hK.out _ _ ?Szz7 (fun hHeld => ?Rzz7)
            case Szz7 =>
              exact hHeld.trans q1
            case Rzz7 =>
              clear hK K
              try simp only [Act.put, List.setIfInBounds_toArray, List.set_cons_zero, List.set_cons_succ]
              refine wpAnyH_take (i := 6) (oi := ?ozz6) (v := ?vzz6) ?hzz6 ?azz6 ?bzz6 ?czz6 ?qzz6 ?yzz6 ?szz6 ?rzz6
              case hzz6 => simp only [List.getElem?_toArray, List.getElem?_cons_zero, List.getElem?_cons_succ]; rfl
              case azz6 => kernel_rfl
              case bzz6 => kernel_rfl
              case czz6 => kernel_rfl
              case yzz6 =>
                refine Or.inl ⟨by rfl, ?_⟩
                intro w hSw
                have z0 := box_ hSw b0; have z1 := box_ hSw b1; have z2 := box_ hSw x0; clear hSw
                go_simp
                try with_reducible rfl
              case qzz6 => exact fun _ _ _ h => h
              case szz6 => first | assumption | trivial
              case' rzz6 => simp only [Act.put, List.setIfInBounds_toArray, List.set_cons_zero, List.set_cons_succ]
              refine wpAnyH_done (by kernel_rfl) ?_ _
              have O1 := Lib.hid (o1.lower (b2 := w.heap.size + 1) (show w.heap.size + 1 ≤ wr.drew.heap.size from (HX.out.q HQ2.out).lt))
              have HZ := Lib.hid hHeld
              clear o1 x0 b0 b1 f0 f1
              generalize hG : aft l u = nx at O1 hal
              have HG := Lib.hid hG
              clear hG
              go_wp2
              go_loopw [5, 6, 10] (fun o mv i wr3 => ∃ (j : Nat) (C3 : Option Addr) (q3 : Nat) (os3 : List Int) (mo : Bool), j ≤ nx.length ∧ i = .int .i64 j ∧ o = .slice C3 os3.length q3 ∧ mv = .bool mo ∧ OwnK numK wr3 (w.heap.size + 1) C3 os3.length q3 os3 ∧ Rj l txn os (os.take k) (nx.take j) os3 mo ∧ Q wr wr3 ∧ Q w2 wr3) (fun _ _ i _ => nx.length - (Go.RowKit.intOf i).toNat)
              case atStart => exact ⟨0, C2, q2, os2, mo, Nat.zero_le _, rfl, rfl, rfl, HO2.out.q HZ.out, by simpa using HJ.out, HZ.out, Q.refl _⟩
              case round =>
                clear HO2 HJ
                obtain ⟨j, C3, q3, os3, mo, hj, rfl, rfl, rfl, o3, h3, y3, z3⟩ := hrel
                have HO3 := Lib.hid o3
                have HJ3 := Lib.hid h3
                have HQ3 := Lib.hid y3
                have HZ3 := Lib.hid z3
                have hs3 := h3.small
                clear o3 h3 y3 z3
                by_cases hjl : j < nx.length
                · have hjn : (j : Int) < (nx.length : Int) := by omega
                  obtain ⟨ad2, hae2, hab2, x0⟩ := load_num (O1.out.lst.q HZ3.out) hjl hjl
                  subst hae2
                  have HM3 := Lib.hid (show nx[j] ∈ aft l u by rw [HG.out]; exact List.getElem_mem hjl)
                  have HT3 := Lib.hid (show nx.take (j + 1) = nx.take j ++ [nx[j]] from List.take_succ_eq_append_getElem hjl)
                  generalize nx[j] = v at x0 HM3 HT3
                  have KH := Lib.hid (rhas_any v C3 os3.length q3 os3 _ HO3.out.lst (by omega))
                  by_cases hv : v ∈ os3
                  · have hd : decide (v ∈ os3) = true := by simp [hv]
                    have HJ4 := Lib.hid (HJ3.out.has hv)
                    rw [hd] at KH
                    clear hv hd
                    go_wp2_with fail
                    refine KH.out.mono ?_
                    rintro e w5 ⟨rfl, q5⟩
                    have HQ5 := Lib.hid q5
                    clear q5
                    go_wp2
                    go_roundw
                    case rel => exact ⟨j + 1, C3, q3, os3, mo, by omega, by go_num, rfl, rfl, HO3.out.q HQ5.out, by rw [HT3.out]; exact HJ4.out, HQ3.out.trans HQ5.out, HZ3.out.trans HQ5.out⟩
                    case measure => simp [Go.RowKit.intOf]; omega
                  · have hd : decide (v ∈ os3) = false := by simp [hv]
                    have HJ4 := Lib.hid (HJ3.out.put hv (HJ3.out.sub u HM.out) HM3.out)
                    rw [hd] at KH
                    clear hv hd
                    go_wp2_with fail
                    refine KH.out.mono ?_
                    rintro e w5 ⟨rfl, q5⟩
                    have HQ5 := Lib.hid q5
                    clear q5
                    have y0 := box_ HQ5.out x0
                    have KP := Lib.hid (rput_any v C3 os3.length q3 (w.heap.size + 1) os3 w5 (HO3.out.q HQ5.out) (Nat.le_trans (HX.out.q (HQ2.out.trans HQ3.out)).lt HQ5.out.size) HJ3.out.rise (by omega))
                    generalize ins v os3 = os4 at KP HJ4
                    go_wp2_with fail
                    refine KP.out.mono ?_
                    rintro e w6 ⟨A6, c6, rfl, o6, q6⟩
                    have O6 := Lib.hid o6
                    have HQ6 := Lib.hid (HQ5.out.trans q6)
                    clear o6 q6
                    go_wp2
                    go_roundw
                    case rel => exact ⟨j + 1, A6, c6, os4, true, by omega, by go_num, rfl, rfl, O6.out, by rw [HT3.out]; exact HJ4.out, HQ3.out.trans HQ6.out, HZ3.out.trans HQ6.out⟩
                    case measure => simp [Go.RowKit.intOf]; omega
                · have HJ4 := Lib.hid (show Rj l txn os (os.take k ++ [u]) [] os3 mo by
                    have h := HJ3.out
                    rw [show nx.take j = nx from List.take_of_length_le (by omega), ← HG.out] at h
                    exact h.next)
                  go_wp2
                  go_roundw
                  case rel => exact ⟨k + 1, C3, q3, os3, mo, by omega, by go_num, rfl, rfl, HO3.out, by rw [HT.out]; exact HJ4.out, HQ2.out.trans HQ3.out⟩
                  case measure => simp [Go.RowKit.intOf]; omega
          case' mzz7 => skip
          exact AllReadyH.nil

        · have HJ2 := Lib.hid (show Rj l txn os os [] os2 mo by have := HJ.out; rwa [List.take_of_length_le (by omega)] at this)
          have HR2 := Lib.hid (HJ2.out.fin HR.out)
          have hs2 := HR2.out.small
          have hgr := HJ2.out.gr
          have hle := HJ2.out.le
          go_wp2
          go_roundw
          case rel => exact ⟨C2, q2, os2, mo, rfl, rfl, HO2.out, HR2.out, HQ.out.trans HQ2.out, HX.out.q HQ2.out⟩
          case measure =>
            cases mo with
            | false => simp [sLen, boolN]; omega
            | true => have := hgr rfl; simp [sLen, boolN]; omega
end Go.Proofs.Ytncnfblnelkmbaa

/- Contracts: the document's Ring, Victim (chapter 11). -/
namespace Go.Proofs.Ytncnfblnelkmbaa
set_option maxRecDepth 100000
open Go.RowKit Lm Sm
set_option linter.unusedVariables false
set_option linter.unusedSimpArgs false

theorem filt_yes {P : Int → Bool} {l : List Int} {k : Nat} (hk : k < l.length) (h : P l[k] = true) : (l.take (k + 1)).filter P = (l.take k).filter P ++ [l[k]] := by
  rw [List.take_succ_eq_append_getElem hk, List.filter_append]; simp [h]
theorem filt_no {P : Int → Bool} {l : List Int} {k : Nat} (hk : k < l.length) (h : P l[k] = false) : (l.take (k + 1)).filter P = (l.take k).filter P := by
  rw [List.take_succ_eq_append_getElem hk, List.filter_append]; simp [h]

set_option maxHeartbeats 8000000 in
set_option maxRecDepth 100000 in
theorem rring_any (A B : Option Addr) (n c m d : Nat) (l : Lo) (txn : Int) (w : World) (hA : Lst holdK w A n l.held) (hB : Lst claimK w B m l.queue) (hh : WnsH l.held) (hc : WnsC l.queue) (hn : n + m ≤ 4000) :
    Calls Try.prog 16 #[locV A n c B m d, .int .i64 txn] w fun e w' => RetL numK w (ring l txn).length (ring l txn) e w' := by
  have KR := Lib.hid (fun x W q => rreach_any A B n c m d l x W (hA.q q) (hB.q q) hh hc hn)
  have HNd := Lib.hid (show (nodes l).length ≤ 4000 by have := nodes_len l; have := hA.len; have := hB.len; omega)
  have HLn := Lib.hid (fun x => Nat.le_trans (reach_len l x) HNd.out)
  have HF := Lib.hid (ring_of l txn)
  have HP := Lib.hid (fun b => show decide (txn ∈ reach l b) = decide (txn ∈ reach l b) from rfl)
  have R0 := Lib.hid (Bx.new w [.slice A n c, .slice B m d] 25)
  have Q0 := Lib.hid ((Q.refl w).alloc (.cells #[.slice A n c, .slice B m d] 25))
  generalize ring l txn = out at HF ⊢
  clear hA hB hh hc
  go_enter Try.func16, Try.ntmps16
  go_upto_region 1 with (fail)
  generalize w.alloc (.cells #[.slice A n c, .slice B m d] 25) = W0 at R0 Q0 ⊢
  obtain ⟨⟨b0, b1⟩, f0, f1⟩ := R0.out.get2
  have hl0 := HLn.out txn
  have KT := Lib.hid (KR.out txn _ Q0.out)
  generalize hG : reach l txn = all at KT HF hl0
  have HG := Lib.hid hG
  clear hG
  go_wp2_with fail
  refine KT.out.mono ?_
  rintro e w1 ⟨A1, c1, rfl, o1, q1⟩
  have O1 := Lib.hid (o1.lower (b2 := w.heap.size + 1) R0.out.lt)
  have R1 := Lib.hid (R0.out.q q1)
  have Q1 := Lib.hid (Q0.out.trans q1)
  clear o1 q1 b0 b1 f0 f1 R0 Q0 KT
  have KH := Lib.hid (rhas_any txn A1 all.length c1 all w1 O1.out.lst (by omega))
  by_cases hin : txn ∈ all
  · have hd : decide (txn ∈ all) = true := by simp [hin]
    have HF := Lib.hid (show out = all.filter (fun b => decide (txn ∈ reach l b)) by rw [HF.out, if_pos hin])
    rw [hd] at KH
    clear hin hd
    generalize hPP : (fun b => decide (txn ∈ reach l b)) = P at HF
    have HPP := Lib.hid (fun b => show decide (txn ∈ reach l b) = P b from congrFun hPP b)
    clear hPP
    go_wp2_with fail
    refine KH.out.mono ?_
    rintro e w2 ⟨rfl, q2⟩
    have O2 := Lib.hid (O1.out.q q2)
    have R2 := Lib.hid (R1.out.q q2)
    have Q2 := Lib.hid (Q1.out.trans q2)
    clear q2 O1 R1 Q1 KH
    go_wp2
    go_loopw [7, 8] (fun o i wr => ∃ (k : Nat) (C : Option Addr) (q : Nat) (os : List Int), k ≤ all.length ∧ i = .int .i64 k ∧ o = .slice C os.length q ∧ OwnK numK wr w2.heap.size C os.length q os ∧ (all.take k).filter P = os ∧ Q w2 wr) (fun _ i _ => all.length - (Go.RowKit.intOf i).toNat)
    case atStart => exact ⟨0, none, 0, [], Nat.zero_le _, rfl, rfl, OwnK.nil_ _ _ _, rfl, Q.refl _⟩
    case round =>
      obtain ⟨k, C, q, os, hk, rfl, rfl, o3, he, y3⟩ := hrel
      have HO := Lib.hid o3
      have HE := Lib.hid he
      have HQ := Lib.hid y3
      have hos : os.length ≤ 4000 := by
        have h1 := List.length_filter_le P (all.take k)
        rw [he, List.length_take] at h1
        omega
      clear o3 he y3
      by_cases hlt : k < all.length
      · have hkn : (k : Int) < (all.length : Int) := by omega
        obtain ⟨ad, hae, hab, x0⟩ := load_num (O2.out.lst.q HQ.out) hlt hlt
        subst hae
        obtain ⟨⟨b0, b1⟩, f0, f1⟩ := (R2.out.q HQ.out).get2
        have HY := Lib.hid (fun h => filt_yes (P := P) hlt h)
        have HN := Lib.hid (fun h => filt_no (P := P) hlt h)
        generalize all[k] = u at x0 HY HN
        have hlu := HLn.out u
        cases hPu : P u
        case true =>
          have HG2 := Lib.hid (HY.out hPu)
          have hdu : decide (txn ∈ reach l u) = true := by rw [HPP.out, hPu]
          have KU := Lib.hid (fun A c W (h : Lst numK W A (reach l u).length (reach l u)) => hdu ▸ rhas_any txn A (reach l u).length c (reach l u) W h (by omega))
          clear HY HN hPu hdu
          go_wp2
          refine wp_region_held_drew (S := Q wr) (by kernel_rfl) ?szz0 (fun hHeld => ?rzz0)
          case szz0 =>
            exact (Q.refl wr).drew
          case' rzz0 => skip
          refine wpAnyH_take (i := 0) (oi := ?ozz1) (v := ?vzz1) ?hzz1 ?azz1 ?bzz1 ?czz1 ?qzz1 ?yzz1 ?szz1 ?rzz1
          case hzz1 => simp only [List.getElem?_toArray, List.getElem?_cons_zero]; rfl
          case azz1 => kernel_rfl
          case bzz1 => kernel_rfl
          case czz1 => kernel_rfl
          case yzz1 =>
            refine Or.inl ⟨by rfl, ?_⟩
            intro w hSw
            have z0 := box_ hSw b0; have z1 := box_ hSw b1; have z2 := box_ hSw x0; clear hSw
            go_simp
            try with_reducible rfl
          case qzz1 => exact fun _ _ _ h => h
          case szz1 => first | assumption | trivial
          case' rzz1 => simp only [Act.put, List.setIfInBounds_toArray, List.set_cons_zero, List.set_cons_succ]
          refine wpAnyH_take (i := 1) (oi := ?ozz2) (v := ?vzz2) ?hzz2 ?azz2 ?bzz2 ?czz2 ?qzz2 ?yzz2 ?szz2 ?rzz2
          case hzz2 => simp only [List.getElem?_toArray, List.getElem?_cons_zero, List.getElem?_cons_succ]; rfl
          case azz2 => kernel_rfl
          case bzz2 => kernel_rfl
          case czz2 => kernel_rfl
          case yzz2 =>
            refine Or.inl ⟨by rfl, ?_⟩
            intro w hSw
            have z0 := box_ hSw b0; have z1 := box_ hSw b1; have z2 := box_ hSw x0; clear hSw
            go_simp
            try with_reducible rfl
          case qzz2 => exact fun _ _ _ h => h
          case szz2 => first | assumption | trivial
          case' rzz2 => simp only [Act.put, List.setIfInBounds_toArray, List.set_cons_zero, List.set_cons_succ]
          refine wpAnyH_take (i := 2) (oi := ?ozz3) (v := ?vzz3) ?hzz3 ?azz3 ?bzz3 ?czz3 ?qzz3 ?yzz3 ?szz3 ?rzz3
          case hzz3 => simp only [List.getElem?_toArray, List.getElem?_cons_zero, List.getElem?_cons_succ]; rfl
          case azz3 => kernel_rfl
          case bzz3 => kernel_rfl
          case czz3 => kernel_rfl
          case yzz3 =>
            refine Or.inl ⟨by rfl, ?_⟩
            intro w hSw
            have z0 := box_ hSw b0; have z1 := box_ hSw b1; have z2 := box_ hSw x0; clear hSw
            go_simp
            try with_reducible rfl
          case qzz3 => exact fun _ _ _ h => h
          case szz3 => first | assumption | trivial
          case' rzz3 => simp only [Act.put, List.setIfInBounds_toArray, List.set_cons_zero, List.set_cons_succ]
          refine wpAnyH_take (i := 3) (oi := ?ozz4) (v := ?vzz4) ?hzz4 ?azz4 ?bzz4 ?czz4 ?qzz4 ?yzz4 ?szz4 ?rzz4
          case hzz4 => simp only [List.getElem?_toArray, List.getElem?_cons_zero, List.getElem?_cons_succ]; rfl
          case azz4 => kernel_rfl
          case bzz4 => kernel_rfl
          case czz4 => kernel_rfl
          case yzz4 =>
            refine Or.inl ⟨by rfl, ?_⟩
            intro w hSw
            have z0 := box_ hSw b0; have z1 := box_ hSw b1; have z2 := box_ hSw x0; clear hSw
            go_simp
            try with_reducible rfl
          case qzz4 => exact fun _ _ _ h => h
          case szz4 => first | assumption | trivial
          case' rzz4 => simp only [Act.put, List.setIfInBounds_toArray, List.set_cons_zero, List.set_cons_succ]
          refine wpAnyH_take (i := 4) (oi := ?ozz5) (v := ?vzz5) ?hzz5 ?azz5 ?bzz5 ?czz5 ?qzz5 ?yzz5 ?szz5 ?rzz5
          case hzz5 => simp only [List.getElem?_toArray, List.getElem?_cons_zero, List.getElem?_cons_succ]; rfl
          case azz5 => kernel_rfl
          case bzz5 => kernel_rfl
          case czz5 => kernel_rfl
          case yzz5 =>
            refine Or.inl ⟨by rfl, ?_⟩
            intro w hSw
            have z0 := box_ hSw b0; have z1 := box_ hSw b1; have z2 := box_ hSw x0; clear hSw
            go_simp
            try with_reducible rfl
          case qzz5 => exact fun _ _ _ h => h
          case szz5 => first | assumption | trivial
          case' rzz5 => simp only [Act.put, List.setIfInBounds_toArray, List.set_cons_zero, List.set_cons_succ]
          refine wpAnyH_take (i := 6) (oi := ?ozz6) (v := ?vzz6) ?hzz6 ?azz6 ?bzz6 ?czz6 ?qzz6 ?yzz6 ?szz6 ?rzz6
          case hzz6 => simp only [List.getElem?_toArray, List.getElem?_cons_zero, List.getElem?_cons_succ]; rfl
          case azz6 => kernel_rfl
          case bzz6 => kernel_rfl
          case czz6 => kernel_rfl
          case yzz6 =>
            refine Or.inl ⟨by rfl, ?_⟩
            intro w hSw
            have z0 := box_ hSw b0; have z1 := box_ hSw b1; have z2 := box_ hSw x0; clear hSw
            go_simp
            try with_reducible rfl
          case qzz6 => exact fun _ _ _ h => h
          case szz6 => first | assumption | trivial
          case' rzz6 => simp only [Act.put, List.setIfInBounds_toArray, List.set_cons_zero, List.set_cons_succ]
          refine wpAnyH_ready (rs := [5]) (by kernel_rfl) (by simp) ?_
          refine AllReadyH.cons (o := ?ozz9) ?hzz9 (fun K hK => ?kzz9) ?mzz9
          case hzz9 => simp only [List.getElem?_toArray, List.getElem?_cons_zero, List.getElem?_cons_succ]; rfl
          case kzz9 =>
            go_simp
            refine (KR.out u _ (Q2.out.trans (HQ.out.trans hHeld))).mono ?_
            rintro e v1 ⟨A4, c4, rfl, o4, q4⟩
            go_wp2_with fail
            refine hK.out _ _ ?Szz9 (fun hHeld => ?Rzz9)
            case Szz9 =>
              exact hHeld.trans q4
            case Rzz9 =>
              clear hK K
              try simp only [Act.put, List.setIfInBounds_toArray, List.set_cons_zero, List.set_cons_succ]
              refine wpAnyH_ready (rs := [7]) (by kernel_rfl) (by simp) ?_
              refine AllReadyH.cons (o := ?ozz8) ?hzz8 (fun K hK => ?kzz8) ?mzz8
              case hzz8 => simp only [List.getElem?_toArray, List.getElem?_cons_zero, List.getElem?_cons_succ]; rfl
              case kzz8 =>
                go_simp
                refine (KU.out A4 c4 _ o4.lst).mono ?_
                rintro e v2 ⟨rfl, q5⟩
                go_wp2_with fail
                refine hK.out _ _ ?Szz8 (fun hHeld => ?Rzz8)
                case Szz8 =>
                  exact hHeld.trans q5
                case Rzz8 =>
                  clear hK K
                  try simp only [Act.put, List.setIfInBounds_toArray, List.set_cons_zero, List.set_cons_succ]
                  refine wpAnyH_take (i := 8) (oi := ?ozz7) (v := ?vzz7) ?hzz7 ?azz7 ?bzz7 ?czz7 ?qzz7 ?yzz7 ?szz7 ?rzz7
                  case hzz7 => simp only [List.getElem?_toArray, List.getElem?_cons_zero, List.getElem?_cons_succ]; rfl
                  case azz7 => kernel_rfl
                  case bzz7 => kernel_rfl
                  case czz7 => kernel_rfl
                  case yzz7 =>
                    refine Or.inl ⟨by rfl, ?_⟩
                    intro w hSw
                    have z0 := box_ hSw b0; have z1 := box_ hSw b1; have z2 := box_ hSw x0; clear hSw
                    go_simp
                    try with_reducible rfl
                  case qzz7 => exact fun _ _ _ h => h
                  case szz7 => first | assumption | trivial
                  case' rzz7 => simp only [Act.put, List.setIfInBounds_toArray, List.set_cons_zero, List.set_cons_succ]
                  refine wpAnyH_done (by kernel_rfl) ?_ _
                  have HZ := Lib.hid hHeld
                  have x1 := box_ HZ.out x0
                  clear x0 b0 b1 f0 f1
                  go_wp2_with (at_builtin
                               refine wpl_appK numK rfl _ _ 29 rfl rfl w2.heap.size C os.length q os rfl ((HO.out.q HZ.out).alloc _) (some ⟨v2.heap.size, 0, none⟩) 1 1 [u] rfl (lst_lit1 v2 u) (fun e => by cases e) (by show (os.length + 1) * 8 ≤ _; omega) ((HQ.out.trans HZ.out).alloc _).size ?_
                               intro A5 c5 w5 o5 b5
                               have O5 := Lib.hid o5
                               have Q5 := Lib.hid (show Q w2 w5 from ((HQ.out.trans HZ.out).alloc (.cells #[.int .i64 u] 3)).below.trans b5)
                               clear o5 b5)
                  go_roundw
                  case rel => exact ⟨k + 1, A5, c5, os ++ [u], by omega, by go_num, by rw [List.length_append]; rfl, by rw [List.length_append]; exact O5.out, by rw [HG2.out, HE.out], Q5.out⟩
                  case measure => simp [Go.RowKit.intOf]; omega
              case' mzz8 => skip
              exact AllReadyH.nil
          case' mzz9 => skip
          exact AllReadyH.nil

        case false =>
          have HG2 := Lib.hid (HN.out hPu)
          have hdu : decide (txn ∈ reach l u) = false := by rw [HPP.out, hPu]
          have KU := Lib.hid (fun A c W (h : Lst numK W A (reach l u).length (reach l u)) => hdu ▸ rhas_any txn A (reach l u).length c (reach l u) W h (by omega))
          clear HY HN hPu hdu
          go_wp2
          refine wp_region_held_drew (S := Q wr) (by kernel_rfl) ?szz10 (fun hHeld => ?rzz10)
          case szz10 =>
            exact (Q.refl wr).drew
          case' rzz10 => skip
          refine wpAnyH_take (i := 0) (oi := ?ozz11) (v := ?vzz11) ?hzz11 ?azz11 ?bzz11 ?czz11 ?qzz11 ?yzz11 ?szz11 ?rzz11
          case hzz11 => simp only [List.getElem?_toArray, List.getElem?_cons_zero]; rfl
          case azz11 => kernel_rfl
          case bzz11 => kernel_rfl
          case czz11 => kernel_rfl
          case yzz11 =>
            refine Or.inl ⟨by rfl, ?_⟩
            intro w hSw
            have z0 := box_ hSw b0; have z1 := box_ hSw b1; have z2 := box_ hSw x0; clear hSw
            go_simp
            try with_reducible rfl
          case qzz11 => exact fun _ _ _ h => h
          case szz11 => first | assumption | trivial
          case' rzz11 => simp only [Act.put, List.setIfInBounds_toArray, List.set_cons_zero, List.set_cons_succ]
          refine wpAnyH_take (i := 1) (oi := ?ozz12) (v := ?vzz12) ?hzz12 ?azz12 ?bzz12 ?czz12 ?qzz12 ?yzz12 ?szz12 ?rzz12
          case hzz12 => simp only [List.getElem?_toArray, List.getElem?_cons_zero, List.getElem?_cons_succ]; rfl
          case azz12 => kernel_rfl
          case bzz12 => kernel_rfl
          case czz12 => kernel_rfl
          case yzz12 =>
            refine Or.inl ⟨by rfl, ?_⟩
            intro w hSw
            have z0 := box_ hSw b0; have z1 := box_ hSw b1; have z2 := box_ hSw x0; clear hSw
            go_simp
            try with_reducible rfl
          case qzz12 => exact fun _ _ _ h => h
          case szz12 => first | assumption | trivial
          case' rzz12 => simp only [Act.put, List.setIfInBounds_toArray, List.set_cons_zero, List.set_cons_succ]
          refine wpAnyH_take (i := 2) (oi := ?ozz13) (v := ?vzz13) ?hzz13 ?azz13 ?bzz13 ?czz13 ?qzz13 ?yzz13 ?szz13 ?rzz13
          case hzz13 => simp only [List.getElem?_toArray, List.getElem?_cons_zero, List.getElem?_cons_succ]; rfl
          case azz13 => kernel_rfl
          case bzz13 => kernel_rfl
          case czz13 => kernel_rfl
          case yzz13 =>
            refine Or.inl ⟨by rfl, ?_⟩
            intro w hSw
            have z0 := box_ hSw b0; have z1 := box_ hSw b1; have z2 := box_ hSw x0; clear hSw
            go_simp
            try with_reducible rfl
          case qzz13 => exact fun _ _ _ h => h
          case szz13 => first | assumption | trivial
          case' rzz13 => simp only [Act.put, List.setIfInBounds_toArray, List.set_cons_zero, List.set_cons_succ]
          refine wpAnyH_take (i := 3) (oi := ?ozz14) (v := ?vzz14) ?hzz14 ?azz14 ?bzz14 ?czz14 ?qzz14 ?yzz14 ?szz14 ?rzz14
          case hzz14 => simp only [List.getElem?_toArray, List.getElem?_cons_zero, List.getElem?_cons_succ]; rfl
          case azz14 => kernel_rfl
          case bzz14 => kernel_rfl
          case czz14 => kernel_rfl
          case yzz14 =>
            refine Or.inl ⟨by rfl, ?_⟩
            intro w hSw
            have z0 := box_ hSw b0; have z1 := box_ hSw b1; have z2 := box_ hSw x0; clear hSw
            go_simp
            try with_reducible rfl
          case qzz14 => exact fun _ _ _ h => h
          case szz14 => first | assumption | trivial
          case' rzz14 => simp only [Act.put, List.setIfInBounds_toArray, List.set_cons_zero, List.set_cons_succ]
          refine wpAnyH_take (i := 4) (oi := ?ozz15) (v := ?vzz15) ?hzz15 ?azz15 ?bzz15 ?czz15 ?qzz15 ?yzz15 ?szz15 ?rzz15
          case hzz15 => simp only [List.getElem?_toArray, List.getElem?_cons_zero, List.getElem?_cons_succ]; rfl
          case azz15 => kernel_rfl
          case bzz15 => kernel_rfl
          case czz15 => kernel_rfl
          case yzz15 =>
            refine Or.inl ⟨by rfl, ?_⟩
            intro w hSw
            have z0 := box_ hSw b0; have z1 := box_ hSw b1; have z2 := box_ hSw x0; clear hSw
            go_simp
            try with_reducible rfl
          case qzz15 => exact fun _ _ _ h => h
          case szz15 => first | assumption | trivial
          case' rzz15 => simp only [Act.put, List.setIfInBounds_toArray, List.set_cons_zero, List.set_cons_succ]
          refine wpAnyH_take (i := 6) (oi := ?ozz16) (v := ?vzz16) ?hzz16 ?azz16 ?bzz16 ?czz16 ?qzz16 ?yzz16 ?szz16 ?rzz16
          case hzz16 => simp only [List.getElem?_toArray, List.getElem?_cons_zero, List.getElem?_cons_succ]; rfl
          case azz16 => kernel_rfl
          case bzz16 => kernel_rfl
          case czz16 => kernel_rfl
          case yzz16 =>
            refine Or.inl ⟨by rfl, ?_⟩
            intro w hSw
            have z0 := box_ hSw b0; have z1 := box_ hSw b1; have z2 := box_ hSw x0; clear hSw
            go_simp
            try with_reducible rfl
          case qzz16 => exact fun _ _ _ h => h
          case szz16 => first | assumption | trivial
          case' rzz16 => simp only [Act.put, List.setIfInBounds_toArray, List.set_cons_zero, List.set_cons_succ]
          refine wpAnyH_ready (rs := [5]) (by kernel_rfl) (by simp) ?_
          refine AllReadyH.cons (o := ?ozz19) ?hzz19 (fun K hK => ?kzz19) ?mzz19
          case hzz19 => simp only [List.getElem?_toArray, List.getElem?_cons_zero, List.getElem?_cons_succ]; rfl
          case kzz19 =>
            go_simp
            refine (KR.out u _ (Q2.out.trans (HQ.out.trans hHeld))).mono ?_
            rintro e v1 ⟨A4, c4, rfl, o4, q4⟩
            go_wp2_with fail
            refine hK.out _ _ ?Szz19 (fun hHeld => ?Rzz19)
            case Szz19 =>
              exact hHeld.trans q4
            case Rzz19 =>
              clear hK K
              try simp only [Act.put, List.setIfInBounds_toArray, List.set_cons_zero, List.set_cons_succ]
              refine wpAnyH_ready (rs := [7]) (by kernel_rfl) (by simp) ?_
              refine AllReadyH.cons (o := ?ozz18) ?hzz18 (fun K hK => ?kzz18) ?mzz18
              case hzz18 => simp only [List.getElem?_toArray, List.getElem?_cons_zero, List.getElem?_cons_succ]; rfl
              case kzz18 =>
                go_simp
                refine (KU.out A4 c4 _ o4.lst).mono ?_
                rintro e v2 ⟨rfl, q5⟩
                go_wp2_with fail
                refine hK.out _ _ ?Szz18 (fun hHeld => ?Rzz18)
                case Szz18 =>
                  exact hHeld.trans q5
                case Rzz18 =>
                  clear hK K
                  try simp only [Act.put, List.setIfInBounds_toArray, List.set_cons_zero, List.set_cons_succ]
                  refine wpAnyH_take (i := 8) (oi := ?ozz17) (v := ?vzz17) ?hzz17 ?azz17 ?bzz17 ?czz17 ?qzz17 ?yzz17 ?szz17 ?rzz17
                  case hzz17 => simp only [List.getElem?_toArray, List.getElem?_cons_zero, List.getElem?_cons_succ]; rfl
                  case azz17 => kernel_rfl
                  case bzz17 => kernel_rfl
                  case czz17 => kernel_rfl
                  case yzz17 =>
                    refine Or.inl ⟨by rfl, ?_⟩
                    intro w hSw
                    have z0 := box_ hSw b0; have z1 := box_ hSw b1; have z2 := box_ hSw x0; clear hSw
                    go_simp
                    try with_reducible rfl
                  case qzz17 => exact fun _ _ _ h => h
                  case szz17 => first | assumption | trivial
                  case' rzz17 => simp only [Act.put, List.setIfInBounds_toArray, List.set_cons_zero, List.set_cons_succ]
                  refine wpAnyH_done (by kernel_rfl) ?_ _
                  have HZ := Lib.hid hHeld
                  clear x0 b0 b1 f0 f1
                  go_wp2
                  go_roundw
                  case rel => exact ⟨k + 1, C, q, os, by omega, by go_num, rfl, HO.out.q HZ.out, by rw [HG2.out, HE.out], HQ.out.trans HZ.out⟩
                  case measure => simp [Go.RowKit.intOf]; omega
              case' mzz18 => skip
              exact AllReadyH.nil
          case' mzz19 => skip
          exact AllReadyH.nil

      · have HE2 := Lib.hid (show out = os by rw [HF.out, ← HE.out, List.take_of_length_le (by omega)])
        go_wp2
        go_ret
        exact ⟨C, q, by rw [HE2.out]; rfl, by rw [HE2.out]; exact HO.out.lower Q2.out.size, Q2.out.trans HQ.out⟩
  · have hd : decide (txn ∈ all) = false := by simp [hin]
    have HF := Lib.hid (show out = [] by rw [HF.out, if_neg hin])
    rw [hd] at KH
    clear hin hd
    go_wp2_with fail
    refine KH.out.mono ?_
    rintro e w2 ⟨rfl, q2⟩
    have Q2 := Lib.hid (Q1.out.trans q2)
    clear q2
    go_wp2
    go_ret
    exact ⟨none, 0, by rw [HF.out]; rfl, by rw [HF.out]; exact OwnK.nil_ _ _ _, Q2.out⟩

set_option maxHeartbeats 2000000 in
theorem rvictim_any (A B : Option Addr) (n c m d : Nat) (l : Lo) (txn : Int) (w : World) (hA : Lst holdK w A n l.held) (hB : Lst claimK w B m l.queue) (hh : WnsH l.held) (hc : WnsC l.queue) (hn : n + m ≤ 4000) :
    Calls Try.prog 18 #[locV A n c B m d, .int .i64 txn] w fun e w' => e = .returned (.tuple #[.int .i64 ((ring l txn).getLast?.getD 0), .bool (decide (ring l txn ≠ []))]) ∧ Q w w' := by
  have KR := Lib.hid (fun W q => rring_any A B n c m d l txn W (hA.q q) (hB.q q) hh hc hn)
  have HNd := Lib.hid (show (ring l txn).length ≤ 4000 by have := ring_len l txn; have := nodes_len l; have := hA.len; have := hB.len; omega)
  have R0 := Lib.hid (Bx.new w [.slice A n c, .slice B m d] 25)
  have Q0 := Lib.hid ((Q.refl w).alloc (.cells #[.slice A n c, .slice B m d] 25))
  generalize ring l txn = r at KR HNd ⊢
  clear hA hB hh hc
  cases r with
  | nil =>
    simp only [List.getLast?_nil, Option.getD_none, ne_eq, not_true_eq_false, decide_false]
    go_enter Try.func18, Try.ntmps18
    go_upto_region 1 with (fail)
    generalize w.alloc (.cells #[.slice A n c, .slice B m d] 25) = W0 at R0 Q0 ⊢
    obtain ⟨⟨b0, b1⟩, f0, f1⟩ := R0.out.get2
    go_wp2_with fail
    refine (KR.out _ Q0.out).mono ?_
    rintro e w1 ⟨A1, c1, rfl, o1, q1⟩
    have O1 := Lib.hid o1
    have Q1 := Lib.hid (Q0.out.trans q1)
    clear o1 q1 b0 b1 f0 f1
    go_wp2
    refine bodyPost_ret (v := .tuple #[.int .i64 0, .bool false]) (by simp [results, Try.results18, go_sem]) rfl ?_
    exact ⟨rfl, Q1.out⟩
  | cons a r =>
    have hlast : (a :: r).getLast? = some (a :: r)[r.length] := by
      rw [List.getLast?_eq_getElem?, List.getElem?_eq_getElem (by simp)]; simp
    have hne : decide (a :: r ≠ []) = true := by simp
    rw [hlast, Option.getD_some, hne]
    have HV := Lib.hid (fun W A (h : Lst numK W A (a :: r).length (a :: r)) => load_num h (k := r.length) (by simp) (by simp))
    generalize (a :: r)[r.length] = v at HV ⊢
    clear hlast hne
    go_enter Try.func18, Try.ntmps18
    go_upto_region 1 with (fail)
    generalize w.alloc (.cells #[.slice A n c, .slice B m d] 25) = W0 at R0 Q0 ⊢
    obtain ⟨⟨b0, b1⟩, f0, f1⟩ := R0.out.get2
    go_wp2_with fail
    refine (KR.out _ Q0.out).mono ?_
    rintro e w1 ⟨A1, c1, rfl, o1, q1⟩
    have O1 := Lib.hid o1
    have Q1 := Lib.hid (Q0.out.trans q1)
    clear o1 q1 b0 b1 f0 f1
    obtain ⟨ad, hae, hab, x0⟩ := HV.out _ _ O1.out.lst
    subst hae
    have hle : r.length + 1 ≤ 4000 := HNd.out
    have hlen : (a :: r).length = r.length + 1 := rfl
    rw [hlen] at O1 ⊢
    go_wp2
    refine bodyPost_ret (v := .tuple #[.int .i64 v, .bool true]) (by simp [results, Try.results18, go_sem]) rfl ?_
    exact ⟨rfl, Q1.out⟩
end Go.Proofs.Ytncnfblnelkmbaa

/- What holds of all who hold and wait, and is kept: plain mathematics. -/
namespace Go.Proofs.Ytncnfblnelkmbaa
set_option maxRecDepth 100000
open Lm Sm
set_option linter.unusedVariables false
set_option linter.unusedSimpArgs false

/-- who holds and who waits is one of whom P holds. -/
def AllL (P : Int → Wn → Prop) (l : Lo) : Prop := (∀ h ∈ l.held, P h.txn h.w) ∧ ∀ h ∈ l.queue, P h.txn h.w
theorem all_free {P : Int → Wn → Prop} {l : Lo} (h : AllL P l) (txn : Int) : AllL P (Lm.free l txn).1 :=
  settle_ind (P := fun k _ => AllL P k) (fun k out i hi hb hp => ⟨fun a ha => (by
      rcases List.mem_append.1 ha with ha | ha
      · exact hp.1 a ha
      · simp at ha; subst ha; exact hp.2 _ (List.getElem_mem hi)), fun a ha => hp.2 a (List.mem_of_mem_eraseIdx ha)⟩)
    (Lm.keep l txn).queue.length (Lm.keep l txn) [] ⟨fun a ha => h.1 a (List.mem_filter.1 ha).1, fun a ha => h.2 a (List.mem_filter.1 ha).1⟩
end Go.Proofs.Ytncnfblnelkmbaa

/- What a law's arguments read as, where their bulk is bounded; a walk under that reading gives what the row asks. -/
namespace Go.Proofs.Ytncnfblnelkmbaa
set_option maxRecDepth 100000
open Go.ChangeShapes Go.WideShapes Go.ChangeAt Go.RowKit
set_option linter.unusedVariables false

end Go.Proofs.Ytncnfblnelkmbaa

/- The frame of a law's second form, where its row lists no table. -/
namespace Go.Proofs.Ytncnfblnelkmbaa
set_option maxRecDepth 100000
open Go.ChangeShapes Go.WideShapes Go.ChangeAt Go.RowKit
set_option linter.unusedVariables false

end Go.Proofs.Ytncnfblnelkmbaa
