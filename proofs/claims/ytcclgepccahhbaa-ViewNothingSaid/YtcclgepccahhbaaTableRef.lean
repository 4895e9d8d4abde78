/- Contracts: the document's answer for pairs: Same, Between, Right, Find, Drop, Range. -/
import Derived.Test.YtcclgepccahhbaaTable3
import Derived.Test.YtcclgepccahhbaaLess
import Derived.Laws.StructEq
namespace Go.Proofs.Ytcclgepccahhbaa
set_option maxRecDepth 100000
open Go.RowKit Prm
set_option linter.unusedVariables false
set_option linter.unusedSimpArgs false

theorem neq_pair (W : World) (f g : Pr) : (binOp .neq 44 f.v g.v).run Try.prog W = .ok (.bool (!decide (f = g))) W := by
  have u := Try.underlying9
  have hS : Try.prog.underlying 44 = some (.struct (Try.prog.fieldsOf 44)) := by kernel_rfl
  have hp : Try.prog.stoodInHeld 44 = false := by kernel_rfl
  have a3 := Try.isAgg9
  have z3 := Try.sizeOf9
  obtain ⟨a, b⟩ := f
  obtain ⟨a', b'⟩ := g
  rw [run_neq_struct, show (10000 : Nat) = 9999 + 1 from rfl, run_equalIn_agg W 9999 _ _ _ hS hp]
  simp only [Program.fieldsOf, Try.underlying44]
  go_simp
  simp only [str_inj]
  by_cases h1 : a = a' <;> by_cases h2 : b = b' <;> simp [h1, h2]

set_option maxHeartbeats 1000000 in
theorem refSame_any (A B : Option Addr) (n c m d : Nat) (l l2 : List Pr) (w : World) (h1 : Lst pairK w A n l) (h2 : Lst pairK w B m l2) (hn : n ≤ maxLen) (hm : m ≤ maxLen) :
    Calls Try.prog 20 #[.slice A n c, .slice B m d] w fun e w' => e = .returned (.bool (decide (l = l2))) ∧ Q w w' := by
  unfold maxLen at hn hm
  have H1 := Lib.hid h1
  have H2 := Lib.hid h2
  have L1 := Lib.hid h1.len
  have L2 := Lib.hid h2.len
  clear h1 h2
  by_cases hnm : n = m
  · subst hnm
    go_enter Try.func20, Try.ntmps20
    go_wp2
    go_loopw [5] (fun i wr => ∃ k : Nat, k ≤ n ∧ i = .int .i64 k ∧ Q w wr ∧ l.take k = l2.take k) (fun i _ => n - (intOf i).toNat)
    case atStart => exact ⟨0, Nat.zero_le _, rfl, Q.refl _, by simp⟩
    case round =>
      obtain ⟨k, hk, rfl, hq, ht⟩ := hrel
      have HT := Lib.hid ht
      clear ht
      by_cases hlt : k < n
      · have k1 : k < l.length := by have := L1.out; omega
        have k2 : k < l2.length := by have := L2.out; omega
        obtain ⟨ad, rfl, hb, c0, c1⟩ := load_pair (H1.out.q hq) hlt k1
        obtain ⟨ae, rfl, he, d0, d1⟩ := load_pair (H2.out.q hq) hlt k2
        have hne := fun W => neq_pair W l[k] l2[k]
        have hkn : (k : Int) < (n : Int) := by omega
        by_cases heq : l[k] = l2[k]
        · have hd : decide (l[k] = l2[k]) = true := by simpa using heq
          have HE := Lib.hid heq
          clear heq
          go_wp2
          go_quiet (fail)
          go_wp2
          go_roundw
          case rel => exact ⟨k + 1, by omega, by go_num, hq.drewN _, by rw [List.take_succ_eq_append_getElem k1, List.take_succ_eq_append_getElem k2, HT.out, HE.out]⟩
          case measure => simp [intOf]; omega
        · have hd : decide (l[k] = l2[k]) = false := by simpa using heq
          have HE := Lib.hid heq
          clear heq
          go_wp2
          go_quiet (fail)
          go_wp2
          go_ret
          exact ⟨ret_bool (by symm; simp only [decide_eq_false_iff_not]; rintro rfl; exact HE.out rfl), hq.drewN _⟩
      · go_wp2
        go_ret
        exact ⟨ret_bool (by symm; simp only [decide_eq_true_eq]; have h1 := HT.out; rwa [List.take_of_length_le (by have := L1.out; omega), List.take_of_length_le (by have := L2.out; omega)] at h1), hq⟩
  · have n1 : ((n : Int) != (m : Int)) = true := by simp; omega
    have n2 : (n != m) = true := by simp; omega
    have n3 : (n == m) = false := by simp; omega
    have n4 : ((n : Int) == (m : Int)) = false := by simp; omega
    have n5 : ¬ (n : Int) = m := by omega
    have HN := Lib.hid hnm
    go_enter Try.func20, Try.ntmps20
    go_wp2
    go_ret
    exact ⟨ret_bool (by symm; simp only [decide_eq_false_iff_not]; rintro rfl; exact HN.out (L1.out.symm.trans L2.out)), Q.refl _⟩

theorem refBetween_any (key lo hi : ByteArray) (w : World) (hk : key.size ≤ maxLen) (hlo : lo.size ≤ maxLen) (hhi : hi.size ≤ maxLen) :
    Calls Try.prog 34 #[.string key, .string lo, .string hi] w fun e w' => e = .returned (.bool (btw lo hi key)) ∧ Q w w' := by
  have K1 := Lib.hid (fun W => less_any key lo W hk hlo)
  have K2 := Lib.hid (fun W => less_any key hi W hk hhi)
  by_cases h1 : lt key lo = true
  · have HR := Lib.hid (show btw lo hi key = false by simp [btw, h1])
    rw [h1] at K1
    clear h1 hk hlo hhi
    go_enter Try.func34, Try.ntmps34
    go_wp2_with fail
    refine (K1.out _).mono ?_
    rintro e w1 ⟨rfl, n1, rfl⟩
    go_wp2
    go_ret
    exact ⟨ret_bool (by rw [HR.out]), (Q.refl _).drewN _⟩
  · have h1' : lt key lo = false := by simpa using h1
    rw [h1'] at K1
    by_cases h2 : hi = ⟨#[]⟩
    · subst h2
      have HR := Lib.hid (show btw lo ⟨#[]⟩ key = true by simp [btw, h1'])
      clear h1 h1' hk hlo hhi
      go_enter Try.func34, Try.ntmps34
      go_wp2_with fail
      refine (K1.out _).mono ?_
      rintro e w1 ⟨rfl, n1, rfl⟩
      go_wp2
      go_ret
      exact ⟨ret_bool (by rw [HR.out]), (Q.refl _).drewN _⟩
    · obtain ⟨n1, n2, n3⟩ := empty_no h2
      have HR := Lib.hid (show btw lo hi key = lt key hi by simp [btw, h1', h2])
      clear h1 h1' hk hlo hhi h2
      go_enter Try.func34, Try.ntmps34
      go_wp2_with fail
      refine (K1.out _).mono ?_
      rintro e w1 ⟨rfl, n1, rfl⟩
      go_wp2_with fail
      refine (K2.out _).mono ?_
      rintro e w1 ⟨rfl, n2, rfl⟩
      go_wp2
      go_ret
      exact ⟨ret_bool (by rw [HR.out]), (Q.refl _).drewN _⟩

set_option maxHeartbeats 1000000 in
theorem refFind_any (key : ByteArray) (A : Option Addr) (n c : Nat) (l : List Pr) (w : World) (hf : Lst pairK w A n l) (hn : n ≤ maxLen) :
    Calls Try.prog 24 #[.slice A n c, .string key] w fun e w' => e = .returned (.tuple #[.string (find key l).1, .bool (find key l).2]) ∧ w = w' := by
  have HF := Lib.hid hf
  have HL := Lib.hid hf.len
  unfold maxLen at hn
  clear hf
  go_enter Try.func24, Try.ntmps24
  go_wp2
  go_loop [6] (fun i => ∃ k : Nat, k ≤ n ∧ i = .int .i64 k ∧ find key l = find key (l.drop k)) (fun i => n - (intOf i).toNat)
  case atStart => exact ⟨0, Nat.zero_le _, rfl, rfl⟩
  case round =>
    obtain ⟨k, hk, rfl, hp⟩ := hrel
    have HP := Lib.hid hp
    clear hp
    by_cases hlt : k < n
    · have hkl : k < l.length := by have := HL.out; omega
      obtain ⟨ad, rfl, hb, c0, c1⟩ := load_pair HF.out hlt hkl
      have hkn : (k : Int) < (n : Int) := by omega
      have e1 := same_str l[k].key key
      by_cases hh : l[k].key = key
      · rw [decide_eq_true hh] at e1
        have HE := Lib.hid (show find key l = (l[k].val, true) by rw [HP.out, List.drop_eq_getElem_cons hkl, find]; simp [hasK, hh])
        clear hh
        go_wp2
        go_ret2
        exact ⟨by rw [HE.out]; rfl, rfl⟩
      · rw [decide_eq_false hh] at e1
        have HE := Lib.hid (show find key l = find key (l.drop (k + 1)) by rw [HP.out, List.drop_eq_getElem_cons hkl, find]; simp [hasK, hh])
        clear hh
        go_wp2
        go_round
        case rel => exact ⟨k + 1, by omega, by go_num, HE.out⟩
        case measure => simp [intOf]; omega
    · have HE := Lib.hid (show find key l = (⟨#[]⟩, false) by rw [HP.out, List.drop_of_length_le (by have := HL.out; omega)]; rfl)
      go_wp2
      go_ret2
      exact ⟨by rw [HE.out]; rfl, rfl⟩

/-- what a filter has behind k pairs. -/
def FlS (w : World) (l : List Pr) (f : Pr → Bool) (k : Nat) (v : Value) (wr : World) : Prop :=
  ∃ A1 c1, v = .slice A1 ((l.take k).filter f).length c1 ∧ OwnK pairK wr w.heap.size A1 ((l.take k).filter f).length c1 ((l.take k).filter f) ∧ Q w wr

set_option maxHeartbeats 2000000 in
theorem refDrop_any (key : ByteArray) (A : Option Addr) (n c : Nat) (l : List Pr) (w : World) (hf : Lst pairK w A n l) (hb : n * 32 ≤ 140737488355328) :
    Calls Try.prog 42 #[.slice A n c, .string key] w fun e w' => RetL pairK w (drop l key).length (drop l key) e w' := by
  have HF := Lib.hid hf
  have HL := Lib.hid hf.len
  have HB := Lib.hid hb
  have hn : n ≤ 9223372036854775807 := by omega
  clear hf hb
  go_enter Try.func42, Try.ntmps42
  go_wp2
  go_loopw [5, 6] (fun v i wr => ∃ k : Nat, k ≤ n ∧ i = .int .i64 k ∧ FlS w l (keep key) k v wr) (fun _ i _ => n - (intOf i).toNat)
  case atStart => exact ⟨0, Nat.zero_le _, rfl, none, 0, rfl, OwnK.nil_ _ _ _, Q.refl _⟩
  case round =>
    obtain ⟨k, hk, rfl, A3, c3, rfl, o3, q3⟩ := hrel
    have hfl : ((l.take k).filter (keep key)).length ≤ k := Nat.le_trans (List.length_filter_le _ _) (List.length_take_le _ _)
    have O3 := Lib.hid o3
    have Q3 := Lib.hid q3
    clear o3 q3
    by_cases hlt : k < n
    · have hkl : k < l.length := by have := HL.out; omega
      obtain ⟨ad, rfl, hab, x0, x1⟩ := load_pair (HF.out.q Q3.out) hlt hkl
      have hkm : (k : Int) < (n : Int) := by omega
      have e1 := same_str l[k].key key
      by_cases hh : l[k].key = key
      · rw [decide_eq_true hh] at e1
        have HE := Lib.hid (filter_no (f := keep key) hkl (by simp [keep, hasK, hh]))
        have e2 : (l[k].key.toList != key.toList) = false := by simp [bne, e1]
        clear hh
        go_wp2
        go_roundw
        case rel => exact ⟨k + 1, by omega, by go_num, A3, c3, by rw [HE.out], by rw [HE.out]; exact O3.out, Q3.out⟩
        case measure => simp [intOf]; omega
      · rw [decide_eq_false hh] at e1
        have e2 : (l[k].key.toList != key.toList) = true := by simp [bne, e1]
        have HF2 := Lib.hid (filter_yes (f := keep key) hkl (by simp [keep, hasK, hh]))
        have hlen2 := Lib.hid (show (((l.take k).filter (keep key)).length + 1) * 32 ≤ 140737488355328 by have := HB.out; omega)
        have hlen3 := Lib.hid (show ((l.take (k + 1)).filter (keep key)).length = ((l.take k).filter (keep key)).length + 1 by rw [HF2.out, List.length_append, List.length_singleton])
        clear hh
        generalize hgo : ((l.take k).filter (keep key)) = o at O3 hfl HF2 hlen2 hlen3 ⊢
        have HGo := Lib.hid hgo
        clear hgo
        generalize hgx : l[k] = x at x0 x1 HF2 e1 e2
        have HGx := Lib.hid hgx
        clear hgx
        go_wp2_with (at_builtin
                     refine wpl_appK pairK rfl (.tmp 20) (.tmp 25) 31 rfl rfl w.heap.size A3 o.length c3 o rfl (O3.out.alloc _) (some ⟨wr.heap.size, 0, none⟩) 1 1 [x] rfl (lit_pair wr x) (fun e => by cases e) hlen2.out (by have := Q3.out.size; simp; omega) ?_
                     intro A5 c5 w5 o5 b5
                     have S5 := Lib.hid (show FlS w l (keep key) (k + 1) (.slice A5 (o.length + 1) c5) w5 from ⟨A5, c5, by rw [hlen3.out], by rw [hlen3.out, HF2.out]; exact o5, ((Q3.out.alloc _).below).trans b5⟩)
                     clear o5 b5)
        go_roundw
        case rel => exact ⟨k + 1, by omega, by go_num, S5.out⟩
        case measure => simp [intOf]; omega
    · have HE := Lib.hid (show (l.take k).filter (keep key) = drop l key by rw [List.take_of_length_le (by have := HL.out; omega)]; rfl)
      rw [HE.out] at O3 ⊢
      go_wp2
      go_ret
      exact ⟨A3, c3, rfl, O3.out, Q3.out⟩
end Go.Proofs.Ytcclgepccahhbaa
