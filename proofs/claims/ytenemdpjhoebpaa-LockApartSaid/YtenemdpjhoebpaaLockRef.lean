/- Contracts: the document's locks: put, Blockers, Waits, Late, Same, Ints. -/
import Derived.Test.YtenemdpjhoebpaaLockFind
import Derived.Test.YtenemdpjhoebpaaLockMath2
import Derived.Test.YtenemdpjhoebpaaSpanRef2
namespace Go.Proofs.Ytenemdpjhoebpaa
set_option maxRecDepth 100000
open Go.RowKit Prm Lm Sm
set_option linter.unusedVariables false
set_option linter.unusedSimpArgs false

abbrev locV (A : Option Addr) (n c : Nat) (B : Option Addr) (m d : Nat) : Value := .agg #[.slice A n c, .slice B m d]

/-- append of one number to a list of one's own, in a plain walk. -/
theorem load_num {w : World} {A : Option Addr} {n : Nat} {l : List Int} (h : Lst numK w A n l) {k : Nat} (hk : k < n) (hl : k < l.length) :
    ∃ ad, A = some ad ∧ ad.block < w.heap.size ∧ w.cell? (ad.add k) = some (.int .i64 l[k]) := by
  obtain ⟨ad, e, hb, hc⟩ := h.load hk hl
  refine ⟨ad, e, hb, ?_⟩
  have := hc 0 _ rfl
  rwa [show k * numK.k = k from Nat.mul_one k] at this

set_option maxHeartbeats 2000000 in
theorem put_any (x : Int) (A : Option Addr) (n c : Nat) (l : List Int) (w : World) (hl : Lst numK w A n l) (hn : n ≤ 1000000) :
    Calls Try.prog 40 #[.slice A n c, .int .i64 x] w fun e w' => RetL numK w (ins x l).length (ins x l) e w' := by
  have HL := Lib.hid hl
  have HN := Lib.hid hl.len
  clear hl
  go_enter Try.func40, Try.ntmps40
  go_wp2
  go_loopw [5, 6, 7] (fun o d i wr => ∃ (k : Nat) (B : Option Addr) (m q : Nat) (dn : Bool) (os : List Int), k ≤ n ∧ i = .int .i64 k ∧ d = .bool dn ∧ o = .slice B m q ∧ OwnK numK wr w.heap.size B m q os ∧ Q w wr ∧ Pt l x k dn os ∧ (dn = false → os.length ≤ k)) (fun _ _ i _ => n - (intOf i).toNat)
  case atStart => exact ⟨0, none, 0, 0, false, [], Nat.zero_le _, rfl, rfl, rfl, OwnK.nil_ _ _ _, Q.refl _, Pt.start l x, fun _ => Nat.le_refl _⟩
  case round =>
    obtain ⟨k, B, m, q, dn, os, hk, rfl, rfl, rfl, o1, q1, hp, ho⟩ := hrel
    have HO := Lib.hid o1
    have HQ := Lib.hid q1
    have HP := Lib.hid hp
    have HD := Lib.hid ho
    have HM := Lib.hid o1.len
    have hm2 : m ≤ k + 1 := by rw [← o1.len]; exact hp.2.2
    clear o1 q1 hp ho
    by_cases hlt : k < n
    · have hkl : k < l.length := by have := HN.out; omega
      obtain ⟨ad, rfl, hab, x0⟩ := load_num (HL.out.q HQ.out) hlt hkl
      have hkn : (k : Int) < (n : Int) := by omega
      cases dn with
      | true =>
        have HS := Lib.hid (HP.out.at_done hkl)
        generalize l[k] = a at x0 HS
        have ea := int_eq a x
        cases hax : decide (a = x)
        all_goals
          rw [hax] at ea
          go_wp2_with (at_builtin
                       refine wpl_appK numK rfl _ _ 40 rfl rfl w.heap.size B m q os rfl (HO.out.alloc _) (some ⟨wr.heap.size, 0, none⟩) 1 1 [a] rfl (lst_lit1 wr a) (fun e => by cases e) (by show (m + 1) * 8 ≤ _; omega) (by have := HQ.out.size; simp; omega) ?_
                       intro A5 c5 w5 o5 b5
                       have O5 := Lib.hid o5
                       have Q5 := Lib.hid (show Q w w5 from (HQ.out.alloc _).below.trans b5)
                       clear o5 b5)
          go_roundw
          case rel => exact ⟨k + 1, A5, m + 1, c5, true, os ++ [a], by omega, by go_num, rfl, rfl, O5.out, Q5.out, HS.out, fun h => by cases h⟩
          case measure => simp [intOf]; omega
      | false =>
        have HK := Lib.hid (show os.length ≤ k from HD.out rfl)
        have S1 := Lib.hid (fun e ho => HP.out.at_same hkl e ho)
        have S2 := Lib.hid (fun e ho => HP.out.at_more hkl e ho)
        have S3 := Lib.hid (fun e ho => HP.out.at_less hkl e ho)
        generalize ha : l[k] = a at x0 S1 S2 S3
        have HA := Lib.hid ha
        clear ha
        by_cases h1 : a = x
        · have HS := Lib.hid (S1.out h1 HK.out)
          have ea : (a == x) = true := by simpa using h1
          clear S1 S2 S3 h1
          go_wp2_with (at_builtin
                       refine wpl_appK numK rfl _ _ 40 rfl rfl w.heap.size B m q os rfl (HO.out.alloc _) (some ⟨wr.heap.size, 0, none⟩) 1 1 [a] rfl (lst_lit1 wr a) (fun e => by cases e) (by show (m + 1) * 8 ≤ _; omega) (by have := HQ.out.size; simp; omega) ?_
                       intro A5 c5 w5 o5 b5
                       have O5 := Lib.hid o5
                       have Q5 := Lib.hid (show Q w w5 from (HQ.out.alloc _).below.trans b5)
                       clear o5 b5)
          go_roundw
          case rel => exact ⟨k + 1, A5, m + 1, c5, true, os ++ [a], by omega, by go_num, rfl, rfl, O5.out, Q5.out, HS.out, fun h => by cases h⟩
          case measure => simp [intOf]; omega
        · have ea : (a == x) = false := by simpa using h1
          by_cases h2 : x < a
          · have HS := Lib.hid (S2.out h2 HK.out)
            clear S1 S2 S3 h1
            have tok1 : True := trivial
            go_wp2_with (first
              | (at_builtin
                 have _t := tok1
                 refine wpl_appK numK rfl _ _ 40 rfl rfl w.heap.size B m q os rfl (HO.out.alloc _) (some ⟨wr.heap.size, 0, none⟩) 1 1 [x] rfl (lst_lit1 wr x) (fun e => by cases e) (by show (m + 1) * 8 ≤ _; omega) (by have := HQ.out.size; simp; omega) ?_
                 intro A5 c5 w5 o5 b5
                 clear tok1
                 have Q5 := Lib.hid (show Q w w5 from (HQ.out.alloc _).below.trans b5)
                 have O5 := Lib.hid o5
                 obtain ⟨ae, he, hae, x0⟩ := load_num (HL.out.q Q5.out) hlt hkl
                 injection he with he
                 subst he
                 rw [HA.out] at x0
                 clear o5 b5)
              | (at_builtin
                 refine wpl_appK numK rfl _ _ 40 rfl rfl w.heap.size A5 (m + 1) c5 (os ++ [x]) rfl (O5.out.alloc _) (some ⟨w5.heap.size, 0, none⟩) 1 1 [a] rfl (lst_lit1 w5 a) (fun e => by cases e) (by show (m + 1 + 1) * 8 ≤ _; omega) (by have := Q5.out.size; simp; omega) ?_
                 intro A6 c6 w6 o6 b6
                 have Q6 := Lib.hid (show Q w w6 from (Q5.out.alloc _).below.trans b6)
                 have O6 := Lib.hid o6
                 clear o6 b6))
            go_roundw
            case rel => exact ⟨k + 1, A6, m + 1 + 1, c6, true, (os ++ [x]) ++ [a], by omega, by go_num, rfl, rfl, O6.out, Q6.out, HS.out, fun h => by cases h⟩
            case measure => simp [intOf]; omega
          · have h3 : a < x := by omega
            have HS := Lib.hid (S3.out h3 HK.out)
            have h2' : ¬ (x < a) := h2
            clear S1 S2 S3 h1
            go_wp2_with (at_builtin
                         refine wpl_appK numK rfl _ _ 40 rfl rfl w.heap.size B m q os rfl (HO.out.alloc _) (some ⟨wr.heap.size, 0, none⟩) 1 1 [a] rfl (lst_lit1 wr a) (fun e => by cases e) (by show (m + 1) * 8 ≤ _; omega) (by have := HQ.out.size; simp; omega) ?_
                         intro A5 c5 w5 o5 b5
                         have O5 := Lib.hid o5
                         have Q5 := Lib.hid (show Q w w5 from (HQ.out.alloc _).below.trans b5)
                         clear o5 b5)
            go_roundw
            case rel => exact ⟨k + 1, A5, m + 1, c5, false, os ++ [a], by omega, by go_num, rfl, rfl, O5.out, Q5.out, HS.out, fun _ => by have := HK.out; simp; omega⟩
            case measure => simp [intOf]; omega
    · have hkn : k = n := by omega
      have hkl : k = l.length := by have := HN.out; omega
      subst hkl
      cases dn with
      | true =>
        have HE := Lib.hid HP.out.end_done
        go_wp2
        go_ret
        exact ⟨B, q, by rw [HE.out, HM.out]; rfl, by rw [HE.out, HM.out]; exact HO.out, HQ.out⟩
      | false =>
        have HE := Lib.hid HP.out.end_not
        go_wp2_with (at_builtin
                     refine wpl_appK numK rfl _ _ 40 rfl rfl w.heap.size B m q os rfl (HO.out.alloc _) (some ⟨wr.heap.size, 0, none⟩) 1 1 [x] rfl (lst_lit1 wr x) (fun e => by cases e) (by show (m + 1) * 8 ≤ _; omega) (by have := HQ.out.size; simp; omega) ?_
                     intro A5 c5 w5 o5 b5
                     have O5 := Lib.hid o5
                     have Q5 := Lib.hid (show Q w w5 from (HQ.out.alloc _).below.trans b5)
                     clear o5 b5)
        go_ret
        exact ⟨A5, c5, by rw [HE.out, List.length_append, HM.out]; rfl, by rw [HE.out, List.length_append, HM.out]; exact O5.out, Q5.out⟩
end Go.Proofs.Ytenemdpjhoebpaa
