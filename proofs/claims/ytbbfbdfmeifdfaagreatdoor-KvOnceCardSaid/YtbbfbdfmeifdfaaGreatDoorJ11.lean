/- BatchMayRef, KvOnceW, Bulk, FrameRow, TabLaid, KvLaid: merged. -/
import Derived.Test.YtbbfbdfmeifdfaaGreatDoorJ5
import Derived.BigQuiet
import Derived.Test.YtbbfbdfmeifdfaaGreatDoorJ10
import Derived.Test.YtbbfbdfmeifdfaaGreatDoorJ6
import Derived.Test.YtbbfbdfmeifdfaaGreatDoorCards
import Derived.Test.YtbbfbdfmeifdfaaGreatDoorTie
import Derived.Deep.DeepHandedRow
import Derived.SevenTiedAt
import Derived.LaidMore
import Derived.MakeChecks
import Derived.Stop.LaidErr
import Derived.Deep.DeepWitnessRowRef
import Derived.LaidHandle
import Derived.LaidSub
import Derived.Stop.LaidTwo
/- The contract of the document's May. -/
namespace Go.Proofs.YtbbfbdfmeifdfaaGreatDoor
set_option maxRecDepth 100000
open Go.RowKit Prm
set_option linter.unusedVariables false
set_option linter.unusedSimpArgs false

namespace Bm
theorem keys_at {l : List Wr} {i : Nat} (h : i < (keys l).length) : (keys l)[i].key = (l[i]'(by simpa [keys] using h)).key := by simp [keys]
theorem keys_len (l : List Wr) : (keys l).length = l.length := by simp [keys]
theorem rise_all {l : List Wr} (h : ∀ i, ∀ h : i + 1 < l.length, lt (l[i]'(by omega)).key l[i + 1].key = true) : rise l = true :=
  right_all fun i hi => by rw [keys_at, keys_at]; exact h i (by rw [keys_len] at hi; exact hi)
theorem rise_no {l : List Wr} {i : Nat} (h : i + 1 < l.length) (hh : lt (l[i]'(by omega)).key l[i + 1].key = false) : rise l = false :=
  right_not (l := keys l) (i := i) (by rw [keys_len]; exact h) (by rw [keys_at, keys_at]; exact hh)
theorem may_rest {k : Int} {tok : ByteArray} {l : List Wr} (h : ¬(tok.size < 1 ∨ 16 < tok.size)) (hk : k = 1 ∨ k = 2) (hl : l.length ≤ 24) (h2 : k = 2 → l.length = 0) : may ⟨k, tok, l⟩ = (rise l && !l.any wrong) := by
  rcases hk with rfl | rfl
  · rw [may_1 h rfl]; simp only; rw [decide_eq_true hl]; simp
  · have := List.eq_nil_of_length_eq_zero (h2 rfl)
    subst this
    rw [may_2 h rfl]; rfl
theorem may_out {k : Int} {tok : ByteArray} {l : List Wr} (h : 24 < l.length) : may ⟨k, tok, l⟩ = false := by
  cases e : may ⟨k, tok, l⟩ with
  | false => rfl
  | true => have := may_len e; simp only at this; omega
theorem may_two {tok : ByteArray} {l : List Wr} (h : 0 < l.length) : may ⟨2, tok, l⟩ = false := by
  by_cases ht : tok.size < 1 ∨ 16 < tok.size
  · exact may_t1 ht
  · rw [may_2 ht rfl]; simp only; simp; intro e; rw [e] at h; simp at h
end Bm

set_option maxHeartbeats 4000000 in
theorem refMayB_any (k : Int) (tok : ByteArray) (A : Option Addr) (n c : Nat) (l : List Wr) (w : World) (hf : Lst writeK w A n l) (hn : n ≤ maxLen) :
    Calls Tryz.prog 33 #[batV k tok A n c] w fun e w' => e = .returned (.bool (Bm.may ⟨k, tok, l⟩)) ∧ Q w w' := by
  have hl := hf.len
  unfold maxLen at hn
  by_cases h1 : k < 1
  · have HR := Lib.hid (Bm.may_3 (b := ⟨k, tok, l⟩) (by simp only; omega) (by simp only; omega))
    clear hf hl
    go_enter Tryz.func33, Tryz.ntmps33
    go_wp2
    go_ret
    exact ⟨ret_bool HR.out.symm, (Q.refl _).alloc _⟩
  by_cases h2 : (2 : Int) < k
  · have HR := Lib.hid (Bm.may_3 (b := ⟨k, tok, l⟩) (by simp only; omega) (by simp only; omega))
    clear hf hl
    go_enter Tryz.func33, Tryz.ntmps33
    go_wp2
    go_ret
    exact ⟨ret_bool HR.out.symm, (Q.refl _).alloc _⟩
  by_cases h3 : (tok.size : Int) < 1
  · have HR := Lib.hid (Bm.may_t1 (b := ⟨k, tok, l⟩) (.inl (by simp only; omega)))
    clear hf hl
    go_enter Tryz.func33, Tryz.ntmps33
    go_wp2
    go_ret
    exact ⟨ret_bool HR.out.symm, (Q.refl _).alloc _⟩
  by_cases h4 : (16 : Int) < (tok.size : Int)
  · have HR := Lib.hid (Bm.may_t1 (b := ⟨k, tok, l⟩) (.inr (by simp only; omega)))
    clear hf hl
    go_enter Tryz.func33, Tryz.ntmps33
    go_wp2
    go_ret
    exact ⟨ret_bool HR.out.symm, (Q.refl _).alloc _⟩
  by_cases h5 : (24 : Int) < (n : Int)
  · have HR := Lib.hid (Bm.may_out (k := k) (tok := tok) (l := l) (by omega))
    clear hf hl
    go_enter Tryz.func33, Tryz.ntmps33
    go_wp2
    go_ret
    exact ⟨ret_bool HR.out.symm, (Q.refl _).alloc _⟩
  have hz : (k == 2) = true ∧ ¬((0 : Int) < (n : Int)) ∨ (k == 2) = false ∨ (k = 2 ∧ (0 : Int) < (n : Int)) := by
    by_cases e : k = 2
    · by_cases e2 : (0 : Int) < (n : Int)
      · exact .inr (.inr ⟨e, e2⟩)
      · exact .inl ⟨by simpa using e, e2⟩
    · exact .inr (.inl (by simpa using e))
  have hk2 : k = 2 → (k == 2) = true := fun e => by simpa using e
  rcases hz with hz | hz | hz
  rotate_left 2
  · obtain ⟨rfl, h6⟩ := hz
    have HR := Lib.hid (Bm.may_two (tok := tok) (l := l) (by omega))
    clear hf hl hk2
    go_enter Tryz.func33, Tryz.ntmps33
    go_wp2
    go_ret
    exact ⟨ret_bool HR.out.symm, (Q.refl _).alloc _⟩
  · obtain ⟨hz, hz0⟩ := hz
    have e : n = 0 := by omega
    subst e
    have HM := Lib.hid (show Bm.may ⟨k, tok, l⟩ = true by
      have e := List.eq_nil_of_length_eq_zero hl
      subst e
      rw [Bm.may_rest (by omega) (by omega) (by simp) (fun _ => rfl)]; rfl)
    clear hf hl hk2 h5 hz0
    go_enter Tryz.func33, Tryz.ntmps33
    go_wp2
    have X0 := Lib.hid (Bx.new w [.int .i64 k, .string tok, .slice A 0 c] 48)
    go_loopw [3] (fun i wr => i = .int .i64 0 ∧ Q (w.alloc (.cells #[.int .i64 k, .string tok, .slice A 0 c] 48)) wr) (fun _ _ => 0)
    case atStart => exact ⟨rfl, Q.refl _⟩
    case round =>
      obtain ⟨rfl, q⟩ := hrel
      obtain ⟨x0, x1, x2⟩ := (X0.out.q q).get3.1
      have HQ0 := Lib.hid (((Q.refl w).alloc _).trans q)
      clear q
      go_wp2
      go_ret
      exact ⟨ret_bool HM.out.symm, HQ0.out⟩
  · have hM : Bm.may ⟨k, tok, l⟩ = (Bm.rise l && !l.any Bm.wrong) := Bm.may_rest (by omega) (by omega) (by omega) (fun e => by rw [hk2 e] at hz; cases hz)
    have HM := Lib.hid hM
    have HF := Lib.hid hf
    have HL := Lib.hid hl
    clear hM hf hl hk2

    go_enter Tryz.func33, Tryz.ntmps33
    go_wp2
    have X0 := Lib.hid (Bx.new w [.int .i64 k, .string tok, .slice A n c] 48)
    go_loopw [3] (fun i wr => ∃ j : Nat, j ≤ n ∧ i = .int .i64 j ∧ Q (w.alloc (.cells #[.int .i64 k, .string tok, .slice A n c] 48)) wr ∧ (∀ i, ∀ h : i < l.length, i < j → Bm.wrong l[i] = false) ∧ ∀ i, ∀ h : i + 1 < l.length, i + 1 < j → lt (l[i]'(by omega)).key l[i + 1].key = true) (fun i _ => n - (intOf i).toNat)
    case atStart => exact ⟨0, Nat.zero_le _, rfl, Q.refl _, fun _ _ h => by omega, fun _ _ h => by omega⟩
    case round =>
      obtain ⟨j, hj, rfl, q, hw, hr⟩ := hrel
      have HW := Lib.hid hw
      have HS := Lib.hid hr
      have HQ := Lib.hid q
      have HQ0 := Lib.hid (((Q.refl w).alloc _).trans q)
      have x0 := (X0.out.q q).get3.1
      obtain ⟨x0, x1, x2⟩ := x0
      have hsz : w.heap.size < wr.heap.size := by have := q.size; simp at this; omega
      clear hw hr q
      by_cases hlt : j < n
      · have hjl : j < l.length := by have := HL.out; omega
        have hjn : (j : Int) < (n : Int) := by omega
        obtain ⟨ad, hA, hab, y0, y1, y2⟩ := load_write (HF.out.q HQ0.out) hlt hjl
        have HX := Lib.hid (show ∃ x, x = l[j] from ⟨_, rfl⟩)
        have HNo := Lib.hid (fun (h : Bm.wrong l[j] = true) => show Bm.may ⟨k, tok, l⟩ = false from by rw [HM.out, List.any_eq_true.2 ⟨_, List.getElem_mem hjl, h⟩]; simp)
        have HW2 := Lib.hid (fun (h : Bm.wrong l[j] = false) (i : Nat) (hi : i < l.length) (hij : i < j + 1) => show Bm.wrong l[i] = false from by
          by_cases e : i < j
          · exact HW.out i hi e
          · have e : i = j := by omega
            subst e
            exact h)
        have HS2 := Lib.hid (fun (h : ∀ h0 : 0 < j, lt (l[j - 1]'(by omega)).key l[j].key = true) (i : Nat) (hi : i + 1 < l.length) (hij : i + 1 < j + 1) => show lt (l[i]'(by omega)).key l[i + 1].key = true from by
          by_cases e : i + 1 < j
          · exact HS.out i hi e
          · have e : j = i + 1 := by omega
            subst e
            exact h (by omega))
        have HNo2 := Lib.hid (fun (h0 : 0 < j) (h : lt (l[j - 1]'(by omega)).key l[j].key = false) => show Bm.may ⟨k, tok, l⟩ = false from by
          obtain ⟨m, rfl⟩ : ∃ m, j = m + 1 := ⟨j - 1, by omega⟩
          rw [HM.out, Bm.rise_no hjl h]; simp)
        have KL := Lib.hid (fun (h0 : 0 < j) W (ha : (l[j - 1]'(by omega)).key.size ≤ 32) (hb : l[j].key.size ≤ 32) => less_any (l[j - 1]'(by omega)).key l[j].key W (by unfold maxLen; omega) (by unfold maxLen; omega))
        have HPr := Lib.hid (fun (h0 : 0 < j) => show (l[j - 1]'(by omega)).key.size ≤ 32 from (Bm.wrong_not (HW.out (j - 1) (by omega) (by omega))).2.1)
        have YP := Lib.hid (fun (h0 : 0 < j) => load_write (k := j - 1) (HF.out.q HQ0.out) (by omega) (by omega))
        subst hA
        clear HX
        by_cases h0 : 0 < j
        · obtain ⟨ad', e, hab', z0, z1, z2⟩ := YP.out h0
          injection e with e
          subst e
          have HNo2 := Lib.hid (HNo2.out h0)
          have KL := Lib.hid (KL.out h0)
          have HPr := Lib.hid (HPr.out h0)
          have HS2 := Lib.hid (fun (h : lt (l[j - 1]'(by omega)).key l[j].key = true) => HS2.out (fun _ => h))
          generalize hp : (l[j - 1]'(by omega)).key = p at z0 HNo2 KL HPr HS2
          generalize hx : l[j] = x at y0 y1 y2 HNo HW2 HNo2 KL HS2
          clear hp hx z1 z2 YP
          have h0' : (0 : Int) < (j : Int) := by omega
          obtain ⟨m, hm⟩ : ∃ m, j - 1 = m := ⟨_, rfl⟩
          rw [hm] at z0
          have e0 : IntKind.i64.wrap ((j : Int) - 1) = (m : Int) := by rw [IntKind.wrap_i64]; omega
          have e3 : (m : Int) < (n : Int) := by omega
          have hab2 : (ad.add (m * 3)).block < wr.heap.size := by rw [addr_block]; exact hab
          have z9 := fun (o : Obj) => box_ ((Q.refl wr).alloc o) z0
          clear hm
          obtain ⟨a, b, d⟩ := x
          dsimp only at *
          by_cases c1 : (a.size : Int) < 1
          · have HE := Lib.hid (HNo.out (Bm.wrong_t (.inl (by simp only; omega))))
            go_wp2
            go_ret
            exact ⟨ret_bool HE.out.symm, HQ0.out.alloc _⟩
          by_cases c2 : (32 : Int) < (a.size : Int)
          · have HE := Lib.hid (HNo.out (Bm.wrong_t (.inr (.inl (by simp only; omega)))))
            go_wp2
            go_ret
            exact ⟨ret_bool HE.out.symm, HQ0.out.alloc _⟩
          by_cases c3 : (64 : Int) < (b.size : Int)
          · have HE := Lib.hid (HNo.out (Bm.wrong_t (.inr (.inr (by simp only; split <;> omega)))))
            go_wp2
            go_ret
            exact ⟨ret_bool HE.out.symm, HQ0.out.alloc _⟩
          cases d
          · skip
            have HOk := Lib.hid (HW2.out (Bm.wrong_f (by simp only [Bool.false_eq_true, if_false]; omega)))
            have HA := Lib.hid (KL.out)
            have KL2 := Lib.hid (fun W => KL.out W HPr.out (by omega))
            by_cases hh : lt p a = true
            · have HS3 := Lib.hid (HS2.out hh)
              rw [hh] at KL2
              clear hh
              go_wp2
              go_quiet ((go_at_call 73; exact Calls.quiet_of (KL2.out _)))
              all_goals
                go_wp2
                go_roundw
                case rel => exact ⟨j + 1, by omega, by go_num, (HQ.out.alloc _).drewN _, HOk.out, HS3.out⟩
                case measure => simp [intOf]; omega
            · have hh' : lt p a = false := by simpa using hh
              have HE := Lib.hid (HNo2.out hh')
              rw [hh'] at KL2
              clear hh hh'
              go_wp2
              go_quiet ((go_at_call 73; exact Calls.quiet_of (KL2.out _)))
              all_goals
                go_wp2
                go_ret
                exact ⟨ret_bool HE.out.symm, (HQ0.out.alloc _).drewN _⟩
          · by_cases c4 : b = ⟨#[]⟩
            · subst c4
              have HOk := Lib.hid (HW2.out (Bm.wrong_f (by simp only [if_true]; have : (⟨#[]⟩ : ByteArray).size = 0 := rfl; omega)))
              have HA := Lib.hid (KL.out)
              have KL2 := Lib.hid (fun W => KL.out W HPr.out (by omega))
              by_cases hh : lt p a = true
              · have HS3 := Lib.hid (HS2.out hh)
                rw [hh] at KL2
                clear hh
                go_wp2
                go_quiet ((go_at_call 73; exact Calls.quiet_of (KL2.out _)))
                all_goals
                  go_wp2
                  go_roundw
                  case rel => exact ⟨j + 1, by omega, by go_num, (HQ.out.alloc _).drewN _, HOk.out, HS3.out⟩
                  case measure => simp [intOf]; omega
              · have hh' : lt p a = false := by simpa using hh
                have HE := Lib.hid (HNo2.out hh')
                rw [hh'] at KL2
                clear hh hh'
                go_wp2
                go_quiet ((go_at_call 73; exact Calls.quiet_of (KL2.out _)))
                all_goals
                  go_wp2
                  go_ret
                  exact ⟨ret_bool HE.out.symm, (HQ0.out.alloc _).drewN _⟩
            · obtain ⟨c5, c6, c7⟩ := empty_no c4
              have HE := Lib.hid (HNo.out (Bm.wrong_t (.inr (.inr (by simp only [if_true]; have : b.size ≠ 0 := fun e => c4 (show b = ByteArray.empty by simpa using e); omega)))))
              clear c4
              go_wp2
              go_ret
              exact ⟨ret_bool HE.out.symm, HQ0.out.alloc _⟩
        · have e0 : ¬((0 : Int) < (j : Int)) := by omega
          have HS2 := Lib.hid (HS2.out (fun h => absurd h (by omega)))
          generalize hx : l[j] = x at y0 y1 y2 HNo HW2
          clear hx YP HPr KL HNo2
          obtain ⟨a, b, d⟩ := x
          dsimp only at *
          by_cases c1 : (a.size : Int) < 1
          · have HE := Lib.hid (HNo.out (Bm.wrong_t (.inl (by simp only; omega))))
            go_wp2
            go_ret
            exact ⟨ret_bool HE.out.symm, HQ0.out.alloc _⟩
          by_cases c2 : (32 : Int) < (a.size : Int)
          · have HE := Lib.hid (HNo.out (Bm.wrong_t (.inr (.inl (by simp only; omega)))))
            go_wp2
            go_ret
            exact ⟨ret_bool HE.out.symm, HQ0.out.alloc _⟩
          by_cases c3 : (64 : Int) < (b.size : Int)
          · have HE := Lib.hid (HNo.out (Bm.wrong_t (.inr (.inr (by simp only; split <;> omega)))))
            go_wp2
            go_ret
            exact ⟨ret_bool HE.out.symm, HQ0.out.alloc _⟩
          cases d
          · skip
            have HOk := Lib.hid (HW2.out (Bm.wrong_f (by simp only [Bool.false_eq_true, if_false]; omega)))
            go_wp2
            go_roundw
            case rel => exact ⟨j + 1, by omega, by go_num, HQ.out.alloc _, HOk.out, HS2.out⟩
            case measure => simp [intOf]; omega
          · by_cases c4 : b = ⟨#[]⟩
            · subst c4
              have HOk := Lib.hid (HW2.out (Bm.wrong_f (by simp only [if_true]; have : (⟨#[]⟩ : ByteArray).size = 0 := rfl; omega)))
              go_wp2
              go_roundw
              case rel => exact ⟨j + 1, by omega, by go_num, HQ.out.alloc _, HOk.out, HS2.out⟩
              case measure => simp [intOf]; omega
            · obtain ⟨c5, c6, c7⟩ := empty_no c4
              have HE := Lib.hid (HNo.out (Bm.wrong_t (.inr (.inr (by simp only [if_true]; have : b.size ≠ 0 := fun e => c4 (show b = ByteArray.empty by simpa using e); omega)))))
              clear c4
              go_wp2
              go_ret
              exact ⟨ret_bool HE.out.symm, HQ0.out.alloc _⟩
      · have hjn : ¬((j : Int) < (n : Int)) := by omega
        have HE := Lib.hid (show Bm.may ⟨k, tok, l⟩ = true by
          rw [HM.out, Bm.rise_all (fun i hi => HS.out i hi (by have := HL.out; omega))]
          have : l.any Bm.wrong = false := by
            rw [List.any_eq_false]; intro a ha
            obtain ⟨i, hi, rfl⟩ := List.getElem_of_mem ha
            rw [HW.out i hi (by have := HL.out; omega)]; simp
          rw [this]; rfl)
        go_wp2
        go_ret
        exact ⟨ret_bool HE.out.symm, HQ0.out⟩
end Go.Proofs.YtbbfbdfmeifdfaaGreatDoor

/- What KvOnce wants: the document's Same at one store; sizes of a store that was only committed to; a lone text in a box of its own. -/
namespace Go.Proofs.YtbbfbdfmeifdfaaGreatDoor
set_option maxRecDepth 100000
open Go.RowKit Dkm Prm Km Wm
set_option linter.unusedVariables false
set_option linter.unusedSimpArgs false

/-! ### A store behind j commits -/
structure Kg (j : Nat) (x : Ks) : Prop where
  kn : Kn j x
  bnd : Bnd 2097152 x.d
  dl : x.s.data.length ≤ 24 * j
  tl : x.s.toks.length ≤ j
theorem Kg.com {j : Nat} {x : Ks} (h : Kg j x) (b : Bm.Bt) : Kg (j + 1) (comM x b).1 := by
  have h1 := h.dl
  have h2 := h.tl
  have h3 := Bm.doo_len x.s b
  refine ⟨(h.kn.com b).1, Bnd.com h.bnd (by omega) b, ?_, ?_⟩
  all_goals
    by_cases he : (comM x b).2 = 0
    · rw [(comM_ok he).2]; omega
    · rw [comM_bad he]; omega
theorem Kg.crash {j : Nat} {x : Ks} (h : Kg j x) (ks : List Int) : (crsM x ks).2 = 0 ∧ Kg j (crsM x ks).1 ∧ (crsM x ks).1.s = x.s ∧ (recM (crs x.d ks) 1).2.1.length ≤ j ∧ (redd mB (crs x.d ks).fs).2 ≠ 0 := by
  obtain ⟨c1, c2, c3, c4, c5⟩ := h.kn.crash ks
  refine ⟨c1, ⟨c2, ?_, by rw [c3]; exact h.dl, by rw [c3]; exact h.tl⟩, c3, c4, c5⟩
  obtain ⟨w, _, hd, _⟩ := c2.log
  have hc : (crsM x ks).1.d = crs x.d ks := by
    have e := c1
    have : crsM x ks = opnC 1 0 ⟨[], []⟩ (recM (crs x.d ks) 1) := openM_no c5
    rw [this] at e ⊢
    obtain ⟨seg, e2, _⟩ : ∃ seg, recM (crs x.d ks) 1 = (crs x.d ks, (recM (crs x.d ks) 1).2.1, seg, 0) ∧ True := by
      obtain ⟨w, hI, hd, hseg, hdead, hsafe, _⟩ := h.kn.log
      obtain ⟨seg, e3, _⟩ := crash_safe hI hsafe hdead ks
      rw [hd] at e3
      exact ⟨seg, by rw [e3], trivial⟩
    rw [e2] at e ⊢
    unfold opnC at e ⊢
    rw [if_neg (by simp)] at e ⊢
    unfold endM at e ⊢
    split
    · rename_i hn; rw [hn] at e; exact absurd e (by simp)
    · rfl
  rw [hc]
  exact Bnd.crsK h.bnd ks
theorem kg_new {room : Int} (h0 : 0 ≤ room) (h1 : room ≤ 9223372036854775807) : Kg 0 ⟨⟨[], room, -1, false⟩, 1, 1, 0, ⟨[], []⟩, false⟩ := by
  have := open_kn room
  rw [open_new] at this
  exact ⟨this, ⟨by simp, by simp, ⟨by show (-9223372036854775808 : Int) ≤ room; omega, h1⟩, ⟨by simp, by simp⟩⟩, Nat.zero_le _, Nat.zero_le _⟩
theorem rec_new (room fuse : Int) : recM ⟨[], room, fuse, false⟩ 1 = (⟨[], room, fuse, false⟩, [], 1, 0) := by
  unfold recM
  rw [if_neg (by decide)]
  show recF (999999 + 1) _ _ _ _ _ = _
  unfold recF
  rw [if_neg (by decide), if_pos (by rw [redd_none (by simp)]; decide)]
/-- Commit into such a store. -/
theorem Com_kg {j : Nat} {x : Ks} (h : Kg j x) (hj : j ≤ 1000) (p : Kp) (k : Int) (tok : ByteArray) (D : Option Addr) (dn dc : Nat) (ws : List Wr) (w : World) (a b : Addr) (hT : Kt w a b) (hk : Kr w p x) (hD : Lst writeK w D dn ws) (hdn : dn ≤ maxLen) :
    Calls Tryz.prog 21 #[kvV p x, batV k tok D dn dc] w (RetK w (comM x ⟨k, tok, ws⟩).1 [.int .i64 (comM x ⟨k, tok, ws⟩).2]) :=
  Commit_any p x k tok D dn dc ws w a b hT hk (h.bnd.more (by omega)) hD hdn (by have := h.dl; omega) (by have := h.tl; omega)
/-- a crash of it. -/
theorem Crs_kg {j : Nat} {x : Ks} (h : Kg j x) (hj : j ≤ 1000) (p : Kp) (w : World) (a b : Addr) (hT : Kt w a b) (hk : Kr w p x) :
    Calls Tryz.prog 25 #[kvV p x, .slice none 0 0] w (RetK w (crsM x []).1 [.int .i64 (crsM x []).2]) := by
  obtain ⟨_, _, _, c4, c5⟩ := h.kn.crash []
  exact kCrash_of p x none 0 0 [] (crsM x []) w hk (Ints.none_ _ _) (by unfold maxLen; omega) (mx21 h.bnd) (Lib.hid fun A n c W2 q2 hd => kOpen_no A n c (crs x.d []) W2 a b (hT.q q2) hd (Bnd.crsK h.bnd []) c5 (by omega))

/-! ### A lone text -/
theorem Holds.lone {w : World} {k : Nat} {A : Option Addr} {n : Nat} {xs : List Value} (h : Holds w w.heap.size k A n xs) (hx : ∀ u ∈ xs, ∃ s, u = Value.string s) (h1 : xs.length ≠ 1) {b : Nat} {u0 u2 : Value} (h0 : w.cell? ⟨b, 0, none⟩ = some u0) (n0 : NT u0) (h2 : w.cell? ⟨b, 2, none⟩ = some u2) (n2 : NT u2) (v : Value) :
    Holds (w.setCell ⟨b, 1, none⟩ v) (w.setCell ⟨b, 1, none⟩ v).heap.size k A n xs := by
  rw [show (w.setCell ⟨b, 1, none⟩ v).heap.size = w.heap.size by simp [World.setCell]]
  refine ⟨h.1, fun j u hj => ?_⟩
  obtain ⟨ad, e, hb, hc⟩ := h.2 j u hj
  refine ⟨ad, e, hb, ?_⟩
  have hne : (⟨b, 1, none⟩ : Addr) ≠ ad.add j := by
    intro e2
    have hjl : j < xs.length := (List.getElem?_eq_some_iff.1 hj).1
    by_cases hz : j = 0
    · subst hz
      rw [show ad.add 0 = ad from if_pos rfl] at e2
      have hn : 1 < xs.length := by omega
      obtain ⟨ad2, e3, _, hc2⟩ := h.2 1 xs[1] (List.getElem?_eq_getElem hn)
      rw [e] at e3
      injection e3 with e3
      subst e3
      rw [← e2, show (Addr.mk b 1 none).add 1 = ⟨b, 2, none⟩ from if_neg (by decide), h2] at hc2
      injection hc2 with hc2
      obtain ⟨s, hs⟩ := hx xs[1] (List.getElem_mem hn)
      exact n2 s (hc2.trans hs)
    · rw [show ad.add j = ⟨ad.block, ad.off + j, none⟩ from if_neg hz] at e2
      injection e2 with r1 r2 _
      have hp : 0 < xs.length := by omega
      obtain ⟨ad2, e3, _, hc2⟩ := h.2 0 xs[0] (List.getElem?_eq_getElem hp)
      rw [e] at e3
      injection e3 with e3
      subst e3
      rw [show ad.add 0 = ad from if_pos rfl] at hc2
      have hsp : ad.spot = none := by
        obtain ⟨ab, ao, asp⟩ := ad
        cases asp with
        | none => rfl
        | some z =>
          unfold World.cell? at hc2
          split at hc2
          · simp at hc2
          · cases hc2
      have ha : ad = ⟨b, 0, none⟩ := by
        obtain ⟨ab, ao, asp⟩ := ad
        simp only at r1 r2 hsp
        subst hsp
        simp only [Addr.mk.injEq, and_true]
        exact ⟨r1.symm, by omega⟩
      rw [ha, h0] at hc2
      injection hc2 with hc2
      obtain ⟨s, hs⟩ := hx xs[0] (List.getElem_mem hp)
      exact n0 s (hc2.trans hs)
  rw [World.cell?_setCell_other _ _ _ _ hne]
  exact hc
theorem rowsK_one (l : List Fil) : (rows l).length ≠ 1 := by
  cases l with
  | nil => simp [rows]
  | cons f l => simp [rows, Fil.row]
theorem prows_one (l : List Prm.Pr) : (pairK.rows l).length ≠ 1 := by
  cases l with
  | nil => simp [Kind.rows]
  | cons f l =>
    show (pairK.row f ++ pairK.rows l).length ≠ 1
    simp [pairK]
theorem Kr.lone {w : World} {p : Kp} {x : Ks} (h : Kr w p x) {b : Nat} {u0 u2 : Value} (h0 : w.cell? ⟨b, 0, none⟩ = some u0) (n0 : NT u0) (h2 : w.cell? ⟨b, 2, none⟩ = some u2) (n2 : NT u2) (v : Value) : Kr (w.setCell ⟨b, 1, none⟩ v) p x :=
  ⟨⟨Holds.lone h.dsk.files (rows_txt _) (rowsK_one _) h0 n0 h2 n2 v, h.dsk.nil, h.dsk.le, h.dsk.cap, h.dsk.few⟩,
   ⟨Holds.lone h.data.lst (pairs_txt _) (prows_one _) h0 n0 h2 n2 v, h.data.nil, h.data.le, h.data.cap, h.data.few⟩,
   ⟨Holds.lone h.toks.lst (pairs_txt _) (prows_one _) h0 n0 h2 n2 v, h.toks.nil, h.toks.le, h.toks.cap, h.toks.few⟩⟩

/-! ### The document's Same, at one store -/
theorem sameD_refl8 (d : Dk) : sameD d d = true := by simp [sameD]
set_option maxHeartbeats 4000000 in
theorem ksame_one (p q : Kp) (x : Ks) (w : World) (h1 : Kr w p x) (h2 : Kr w q x) :
    Calls Tryz.prog 13 #[kvV p x, kvV q x] w fun e w' => e = .returned (.bool true) ∧ Q w w' := by
  have KD := Lib.hid (fun (W : World) (y : Q w W) => ref_same_any p.A q.A p.n p.c q.n q.c x.d x.d W (h1.dsk.files.q y) (h2.dsk.files.q y) h1.dsk.max h2.dsk.max)
  have KS := Lib.hid (fun (W : World) (y : Q w W) => refSameS_any p.B p.C q.B q.C p.bn p.bc p.cn p.cc q.bn q.bc q.cn q.cc x.s x.s W (h1.data.q y) (h1.toks.q y) (h2.data.q y) (h2.toks.q y))
  rw [sameD_refl8] at KD
  rw [decide_eq_true rfl] at KS
  have B1 := Lib.hid (Bx.new w (kL p x) 32)
  have B2 := Lib.hid (Bx.new (w.alloc (.cells (kL p x).toArray 32)) (kL q x) 32)
  rw [show (w.alloc (.cells (kL p x).toArray 32)).heap.size = w.heap.size + 1 by simp] at B2
  obtain ⟨A, n, c, B, bn, bc, C, cn, cc⟩ := p
  obtain ⟨A2, n2, c2, B2', bn2, bc2, C2, cn2, cc2⟩ := q
  obtain ⟨⟨l, room, fuse, off⟩, frm, seg, run, s, down⟩ := x
  simp only at KD KS
  clear h1 h2
  have X : Hid (Bx ((w.alloc (.cells #[.slice A n c, .int .i64 room, .int .i64 fuse, .bool off, .int .i64 frm, .int .i64 seg, .int .i64 run, .slice B bn bc, .slice C cn cc, .bool down] 32)).alloc (.cells #[.slice A2 n2 c2, .int .i64 room, .int .i64 fuse, .bool off, .int .i64 frm, .int .i64 seg, .int .i64 run, .slice B2' bn2 bc2, .slice C2 cn2 cc2, .bool down] 32)) w.heap.size (kL ⟨A, n, c, B, bn, bc, C, cn, cc⟩ ⟨⟨l, room, fuse, off⟩, frm, seg, run, s, down⟩)) := Lib.hid (B1.out.alloc _)
  have Y : Hid (Bx ((w.alloc (.cells #[.slice A n c, .int .i64 room, .int .i64 fuse, .bool off, .int .i64 frm, .int .i64 seg, .int .i64 run, .slice B bn bc, .slice C cn cc, .bool down] 32)).alloc (.cells #[.slice A2 n2 c2, .int .i64 room, .int .i64 fuse, .bool off, .int .i64 frm, .int .i64 seg, .int .i64 run, .slice B2' bn2 bc2, .slice C2 cn2 cc2, .bool down] 32)) (w.heap.size + 1) (kL ⟨A2, n2, c2, B2', bn2, bc2, C2, cn2, cc2⟩ ⟨⟨l, room, fuse, off⟩, frm, seg, run, s, down⟩)) := B2
  have QQ : Hid (Q w ((w.alloc (.cells #[.slice A n c, .int .i64 room, .int .i64 fuse, .bool off, .int .i64 frm, .int .i64 seg, .int .i64 run, .slice B bn bc, .slice C cn cc, .bool down] 32)).alloc (.cells #[.slice A2 n2 c2, .int .i64 room, .int .i64 fuse, .bool off, .int .i64 frm, .int .i64 seg, .int .i64 run, .slice B2' bn2 bc2, .slice C2 cn2 cc2, .bool down] 32))) := Lib.hid (((Q.refl w).alloc _).alloc _)
  clear B1 B2
  go_enter Tryz.func13, Tryz.ntmps13
  go_upto_region 1 with (fail)
  generalize ((w.alloc (.cells #[.slice A n c, .int .i64 room, .int .i64 fuse, .bool off, .int .i64 frm, .int .i64 seg, .int .i64 run, .slice B bn bc, .slice C cn cc, .bool down] 32)).alloc (.cells #[.slice A2 n2 c2, .int .i64 room, .int .i64 fuse, .bool off, .int .i64 frm, .int .i64 seg, .int .i64 run, .slice B2' bn2 bc2, .slice C2 cn2 cc2, .bool down] 32)) = W at X Y QQ ⊢
  obtain ⟨e0, e1, e2, e3, e4, e5, e6, e7, e8, e9⟩ := kget X.out
  obtain ⟨f0, f1, f2, f3, f4, f5, f6, f7, f8, f9⟩ := kget Y.out
  go_wp2_with fail
  refine (KD.out _ QQ.out).mono ?_
  rintro e w1 ⟨rfl, q1⟩
  have X1 := Lib.hid (X.out.q q1)
  have Y1 := Lib.hid (Y.out.q q1)
  have Q1 := Lib.hid (QQ.out.trans q1)
  clear q1 X Y QQ e0 e1 e2 e3 e4 e5 e6 e7 e8 e9 f0 f1 f2 f3 f4 f5 f6 f7 f8 f9
  obtain ⟨e0, e1, e2, e3, e4, e5, e6, e7, e8, e9⟩ := kget X1.out
  obtain ⟨f0, f1, f2, f3, f4, f5, f6, f7, f8, f9⟩ := kget Y1.out
  go_wp2_with fail
  refine (KS.out _ Q1.out).mono ?_
  rintro e w2 ⟨rfl, q2⟩
  have X2 := Lib.hid (X1.out.q q2)
  have Y2 := Lib.hid (Y1.out.q q2)
  have Q2 := Lib.hid (Q1.out.trans q2)
  clear q2 X1 Y1 Q1 e0 e1 e2 e3 e4 e5 e6 e7 e8 e9 f0 f1 f2 f3 f4 f5 f6 f7 f8 f9
  obtain ⟨e0, e1, e2, e3, e4, e5, e6, e7, e8, e9⟩ := kget X2.out
  obtain ⟨f0, f1, f2, f3, f4, f5, f6, f7, f8, f9⟩ := kget Y2.out
  go_wp2
  all_goals
    go_ret
    exact ⟨by first | rfl | simp, by first | exact Q2.out | exact Q2.out.drew⟩
end Go.Proofs.YtbbfbdfmeifdfaaGreatDoor

/- What a law's arguments read as, where their bulk is bounded; a walk under that reading gives what the row asks. -/
namespace Go.Proofs.YtbbfbdfmeifdfaaGreatDoor
set_option maxRecDepth 100000
open Go.ChangeShapes Go.WideShapes Go.ChangeAt Go.RowKit
set_option linter.unusedVariables false

/-- the cells cs read as something of type t of a bulk of at most 2^20. -/
def RdU (w : World) (t : TypeId) (cs : List Value) : Prop :=
  ∃ (H : Type) (enc : TypeId × Value → H) (n : Nat) (d : DataW H) (ps : List MemPlace), DataW.trod enc Tryz.prog w 0 (fun _ => true) true n t cs = some (d, ps) ∧ Rows.uptoBulk d ≤ 1048576
theorem bulk_one {H : Type} (d : DataW H) : 1 ≤ Rows.uptoBulk d := by
  cases d with
  | lit l => cases l <;> simp [Rows.uptoBulk]
  | nil => simp [Rows.uptoBulk]
  | ptr d => simp [Rows.uptoBulk]
  | slice elems spare => simp [Rows.uptoBulk]
  | agg parts => simp [Rows.uptoBulk]
  | iface t d => simp [Rows.uptoBulk]
  | map entries => simp [Rows.uptoBulk]
  | held h => simp [Rows.uptoBulk]
theorem bulk_part {H : Type} {d : DataW H} {l : List (DataW H)} (h : d ∈ l) : Rows.uptoBulk d ≤ Rows.uptoBulkAll l := by
  induction l with
  | nil => cases h
  | cons x r ih =>
    simp only [Rows.uptoBulkAll]
    cases List.mem_cons.1 h with
    | inl e => subst e; omega
    | inr e => have := ih e; omega
theorem bulk_len {H : Type} (l : List (DataW H)) : l.length ≤ Rows.uptoBulkAll l := by
  induction l with
  | nil => simp [Rows.uptoBulkAll]
  | cons x r ih => have := bulk_one x; simp only [Rows.uptoBulkAll, List.length_cons]; omega
theorem RdU.string {w : World} {t : TypeId} {s : ByteArray} (h : RdU w t [.string s]) (ht : Tryz.prog.underlying t = some .string) : s.size ≤ 1048576 := by
  obtain ⟨H, enc, n, d, ps, ht', hw⟩ := h
  obtain ⟨s', e, hx, hm⟩ := DataW.trod_string ht ht'
  injection hx with h1 h2
  subst h1
  simp only [List.cons.injEq, Value.string.injEq, and_true] at e
  subst e
  simp only [Rows.uptoBulk] at hw
  have : s.data.toList.length = s.size := by simp
  omega
theorem RdU.field {w : World} {t : TypeId} {cs : List Value} {fs : Array Field} (h : RdU w t cs) (ht : Tryz.prog.underlying t = some (.struct fs)) (i : Nat) {ty : TypeId} (off k : Nat) (hi : (fs[i]?).map (fun f => (f.type, f.offset)) = some (ty, off)) (hk : Tryz.prog.cellsOf ty = k) :
    RdU w ty ((cs.drop off).take k) := by
  obtain ⟨f, hf, he⟩ := Option.map_eq_some_iff.1 hi
  injection he with e1 e2
  subst e1 e2 hk
  obtain ⟨H, enc, n, d, ps, ht', hw⟩ := h
  obtain ⟨xs, m, rfl, hx, hl, hlen, hg⟩ := DataW.trod_struct ht ht'
  injection hx with h1 h2
  subst h1
  have hil : i < fs.size := (Array.getElem?_eq_some_iff.1 hf).1
  have hxi : xs[i]? = some xs[i] := List.getElem?_eq_getElem (by omega)
  refine ⟨H, enc, m, xs[i].1, xs[i].2, (hg i f hf).trans hxi, ?_⟩
  simp only [Rows.uptoBulk] at hw
  have := bulk_part (l := xs.map (·.1)) (List.mem_map.2 ⟨xs[i], List.getElem_mem _, rfl⟩)
  omega
theorem RdU.slice {w : World} {t e : TypeId} {a : Addr} {len cap : Nat} (h : RdU w t [.slice (some a) len cap]) (ht : Tryz.prog.underlying t = some (.slice e)) :
    cap ≤ 1048576 ∧ ∀ i, i < cap → ∃ cs', w.cells? 0 (a.add (i * Tryz.prog.cellsOf e)) (Tryz.prog.cellsOf e) = some cs' ∧ RdU w e cs' := by
  obtain ⟨H, enc, n, d, ps, ht', hw⟩ := h
  rcases Deep.open_slice ht ht' with ⟨h0, _⟩ | ⟨a', len', cap', m, n', D, Pl, hcs, hb, hl, hm, hmm, hx, hi⟩
  · simp at h0
  · simp only [List.cons.injEq, Value.slice.injEq, Option.some.injEq, and_true] at hcs
    obtain ⟨rfl, rfl, rfl⟩ := hcs
    simp only [if_true] at hmm
    subst hmm
    injection hx with h1 h2
    subst h1
    simp only [Rows.uptoBulk] at hw
    have l1 := bulk_len ((List.range len).map D)
    have l2 := bulk_len ((List.range (m - len)).map fun i => D (len + i))
    refine ⟨by simp only [List.length_map, List.length_range] at l1 l2; omega, fun i hi' => ?_⟩
    obtain ⟨cs', hc, htr⟩ := hi i hi'
    refine ⟨cs', hc, H, enc, n', D i, Pl i, htr, ?_⟩
    by_cases hlt : i < len
    · have := bulk_part (l := (List.range len).map D) (List.mem_map.2 ⟨i, by simpa using hlt, rfl⟩)
      omega
    · have := bulk_part (d := D i) (l := (List.range (m - len)).map fun i => D (len + i)) (List.mem_map.2 ⟨i - len, by simp; omega, by rw [show len + (i - len) = i by omega]⟩)
      omega

theorem RdU.cap {w : World} {t e : TypeId} {a : Addr} {len cap : Nat} (h : RdU w t [.slice (some a) len cap]) (ht : Tryz.prog.underlying t = some (.slice e)) : cap ≤ 1048576 := (h.slice ht).1
/-- A walk of a law in one world, whatever its arguments read as, gives what its row asks; 'up': its second form. -/
theorem coreU {f : FuncId} {fn : Func} {s : ChangeSpec} (up : Bool) (n : Nat) (hn : fn.params.size = n) (hvars : s.vars = []) (hrt : fn.resultTypes = #[4])
    (hread0 : fn.params.toList.all (fun t => Tryz.prog.readableRec t && decide (t < Tryz.prog.types.size)) = true)
    (hs : ∀ (H : Type) (ds : List (DataW H)), ds.length = n → (s.fn H ds).results = [.lit (.bool true)] ∧ (s.fn H ds).args = ds ∧ (s.fn H ds).vars = [])
    (H : Type) (enc : TypeId × Value → H) (W : World) (base : Nat) (args : Array Value) (ds gs : List (DataW H)) (before : List MemPlace)
    (hval : ∀ (j : Nat) t v, fn.params[j]? = some t → args[j]? = some v → Value.okWide Tryz.prog W .any base t v)
    (hW : DataW.Whole enc Tryz.prog fn.params.toList s.vars false W args.toList ds gs before)
    (hcond : up = true → Rows.uptoBulkAll (ds ++ gs) ≤ 1048576)
    (hsz : (DataW.weightsEach Tryz.prog (fn.params.toList ++ s.plain.varTypes Tryz.prog) (ds ++ gs)).all (· ≤ reachBytes) = true)
    (walk : args.size = n → (∀ (j : Nat) t v, fn.params[j]? = some t → args[j]? = some v → RdV W t v ∧ (up = true → RdU W t v.cells.toList)) → Calls Tryz.prog f args W fun e W' => e = .returned (.bool true) ∧ Q W W') :
    Calls Tryz.prog f args W fun e W' => ∃ v, e = .returned v ∧ s.post enc Tryz.prog fn false true false false W args v W' := by
  have hread : ∀ t ∈ fn.params.toList, Tryz.prog.readableRec t = true ∧ t < Tryz.prog.types.size := fun t ht => by
    have := List.all_eq_true.1 hread0 t ht
    simpa using this
  have hW' := hW
  have hlt : ∀ x ∈ before, x.block < W.heap.size := fun x hx => by simpa using hW.lt x hx
  obtain ⟨p, q, hA, hV, rfl, hfz, hnd⟩ := hW
  rw [hvars] at hV
  obtain ⟨rfl, rfl⟩ := trodVars_none hV
  obtain ⟨e1, e2, h3⟩ := trodAll_len _ _ _ _ hA
  have hps : fn.params.toList.length = n := by simpa using hn
  have hds : ds.length = n := by omega
  have hsz2 : ∀ x ∈ DataW.weightsEach Tryz.prog (fn.params.toList ++ s.plain.varTypes Tryz.prog) (ds ++ []), x ≤ 140737488351232 := fun x hx => by
    have := List.all_eq_true.1 hsz x hx
    simpa [reachBytes] using of_decide_eq_true this
  refine (walk (by rw [← hps, ← e1]; simp) (fun j t v hj hv => ?_)).mono fun e W' ⟨he, hg⟩ => ?_
  · obtain ⟨d, p', hd, fuel, htr⟩ := h3 j t v (by simpa using hj) (by simpa using hv)
    have hjl : j < n := by
      have := (Array.getElem?_eq_some_iff.1 hj).1; omega
    refine ⟨⟨⟨base, hval j t v hj hv⟩, H, enc, fuel, d, p', htr, fun x hx => hsz2 x (DataW.weights_mem_each (j := j) (t := t) (d := d) ?_ (by simpa using hd) x hx)⟩, fun hup => ⟨H, enc, fuel, d, p', htr, ?_⟩⟩
    · rw [List.getElem?_append_left (by omega)]
      simpa using hj
    · have h1 := hcond hup
      have h2 := bulk_part (d := d) (l := ds ++ []) (List.mem_append_left _ (List.mem_of_getElem? hd))
      omega
  · subst he
    simp only [List.append_nil] at hW' hlt
    obtain ⟨a1, a2, a3⟩ := hs H ds hds
    refine ⟨_, rfl, ds, [], p, [], p, [], hW', ?_, ?_, ?_, hg.below.frame _, fun h => by cases h⟩
    · rw [List.append_nil, a1, hrt]
      exact trodAll_mk1 (shut_bool Tryz.underlying4 _)
    · rw [List.append_nil, a2]
      exact trodAll_keep hg _ _ _ _ hread hA hlt
    · rw [List.append_nil, a3, hvars]
      rfl
end Go.Proofs.YtbbfbdfmeifdfaaGreatDoor

/- The frame of a law whose row lists tables, in both forms: a walk under what the arguments read as, and under the tables, gives what the row asks. -/
namespace Go.Proofs.YtbbfbdfmeifdfaaGreatDoor
set_option maxRecDepth 100000
open Go.ChangeShapes Go.WideShapes Go.ChangeAt Go.RowKit
set_option linter.unusedVariables false

/-- A walk of a law, whatever its arguments read as, gives what its row asks; 'up': its second form. -/
theorem framedC {f : FuncId} {fn : Func} {s : ChangeSpec} (up : Bool) (laid : List (String × DataW Unit)) (n : Nat) (hn : fn.params.size = n) (hvars : s.vars = []) (hrt : fn.resultTypes = #[4])
    (hread0 : fn.params.toList.all (fun t => Tryz.prog.readableRec t && decide (t < Tryz.prog.types.size)) = true)
    (hs : ∀ (H : Type) (ds : List (DataW H)), ds.length = n → (s.fn H ds).results = [.lit (.bool true)] ∧ (s.fn H ds).args = ds ∧ (s.fn H ds).vars = [])
    (walk : ∀ (W : World) (args : Array Value), args.size = n → (∀ (j : Nat) t v, fn.params[j]? = some t → args[j]? = some v → RdV W t v ∧ (up = true → RdU W t v.cells.toList)) → laidMetH Tryz.prog laid W → Calls Tryz.prog f args W fun e W' => e = .returned (.bool true) ∧ Q W W')
    (H : Type) (enc : TypeId × Value → H) (W : World) (base : Nat) (args : Array Value) (ds gs : List (DataW H)) (before : List MemPlace)
    (hval : ∀ (j : Nat) t v, fn.params[j]? = some t → args[j]? = some v → Value.okWide Tryz.prog W .any base t v)
    (hW : DataW.Whole enc Tryz.prog fn.params.toList s.vars false W args.toList ds gs before)
    (hcond : up = true → Rows.uptoBulkAll (ds ++ gs) ≤ 1048576)
    (hsz : (DataW.weightsEach Tryz.prog (fn.params.toList ++ s.plain.varTypes Tryz.prog) (ds ++ gs)).all (· ≤ reachBytes) = true)
    (hL : laidMetH Tryz.prog laid W) :
    Calls Tryz.prog f args W fun e W' => ∃ v, e = .returned v ∧ s.post enc Tryz.prog fn false true false false W args v W' :=
  coreU up n hn hvars hrt hread0 hs H enc W base args ds gs before hval hW hcond hsz fun h1 h2 => walk W args h1 h2 hL
end Go.Proofs.YtbbfbdfmeifdfaaGreatDoor

/- Out of a row's list: the table of powers of ten; a start that meets the list. -/
namespace Go.Proofs.YtbbfbdfmeifdfaaGreatDoor
set_option maxRecDepth 100000
open Go.ChangeShapes Go.WideShapes Go.ChangeAt Go.RowKit
set_option linter.unusedVariables false

theorem gPow : Tryz.prog.globalNamed "internal/strconv.uint64pow10" = some 3 := by kernel_rfl
theorem gPowType : (Tryz.prog.globals[3]?).map (·.type) = some 280 := by kernel_rfl
theorem gPowCells : Tryz.prog.cellsOf 280 = 20 := by kernel_rfl
theorem gPowElem : Tryz.prog.cellsOf 109 = 1 := by kernel_rfl
end Go.Proofs.YtbbfbdfmeifdfaaGreatDoor

/- Out of a row's list: the table of powers of ten, the type of errors, kv's two errors. -/
namespace Go.Proofs.YtbbfbdfmeifdfaaGreatDoor
set_option maxRecDepth 100000
open Go.ChangeShapes Go.WideShapes Go.ChangeAt Go.RowKit
set_option linter.unusedVariables false

theorem kvRt : (Tryz.prog.cutTypes.find? (·.1 == "internal/reflectlite.rtype")).map (·.2) = some 238 := by kernel_rfl
theorem kvEt : Tryz.prog.globalNamed "errors.errorType" = some 2 := by kernel_rfl
theorem kvOneRow : ((List.range Tryz.prog.types.size).filter fun t => Tryz.prog.rowNamed t [101, 114, 114, 111, 114]) = [92] := by kernel_rfl
theorem errT_laid {l : List (String × DataW Unit)} {W : World} (hm : ("errors.errorType", Rows.laid_errors_errorType) ∈ l) (h : laidMetH Tryz.prog l W) : ErrT W := by
  have h2 := (laidMetH_iff.1 h).2 ("errors.errorType", Rows.laid_errors_errorType) (List.mem_filter.2 ⟨hm, by kernel_rfl⟩)
  obtain ⟨name, u, ty, e1, e2, e3, e4, e5⟩ := h2
  have en : name = [101, 114, 114, 111, 114] := (Option.some.inj e1).symm
  subst en
  obtain rfl := Option.some.inj (kvRt.symm.trans e2)
  have hm : ty ∈ (List.range Tryz.prog.types.size).filter fun t => Tryz.prog.rowNamed t [101, 114, 114, 111, 114] := List.mem_filter.2 ⟨List.mem_range.2 e3, e4⟩
  rw [kvOneRow] at hm
  obtain rfl := List.mem_singleton.1 hm
  have hh : typeHandle Tryz.prog 92 = .pointer (some ⟨8, 92, none⟩) := by kernel_rfl
  rw [hh] at e5
  have := World.var?_cell kvEt e5 0
  simpa [ErrT] using this

theorem kvGd : Tryz.prog.globalNamed "stanchion/kv.errDead" = some 0 := by kernel_rfl
theorem kvGdT : (Tryz.prog.globals[0]?).map (·.type) = some 92 := by kernel_rfl
theorem kvGr : Tryz.prog.globalNamed "stanchion/kv.errRefused" = some 1 := by kernel_rfl
theorem kvGrT : (Tryz.prog.globals[1]?).map (·.type) = some 92 := by kernel_rfl
theorem kvStar : "*" ++ "errors.errorString" = "*errors.errorString" := by decide
theorem kvRow (u : TypeId) (h : Tryz.prog.typeName? 3 u = some "*errors.errorString") : u = 330 :=
  typeName_ptr_named (nm := "errors.errorString") (by rw [kvStar]; kernel_rfl) (by kernel_rfl) (by decide) u (by rw [kvStar]; exact h)
theorem kvCells : Tryz.prog.cellsOf 332 = 1 := by kernel_rfl
theorem kvCellsS : Tryz.prog.cellsOf 9 = 1 := by kernel_rfl

theorem sen_laid {r : List (String × DataW Unit)} {W : World} (h : laidMet Tryz.prog (("stanchion/kv.errDead", Rows.laid_stanchion_kv_errDead) :: ("stanchion/kv.errRefused", Rows.laid_stanchion_kv_errRefused) :: r) W) : ∃ a b, Sen W a b := by
  obtain ⟨a0, a1, s0, s1, c0, c1, t0, t1, v0, v1, _, _, _, _, _, _, hne, h0, h1⟩ := laid_sentinels2 h kvGd kvGdT kvGr kvGrT Tryz.underlying92 kvRow Tryz.underlying330 Tryz.underlying332 rfl rfl Tryz.underlying9 kvCells kvCellsS
  refine ⟨a0, a1, ?_, ?_, hne, ⟨c0, t0, h0⟩, c1, t1, h1⟩
  · simpa using World.var?_cell kvGd v0 0
  · simpa using World.var?_cell kvGr v1 0

/-- the list of the laws that check nothing. -/
abbrev kvList : List (String × DataW Unit) := [("math/bits.deBruijn32tab", Rows.laid_math_bits_deBruijn32tab), ("math/bits.deBruijn64tab", Rows.laid_math_bits_deBruijn64tab), ("internal/strconv.uint64pow10", Rows.laid_internal_strconv_uint64pow10), ("errors.errorType", Rows.laid_errors_errorType), ("stanchion/kv.errDead", Rows.laid_stanchion_kv_errDead), ("stanchion/kv.errRefused", Rows.laid_stanchion_kv_errRefused)]
theorem kvListF : (kvList.filter fun x => x.2.handleName?.isNone) = [("math/bits.deBruijn32tab", Rows.laid_math_bits_deBruijn32tab), ("math/bits.deBruijn64tab", Rows.laid_math_bits_deBruijn64tab), ("internal/strconv.uint64pow10", Rows.laid_internal_strconv_uint64pow10), ("stanchion/kv.errDead", Rows.laid_stanchion_kv_errDead), ("stanchion/kv.errRefused", Rows.laid_stanchion_kv_errRefused)] := by rfl
theorem kt_laid {W : World} (h : laidMetH Tryz.prog kvList W) : ∃ a b, Kt W a b := by
  have h1 := (laidMetH_iff.1 h).1
  rw [kvListF] at h1
  have h3 := laidMet.tail (laidMet.tail h1)
  have hT : Tab W := by
    have h2 : laidMet Tryz.prog (("internal/strconv.uint64pow10", Lib.tabData .u64 Lib.pow10Tab) :: [("stanchion/kv.errDead", Rows.laid_stanchion_kv_errDead), ("stanchion/kv.errRefused", Rows.laid_stanchion_kv_errRefused)]) W := h3
    exact Lib.tabIs_of_head gPow gPowType Tryz.underlying280 Tryz.underlying109 gPowElem gPowCells h2
  obtain ⟨a, b, hS⟩ := sen_laid (laidMet.tail h3)
  exact ⟨a, b, hT, errT_laid (by simp) h, hS⟩
end Go.Proofs.YtbbfbdfmeifdfaaGreatDoor
