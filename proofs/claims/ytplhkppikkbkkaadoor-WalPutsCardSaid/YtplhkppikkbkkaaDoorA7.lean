/- DecRef, DecRefText, SumRefOpen, WalRefScan, WalSame: merged. -/
import Derived.Test.YtplhkppikkbkkaaDoorA1
import Derived.Test.YtplhkppikkbkkaaDoorA6
import Derived.Test.YtplhkppikkbkkaaDoorA2
import Derived.Test.YtplhkppikkbkkaaDoorA3
/- Contracts of the document's own TakeNum, TakeText. -/
namespace Go.Proofs.YtplhkppikkbkkaaDoor
set_option maxRecDepth 100000
open Go.RowKit
set_option linter.unusedVariables false

/-- how the figures end. -/
theorem figs_end (l : List UInt8) : (Dm.figs l).length = l.length ∨ ∃ h : (Dm.figs l).length < l.length, Dm.isD (l[(Dm.figs l).length]) = false := by
  rcases Nat.lt_or_ge (Dm.figs l).length l.length with h | h
  · right
    refine ⟨h, ?_⟩
    have hr : Dm.rest l = l[(Dm.figs l).length] :: l.drop ((Dm.figs l).length + 1) := by rw [Dm.rest_eq, List.drop_eq_getElem_cons h]
    have hne : Dm.rest l ≠ [] := by rw [hr]; exact List.cons_ne_nil _ _
    have := List.head_dropWhile_not Dm.isD hne
    have e : (List.dropWhile Dm.isD l).head hne = l[(Dm.figs l).length] := by
      show (Dm.rest l).head hne = _
      simp only [hr, List.head_cons]
    rw [e] at this
    simpa using this
  · left; have := Dm.figs_len l; omega
theorem figs_get (l : List UInt8) (i : Nat) (h : i < (Dm.figs l).length) (h' : i < l.length) : Dm.isD l[i] = true := by
  have := Dm.figs_all l _ (List.getElem_mem h)
  have e := Dm.figs_eq l
  have e2 : (Dm.figs l)[i] = l[i] := by
    have : (Dm.figs l)[i]? = (l.take (Dm.figs l).length)[i]? := by rw [← e]
    rw [List.getElem?_take, if_pos h, List.getElem?_eq_getElem h, List.getElem?_eq_getElem h'] at this
    injection this
  rw [← e2]; exact this
theorem bad_long (l : List UInt8) (h : 20 < (Dm.figs l).length) : Dm.bad l = true := by
  cases hl : l with
  | nil => rw [hl] at h; simp [Dm.figs] at h
  | cons c r =>
    rw [← hl]
    have hh : l.head? = some c := by rw [hl]; rfl
    by_cases h0 : c.toNat = 48
    · have hc : c = 48 := UInt8.toNat_inj.1 (by rw [h0]; rfl)
      unfold Dm.bad; rw [decide_eq_true (show 1 < (Dm.figs l).length by omega), hh, hc]; rfl
    · have hl0 : 0 < l.length := by rw [hl]; simp
      have hd := figs_get l 0 (by omega) hl0
      have e : l[0] = c := by simp [hl]
      rw [e] at hd
      cases hf : Dm.figs l with
      | nil => rw [hf] at h; simp at h
      | cons c2 r2 =>
        have hc2 : c2 = c := by
          have := Dm.figs_rest l
          rw [hf, hl] at this
          simp at this; exact this.1
        have := Dm.val_big (Dm.figs l) c2 r2 hf (by rw [hc2]; exact hd) (by rw [hc2]; exact h0) h
        unfold Dm.bad; rw [decide_eq_true this, Bool.or_true]
theorem bad_lead (l : List UInt8) (h : 1 < (Dm.figs l).length) (h0 : l.head? = some 48) : Dm.bad l = true := by
  unfold Dm.bad; rw [decide_eq_true h, h0]; rfl
theorem tnum_bad (l : List UInt8) (h : Dm.bad l = true) : Dm.tnum l = (0, [], 3) := by unfold Dm.tnum; rw [if_pos h]

theorem tnum_more (l : List UInt8) (hb : Dm.bad l = false) (h : (Dm.figs l).length = l.length) : Dm.tnum l = (0, [], 2) := by
  unfold Dm.tnum
  rw [hb, if_neg (by simp), if_pos (by rw [Dm.rest_eq, h, List.drop_length])]
theorem rest_cons (l : List UInt8) (h : (Dm.figs l).length < l.length) : Dm.rest l = l[(Dm.figs l).length] :: l.drop ((Dm.figs l).length + 1) := by
  rw [Dm.rest_eq, List.drop_eq_getElem_cons h]
theorem tnum_other (l : List UInt8) (hb : Dm.bad l = false) (h : (Dm.figs l).length < l.length) (hc : l[(Dm.figs l).length] ≠ 59 ∨ (Dm.figs l).length = 0) : Dm.tnum l = (0, [], 3) := by
  unfold Dm.tnum
  rw [hb, if_neg (by simp), rest_cons l h, if_neg (List.cons_ne_nil _ _), if_pos]
  rcases hc with hc | hc
  · left; rw [List.head?_cons]; intro e; injection e with e; exact hc e
  · right; exact List.length_eq_zero_iff.1 hc
theorem tnum_ok (l : List UInt8) (hb : Dm.bad l = false) (h : (Dm.figs l).length < l.length) (hc : l[(Dm.figs l).length] = 59) (h0 : (Dm.figs l).length ≠ 0) :
    Dm.tnum l = (Dm.val (Dm.figs l), l.drop ((Dm.figs l).length + 1), 0) := by
  unfold Dm.tnum
  rw [hb, if_neg (by simp), rest_cons l h, if_neg (List.cons_ne_nil _ _), if_neg]
  · rfl
  · rintro (e | e)
    · simp [hc] at e
    · exact h0 (List.length_eq_zero_iff.2 e)

end Go.Proofs.YtplhkppikkbkkaaDoor

/- The contract of the document's own TakeText. -/
namespace Go.Proofs.YtplhkppikkbkkaaDoor
set_option maxRecDepth 100000
open Go.RowKit
set_option linter.unusedVariables false

end Go.Proofs.YtplhkppikkbkkaaDoor

/- The contract of the document's own Open. -/
namespace Go.Proofs.YtplhkppikkbkkaaDoor
set_option maxRecDepth 100000
open Go.RowKit
set_option linter.unusedVariables false

end Go.Proofs.YtplhkppikkbkkaaDoor

/- The contract of the document's Scan, and of its Name. -/
namespace Go.Proofs.YtplhkppikkbkkaaDoor
set_option maxRecDepth 100000
open Go.RowKit
set_option linter.unusedVariables false

theorem wpl_appS {w : World} {ops : Array Oper} {rest : List Oper} {o : Oper} {a : Act} {R : Exit → Act → World → Prop} (hgd : o.guard = none) (s x : Operand)
    (ho : o.op = .call { callee := .builtin .append, args := #[s, x], argTypes := #[39, 39] })
    (base : Nat) (A : Option Addr) (n c : Nat) (l : List (List UInt8)) (hs : a.eval s = .slice A n c) (h : OwnS w base A n c l) (ad : Addr) (c2 : Nat) (r : ByteArray) (hx : a.eval x = .slice (some ad) 1 c2) (h2 : w.cell? ad = some (.string r))
    (hb : (n + 1) * 16 ≤ 140737488355328) (hbase : base ≤ w.heap.size)
    (hk : ∀ A' c' w', OwnS w' base A' (n + 1) c' (l ++ [r.data.toList]) → Below base w w' → wpList Tryd.prog ops R rest (a.put o.dst (.slice A' (n + 1) c')) w') : wpList Tryd.prog ops R (o :: rest) a w := by
  refine wpList_plain hgd fun K hK => ?_
  obtain ⟨A', c', w', hr, h3, h4, h5⟩ := run_appG (P := Tryd.prog) (w := w) base 39 o.type 9 (.string ⟨#[]⟩) 1 16 Tryd.underlying39 infoS rfl (by omega) A n c _ h (some ad) 1 c2 [.string r] rfl
    (fun j u hu => by
      have hj := (List.getElem?_eq_some_iff.1 hu).1
      simp at hj
      subst hj
      simp at hu
      subst hu
      exact ⟨ad, rfl, by unfold Addr.add; simpa using h2⟩) (by simp [Value.oneCell']) (fun e => by cases e) (by unfold maxLen; omega) hb hbase
  unfold Oper.wp execOp
  simp only [ho, resolve, invoke, builtin, Sem.run_bind, Sem.run_pure, Result.andThen_ok, List.map_toArray, List.map_cons, List.map_nil, hs, hx, hr]
  refine hK _ _ (hk A' c' w' (by unfold OwnS; rw [List.map_append]; exact h3) (below_grown h4 hbase fun k hk => ?_))
  rcases h.2 with ⟨e, _⟩ | ⟨g, cap, cur, e, hb, _⟩
  · rw [e] at hk; cases hk
  · rw [e] at hk; simp only [Value.ownBlock, Option.some.injEq] at hk; omega

theorem refName_any (seg : Int) (w : World) (h0 : -9223372036854775808 ≤ seg) (h1 : seg ≤ 9223372036854775807) : Calls Tryd.prog 25 #[.int .i64 seg] w fun e w' => e = .returned (.string (namB seg)) ∧ Q w w' := by
  by_cases h2 : seg < 1
  · rw [namB_no (by unfold segOk; omega)]
    go_enter Tryd.func25, Tryd.ntmps25
    go_wp2
    go_ret
    exact ⟨rfl, Q.refl _⟩
  by_cases h3 : 1000000 < seg
  · rw [namB_no (by unfold segOk; omega)]
    go_enter Tryd.func25, Tryd.ntmps25
    go_wp2
    go_ret
    exact ⟨rfl, Q.refl _⟩
  have h : segOk seg := by unfold segOk; omega
  have hN := Lib.hid (fun w => refNum_any seg w (by omega) (by omega))
  have hl := Dm.dg_length_lt 7 seg.toNat (by omega) (by omega)
  have hsz : (⟨(Dm.num seg.toNat).toArray⟩ : ByteArray).size = (Dm.dg seg.toNat).length + 1 := by show (Dm.num seg.toNat).toArray.size = _; simp [Dm.num]
  have hex : (⟨#[119]⟩ : ByteArray) ++ (⟨(Dm.num seg.toNat).toArray⟩ : ByteArray).extract 0 (Dm.dg seg.toNat).length = namB seg := by
    rw [extract_list]
    unfold namB
    rw [nam_ok h, app_lists [119]]
    simp [Dm.num]
  generalize (⟨(Dm.num seg.toNat).toArray⟩ : ByteArray) = R at hN hsz hex
  generalize (Dm.dg seg.toNat).length = m at hl hsz hex
  have HE := Lib.hid hex
  have hR : R.size ≤ 8 := by omega
  have hm : (R.size : Int) - 1 = (m : Int) := by omega
  have hmR : m ≤ R.size := by omega
  have h0' : 0 ≤ (R.size : Int) - 1 := by omega
  have hmN : R.size - 1 = m := by omega
  have HM := Lib.hid hmN
  clear hex hsz h hm hmN
  go_enter Tryd.func25, Tryd.ntmps25
  go_wp2_with fail
  refine (hN.out _).mono ?_
  rintro e w1 ⟨rfl, q1⟩
  go_wp2
  go_ret
  refine ⟨?_, q1⟩
  rw [← HE.out, ← HM.out]
  rfl

theorem used_at {us vs : List (List UInt8)} {l : List UInt8} (h : (scn l).1 = us ++ vs) : l = flat us ++ (flat vs ++ (scn l).2) := by
  conv => lhs; rw [(scd l).eq]
  rw [h, flat_app, List.append_assoc]

end Go.Proofs.YtplhkppikkbkkaaDoor

/- The contract of the document's Same over lists of texts. -/
namespace Go.Proofs.YtplhkppikkbkkaaDoor
set_option maxRecDepth 100000
open Go.RowKit
set_option linter.unusedVariables false

theorem Strs.len {w : World} {A : Option Addr} {n : Nat} {l : List (List UInt8)} (h : Strs w A n l) : l.length = n := by have := h.1; simpa using this
theorem Strs.load {w : World} {A : Option Addr} {n : Nat} {l : List (List UInt8)} (h : Strs w A n l) {k : Nat} (hl : k < l.length) :
    ∃ ad, A = some ad ∧ ad.block < w.heap.size ∧ w.cell? (ad.add k) = some (.string (bs l[k])) := by
  obtain ⟨ad, e, hb, hc⟩ := h.2 k (.string (bs l[k])) (by simp [hl])
  exact ⟨ad, e, hb, hc⟩
theorem bs_inj {a b : List UInt8} (h : bs a = bs b) : a = b := by rw [← list_bs a, h, list_bs]

set_option maxHeartbeats 2000000 in
theorem same_strs (A B : Option Addr) (n c m d : Nat) (a b : List (List UInt8)) (w : World) (h1 : Strs w A n a) (h2 : Strs w B m b) (hn : n ≤ maxLen) :
    Calls Tryd.prog 16 #[.slice A n c, .slice B m d] w fun e w' => e = .returned (.bool (decide (a = b))) ∧ Q w w' := by
  unfold maxLen at hn
  by_cases hnm : n = m
  case neg =>
    have hf : decide (a = b) = false := decide_eq_false fun e => hnm (by rw [← h1.len, ← h2.len, e])
    have HF := Lib.hid hf
    have hi : ¬ (n : Int) = (m : Int) := by omega
    clear hf h1 h2 hnm
    go_enter Tryd.func16, Tryd.ntmps16
    go_wp2
    go_ret
    exact ⟨by rw [HF.out]; rfl, Q.refl _⟩
  subst hnm
  have H1 := Lib.hid h1
  have H2 := Lib.hid h2
  have L1 := Lib.hid h1.len
  have L2 := Lib.hid h2.len
  clear h1 h2
  go_enter Tryd.func16, Tryd.ntmps16
  go_wp2
  go_loopw [5] (fun i wr => ∃ k : Nat, k ≤ n ∧ i = .int .i64 (k : Nat) ∧ a.take k = b.take k ∧ Q w wr) (fun i _ => n - (intOf i).toNat)
  case atStart => exact ⟨0, Nat.zero_le _, rfl, rfl, Q.refl _⟩
  case round =>
    obtain ⟨k, hk, rfl, htk, hq⟩ := hrel
    have HT := Lib.hid htk
    have HQ := Lib.hid hq
    clear htk hq
    by_cases hlt : k < n
    case neg =>
      have e : n = k := by omega
      have hf : decide (a = b) = true := decide_eq_true (by
        have h := HT.out
        rw [List.take_of_length_le (by have := L1.out; omega), List.take_of_length_le (by have := L2.out; omega)] at h
        exact h)
      have HF := Lib.hid hf
      clear hf e
      go_wp2
      go_ret
      exact ⟨by rw [HF.out]; rfl, HQ.out⟩
    have ha : k < a.length := by have := L1.out; omega
    have hb : k < b.length := by have := L2.out; omega
    obtain ⟨x, hxA, hxb, hxc⟩ := (H1.out.q HQ.out).load ha
    obtain ⟨y, hyB, hyb, hyc⟩ := (H2.out.q HQ.out).load hb
    have HA := Lib.hid hxA
    have HB := Lib.hid hyB
    have hk2 : (k : Int) < (n : Int) := by omega
    by_cases he : bs a[k] = bs b[k]
    · have hnx : a.take (k + 1) = b.take (k + 1) := by
        rw [List.take_add_one, List.take_add_one, HT.out, List.getElem?_eq_getElem ha, List.getElem?_eq_getElem hb, bs_inj he]
      have HN := Lib.hid hnx
      rw [← he] at hyc
      clear he hnx
      generalize bs a[k] = s at hxc hyc
      have he2 : (s.toList == s.toList) = true := by simp
      subst hxA hyB
      clear HA HB ha hb
      go_wp2
      go_quiet (fail)
      all_goals
        go_wp2
        go_roundw
        case rel => exact ⟨k + 1, by omega, by first | rfl | simp | go_num, HN.out, by first | exact HQ.out | exact HQ.out.drew | exact HQ.out.drewN _⟩
        case measure => simp [intOf]; omega
    · have hf : decide (a = b) = false := decide_eq_false fun e => he (by subst e; rfl)
      have HF := Lib.hid hf
      generalize bs a[k] = s at hxc he
      generalize bs b[k] = t at hyc he
      have hne : (s.toList == t.toList) = false := by
        rw [same_str]; simpa using he
      subst hxA hyB
      clear HA HB ha hb hf
      go_wp2
      go_quiet (fail)
      all_goals
        go_wp2
        go_ret
        exact ⟨by rw [HF.out]; rfl, by first | exact HQ.out | exact HQ.out.drew | exact HQ.out.drewN _⟩
end Go.Proofs.YtplhkppikkbkkaaDoor
