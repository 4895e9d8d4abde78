/- LockRef, LockBlk, LockRef2, LockBlk2, LockBlk3: merged. -/
import Derived.Test.YtncnfblnelkmbaaA1
import Derived.Lib.MinMax
import Derived.Lib.SlKeysI
import Derived.Maps.OwnSet
import Derived.Test.YtncnfblnelkmbaaShelfKeys
/- Contracts: the document's locks: put, Blockers, Waits, Late, Same, Ints. -/
namespace Go.Proofs.Ytncnfblnelkmbaa
set_option maxRecDepth 100000
open Go.RowKit Prm Lm Sm
set_option linter.unusedVariables false
set_option linter.unusedSimpArgs false

abbrev locV (A : Option Addr) (n c : Nat) (B : Option Addr) (m d : Nat) : Value := .agg #[.slice A n c, .slice B m d]

/-- append of one number to a list of one's own, in a plain walk. -/
theorem load_num {w : World} {A : Option Addr} {n : Nat} {l : List Int} (h : Lst numK w A n l) {k : Nat} (hk : k < n) (hl : k < l.length) :
    ∃ ad, A = some ad ∧ ad.block < w.heap.size ∧ w.cell? (ad.add k) = some (.int .i64 l[k]) := by
  obtain ⟨ad, e, hb, hc⟩ := h.load hk hl
  refine ⟨ad, e, hb, ?_⟩
  have := hc 0 _ rfl
  rwa [show k * numK.k = k from Nat.mul_one k] at this

set_option maxHeartbeats 2000000 in
theorem put_any (x : Int) (A : Option Addr) (n c : Nat) (l : List Int) (w : World) (hl : Lst numK w A n l) (hn : n ≤ 1000000) :
    Calls Try.prog 44 #[.slice A n c, .int .i64 x] w fun e w' => RetL numK w (ins x l).length (ins x l) e w' := by
  have HL := Lib.hid hl
  have HN := Lib.hid hl.len
  clear hl
  go_enter Try.func44, Try.ntmps44
  go_wp2
  go_loopw [5, 6, 7] (fun o d i wr => ∃ (k : Nat) (B : Option Addr) (m q : Nat) (dn : Bool) (os : List Int), k ≤ n ∧ i = .int .i64 k ∧ d = .bool dn ∧ o = .slice B m q ∧ OwnK numK wr w.heap.size B m q os ∧ Q w wr ∧ Pt l x k dn os ∧ (dn = false → os.length ≤ k)) (fun _ _ i _ => n - (intOf i).toNat)
  case atStart => exact ⟨0, none, 0, 0, false, [], Nat.zero_le _, rfl, rfl, rfl, OwnK.nil_ _ _ _, Q.refl _, Pt.start l x, fun _ => Nat.le_refl _⟩
  case round =>
    obtain ⟨k, B, m, q, dn, os, hk, rfl, rfl, rfl, o1, q1, hp, ho⟩ := hrel
    have HO := Lib.hid o1
    have HQ := Lib.hid q1
    have HP := Lib.hid hp
    have HD := Lib.hid ho
    have HM := Lib.hid o1.len
    have hm2 : m ≤ k + 1 := by rw [← o1.len]; exact hp.2.2
    clear o1 q1 hp ho
    by_cases hlt : k < n
    · have hkl : k < l.length := by have := HN.out; omega
      obtain ⟨ad, rfl, hab, x0⟩ := load_num (HL.out.q HQ.out) hlt hkl
      have hkn : (k : Int) < (n : Int) := by omega
      cases dn with
      | true =>
        have HS := Lib.hid (HP.out.at_done hkl)
        generalize l[k] = a at x0 HS
        have ea := int_eq a x
        cases hax : decide (a = x)
        all_goals
          rw [hax] at ea
          go_wp2_with (at_builtin
                       refine wpl_appK numK rfl _ _ 29 rfl rfl w.heap.size B m q os rfl (HO.out.alloc _) (some ⟨wr.heap.size, 0, none⟩) 1 1 [a] rfl (lst_lit1 wr a) (fun e => by cases e) (by show (m + 1) * 8 ≤ _; omega) (by have := HQ.out.size; simp; omega) ?_
                       intro A5 c5 w5 o5 b5
                       have O5 := Lib.hid o5
                       have Q5 := Lib.hid (show Q w w5 from (HQ.out.alloc _).below.trans b5)
                       clear o5 b5)
          go_roundw
          case rel => exact ⟨k + 1, A5, m + 1, c5, true, os ++ [a], by omega, by go_num, rfl, rfl, O5.out, Q5.out, HS.out, fun h => by cases h⟩
          case measure => simp [intOf]; omega
      | false =>
        have HK := Lib.hid (show os.length ≤ k from HD.out rfl)
        have S1 := Lib.hid (fun e ho => HP.out.at_same hkl e ho)
        have S2 := Lib.hid (fun e ho => HP.out.at_more hkl e ho)
        have S3 := Lib.hid (fun e ho => HP.out.at_less hkl e ho)
        generalize ha : l[k] = a at x0 S1 S2 S3
        have HA := Lib.hid ha
        clear ha
        by_cases h1 : a = x
        · have HS := Lib.hid (S1.out h1 HK.out)
          have ea : (a == x) = true := by simpa using h1
          clear S1 S2 S3 h1
          go_wp2_with (at_builtin
                       refine wpl_appK numK rfl _ _ 29 rfl rfl w.heap.size B m q os rfl (HO.out.alloc _) (some ⟨wr.heap.size, 0, none⟩) 1 1 [a] rfl (lst_lit1 wr a) (fun e => by cases e) (by show (m + 1) * 8 ≤ _; omega) (by have := HQ.out.size; simp; omega) ?_
                       intro A5 c5 w5 o5 b5
                       have O5 := Lib.hid o5
                       have Q5 := Lib.hid (show Q w w5 from (HQ.out.alloc _).below.trans b5)
                       clear o5 b5)
          go_roundw
          case rel => exact ⟨k + 1, A5, m + 1, c5, true, os ++ [a], by omega, by go_num, rfl, rfl, O5.out, Q5.out, HS.out, fun h => by cases h⟩
          case measure => simp [intOf]; omega
        · have ea : (a == x) = false := by simpa using h1
          by_cases h2 : x < a
          · have HS := Lib.hid (S2.out h2 HK.out)
            clear S1 S2 S3 h1
            have tok1 : True := trivial
            go_wp2_with (first
              | (at_builtin
                 have _t := tok1
                 refine wpl_appK numK rfl _ _ 29 rfl rfl w.heap.size B m q os rfl (HO.out.alloc _) (some ⟨wr.heap.size, 0, none⟩) 1 1 [x] rfl (lst_lit1 wr x) (fun e => by cases e) (by show (m + 1) * 8 ≤ _; omega) (by have := HQ.out.size; simp; omega) ?_
                 intro A5 c5 w5 o5 b5
                 clear tok1
                 have Q5 := Lib.hid (show Q w w5 from (HQ.out.alloc _).below.trans b5)
                 have O5 := Lib.hid o5
                 obtain ⟨ae, he, hae, x0⟩ := load_num (HL.out.q Q5.out) hlt hkl
                 injection he with he
                 subst he
                 rw [HA.out] at x0
                 clear o5 b5)
              | (at_builtin
                 refine wpl_appK numK rfl _ _ 29 rfl rfl w.heap.size A5 (m + 1) c5 (os ++ [x]) rfl (O5.out.alloc _) (some ⟨w5.heap.size, 0, none⟩) 1 1 [a] rfl (lst_lit1 w5 a) (fun e => by cases e) (by show (m + 1 + 1) * 8 ≤ _; omega) (by have := Q5.out.size; simp; omega) ?_
                 intro A6 c6 w6 o6 b6
                 have Q6 := Lib.hid (show Q w w6 from (Q5.out.alloc _).below.trans b6)
                 have O6 := Lib.hid o6
                 clear o6 b6))
            go_roundw
            case rel => exact ⟨k + 1, A6, m + 1 + 1, c6, true, (os ++ [x]) ++ [a], by omega, by go_num, rfl, rfl, O6.out, Q6.out, HS.out, fun h => by cases h⟩
            case measure => simp [intOf]; omega
          · have h3 : a < x := by omega
            have HS := Lib.hid (S3.out h3 HK.out)
            have h2' : ¬ (x < a) := h2
            clear S1 S2 S3 h1
            go_wp2_with (at_builtin
                         refine wpl_appK numK rfl _ _ 29 rfl rfl w.heap.size B m q os rfl (HO.out.alloc _) (some ⟨wr.heap.size, 0, none⟩) 1 1 [a] rfl (lst_lit1 wr a) (fun e => by cases e) (by show (m + 1) * 8 ≤ _; omega) (by have := HQ.out.size; simp; omega) ?_
                         intro A5 c5 w5 o5 b5
                         have O5 := Lib.hid o5
                         have Q5 := Lib.hid (show Q w w5 from (HQ.out.alloc _).below.trans b5)
                         clear o5 b5)
            go_roundw
            case rel => exact ⟨k + 1, A5, m + 1, c5, false, os ++ [a], by omega, by go_num, rfl, rfl, O5.out, Q5.out, HS.out, fun _ => by have := HK.out; simp; omega⟩
            case measure => simp [intOf]; omega
    · have hkn : k = n := by omega
      have hkl : k = l.length := by have := HN.out; omega
      subst hkl
      cases dn with
      | true =>
        have HE := Lib.hid HP.out.end_done
        go_wp2
        go_ret
        exact ⟨B, q, by rw [HE.out, HM.out]; rfl, by rw [HE.out, HM.out]; exact HO.out, HQ.out⟩
      | false =>
        have HE := Lib.hid HP.out.end_not
        go_wp2_with (at_builtin
                     refine wpl_appK numK rfl _ _ 29 rfl rfl w.heap.size B m q os rfl (HO.out.alloc _) (some ⟨wr.heap.size, 0, none⟩) 1 1 [x] rfl (lst_lit1 wr x) (fun e => by cases e) (by show (m + 1) * 8 ≤ _; omega) (by have := HQ.out.size; simp; omega) ?_
                     intro A5 c5 w5 o5 b5
                     have O5 := Lib.hid o5
                     have Q5 := Lib.hid (show Q w w5 from (HQ.out.alloc _).below.trans b5)
                     clear o5 b5)
        go_ret
        exact ⟨A5, c5, by rw [HE.out, List.length_append, HM.out]; rfl, by rw [HE.out, List.length_append, HM.out]; exact O5.out, Q5.out⟩
end Go.Proofs.Ytncnfblnelkmbaa

/- Contract: lock.Blockers' closure over its map. -/
namespace Go.Proofs.Ytncnfblnelkmbaa
set_option maxRecDepth 100000
open Go.RowKit Prm Lm Sm Go.Maps
set_option linter.unusedVariables false
set_option linter.unusedSimpArgs false

def KeysAre (D : DataW Unit) (out : List Int) : Prop := IsMap D ∧ ∀ x, x ∈ out ↔ Maps.has D (.int .i64 x) = true
theorem keys_nil : KeysAre (.map []) [] := ⟨isMap_empty, fun x => by simp [Maps.has]⟩
theorem keys_ins {D : DataW Unit} {out : List Int} (h : KeysAre D out) (o : Int) (d : DataW Unit) : KeysAre (D.put (.int .i64 o) d) (ins o out) := by
  refine ⟨h.1.put _ _, fun x => ?_⟩
  rw [mem_ins]
  by_cases e : x = o
  · subst e
    rw [has_put_same h.1 (show WideAt.IsKeyLit (.int .i64 x) from trivial)]; simp
  · rw [has_put_other (fun e' => e (by injection e')), ← h.2 x]; simp [e]
theorem lawI : Keyed Try.prog 3 := int_keyed Try.underlying3
theorem i64_wf {x : Int} (h1 : -9223372036854775808 ≤ x) (h2 : x ≤ 9223372036854775807) : (Lit.int .i64 x).wf = true := by
  have e1 : IntKind.i64.min = -9223372036854775808 := by decide
  have e2 : IntKind.i64.max = 9223372036854775807 := by decide
  simp only [Lit.wf, Bool.and_eq_true, decide_eq_true_eq]
  omega
theorem Q.only {w w' : World} (q : Q w w') (g : Nat) : w.grownBy w' (some g) := only_q q
theorem only_trans {a b c : World} {g : Nat} (h : a.grownBy b (some g)) (k : b.grownBy c (some g)) : a.grownBy c (some g) := h.trans k

set_option maxHeartbeats 2000000 in
theorem gather_any (other : Int) (v x : Wn) (txn : Int) (Bt Bw Bm b nn : Nat) (D : DataW Unit) (out : List Int) (w : World) (ho : -9223372036854775808 ≤ other ∧ other ≤ 9223372036854775807) (hc : Cap2 w txn x Bt Bw) (hm : w.cell? ⟨Bm, 0, none⟩ = some (.map (some b)))
    (hown : w.ownsMap Try.prog 3 unitElem b nn D) (hk : KeysAre D out) (hn : nn ≤ 1000000) :
    Calls Try.prog 37 #[.int .i64 other, wnV v, .pointer (some ⟨Bt, 0, none⟩), .pointer (some ⟨Bw, 0, none⟩), .pointer (some ⟨Bm, 0, none⟩)] w fun e w' =>
      e = .returned (.tuple #[]) ∧ ∃ D', w'.ownsMap Try.prog 3 unitElem b (nn + 1) D' ∧ KeysAre D' (addT txn x other v out) ∧ w.grownBy w' (some b) := by
  have K := Lib.hid (fun W => sclash_any v x W)
  have HM := Lib.hid hown
  have HK := Lib.hid hk
  have HW := Lib.hid (i64_wf ho.1 ho.2)
  have HC := Lib.hid hc
  have HA : Hid (addT txn x other v out = if Sm.clash v x = true ∧ other ≠ txn then ins other out else out) := Lib.hid rfl
  generalize addT txn x other v out = out2 at HA ⊢
  generalize Sm.clash v x = r at K HA
  obtain ⟨hB, hC, c0, c1, c2, c3⟩ := hc
  obtain ⟨m, lo, hi⟩ := v
  clear hown hk ho
  unfold wnV at *
  simp only at K
  by_cases ht : other = txn
  · have HE := Lib.hid (show out2 = out by rw [HA.out]; simp [ht])
    have et : (other != txn) = false := by simpa using ht
    clear ht HA
    go_enter Try.func37, Try.ntmps37
    go_wp2
    go_end0
    exact ⟨rfl, D, (HM.out.alloc _).mono (Nat.le_succ _), by rw [HE.out]; exact HK.out, Q.only ((Q.refl w).alloc _) b⟩
  · have et : (other != txn) = true := by simpa using ht
    cases r with
    | false =>
      have HE := Lib.hid (show out2 = out by rw [HA.out]; simp)
      clear ht HA
      go_enter Try.func37, Try.ntmps37
      go_wp2_with fail
      refine (K.out _).mono ?_
      rintro e w1 ⟨rfl, q1⟩
      have Q1 := Lib.hid (((Q.refl w).alloc (.cells #[.int .i64 m, .string lo, .string hi] 41)).trans q1)
      clear q1
      go_wp2
      go_end0
      exact ⟨rfl, D, (HM.out.kept Q1.out.grownBy (by simp)).mono (Nat.le_succ _), by rw [HE.out]; exact HK.out, Q.only Q1.out b⟩
    | true =>
      have HE := Lib.hid (show out2 = ins other out by rw [HA.out]; simp [ht])
      clear ht HA
      go_enter Try.func37, Try.ntmps37
      go_wp2_with fail
      refine (K.out _).mono ?_
      rintro e w1 ⟨rfl, q1⟩
      have Q1 := Lib.hid (((Q.refl w).alloc (.cells #[.int .i64 m, .string lo, .string hi] 41)).trans q1)
      have cm := box_ Q1.out hm
      clear q1
      go_wp2_with (at_mapUpdate
                   refine wpList_mapUpdate_own _ rfl _ _ _ 59 rfl 3 60 lawI Try.underlying59 unitElem b nn D rfl (HM.out.kept Q1.out.grownBy (by simp)) (by unfold maxLen; omega) (.int .i64 other) (.agg #[]) (.int .i64 other) rfl rfl (keyOf_int_mk Try.underlying3 HW.out) (.agg []) [] unitElem_mk ?_
                   intro w2 m2 g2
                   have S2 := Lib.hid (And.intro m2 (only_trans (Q.only Q1.out b) g2))
                   clear m2 g2)
      go_end0
      exact ⟨rfl, _, S2.out.1, by rw [HE.out]; exact keys_ins HK.out other _, S2.out.2⟩
end Go.Proofs.Ytncnfblnelkmbaa

/- Contracts: the document's Blockers. -/
namespace Go.Proofs.Ytncnfblnelkmbaa
set_option maxRecDepth 100000
open Go.RowKit Prm Lm Sm
set_option linter.unusedVariables false
set_option linter.unusedSimpArgs false

/-- the boxes of the document's Blockers. -/
structure Rb (w : World) (A : Option Addr) (n c : Nat) (B : Option Addr) (m d : Nat) (x : Wn) (wr : World) : Prop where
  b1 : Bx wr w.heap.size [.slice A n c, .slice B m d]
  b2 : Bx wr (w.heap.size + 1) [.int .i64 x.mode, .string x.lo, .string x.hi]
  q : Q w wr
theorem Rb.step {w wr w2 : World} {A B : Option Addr} {n c m d : Nat} {x : Wn} (h : Rb w A n c B m d x wr) (q : Q wr w2) : Rb w A n c B m d x w2 := ⟨h.b1.q q, h.b2.q q, h.q.trans q⟩
theorem Rb.new (w : World) (A : Option Addr) (n c : Nat) (B : Option Addr) (m d : Nat) (x : Wn) :
    Rb w A n c B m d x ((w.alloc (.cells #[.slice A n c, .slice B m d] 25)).alloc (.cells #[.int .i64 x.mode, .string x.lo, .string x.hi] 41)) := by
  refine ⟨(Bx.new w [.slice A n c, .slice B m d] 25).alloc _, ?_, ((Q.refl w).alloc _).alloc _⟩
  have := Bx.new (w.alloc (.cells #[.slice A n c, .slice B m d] 25)) [.int .i64 x.mode, .string x.lo, .string x.hi] 41
  simpa using this
def WnsH (l : List Ho) : Prop := ∀ h ∈ l, WnS h.w
def WnsC (l : List Cl) : Prop := ∀ h ∈ l, WnS h.w
set_option maxHeartbeats 8000000 in
set_option maxRecDepth 100000 in
theorem rblk_any (A B : Option Addr) (n c m d : Nat) (l : Lo) (txn : Int) (x : Wn) (N : Int) (w : World) (hA : Lst holdK w A n l.held) (hB : Lst claimK w B m l.queue) (hx : WnS x) (hh : WnsH l.held) (hc : WnsC l.queue) (hn : n ≤ 400000) (hm : m ≤ 400000) :
    Calls Try.prog 26 #[locV A n c B m d, .int .i64 txn, wnV x, .int .i64 N] w fun e w' => RetL numK w (blk l txn x N.toNat).length (blk l txn x N.toNat) e w' := by
  have HA := Lib.hid hA
  have HB := Lib.hid hB
  have HX := Lib.hid hx
  have HWH := Lib.hid hh
  have HWC := Lib.hid hc
  have HAl := Lib.hid hA.len
  have HBl := Lib.hid hB.len
  have R0 := Lib.hid (Rb.new w A n c B m d x)
  have HBK := Lib.hid (show blk l txn x N.toNat = gatQ txn x (l.queue.take N.toNat) (gatH txn x l.held []) from rfl)
  generalize blk l txn x N.toNat = bl at HBK ⊢
  clear hA hB hx hh hc
  unfold wnV
  go_enter Try.func26, Try.ntmps26
  go_wp2
  generalize ((w.alloc (.cells #[.slice A n c, .slice B m d] 25)).alloc (.cells #[.int .i64 x.mode, .string x.lo, .string x.hi] 41)) = W0 at R0 ⊢
  obtain ⟨⟨b0, b1⟩, _⟩ := R0.out.b1.get2
  go_loopw [9, 10] (fun o i wr => ∃ (k : Nat) (C : Option Addr) (p q : Nat) (os : List Int), k ≤ n ∧ i = .int .i64 k ∧ o = .slice C p q ∧ OwnK numK wr w.heap.size C p q os ∧ p = os.length ∧ gatH txn x (l.held.take k) [] = os ∧ Rb w A n c B m d x wr) (fun _ i _ => n - (intOf i).toNat)
  case atStart => exact ⟨0, none, 0, 0, [], Nat.zero_le _, rfl, rfl, OwnK.nil_ _ _ _, rfl, rfl, R0.out⟩
  case round =>
    obtain ⟨k, C, p, q, os, hk, rfl, rfl, o1, hp, he, hr⟩ := hrel
    have HO := Lib.hid o1
    have HE := Lib.hid he
    have HR := Lib.hid hr
    have HP := Lib.hid hp
    have hpk : p ≤ k := by
      have := gatH_len (txn := txn) (w := x) (l.held.take k) []
      rw [he, List.length_take] at this
      simp only [List.length_nil] at this
      omega
    clear o1 he hr hp b0 b1
    by_cases hlt : k < n
    · have hkl : k < l.held.length := by have := HAl.out; omega
      have hkn : (k : Int) < (n : Int) := by omega
      have HG := Lib.hid (gatH_at (txn := txn) (w := x) hkl [])
      have HWk := Lib.hid (HWH.out _ (List.getElem_mem hkl))
      obtain ⟨ad, rfl, hab, y0, y1, y2, y3⟩ := load_hold (HA.out.q HR.out.q) hlt hkl
      generalize l.held[k] = h at y0 y1 y2 y3 HG HWk
      have KC := Lib.hid (fun W => rclash_any h.w x W HWk.out HX.out)
      obtain ⟨⟨b0, b1⟩, _⟩ := HR.out.b1.get2
      obtain ⟨⟨b2, b3, b4⟩, _⟩ := HR.out.b2.get3
      go_wp2
      cases hcl : Sm.clash h.w x
      case false =>
        have HG2 := Lib.hid (show addT txn x h.txn h.w os = os by unfold addT; rw [hcl]; simp)
        rw [hcl] at KC
        clear hcl
        unfold wnV at KC
        refine wp_region_held_drew (S := Q wr) (by kernel_rfl) ?szz0 (fun hHeld => ?rzz0)
        case szz0 =>
          exact (Q.refl wr).drew
        case' rzz0 => skip
        refine wpAnyH_take (i := 0) (oi := ?ozz1) (v := ?vzz1) ?hzz1 ?azz1 ?bzz1 ?czz1 ?qzz1 ?yzz1 ?szz1 ?rzz1
        case hzz1 => simp only [List.getElem?_toArray, List.getElem?_cons_zero]; rfl
        case azz1 => kernel_rfl
        case bzz1 => kernel_rfl
        case czz1 => kernel_rfl
        case yzz1 =>
          refine Or.inl ⟨by rfl, ?_⟩
          intro w hSw
          have zb0 := box_ hSw b0; have zb1 := box_ hSw b1; have zb2 := box_ hSw b2; have zb3 := box_ hSw b3; have zb4 := box_ hSw b4; have zy0 := box_ hSw y0; have zy1 := box_ hSw y1; have zy2 := box_ hSw y2; have zy3 := box_ hSw y3; clear hSw
          go_simp
          try with_reducible rfl
        case qzz1 => exact fun _ _ _ h => h
        case szz1 => first | assumption | trivial
        case' rzz1 => simp only [Act.put, List.setIfInBounds_toArray, List.set_cons_zero, List.set_cons_succ]
        refine wpAnyH_take (i := 1) (oi := ?ozz2) (v := ?vzz2) ?hzz2 ?azz2 ?bzz2 ?czz2 ?qzz2 ?yzz2 ?szz2 ?rzz2
        case hzz2 => simp only [List.getElem?_toArray, List.getElem?_cons_zero, List.getElem?_cons_succ]; rfl
        case azz2 => kernel_rfl
        case bzz2 => kernel_rfl
        case czz2 => kernel_rfl
        case yzz2 =>
          refine Or.inl ⟨by rfl, ?_⟩
          intro w hSw
          have zb0 := box_ hSw b0; have zb1 := box_ hSw b1; have zb2 := box_ hSw b2; have zb3 := box_ hSw b3; have zb4 := box_ hSw b4; have zy0 := box_ hSw y0; have zy1 := box_ hSw y1; have zy2 := box_ hSw y2; have zy3 := box_ hSw y3; clear hSw
          go_simp
          try with_reducible rfl
        case qzz2 => exact fun _ _ _ h => h
        case szz2 => first | assumption | trivial
        case' rzz2 => simp only [Act.put, List.setIfInBounds_toArray, List.set_cons_zero, List.set_cons_succ]
        refine wpAnyH_take (i := 2) (oi := ?ozz3) (v := ?vzz3) ?hzz3 ?azz3 ?bzz3 ?czz3 ?qzz3 ?yzz3 ?szz3 ?rzz3
        case hzz3 => simp only [List.getElem?_toArray, List.getElem?_cons_zero, List.getElem?_cons_succ]; rfl
        case azz3 => kernel_rfl
        case bzz3 => kernel_rfl
        case czz3 => kernel_rfl
        case yzz3 =>
          refine Or.inl ⟨by rfl, ?_⟩
          intro w hSw
          have zb0 := box_ hSw b0; have zb1 := box_ hSw b1; have zb2 := box_ hSw b2; have zb3 := box_ hSw b3; have zb4 := box_ hSw b4; have zy0 := box_ hSw y0; have zy1 := box_ hSw y1; have zy2 := box_ hSw y2; have zy3 := box_ hSw y3; clear hSw
          go_simp
          try with_reducible rfl
        case qzz3 => exact fun _ _ _ h => h
        case szz3 => first | assumption | trivial
        case' rzz3 => simp only [Act.put, List.setIfInBounds_toArray, List.set_cons_zero, List.set_cons_succ]
        refine wpAnyH_take (i := 3) (oi := ?ozz4) (v := ?vzz4) ?hzz4 ?azz4 ?bzz4 ?czz4 ?qzz4 ?yzz4 ?szz4 ?rzz4
        case hzz4 => simp only [List.getElem?_toArray, List.getElem?_cons_zero, List.getElem?_cons_succ]; rfl
        case azz4 => kernel_rfl
        case bzz4 => kernel_rfl
        case czz4 => kernel_rfl
        case yzz4 =>
          refine Or.inl ⟨by rfl, ?_⟩
          intro w hSw
          have zb0 := box_ hSw b0; have zb1 := box_ hSw b1; have zb2 := box_ hSw b2; have zb3 := box_ hSw b3; have zb4 := box_ hSw b4; have zy0 := box_ hSw y0; have zy1 := box_ hSw y1; have zy2 := box_ hSw y2; have zy3 := box_ hSw y3; clear hSw
          go_simp
          try with_reducible rfl
        case qzz4 => exact fun _ _ _ h => h
        case szz4 => first | assumption | trivial
        case' rzz4 => simp only [Act.put, List.setIfInBounds_toArray, List.set_cons_zero, List.set_cons_succ]
        refine wpAnyH_take (i := 4) (oi := ?ozz5) (v := ?vzz5) ?hzz5 ?azz5 ?bzz5 ?czz5 ?qzz5 ?yzz5 ?szz5 ?rzz5
        case hzz5 => simp only [List.getElem?_toArray, List.getElem?_cons_zero, List.getElem?_cons_succ]; rfl
        case azz5 => kernel_rfl
        case bzz5 => kernel_rfl
        case czz5 => kernel_rfl
        case yzz5 =>
          refine Or.inl ⟨by rfl, ?_⟩
          intro w hSw
          have zb0 := box_ hSw b0; have zb1 := box_ hSw b1; have zb2 := box_ hSw b2; have zb3 := box_ hSw b3; have zb4 := box_ hSw b4; have zy0 := box_ hSw y0; have zy1 := box_ hSw y1; have zy2 := box_ hSw y2; have zy3 := box_ hSw y3; clear hSw
          go_simp
          try with_reducible rfl
        case qzz5 => exact fun _ _ _ h => h
        case szz5 => first | assumption | trivial
        case' rzz5 => simp only [Act.put, List.setIfInBounds_toArray, List.set_cons_zero, List.set_cons_succ]
        refine wpAnyH_take (i := 5) (oi := ?ozz6) (v := ?vzz6) ?hzz6 ?azz6 ?bzz6 ?czz6 ?qzz6 ?yzz6 ?szz6 ?rzz6
        case hzz6 => simp only [List.getElem?_toArray, List.getElem?_cons_zero, List.getElem?_cons_succ]; rfl
        case azz6 => kernel_rfl
        case bzz6 => kernel_rfl
        case czz6 => kernel_rfl
        case yzz6 =>
          refine Or.inl ⟨by rfl, ?_⟩
          intro w hSw
          have zb0 := box_ hSw b0; have zb1 := box_ hSw b1; have zb2 := box_ hSw b2; have zb3 := box_ hSw b3; have zb4 := box_ hSw b4; have zy0 := box_ hSw y0; have zy1 := box_ hSw y1; have zy2 := box_ hSw y2; have zy3 := box_ hSw y3; clear hSw
          go_simp
          try with_reducible rfl
        case qzz6 => exact fun _ _ _ h => h
        case szz6 => first | assumption | trivial
        case' rzz6 => simp only [Act.put, List.setIfInBounds_toArray, List.set_cons_zero, List.set_cons_succ]
        refine wpAnyH_take (i := 6) (oi := ?ozz7) (v := ?vzz7) ?hzz7 ?azz7 ?bzz7 ?czz7 ?qzz7 ?yzz7 ?szz7 ?rzz7
        case hzz7 => simp only [List.getElem?_toArray, List.getElem?_cons_zero, List.getElem?_cons_succ]; rfl
        case azz7 => kernel_rfl
        case bzz7 => kernel_rfl
        case czz7 => kernel_rfl
        case yzz7 =>
          refine Or.inl ⟨by rfl, ?_⟩
          intro w hSw
          have zb0 := box_ hSw b0; have zb1 := box_ hSw b1; have zb2 := box_ hSw b2; have zb3 := box_ hSw b3; have zb4 := box_ hSw b4; have zy0 := box_ hSw y0; have zy1 := box_ hSw y1; have zy2 := box_ hSw y2; have zy3 := box_ hSw y3; clear hSw
          go_simp
          try with_reducible rfl
        case qzz7 => exact fun _ _ _ h => h
        case szz7 => first | assumption | trivial
        case' rzz7 => simp only [Act.put, List.setIfInBounds_toArray, List.set_cons_zero, List.set_cons_succ]
        refine wpAnyH_ready (rs := [7]) (by kernel_rfl) (by simp) ?_
        refine AllReadyH.cons (o := ?ozz9) ?hzz9 (fun K hK => ?kzz9) ?mzz9
        case hzz9 => simp only [List.getElem?_toArray, List.getElem?_cons_zero, List.getElem?_cons_succ]; rfl
        case kzz9 =>
          go_simp
          refine (KC.out _).mono ?_
          rintro e w2 ⟨rfl, q2⟩
          go_wp2_with fail
          refine hK.out _ _ ?Szz9 (fun hHeld => ?Rzz9)
          case Szz9 =>
            exact hHeld.trans q2
          case Rzz9 =>
            clear hK K
            try simp only [Act.put, List.setIfInBounds_toArray, List.set_cons_zero, List.set_cons_succ]
            refine wpAnyH_take (i := 8) (oi := ?ozz8) (v := ?vzz8) ?hzz8 ?azz8 ?bzz8 ?czz8 ?qzz8 ?yzz8 ?szz8 ?rzz8
            case hzz8 => simp only [List.getElem?_toArray, List.getElem?_cons_zero, List.getElem?_cons_succ]; rfl
            case azz8 => kernel_rfl
            case bzz8 => kernel_rfl
            case czz8 => kernel_rfl
            case yzz8 =>
              refine Or.inl ⟨by rfl, ?_⟩
              intro w hSw
              have zb0 := box_ hSw b0; have zb1 := box_ hSw b1; have zb2 := box_ hSw b2; have zb3 := box_ hSw b3; have zb4 := box_ hSw b4; have zy0 := box_ hSw y0; have zy1 := box_ hSw y1; have zy2 := box_ hSw y2; have zy3 := box_ hSw y3; clear hSw
              go_simp
              try with_reducible rfl
            case qzz8 => exact fun _ _ _ h => h
            case szz8 => first | assumption | trivial
            case' rzz8 => simp only [Act.put, List.setIfInBounds_toArray, List.set_cons_zero, List.set_cons_succ]
            refine wpAnyH_done (by kernel_rfl) ?_ _
            have HQ2 := Lib.hid hHeld
            have b0 := box_ HQ2.out b0
            have b1 := box_ HQ2.out b1
            have b2 := box_ HQ2.out b2
            have b3 := box_ HQ2.out b3
            have b4 := box_ HQ2.out b4
            have y0 := box_ HQ2.out y0
            have y1 := box_ HQ2.out y1
            have y2 := box_ HQ2.out y2
            have y3 := box_ HQ2.out y3
            go_wp2
            go_roundw
            case rel => exact ⟨k + 1, C, p, q, os, by omega, by go_num, rfl, HO.out.q HQ2.out, HP.out, by rw [HG.out, HE.out, HG2.out], HR.out.step HQ2.out⟩
            case measure => simp [intOf]; omega
        case' mzz9 => skip
        exact AllReadyH.nil
      case true =>
        rw [hcl] at KC
        by_cases ht : h.txn = txn
        · have HG2 := Lib.hid (show addT txn x h.txn h.w os = os by unfold addT; rw [hcl]; simp [ht])
          have et : (h.txn != txn) = false := by simpa using ht
          clear hcl ht
          unfold wnV at KC
          refine wp_region_held_drew (S := Q wr) (by kernel_rfl) ?szz10 (fun hHeld => ?rzz10)
          case szz10 =>
            exact (Q.refl wr).drew
          case' rzz10 => skip
          refine wpAnyH_take (i := 0) (oi := ?ozz11) (v := ?vzz11) ?hzz11 ?azz11 ?bzz11 ?czz11 ?qzz11 ?yzz11 ?szz11 ?rzz11
          case hzz11 => simp only [List.getElem?_toArray, List.getElem?_cons_zero]; rfl
          case azz11 => kernel_rfl
          case bzz11 => kernel_rfl
          case czz11 => kernel_rfl
          case yzz11 =>
            refine Or.inl ⟨by rfl, ?_⟩
            intro w hSw
            have zb0 := box_ hSw b0; have zb1 := box_ hSw b1; have zb2 := box_ hSw b2; have zb3 := box_ hSw b3; have zb4 := box_ hSw b4; have zy0 := box_ hSw y0; have zy1 := box_ hSw y1; have zy2 := box_ hSw y2; have zy3 := box_ hSw y3; clear hSw
            go_simp
            try with_reducible rfl
          case qzz11 => exact fun _ _ _ h => h
          case szz11 => first | assumption | trivial
          case' rzz11 => simp only [Act.put, List.setIfInBounds_toArray, List.set_cons_zero, List.set_cons_succ]
          refine wpAnyH_take (i := 1) (oi := ?ozz12) (v := ?vzz12) ?hzz12 ?azz12 ?bzz12 ?czz12 ?qzz12 ?yzz12 ?szz12 ?rzz12
          case hzz12 => simp only [List.getElem?_toArray, List.getElem?_cons_zero, List.getElem?_cons_succ]; rfl
          case azz12 => kernel_rfl
          case bzz12 => kernel_rfl
          case czz12 => kernel_rfl
          case yzz12 =>
            refine Or.inl ⟨by rfl, ?_⟩
            intro w hSw
            have zb0 := box_ hSw b0; have zb1 := box_ hSw b1; have zb2 := box_ hSw b2; have zb3 := box_ hSw b3; have zb4 := box_ hSw b4; have zy0 := box_ hSw y0; have zy1 := box_ hSw y1; have zy2 := box_ hSw y2; have zy3 := box_ hSw y3; clear hSw
            go_simp
            try with_reducible rfl
          case qzz12 => exact fun _ _ _ h => h
          case szz12 => first | assumption | trivial
          case' rzz12 => simp only [Act.put, List.setIfInBounds_toArray, List.set_cons_zero, List.set_cons_succ]
          refine wpAnyH_take (i := 2) (oi := ?ozz13) (v := ?vzz13) ?hzz13 ?azz13 ?bzz13 ?czz13 ?qzz13 ?yzz13 ?szz13 ?rzz13
          case hzz13 => simp only [List.getElem?_toArray, List.getElem?_cons_zero, List.getElem?_cons_succ]; rfl
          case azz13 => kernel_rfl
          case bzz13 => kernel_rfl
          case czz13 => kernel_rfl
          case yzz13 =>
            refine Or.inl ⟨by rfl, ?_⟩
            intro w hSw
            have zb0 := box_ hSw b0; have zb1 := box_ hSw b1; have zb2 := box_ hSw b2; have zb3 := box_ hSw b3; have zb4 := box_ hSw b4; have zy0 := box_ hSw y0; have zy1 := box_ hSw y1; have zy2 := box_ hSw y2; have zy3 := box_ hSw y3; clear hSw
            go_simp
            try with_reducible rfl
          case qzz13 => exact fun _ _ _ h => h
          case szz13 => first | assumption | trivial
          case' rzz13 => simp only [Act.put, List.setIfInBounds_toArray, List.set_cons_zero, List.set_cons_succ]
          refine wpAnyH_take (i := 3) (oi := ?ozz14) (v := ?vzz14) ?hzz14 ?azz14 ?bzz14 ?czz14 ?qzz14 ?yzz14 ?szz14 ?rzz14
          case hzz14 => simp only [List.getElem?_toArray, List.getElem?_cons_zero, List.getElem?_cons_succ]; rfl
          case azz14 => kernel_rfl
          case bzz14 => kernel_rfl
          case czz14 => kernel_rfl
          case yzz14 =>
            refine Or.inl ⟨by rfl, ?_⟩
            intro w hSw
            have zb0 := box_ hSw b0; have zb1 := box_ hSw b1; have zb2 := box_ hSw b2; have zb3 := box_ hSw b3; have zb4 := box_ hSw b4; have zy0 := box_ hSw y0; have zy1 := box_ hSw y1; have zy2 := box_ hSw y2; have zy3 := box_ hSw y3; clear hSw
            go_simp
            try with_reducible rfl
          case qzz14 => exact fun _ _ _ h => h
          case szz14 => first | assumption | trivial
          case' rzz14 => simp only [Act.put, List.setIfInBounds_toArray, List.set_cons_zero, List.set_cons_succ]
          refine wpAnyH_take (i := 4) (oi := ?ozz15) (v := ?vzz15) ?hzz15 ?azz15 ?bzz15 ?czz15 ?qzz15 ?yzz15 ?szz15 ?rzz15
          case hzz15 => simp only [List.getElem?_toArray, List.getElem?_cons_zero, List.getElem?_cons_succ]; rfl
          case azz15 => kernel_rfl
          case bzz15 => kernel_rfl
          case czz15 => kernel_rfl
          case yzz15 =>
            refine Or.inl ⟨by rfl, ?_⟩
            intro w hSw
            have zb0 := box_ hSw b0; have zb1 := box_ hSw b1; have zb2 := box_ hSw b2; have zb3 := box_ hSw b3; have zb4 := box_ hSw b4; have zy0 := box_ hSw y0; have zy1 := box_ hSw y1; have zy2 := box_ hSw y2; have zy3 := box_ hSw y3; clear hSw
            go_simp
            try with_reducible rfl
          case qzz15 => exact fun _ _ _ h => h
          case szz15 => first | assumption | trivial
          case' rzz15 => simp only [Act.put, List.setIfInBounds_toArray, List.set_cons_zero, List.set_cons_succ]
          refine wpAnyH_take (i := 5) (oi := ?ozz16) (v := ?vzz16) ?hzz16 ?azz16 ?bzz16 ?czz16 ?qzz16 ?yzz16 ?szz16 ?rzz16
          case hzz16 => simp only [List.getElem?_toArray, List.getElem?_cons_zero, List.getElem?_cons_succ]; rfl
          case azz16 => kernel_rfl
          case bzz16 => kernel_rfl
          case czz16 => kernel_rfl
          case yzz16 =>
            refine Or.inl ⟨by rfl, ?_⟩
            intro w hSw
            have zb0 := box_ hSw b0; have zb1 := box_ hSw b1; have zb2 := box_ hSw b2; have zb3 := box_ hSw b3; have zb4 := box_ hSw b4; have zy0 := box_ hSw y0; have zy1 := box_ hSw y1; have zy2 := box_ hSw y2; have zy3 := box_ hSw y3; clear hSw
            go_simp
            try with_reducible rfl
          case qzz16 => exact fun _ _ _ h => h
          case szz16 => first | assumption | trivial
          case' rzz16 => simp only [Act.put, List.setIfInBounds_toArray, List.set_cons_zero, List.set_cons_succ]
          refine wpAnyH_take (i := 6) (oi := ?ozz17) (v := ?vzz17) ?hzz17 ?azz17 ?bzz17 ?czz17 ?qzz17 ?yzz17 ?szz17 ?rzz17
          case hzz17 => simp only [List.getElem?_toArray, List.getElem?_cons_zero, List.getElem?_cons_succ]; rfl
          case azz17 => kernel_rfl
          case bzz17 => kernel_rfl
          case czz17 => kernel_rfl
          case yzz17 =>
            refine Or.inl ⟨by rfl, ?_⟩
            intro w hSw
            have zb0 := box_ hSw b0; have zb1 := box_ hSw b1; have zb2 := box_ hSw b2; have zb3 := box_ hSw b3; have zb4 := box_ hSw b4; have zy0 := box_ hSw y0; have zy1 := box_ hSw y1; have zy2 := box_ hSw y2; have zy3 := box_ hSw y3; clear hSw
            go_simp
            try with_reducible rfl
          case qzz17 => exact fun _ _ _ h => h
          case szz17 => first | assumption | trivial
          case' rzz17 => simp only [Act.put, List.setIfInBounds_toArray, List.set_cons_zero, List.set_cons_succ]
          refine wpAnyH_ready (rs := [7]) (by kernel_rfl) (by simp) ?_
          refine AllReadyH.cons (o := ?ozz19) ?hzz19 (fun K hK => ?kzz19) ?mzz19
          case hzz19 => simp only [List.getElem?_toArray, List.getElem?_cons_zero, List.getElem?_cons_succ]; rfl
          case kzz19 =>
            go_simp
            refine (KC.out _).mono ?_
            rintro e w2 ⟨rfl, q2⟩
            go_wp2_with fail
            refine hK.out _ _ ?Szz19 (fun hHeld => ?Rzz19)
            case Szz19 =>
              exact hHeld.trans q2
            case Rzz19 =>
              clear hK K
              try simp only [Act.put, List.setIfInBounds_toArray, List.set_cons_zero, List.set_cons_succ]
              refine wpAnyH_take (i := 8) (oi := ?ozz18) (v := ?vzz18) ?hzz18 ?azz18 ?bzz18 ?czz18 ?qzz18 ?yzz18 ?szz18 ?rzz18
              case hzz18 => simp only [List.getElem?_toArray, List.getElem?_cons_zero, List.getElem?_cons_succ]; rfl
              case azz18 => kernel_rfl
              case bzz18 => kernel_rfl
              case czz18 => kernel_rfl
              case yzz18 =>
                refine Or.inl ⟨by rfl, ?_⟩
                intro w hSw
                have zb0 := box_ hSw b0; have zb1 := box_ hSw b1; have zb2 := box_ hSw b2; have zb3 := box_ hSw b3; have zb4 := box_ hSw b4; have zy0 := box_ hSw y0; have zy1 := box_ hSw y1; have zy2 := box_ hSw y2; have zy3 := box_ hSw y3; clear hSw
                go_simp
                try with_reducible rfl
              case qzz18 => exact fun _ _ _ h => h
              case szz18 => first | assumption | trivial
              case' rzz18 => simp only [Act.put, List.setIfInBounds_toArray, List.set_cons_zero, List.set_cons_succ]
              refine wpAnyH_done (by kernel_rfl) ?_ _
              have HQ2 := Lib.hid hHeld
              have b0 := box_ HQ2.out b0
              have b1 := box_ HQ2.out b1
              have b2 := box_ HQ2.out b2
              have b3 := box_ HQ2.out b3
              have b4 := box_ HQ2.out b4
              have y0 := box_ HQ2.out y0
              have y1 := box_ HQ2.out y1
              have y2 := box_ HQ2.out y2
              have y3 := box_ HQ2.out y3
              go_wp2
              go_roundw
              case rel => exact ⟨k + 1, C, p, q, os, by omega, by go_num, rfl, HO.out.q HQ2.out, HP.out, by rw [HG.out, HE.out, HG2.out], HR.out.step HQ2.out⟩
              case measure => simp [intOf]; omega
          case' mzz19 => skip
          exact AllReadyH.nil
        · have HG2 := Lib.hid (show addT txn x h.txn h.w os = ins h.txn os by unfold addT; rw [hcl]; simp [ht])
          have et : (h.txn != txn) = true := by simpa using ht
          have KP := Lib.hid (fun W hh => put_any h.txn C p q os W hh (by omega))
          have hil := Lib.hid (ins_len (n := h.txn) os)
          generalize hI : ins h.txn os = os2 at HG2 KP hil
          clear hcl ht hI
          unfold wnV at KC
          refine wp_region_held_drew (S := Q wr) (by kernel_rfl) ?szz20 (fun hHeld => ?rzz20)
          case szz20 =>
            exact (Q.refl wr).drew
          case' rzz20 => skip
          refine wpAnyH_take (i := 0) (oi := ?ozz21) (v := ?vzz21) ?hzz21 ?azz21 ?bzz21 ?czz21 ?qzz21 ?yzz21 ?szz21 ?rzz21
          case hzz21 => simp only [List.getElem?_toArray, List.getElem?_cons_zero]; rfl
          case azz21 => kernel_rfl
          case bzz21 => kernel_rfl
          case czz21 => kernel_rfl
          case yzz21 =>
            refine Or.inl ⟨by rfl, ?_⟩
            intro w hSw
            have zb0 := box_ hSw b0; have zb1 := box_ hSw b1; have zb2 := box_ hSw b2; have zb3 := box_ hSw b3; have zb4 := box_ hSw b4; have zy0 := box_ hSw y0; have zy1 := box_ hSw y1; have zy2 := box_ hSw y2; have zy3 := box_ hSw y3; clear hSw
            go_simp
            try with_reducible rfl
          case qzz21 => exact fun _ _ _ h => h
          case szz21 => first | assumption | trivial
          case' rzz21 => simp only [Act.put, List.setIfInBounds_toArray, List.set_cons_zero, List.set_cons_succ]
          refine wpAnyH_take (i := 1) (oi := ?ozz22) (v := ?vzz22) ?hzz22 ?azz22 ?bzz22 ?czz22 ?qzz22 ?yzz22 ?szz22 ?rzz22
          case hzz22 => simp only [List.getElem?_toArray, List.getElem?_cons_zero, List.getElem?_cons_succ]; rfl
          case azz22 => kernel_rfl
          case bzz22 => kernel_rfl
          case czz22 => kernel_rfl
          case yzz22 =>
            refine Or.inl ⟨by rfl, ?_⟩
            intro w hSw
            have zb0 := box_ hSw b0; have zb1 := box_ hSw b1; have zb2 := box_ hSw b2; have zb3 := box_ hSw b3; have zb4 := box_ hSw b4; have zy0 := box_ hSw y0; have zy1 := box_ hSw y1; have zy2 := box_ hSw y2; have zy3 := box_ hSw y3; clear hSw
            go_simp
            try with_reducible rfl
          case qzz22 => exact fun _ _ _ h => h
          case szz22 => first | assumption | trivial
          case' rzz22 => simp only [Act.put, List.setIfInBounds_toArray, List.set_cons_zero, List.set_cons_succ]
          refine wpAnyH_take (i := 2) (oi := ?ozz23) (v := ?vzz23) ?hzz23 ?azz23 ?bzz23 ?czz23 ?qzz23 ?yzz23 ?szz23 ?rzz23
          case hzz23 => simp only [List.getElem?_toArray, List.getElem?_cons_zero, List.getElem?_cons_succ]; rfl
          case azz23 => kernel_rfl
          case bzz23 => kernel_rfl
          case czz23 => kernel_rfl
          case yzz23 =>
            refine Or.inl ⟨by rfl, ?_⟩
            intro w hSw
            have zb0 := box_ hSw b0; have zb1 := box_ hSw b1; have zb2 := box_ hSw b2; have zb3 := box_ hSw b3; have zb4 := box_ hSw b4; have zy0 := box_ hSw y0; have zy1 := box_ hSw y1; have zy2 := box_ hSw y2; have zy3 := box_ hSw y3; clear hSw
            go_simp
            try with_reducible rfl
          case qzz23 => exact fun _ _ _ h => h
          case szz23 => first | assumption | trivial
          case' rzz23 => simp only [Act.put, List.setIfInBounds_toArray, List.set_cons_zero, List.set_cons_succ]
          refine wpAnyH_take (i := 3) (oi := ?ozz24) (v := ?vzz24) ?hzz24 ?azz24 ?bzz24 ?czz24 ?qzz24 ?yzz24 ?szz24 ?rzz24
          case hzz24 => simp only [List.getElem?_toArray, List.getElem?_cons_zero, List.getElem?_cons_succ]; rfl
          case azz24 => kernel_rfl
          case bzz24 => kernel_rfl
          case czz24 => kernel_rfl
          case yzz24 =>
            refine Or.inl ⟨by rfl, ?_⟩
            intro w hSw
            have zb0 := box_ hSw b0; have zb1 := box_ hSw b1; have zb2 := box_ hSw b2; have zb3 := box_ hSw b3; have zb4 := box_ hSw b4; have zy0 := box_ hSw y0; have zy1 := box_ hSw y1; have zy2 := box_ hSw y2; have zy3 := box_ hSw y3; clear hSw
            go_simp
            try with_reducible rfl
          case qzz24 => exact fun _ _ _ h => h
          case szz24 => first | assumption | trivial
          case' rzz24 => simp only [Act.put, List.setIfInBounds_toArray, List.set_cons_zero, List.set_cons_succ]
          refine wpAnyH_take (i := 4) (oi := ?ozz25) (v := ?vzz25) ?hzz25 ?azz25 ?bzz25 ?czz25 ?qzz25 ?yzz25 ?szz25 ?rzz25
          case hzz25 => simp only [List.getElem?_toArray, List.getElem?_cons_zero, List.getElem?_cons_succ]; rfl
          case azz25 => kernel_rfl
          case bzz25 => kernel_rfl
          case czz25 => kernel_rfl
          case yzz25 =>
            refine Or.inl ⟨by rfl, ?_⟩
            intro w hSw
            have zb0 := box_ hSw b0; have zb1 := box_ hSw b1; have zb2 := box_ hSw b2; have zb3 := box_ hSw b3; have zb4 := box_ hSw b4; have zy0 := box_ hSw y0; have zy1 := box_ hSw y1; have zy2 := box_ hSw y2; have zy3 := box_ hSw y3; clear hSw
            go_simp
            try with_reducible rfl
          case qzz25 => exact fun _ _ _ h => h
          case szz25 => first | assumption | trivial
          case' rzz25 => simp only [Act.put, List.setIfInBounds_toArray, List.set_cons_zero, List.set_cons_succ]
          refine wpAnyH_take (i := 5) (oi := ?ozz26) (v := ?vzz26) ?hzz26 ?azz26 ?bzz26 ?czz26 ?qzz26 ?yzz26 ?szz26 ?rzz26
          case hzz26 => simp only [List.getElem?_toArray, List.getElem?_cons_zero, List.getElem?_cons_succ]; rfl
          case azz26 => kernel_rfl
          case bzz26 => kernel_rfl
          case czz26 => kernel_rfl
          case yzz26 =>
            refine Or.inl ⟨by rfl, ?_⟩
            intro w hSw
            have zb0 := box_ hSw b0; have zb1 := box_ hSw b1; have zb2 := box_ hSw b2; have zb3 := box_ hSw b3; have zb4 := box_ hSw b4; have zy0 := box_ hSw y0; have zy1 := box_ hSw y1; have zy2 := box_ hSw y2; have zy3 := box_ hSw y3; clear hSw
            go_simp
            try with_reducible rfl
          case qzz26 => exact fun _ _ _ h => h
          case szz26 => first | assumption | trivial
          case' rzz26 => simp only [Act.put, List.setIfInBounds_toArray, List.set_cons_zero, List.set_cons_succ]
          refine wpAnyH_take (i := 6) (oi := ?ozz27) (v := ?vzz27) ?hzz27 ?azz27 ?bzz27 ?czz27 ?qzz27 ?yzz27 ?szz27 ?rzz27
          case hzz27 => simp only [List.getElem?_toArray, List.getElem?_cons_zero, List.getElem?_cons_succ]; rfl
          case azz27 => kernel_rfl
          case bzz27 => kernel_rfl
          case czz27 => kernel_rfl
          case yzz27 =>
            refine Or.inl ⟨by rfl, ?_⟩
            intro w hSw
            have zb0 := box_ hSw b0; have zb1 := box_ hSw b1; have zb2 := box_ hSw b2; have zb3 := box_ hSw b3; have zb4 := box_ hSw b4; have zy0 := box_ hSw y0; have zy1 := box_ hSw y1; have zy2 := box_ hSw y2; have zy3 := box_ hSw y3; clear hSw
            go_simp
            try with_reducible rfl
          case qzz27 => exact fun _ _ _ h => h
          case szz27 => first | assumption | trivial
          case' rzz27 => simp only [Act.put, List.setIfInBounds_toArray, List.set_cons_zero, List.set_cons_succ]
          refine wpAnyH_ready (rs := [7]) (by kernel_rfl) (by simp) ?_
          refine AllReadyH.cons (o := ?ozz29) ?hzz29 (fun K hK => ?kzz29) ?mzz29
          case hzz29 => simp only [List.getElem?_toArray, List.getElem?_cons_zero, List.getElem?_cons_succ]; rfl
          case kzz29 =>
            go_simp
            refine (KC.out _).mono ?_
            rintro e w2 ⟨rfl, q2⟩
            go_wp2_with fail
            refine hK.out _ _ ?Szz29 (fun hHeld => ?Rzz29)
            case Szz29 =>
              exact hHeld.trans q2
            case Rzz29 =>
              clear hK K
              try simp only [Act.put, List.setIfInBounds_toArray, List.set_cons_zero, List.set_cons_succ]
              refine wpAnyH_take (i := 8) (oi := ?ozz28) (v := ?vzz28) ?hzz28 ?azz28 ?bzz28 ?czz28 ?qzz28 ?yzz28 ?szz28 ?rzz28
              case hzz28 => simp only [List.getElem?_toArray, List.getElem?_cons_zero, List.getElem?_cons_succ]; rfl
              case azz28 => kernel_rfl
              case bzz28 => kernel_rfl
              case czz28 => kernel_rfl
              case yzz28 =>
                refine Or.inl ⟨by rfl, ?_⟩
                intro w hSw
                have zb0 := box_ hSw b0; have zb1 := box_ hSw b1; have zb2 := box_ hSw b2; have zb3 := box_ hSw b3; have zb4 := box_ hSw b4; have zy0 := box_ hSw y0; have zy1 := box_ hSw y1; have zy2 := box_ hSw y2; have zy3 := box_ hSw y3; clear hSw
                go_simp
                try with_reducible rfl
              case qzz28 => exact fun _ _ _ h => h
              case szz28 => first | assumption | trivial
              case' rzz28 => simp only [Act.put, List.setIfInBounds_toArray, List.set_cons_zero, List.set_cons_succ]
              refine wpAnyH_done (by kernel_rfl) ?_ _
              have HQ2 := Lib.hid hHeld
              have b0 := box_ HQ2.out b0
              have b1 := box_ HQ2.out b1
              have b2 := box_ HQ2.out b2
              have b3 := box_ HQ2.out b3
              have b4 := box_ HQ2.out b4
              have y0 := box_ HQ2.out y0
              have y1 := box_ HQ2.out y1
              have y2 := box_ HQ2.out y2
              have y3 := box_ HQ2.out y3
              go_wp2_with fail
              refine (KP.out _ (HO.out.q HQ2.out).lst).mono ?_
              rintro e w3 ⟨C3, q3, rfl, o3, y3⟩
              have O3 := Lib.hid (o3.lower (b2 := w.heap.size) (by have := HR.out.q.size; have := HQ2.out.size; omega))
              have HQ3 := Lib.hid (HQ2.out.trans y3)
              clear o3 y3
              go_wp2
              go_roundw
              case rel => exact ⟨k + 1, C3, os2.length, q3, os2, by omega, by go_num, rfl, O3.out, rfl, by rw [HG.out, HE.out, HG2.out], HR.out.step HQ3.out⟩
              case measure => simp [intOf]; omega
          case' mzz29 => skip
          exact AllReadyH.nil
    · have hkn : k = n := by omega
      obtain ⟨⟨b0, b1⟩, _⟩ := HR.out.b1.get2
      have HE : Hid (gatH txn x l.held [] = os) := Lib.hid (by have := HE.out; rwa [List.take_of_length_le (by have := HAl.out; omega)] at this)
      rw [HE.out] at HBK
      have HO1 := Lib.hid HO.out
      have hpn : p ≤ n := by omega
      generalize hG : os = G at HBK
      have HG0 := Lib.hid hG
      clear HE hpk hG
      go_wp2
      go_loopw [9, 12] (fun o i wr => ∃ (k : Nat) (C : Option Addr) (p q : Nat) (os : List Int), k ≤ m ∧ i = .int .i64 k ∧ o = .slice C p q ∧ OwnK numK wr w.heap.size C p q os ∧ p = os.length ∧ gatQ txn x (l.queue.take k) G = os ∧ Rb w A n c B m d x wr ∧ k ≤ N.toNat) (fun _ i _ => m - (intOf i).toNat)
      case atStart => exact ⟨0, C, p, q, os, Nat.zero_le _, rfl, rfl, HO1.out, HP.out, HG0.out.symm, HR.out, Nat.zero_le _⟩
      case round =>
        have hGl : G.length ≤ n := by have := HP.out; have := HG0.out; subst this; omega
        clear HO HO1 HP HG0 b0 b1 hkn hlt hk hpn
        have HR0 := HR
        clear HR
        rename_i kk CC pp qq
        obtain ⟨k, C, p, q, os, hk, rfl, rfl, o1, hp, he, hr, hkN⟩ := hrel
        have HO := Lib.hid o1
        have HE := Lib.hid he
        have HR := Lib.hid hr
        have HP := Lib.hid hp
        have hpk : p ≤ n + k := by
          have := gatQ_len (txn := txn) (w := x) (l.queue.take k) G
          rw [he, List.length_take] at this
          omega
        obtain ⟨⟨b0, b1⟩, _⟩ := HR.out.b1.get2
        clear o1 he hr hp
        by_cases hlN : (k : Int) < N
        · by_cases hlt : k < m
          · clear b0 b1
            have hkl : k < l.queue.length := by have := HBl.out; omega
            have hkn : (k : Int) < (m : Int) := by omega
            have HG := Lib.hid (gatQ_at (txn := txn) (w := x) hkl G)
            have HWk := Lib.hid (HWC.out _ (List.getElem_mem hkl))
            obtain ⟨ad, rfl, hab, y0, y1, y2, y3, y4⟩ := load_claim (HB.out.q HR.out.q) hlt hkl
            generalize l.queue[k] = h at y0 y1 y2 y3 y4 HG HWk
            have KC := Lib.hid (fun W => rclash_any h.w x W HWk.out HX.out)
            obtain ⟨⟨b0, b1⟩, _⟩ := HR.out.b1.get2
            obtain ⟨⟨b2, b3, b4⟩, _⟩ := HR.out.b2.get3
            go_wp2
            cases hcl : Sm.clash h.w x
            case false =>
              have HG2 := Lib.hid (show addT txn x h.txn h.w os = os by unfold addT; rw [hcl]; simp)
              rw [hcl] at KC
              clear hcl
              unfold wnV at KC
              refine wp_region_held_drew (S := Q wr) (by kernel_rfl) ?szz30 (fun hHeld => ?rzz30)
              case szz30 =>
                exact (Q.refl wr).drew
              case' rzz30 => skip
              refine wpAnyH_take (i := 0) (oi := ?ozz31) (v := ?vzz31) ?hzz31 ?azz31 ?bzz31 ?czz31 ?qzz31 ?yzz31 ?szz31 ?rzz31
              case hzz31 => simp only [List.getElem?_toArray, List.getElem?_cons_zero]; rfl
              case azz31 => kernel_rfl
              case bzz31 => kernel_rfl
              case czz31 => kernel_rfl
              case yzz31 =>
                refine Or.inl ⟨by rfl, ?_⟩
                intro w hSw
                have zb0 := box_ hSw b0; have zb1 := box_ hSw b1; have zb2 := box_ hSw b2; have zb3 := box_ hSw b3; have zb4 := box_ hSw b4; have zy0 := box_ hSw y0; have zy1 := box_ hSw y1; have zy2 := box_ hSw y2; have zy3 := box_ hSw y3; have zy4 := box_ hSw y4; clear hSw
                go_simp
                try with_reducible rfl
              case qzz31 => exact fun _ _ _ h => h
              case szz31 => first | assumption | trivial
              case' rzz31 => simp only [Act.put, List.setIfInBounds_toArray, List.set_cons_zero, List.set_cons_succ]
              refine wpAnyH_take (i := 1) (oi := ?ozz32) (v := ?vzz32) ?hzz32 ?azz32 ?bzz32 ?czz32 ?qzz32 ?yzz32 ?szz32 ?rzz32
              case hzz32 => simp only [List.getElem?_toArray, List.getElem?_cons_zero, List.getElem?_cons_succ]; rfl
              case azz32 => kernel_rfl
              case bzz32 => kernel_rfl
              case czz32 => kernel_rfl
              case yzz32 =>
                refine Or.inl ⟨by rfl, ?_⟩
                intro w hSw
                have zb0 := box_ hSw b0; have zb1 := box_ hSw b1; have zb2 := box_ hSw b2; have zb3 := box_ hSw b3; have zb4 := box_ hSw b4; have zy0 := box_ hSw y0; have zy1 := box_ hSw y1; have zy2 := box_ hSw y2; have zy3 := box_ hSw y3; have zy4 := box_ hSw y4; clear hSw
                go_simp
                try with_reducible rfl
              case qzz32 => exact fun _ _ _ h => h
              case szz32 => first | assumption | trivial
              case' rzz32 => simp only [Act.put, List.setIfInBounds_toArray, List.set_cons_zero, List.set_cons_succ]
              refine wpAnyH_take (i := 2) (oi := ?ozz33) (v := ?vzz33) ?hzz33 ?azz33 ?bzz33 ?czz33 ?qzz33 ?yzz33 ?szz33 ?rzz33
              case hzz33 => simp only [List.getElem?_toArray, List.getElem?_cons_zero, List.getElem?_cons_succ]; rfl
              case azz33 => kernel_rfl
              case bzz33 => kernel_rfl
              case czz33 => kernel_rfl
              case yzz33 =>
                refine Or.inl ⟨by rfl, ?_⟩
                intro w hSw
                have zb0 := box_ hSw b0; have zb1 := box_ hSw b1; have zb2 := box_ hSw b2; have zb3 := box_ hSw b3; have zb4 := box_ hSw b4; have zy0 := box_ hSw y0; have zy1 := box_ hSw y1; have zy2 := box_ hSw y2; have zy3 := box_ hSw y3; have zy4 := box_ hSw y4; clear hSw
                go_simp
                try with_reducible rfl
              case qzz33 => exact fun _ _ _ h => h
              case szz33 => first | assumption | trivial
              case' rzz33 => simp only [Act.put, List.setIfInBounds_toArray, List.set_cons_zero, List.set_cons_succ]
              refine wpAnyH_take (i := 3) (oi := ?ozz34) (v := ?vzz34) ?hzz34 ?azz34 ?bzz34 ?czz34 ?qzz34 ?yzz34 ?szz34 ?rzz34
              case hzz34 => simp only [List.getElem?_toArray, List.getElem?_cons_zero, List.getElem?_cons_succ]; rfl
              case azz34 => kernel_rfl
              case bzz34 => kernel_rfl
              case czz34 => kernel_rfl
              case yzz34 =>
                refine Or.inl ⟨by rfl, ?_⟩
                intro w hSw
                have zb0 := box_ hSw b0; have zb1 := box_ hSw b1; have zb2 := box_ hSw b2; have zb3 := box_ hSw b3; have zb4 := box_ hSw b4; have zy0 := box_ hSw y0; have zy1 := box_ hSw y1; have zy2 := box_ hSw y2; have zy3 := box_ hSw y3; have zy4 := box_ hSw y4; clear hSw
                go_simp
                try with_reducible rfl
              case qzz34 => exact fun _ _ _ h => h
              case szz34 => first | assumption | trivial
              case' rzz34 => simp only [Act.put, List.setIfInBounds_toArray, List.set_cons_zero, List.set_cons_succ]
              refine wpAnyH_take (i := 4) (oi := ?ozz35) (v := ?vzz35) ?hzz35 ?azz35 ?bzz35 ?czz35 ?qzz35 ?yzz35 ?szz35 ?rzz35
              case hzz35 => simp only [List.getElem?_toArray, List.getElem?_cons_zero, List.getElem?_cons_succ]; rfl
              case azz35 => kernel_rfl
              case bzz35 => kernel_rfl
              case czz35 => kernel_rfl
              case yzz35 =>
                refine Or.inl ⟨by rfl, ?_⟩
                intro w hSw
                have zb0 := box_ hSw b0; have zb1 := box_ hSw b1; have zb2 := box_ hSw b2; have zb3 := box_ hSw b3; have zb4 := box_ hSw b4; have zy0 := box_ hSw y0; have zy1 := box_ hSw y1; have zy2 := box_ hSw y2; have zy3 := box_ hSw y3; have zy4 := box_ hSw y4; clear hSw
                go_simp
                try with_reducible rfl
              case qzz35 => exact fun _ _ _ h => h
              case szz35 => first | assumption | trivial
              case' rzz35 => simp only [Act.put, List.setIfInBounds_toArray, List.set_cons_zero, List.set_cons_succ]
              refine wpAnyH_take (i := 5) (oi := ?ozz36) (v := ?vzz36) ?hzz36 ?azz36 ?bzz36 ?czz36 ?qzz36 ?yzz36 ?szz36 ?rzz36
              case hzz36 => simp only [List.getElem?_toArray, List.getElem?_cons_zero, List.getElem?_cons_succ]; rfl
              case azz36 => kernel_rfl
              case bzz36 => kernel_rfl
              case czz36 => kernel_rfl
              case yzz36 =>
                refine Or.inl ⟨by rfl, ?_⟩
                intro w hSw
                have zb0 := box_ hSw b0; have zb1 := box_ hSw b1; have zb2 := box_ hSw b2; have zb3 := box_ hSw b3; have zb4 := box_ hSw b4; have zy0 := box_ hSw y0; have zy1 := box_ hSw y1; have zy2 := box_ hSw y2; have zy3 := box_ hSw y3; have zy4 := box_ hSw y4; clear hSw
                go_simp
                try with_reducible rfl
              case qzz36 => exact fun _ _ _ h => h
              case szz36 => first | assumption | trivial
              case' rzz36 => simp only [Act.put, List.setIfInBounds_toArray, List.set_cons_zero, List.set_cons_succ]
              refine wpAnyH_take (i := 6) (oi := ?ozz37) (v := ?vzz37) ?hzz37 ?azz37 ?bzz37 ?czz37 ?qzz37 ?yzz37 ?szz37 ?rzz37
              case hzz37 => simp only [List.getElem?_toArray, List.getElem?_cons_zero, List.getElem?_cons_succ]; rfl
              case azz37 => kernel_rfl
              case bzz37 => kernel_rfl
              case czz37 => kernel_rfl
              case yzz37 =>
                refine Or.inl ⟨by rfl, ?_⟩
                intro w hSw
                have zb0 := box_ hSw b0; have zb1 := box_ hSw b1; have zb2 := box_ hSw b2; have zb3 := box_ hSw b3; have zb4 := box_ hSw b4; have zy0 := box_ hSw y0; have zy1 := box_ hSw y1; have zy2 := box_ hSw y2; have zy3 := box_ hSw y3; have zy4 := box_ hSw y4; clear hSw
                go_simp
                try with_reducible rfl
              case qzz37 => exact fun _ _ _ h => h
              case szz37 => first | assumption | trivial
              case' rzz37 => simp only [Act.put, List.setIfInBounds_toArray, List.set_cons_zero, List.set_cons_succ]
              refine wpAnyH_ready (rs := [7]) (by kernel_rfl) (by simp) ?_
              refine AllReadyH.cons (o := ?ozz39) ?hzz39 (fun K hK => ?kzz39) ?mzz39
              case hzz39 => simp only [List.getElem?_toArray, List.getElem?_cons_zero, List.getElem?_cons_succ]; rfl
              case kzz39 =>
                go_simp
                refine (KC.out _).mono ?_
                rintro e w2 ⟨rfl, q2⟩
                go_wp2_with fail
                refine hK.out _ _ ?Szz39 (fun hHeld => ?Rzz39)
                case Szz39 =>
                  exact hHeld.trans q2
                case Rzz39 =>
                  clear hK K
                  try simp only [Act.put, List.setIfInBounds_toArray, List.set_cons_zero, List.set_cons_succ]
                  refine wpAnyH_take (i := 8) (oi := ?ozz38) (v := ?vzz38) ?hzz38 ?azz38 ?bzz38 ?czz38 ?qzz38 ?yzz38 ?szz38 ?rzz38
                  case hzz38 => simp only [List.getElem?_toArray, List.getElem?_cons_zero, List.getElem?_cons_succ]; rfl
                  case azz38 => kernel_rfl
                  case bzz38 => kernel_rfl
                  case czz38 => kernel_rfl
                  case yzz38 =>
                    refine Or.inl ⟨by rfl, ?_⟩
                    intro w hSw
                    have zb0 := box_ hSw b0; have zb1 := box_ hSw b1; have zb2 := box_ hSw b2; have zb3 := box_ hSw b3; have zb4 := box_ hSw b4; have zy0 := box_ hSw y0; have zy1 := box_ hSw y1; have zy2 := box_ hSw y2; have zy3 := box_ hSw y3; have zy4 := box_ hSw y4; clear hSw
                    go_simp
                    try with_reducible rfl
                  case qzz38 => exact fun _ _ _ h => h
                  case szz38 => first | assumption | trivial
                  case' rzz38 => simp only [Act.put, List.setIfInBounds_toArray, List.set_cons_zero, List.set_cons_succ]
                  refine wpAnyH_done (by kernel_rfl) ?_ _
                  have HQ2 := Lib.hid hHeld
                  have b0 := box_ HQ2.out b0
                  have b1 := box_ HQ2.out b1
                  have b2 := box_ HQ2.out b2
                  have b3 := box_ HQ2.out b3
                  have b4 := box_ HQ2.out b4
                  have y0 := box_ HQ2.out y0
                  have y1 := box_ HQ2.out y1
                  have y2 := box_ HQ2.out y2
                  have y3 := box_ HQ2.out y3
                  have y4 := box_ HQ2.out y4
                  go_wp2
                  go_roundw
                  case rel => exact ⟨k + 1, C, p, q, os, by omega, by go_num, rfl, HO.out.q HQ2.out, HP.out, by rw [HG.out, HE.out, HG2.out], HR.out.step HQ2.out, by omega⟩
                  case measure => simp [intOf]; omega
              case' mzz39 => skip
              exact AllReadyH.nil
            case true =>
              rw [hcl] at KC
              by_cases ht : h.txn = txn
              · have HG2 := Lib.hid (show addT txn x h.txn h.w os = os by unfold addT; rw [hcl]; simp [ht])
                have et : (h.txn != txn) = false := by simpa using ht
                clear hcl ht
                unfold wnV at KC
                refine wp_region_held_drew (S := Q wr) (by kernel_rfl) ?szz40 (fun hHeld => ?rzz40)
                case szz40 =>
                  exact (Q.refl wr).drew
                case' rzz40 => skip
                refine wpAnyH_take (i := 0) (oi := ?ozz41) (v := ?vzz41) ?hzz41 ?azz41 ?bzz41 ?czz41 ?qzz41 ?yzz41 ?szz41 ?rzz41
                case hzz41 => simp only [List.getElem?_toArray, List.getElem?_cons_zero]; rfl
                case azz41 => kernel_rfl
                case bzz41 => kernel_rfl
                case czz41 => kernel_rfl
                case yzz41 =>
                  refine Or.inl ⟨by rfl, ?_⟩
                  intro w hSw
                  have zb0 := box_ hSw b0; have zb1 := box_ hSw b1; have zb2 := box_ hSw b2; have zb3 := box_ hSw b3; have zb4 := box_ hSw b4; have zy0 := box_ hSw y0; have zy1 := box_ hSw y1; have zy2 := box_ hSw y2; have zy3 := box_ hSw y3; have zy4 := box_ hSw y4; clear hSw
                  go_simp
                  try with_reducible rfl
                case qzz41 => exact fun _ _ _ h => h
                case szz41 => first | assumption | trivial
                case' rzz41 => simp only [Act.put, List.setIfInBounds_toArray, List.set_cons_zero, List.set_cons_succ]
                refine wpAnyH_take (i := 1) (oi := ?ozz42) (v := ?vzz42) ?hzz42 ?azz42 ?bzz42 ?czz42 ?qzz42 ?yzz42 ?szz42 ?rzz42
                case hzz42 => simp only [List.getElem?_toArray, List.getElem?_cons_zero, List.getElem?_cons_succ]; rfl
                case azz42 => kernel_rfl
                case bzz42 => kernel_rfl
                case czz42 => kernel_rfl
                case yzz42 =>
                  refine Or.inl ⟨by rfl, ?_⟩
                  intro w hSw
                  have zb0 := box_ hSw b0; have zb1 := box_ hSw b1; have zb2 := box_ hSw b2; have zb3 := box_ hSw b3; have zb4 := box_ hSw b4; have zy0 := box_ hSw y0; have zy1 := box_ hSw y1; have zy2 := box_ hSw y2; have zy3 := box_ hSw y3; have zy4 := box_ hSw y4; clear hSw
                  go_simp
                  try with_reducible rfl
                case qzz42 => exact fun _ _ _ h => h
                case szz42 => first | assumption | trivial
                case' rzz42 => simp only [Act.put, List.setIfInBounds_toArray, List.set_cons_zero, List.set_cons_succ]
                refine wpAnyH_take (i := 2) (oi := ?ozz43) (v := ?vzz43) ?hzz43 ?azz43 ?bzz43 ?czz43 ?qzz43 ?yzz43 ?szz43 ?rzz43
                case hzz43 => simp only [List.getElem?_toArray, List.getElem?_cons_zero, List.getElem?_cons_succ]; rfl
                case azz43 => kernel_rfl
                case bzz43 => kernel_rfl
                case czz43 => kernel_rfl
                case yzz43 =>
                  refine Or.inl ⟨by rfl, ?_⟩
                  intro w hSw
                  have zb0 := box_ hSw b0; have zb1 := box_ hSw b1; have zb2 := box_ hSw b2; have zb3 := box_ hSw b3; have zb4 := box_ hSw b4; have zy0 := box_ hSw y0; have zy1 := box_ hSw y1; have zy2 := box_ hSw y2; have zy3 := box_ hSw y3; have zy4 := box_ hSw y4; clear hSw
                  go_simp
                  try with_reducible rfl
                case qzz43 => exact fun _ _ _ h => h
                case szz43 => first | assumption | trivial
                case' rzz43 => simp only [Act.put, List.setIfInBounds_toArray, List.set_cons_zero, List.set_cons_succ]
                refine wpAnyH_take (i := 3) (oi := ?ozz44) (v := ?vzz44) ?hzz44 ?azz44 ?bzz44 ?czz44 ?qzz44 ?yzz44 ?szz44 ?rzz44
                case hzz44 => simp only [List.getElem?_toArray, List.getElem?_cons_zero, List.getElem?_cons_succ]; rfl
                case azz44 => kernel_rfl
                case bzz44 => kernel_rfl
                case czz44 => kernel_rfl
                case yzz44 =>
                  refine Or.inl ⟨by rfl, ?_⟩
                  intro w hSw
                  have zb0 := box_ hSw b0; have zb1 := box_ hSw b1; have zb2 := box_ hSw b2; have zb3 := box_ hSw b3; have zb4 := box_ hSw b4; have zy0 := box_ hSw y0; have zy1 := box_ hSw y1; have zy2 := box_ hSw y2; have zy3 := box_ hSw y3; have zy4 := box_ hSw y4; clear hSw
                  go_simp
                  try with_reducible rfl
                case qzz44 => exact fun _ _ _ h => h
                case szz44 => first | assumption | trivial
                case' rzz44 => simp only [Act.put, List.setIfInBounds_toArray, List.set_cons_zero, List.set_cons_succ]
                refine wpAnyH_take (i := 4) (oi := ?ozz45) (v := ?vzz45) ?hzz45 ?azz45 ?bzz45 ?czz45 ?qzz45 ?yzz45 ?szz45 ?rzz45
                case hzz45 => simp only [List.getElem?_toArray, List.getElem?_cons_zero, List.getElem?_cons_succ]; rfl
                case azz45 => kernel_rfl
                case bzz45 => kernel_rfl
                case czz45 => kernel_rfl
                case yzz45 =>
                  refine Or.inl ⟨by rfl, ?_⟩
                  intro w hSw
                  have zb0 := box_ hSw b0; have zb1 := box_ hSw b1; have zb2 := box_ hSw b2; have zb3 := box_ hSw b3; have zb4 := box_ hSw b4; have zy0 := box_ hSw y0; have zy1 := box_ hSw y1; have zy2 := box_ hSw y2; have zy3 := box_ hSw y3; have zy4 := box_ hSw y4; clear hSw
                  go_simp
                  try with_reducible rfl
                case qzz45 => exact fun _ _ _ h => h
                case szz45 => first | assumption | trivial
                case' rzz45 => simp only [Act.put, List.setIfInBounds_toArray, List.set_cons_zero, List.set_cons_succ]
                refine wpAnyH_take (i := 5) (oi := ?ozz46) (v := ?vzz46) ?hzz46 ?azz46 ?bzz46 ?czz46 ?qzz46 ?yzz46 ?szz46 ?rzz46
                case hzz46 => simp only [List.getElem?_toArray, List.getElem?_cons_zero, List.getElem?_cons_succ]; rfl
                case azz46 => kernel_rfl
                case bzz46 => kernel_rfl
                case czz46 => kernel_rfl
                case yzz46 =>
                  refine Or.inl ⟨by rfl, ?_⟩
                  intro w hSw
                  have zb0 := box_ hSw b0; have zb1 := box_ hSw b1; have zb2 := box_ hSw b2; have zb3 := box_ hSw b3; have zb4 := box_ hSw b4; have zy0 := box_ hSw y0; have zy1 := box_ hSw y1; have zy2 := box_ hSw y2; have zy3 := box_ hSw y3; have zy4 := box_ hSw y4; clear hSw
                  go_simp
                  try with_reducible rfl
                case qzz46 => exact fun _ _ _ h => h
                case szz46 => first | assumption | trivial
                case' rzz46 => simp only [Act.put, List.setIfInBounds_toArray, List.set_cons_zero, List.set_cons_succ]
                refine wpAnyH_take (i := 6) (oi := ?ozz47) (v := ?vzz47) ?hzz47 ?azz47 ?bzz47 ?czz47 ?qzz47 ?yzz47 ?szz47 ?rzz47
                case hzz47 => simp only [List.getElem?_toArray, List.getElem?_cons_zero, List.getElem?_cons_succ]; rfl
                case azz47 => kernel_rfl
                case bzz47 => kernel_rfl
                case czz47 => kernel_rfl
                case yzz47 =>
                  refine Or.inl ⟨by rfl, ?_⟩
                  intro w hSw
                  have zb0 := box_ hSw b0; have zb1 := box_ hSw b1; have zb2 := box_ hSw b2; have zb3 := box_ hSw b3; have zb4 := box_ hSw b4; have zy0 := box_ hSw y0; have zy1 := box_ hSw y1; have zy2 := box_ hSw y2; have zy3 := box_ hSw y3; have zy4 := box_ hSw y4; clear hSw
                  go_simp
                  try with_reducible rfl
                case qzz47 => exact fun _ _ _ h => h
                case szz47 => first | assumption | trivial
                case' rzz47 => simp only [Act.put, List.setIfInBounds_toArray, List.set_cons_zero, List.set_cons_succ]
                refine wpAnyH_ready (rs := [7]) (by kernel_rfl) (by simp) ?_
                refine AllReadyH.cons (o := ?ozz49) ?hzz49 (fun K hK => ?kzz49) ?mzz49
                case hzz49 => simp only [List.getElem?_toArray, List.getElem?_cons_zero, List.getElem?_cons_succ]; rfl
                case kzz49 =>
                  go_simp
                  refine (KC.out _).mono ?_
                  rintro e w2 ⟨rfl, q2⟩
                  go_wp2_with fail
                  refine hK.out _ _ ?Szz49 (fun hHeld => ?Rzz49)
                  case Szz49 =>
                    exact hHeld.trans q2
                  case Rzz49 =>
                    clear hK K
                    try simp only [Act.put, List.setIfInBounds_toArray, List.set_cons_zero, List.set_cons_succ]
                    refine wpAnyH_take (i := 8) (oi := ?ozz48) (v := ?vzz48) ?hzz48 ?azz48 ?bzz48 ?czz48 ?qzz48 ?yzz48 ?szz48 ?rzz48
                    case hzz48 => simp only [List.getElem?_toArray, List.getElem?_cons_zero, List.getElem?_cons_succ]; rfl
                    case azz48 => kernel_rfl
                    case bzz48 => kernel_rfl
                    case czz48 => kernel_rfl
                    case yzz48 =>
                      refine Or.inl ⟨by rfl, ?_⟩
                      intro w hSw
                      have zb0 := box_ hSw b0; have zb1 := box_ hSw b1; have zb2 := box_ hSw b2; have zb3 := box_ hSw b3; have zb4 := box_ hSw b4; have zy0 := box_ hSw y0; have zy1 := box_ hSw y1; have zy2 := box_ hSw y2; have zy3 := box_ hSw y3; have zy4 := box_ hSw y4; clear hSw
                      go_simp
                      try with_reducible rfl
                    case qzz48 => exact fun _ _ _ h => h
                    case szz48 => first | assumption | trivial
                    case' rzz48 => simp only [Act.put, List.setIfInBounds_toArray, List.set_cons_zero, List.set_cons_succ]
                    refine wpAnyH_done (by kernel_rfl) ?_ _
                    have HQ2 := Lib.hid hHeld
                    have b0 := box_ HQ2.out b0
                    have b1 := box_ HQ2.out b1
                    have b2 := box_ HQ2.out b2
                    have b3 := box_ HQ2.out b3
                    have b4 := box_ HQ2.out b4
                    have y0 := box_ HQ2.out y0
                    have y1 := box_ HQ2.out y1
                    have y2 := box_ HQ2.out y2
                    have y3 := box_ HQ2.out y3
                    have y4 := box_ HQ2.out y4
                    go_wp2
                    go_roundw
                    case rel => exact ⟨k + 1, C, p, q, os, by omega, by go_num, rfl, HO.out.q HQ2.out, HP.out, by rw [HG.out, HE.out, HG2.out], HR.out.step HQ2.out, by omega⟩
                    case measure => simp [intOf]; omega
                case' mzz49 => skip
                exact AllReadyH.nil
              · have HG2 := Lib.hid (show addT txn x h.txn h.w os = ins h.txn os by unfold addT; rw [hcl]; simp [ht])
                have et : (h.txn != txn) = true := by simpa using ht
                have KP := Lib.hid (fun W hh => put_any h.txn C p q os W hh (by omega))
                have hil := Lib.hid (ins_len (n := h.txn) os)
                generalize hI : ins h.txn os = os2 at HG2 KP hil
                clear hcl ht hI
                unfold wnV at KC
                refine wp_region_held_drew (S := Q wr) (by kernel_rfl) ?szz50 (fun hHeld => ?rzz50)
                case szz50 =>
                  exact (Q.refl wr).drew
                case' rzz50 => skip
                refine wpAnyH_take (i := 0) (oi := ?ozz51) (v := ?vzz51) ?hzz51 ?azz51 ?bzz51 ?czz51 ?qzz51 ?yzz51 ?szz51 ?rzz51
                case hzz51 => simp only [List.getElem?_toArray, List.getElem?_cons_zero]; rfl
                case azz51 => kernel_rfl
                case bzz51 => kernel_rfl
                case czz51 => kernel_rfl
                case yzz51 =>
                  refine Or.inl ⟨by rfl, ?_⟩
                  intro w hSw
                  have zb0 := box_ hSw b0; have zb1 := box_ hSw b1; have zb2 := box_ hSw b2; have zb3 := box_ hSw b3; have zb4 := box_ hSw b4; have zy0 := box_ hSw y0; have zy1 := box_ hSw y1; have zy2 := box_ hSw y2; have zy3 := box_ hSw y3; have zy4 := box_ hSw y4; clear hSw
                  go_simp
                  try with_reducible rfl
                case qzz51 => exact fun _ _ _ h => h
                case szz51 => first | assumption | trivial
                case' rzz51 => simp only [Act.put, List.setIfInBounds_toArray, List.set_cons_zero, List.set_cons_succ]
                refine wpAnyH_take (i := 1) (oi := ?ozz52) (v := ?vzz52) ?hzz52 ?azz52 ?bzz52 ?czz52 ?qzz52 ?yzz52 ?szz52 ?rzz52
                case hzz52 => simp only [List.getElem?_toArray, List.getElem?_cons_zero, List.getElem?_cons_succ]; rfl
                case azz52 => kernel_rfl
                case bzz52 => kernel_rfl
                case czz52 => kernel_rfl
                case yzz52 =>
                  refine Or.inl ⟨by rfl, ?_⟩
                  intro w hSw
                  have zb0 := box_ hSw b0; have zb1 := box_ hSw b1; have zb2 := box_ hSw b2; have zb3 := box_ hSw b3; have zb4 := box_ hSw b4; have zy0 := box_ hSw y0; have zy1 := box_ hSw y1; have zy2 := box_ hSw y2; have zy3 := box_ hSw y3; have zy4 := box_ hSw y4; clear hSw
                  go_simp
                  try with_reducible rfl
                case qzz52 => exact fun _ _ _ h => h
                case szz52 => first | assumption | trivial
                case' rzz52 => simp only [Act.put, List.setIfInBounds_toArray, List.set_cons_zero, List.set_cons_succ]
                refine wpAnyH_take (i := 2) (oi := ?ozz53) (v := ?vzz53) ?hzz53 ?azz53 ?bzz53 ?czz53 ?qzz53 ?yzz53 ?szz53 ?rzz53
                case hzz53 => simp only [List.getElem?_toArray, List.getElem?_cons_zero, List.getElem?_cons_succ]; rfl
                case azz53 => kernel_rfl
                case bzz53 => kernel_rfl
                case czz53 => kernel_rfl
                case yzz53 =>
                  refine Or.inl ⟨by rfl, ?_⟩
                  intro w hSw
                  have zb0 := box_ hSw b0; have zb1 := box_ hSw b1; have zb2 := box_ hSw b2; have zb3 := box_ hSw b3; have zb4 := box_ hSw b4; have zy0 := box_ hSw y0; have zy1 := box_ hSw y1; have zy2 := box_ hSw y2; have zy3 := box_ hSw y3; have zy4 := box_ hSw y4; clear hSw
                  go_simp
                  try with_reducible rfl
                case qzz53 => exact fun _ _ _ h => h
                case szz53 => first | assumption | trivial
                case' rzz53 => simp only [Act.put, List.setIfInBounds_toArray, List.set_cons_zero, List.set_cons_succ]
                refine wpAnyH_take (i := 3) (oi := ?ozz54) (v := ?vzz54) ?hzz54 ?azz54 ?bzz54 ?czz54 ?qzz54 ?yzz54 ?szz54 ?rzz54
                case hzz54 => simp only [List.getElem?_toArray, List.getElem?_cons_zero, List.getElem?_cons_succ]; rfl
                case azz54 => kernel_rfl
                case bzz54 => kernel_rfl
                case czz54 => kernel_rfl
                case yzz54 =>
                  refine Or.inl ⟨by rfl, ?_⟩
                  intro w hSw
                  have zb0 := box_ hSw b0; have zb1 := box_ hSw b1; have zb2 := box_ hSw b2; have zb3 := box_ hSw b3; have zb4 := box_ hSw b4; have zy0 := box_ hSw y0; have zy1 := box_ hSw y1; have zy2 := box_ hSw y2; have zy3 := box_ hSw y3; have zy4 := box_ hSw y4; clear hSw
                  go_simp
                  try with_reducible rfl
                case qzz54 => exact fun _ _ _ h => h
                case szz54 => first | assumption | trivial
                case' rzz54 => simp only [Act.put, List.setIfInBounds_toArray, List.set_cons_zero, List.set_cons_succ]
                refine wpAnyH_take (i := 4) (oi := ?ozz55) (v := ?vzz55) ?hzz55 ?azz55 ?bzz55 ?czz55 ?qzz55 ?yzz55 ?szz55 ?rzz55
                case hzz55 => simp only [List.getElem?_toArray, List.getElem?_cons_zero, List.getElem?_cons_succ]; rfl
                case azz55 => kernel_rfl
                case bzz55 => kernel_rfl
                case czz55 => kernel_rfl
                case yzz55 =>
                  refine Or.inl ⟨by rfl, ?_⟩
                  intro w hSw
                  have zb0 := box_ hSw b0; have zb1 := box_ hSw b1; have zb2 := box_ hSw b2; have zb3 := box_ hSw b3; have zb4 := box_ hSw b4; have zy0 := box_ hSw y0; have zy1 := box_ hSw y1; have zy2 := box_ hSw y2; have zy3 := box_ hSw y3; have zy4 := box_ hSw y4; clear hSw
                  go_simp
                  try with_reducible rfl
                case qzz55 => exact fun _ _ _ h => h
                case szz55 => first | assumption | trivial
                case' rzz55 => simp only [Act.put, List.setIfInBounds_toArray, List.set_cons_zero, List.set_cons_succ]
                refine wpAnyH_take (i := 5) (oi := ?ozz56) (v := ?vzz56) ?hzz56 ?azz56 ?bzz56 ?czz56 ?qzz56 ?yzz56 ?szz56 ?rzz56
                case hzz56 => simp only [List.getElem?_toArray, List.getElem?_cons_zero, List.getElem?_cons_succ]; rfl
                case azz56 => kernel_rfl
                case bzz56 => kernel_rfl
                case czz56 => kernel_rfl
                case yzz56 =>
                  refine Or.inl ⟨by rfl, ?_⟩
                  intro w hSw
                  have zb0 := box_ hSw b0; have zb1 := box_ hSw b1; have zb2 := box_ hSw b2; have zb3 := box_ hSw b3; have zb4 := box_ hSw b4; have zy0 := box_ hSw y0; have zy1 := box_ hSw y1; have zy2 := box_ hSw y2; have zy3 := box_ hSw y3; have zy4 := box_ hSw y4; clear hSw
                  go_simp
                  try with_reducible rfl
                case qzz56 => exact fun _ _ _ h => h
                case szz56 => first | assumption | trivial
                case' rzz56 => simp only [Act.put, List.setIfInBounds_toArray, List.set_cons_zero, List.set_cons_succ]
                refine wpAnyH_take (i := 6) (oi := ?ozz57) (v := ?vzz57) ?hzz57 ?azz57 ?bzz57 ?czz57 ?qzz57 ?yzz57 ?szz57 ?rzz57
                case hzz57 => simp only [List.getElem?_toArray, List.getElem?_cons_zero, List.getElem?_cons_succ]; rfl
                case azz57 => kernel_rfl
                case bzz57 => kernel_rfl
                case czz57 => kernel_rfl
                case yzz57 =>
                  refine Or.inl ⟨by rfl, ?_⟩
                  intro w hSw
                  have zb0 := box_ hSw b0; have zb1 := box_ hSw b1; have zb2 := box_ hSw b2; have zb3 := box_ hSw b3; have zb4 := box_ hSw b4; have zy0 := box_ hSw y0; have zy1 := box_ hSw y1; have zy2 := box_ hSw y2; have zy3 := box_ hSw y3; have zy4 := box_ hSw y4; clear hSw
                  go_simp
                  try with_reducible rfl
                case qzz57 => exact fun _ _ _ h => h
                case szz57 => first | assumption | trivial
                case' rzz57 => simp only [Act.put, List.setIfInBounds_toArray, List.set_cons_zero, List.set_cons_succ]
                refine wpAnyH_ready (rs := [7]) (by kernel_rfl) (by simp) ?_
                refine AllReadyH.cons (o := ?ozz59) ?hzz59 (fun K hK => ?kzz59) ?mzz59
                case hzz59 => simp only [List.getElem?_toArray, List.getElem?_cons_zero, List.getElem?_cons_succ]; rfl
                case kzz59 =>
                  go_simp
                  refine (KC.out _).mono ?_
                  rintro e w2 ⟨rfl, q2⟩
                  go_wp2_with fail
                  refine hK.out _ _ ?Szz59 (fun hHeld => ?Rzz59)
                  case Szz59 =>
                    exact hHeld.trans q2
                  case Rzz59 =>
                    clear hK K
                    try simp only [Act.put, List.setIfInBounds_toArray, List.set_cons_zero, List.set_cons_succ]
                    refine wpAnyH_take (i := 8) (oi := ?ozz58) (v := ?vzz58) ?hzz58 ?azz58 ?bzz58 ?czz58 ?qzz58 ?yzz58 ?szz58 ?rzz58
                    case hzz58 => simp only [List.getElem?_toArray, List.getElem?_cons_zero, List.getElem?_cons_succ]; rfl
                    case azz58 => kernel_rfl
                    case bzz58 => kernel_rfl
                    case czz58 => kernel_rfl
                    case yzz58 =>
                      refine Or.inl ⟨by rfl, ?_⟩
                      intro w hSw
                      have zb0 := box_ hSw b0; have zb1 := box_ hSw b1; have zb2 := box_ hSw b2; have zb3 := box_ hSw b3; have zb4 := box_ hSw b4; have zy0 := box_ hSw y0; have zy1 := box_ hSw y1; have zy2 := box_ hSw y2; have zy3 := box_ hSw y3; have zy4 := box_ hSw y4; clear hSw
                      go_simp
                      try with_reducible rfl
                    case qzz58 => exact fun _ _ _ h => h
                    case szz58 => first | assumption | trivial
                    case' rzz58 => simp only [Act.put, List.setIfInBounds_toArray, List.set_cons_zero, List.set_cons_succ]
                    refine wpAnyH_done (by kernel_rfl) ?_ _
                    have HQ2 := Lib.hid hHeld
                    have b0 := box_ HQ2.out b0
                    have b1 := box_ HQ2.out b1
                    have b2 := box_ HQ2.out b2
                    have b3 := box_ HQ2.out b3
                    have b4 := box_ HQ2.out b4
                    have y0 := box_ HQ2.out y0
                    have y1 := box_ HQ2.out y1
                    have y2 := box_ HQ2.out y2
                    have y3 := box_ HQ2.out y3
                    have y4 := box_ HQ2.out y4
                    go_wp2_with fail
                    refine (KP.out _ (HO.out.q HQ2.out).lst).mono ?_
                    rintro e w3 ⟨C3, q3, rfl, o3, y3⟩
                    have O3 := Lib.hid (o3.lower (b2 := w.heap.size) (by have := HR.out.q.size; have := HQ2.out.size; omega))
                    have HQ3 := Lib.hid (HQ2.out.trans y3)
                    clear o3 y3
                    go_wp2
                    go_roundw
                    case rel => exact ⟨k + 1, C3, os2.length, q3, os2, by omega, by go_num, rfl, O3.out, rfl, by rw [HG.out, HE.out, HG2.out], HR.out.step HQ3.out, by omega⟩
                    case measure => simp [intOf]; omega
                case' mzz59 => skip
                exact AllReadyH.nil
          · have hkm : k = m := by omega
            have HF := Lib.hid (show bl = os by
              rw [HBK.out, ← HE.out, List.take_of_length_le (by have := HBl.out; omega), List.take_of_length_le (by have := HBl.out; omega)])
            go_wp2
            go_ret
            exact ⟨C, q, by rw [HF.out, HP.out]; rfl, by rw [HF.out, ← HP.out]; exact HO.out, HR.out.q⟩
        · have HF := Lib.hid (show bl = os by rw [HBK.out, ← HE.out, show N.toNat = k by omega])
          go_wp2
          go_ret
          exact ⟨C, q, by rw [HF.out, HP.out]; rfl, by rw [HF.out, ← HP.out]; exact HO.out, HR.out.q⟩

end Go.Proofs.Ytncnfblnelkmbaa

/- Contract: lock.Blockers. -/
namespace Go.Proofs.Ytncnfblnelkmbaa
set_option maxRecDepth 100000
open Go.RowKit Prm Lm Sm Go.Maps
set_option linter.unusedVariables false
set_option linter.unusedSimpArgs false

theorem sorts_keys (m : Nat) : AnyZI.SortsIn Try.prog Try.sortedM_ren Fence.wide m :=
  ⟨fun blk off cap ss W hH hblk hsz => callsIn_wide.2 (AnyM.slices_Sort_int Try.sortM blk off cap ss W hH hblk hsz),
   fun p cap W => callsIn_wide.2 (AnyM.slices_Sort_int_none Try.sortM p cap W)⟩
theorem keys_any (mb : Option Nat) (W : World) : Calls Try.prog 40 #[.map mb] W fun e w' => e = .returned (.func (.func 51) #[] #[.pointer (some ⟨W.heap.size, 0, none⟩)]) ∧ w' = W.alloc (.cells #[.map mb] 59) :=
  (callsIn_wide (n := 5)).1 (AnyZI.keys_in Try.keysM Fence.wide 5 trivial rfl mb W)
set_option maxHeartbeats 1000000 in
theorem sorted_any (b nn : Nat) (D : DataW Unit) (out : List Int) (w : World) (hown : w.ownsMap Try.prog 3 unitElem b nn D) (hk : KeysAre D out) (hs : out.Pairwise (· < ·)) (hn : nn ≤ 1000000) :
    Calls Try.prog 39 #[.func (.func 51) #[] #[.pointer (some ⟨w.heap.size, 0, none⟩)]] (w.alloc (.cells #[.map (some b)] 59)) fun e w' =>
      ∃ A c, e = .returned (.slice A out.length c) ∧ OwnK numK w' w.heap.size A out.length c out ∧ Q w w' := by
  have hbl := hown.lt
  have hsz : Maps.size D ≤ nn := hown.size_le
  have hmax : Maps.size D ≤ maxLen := by unfold maxLen; omega
  have hseq : SeqGives Fence.wide 2 Try.prog 51 #[.pointer (some ⟨w.heap.size, 0, none⟩)] encZ (fun ss => ss.Perm (intKeys D)) (Maps.size D) (w.alloc (.cells #[.map (some b)] 59)) :=
    AnyZI.keys_gives (ρ := Try.keysM_ren) { Try.keysM with } Fence.wide _ trivial rfl (by omega) w.heap.size b nn D _ (by simp) (by simp) (by
      obtain ⟨es, clock, hb, Ft, hs, hD⟩ := hown
      exact ⟨es, clock, (Below.heap_alloc _ _ b hbl).trans hb, Ft, hs, hD⟩)
  have cS := AnyZI.sorted_in Try.sortedM Fence.wide 5 trivial trivial trivial trivial rfl (by omega) (sorts_keys _) (enters_of Try.func24 (by kernel_rfl) rfl) 51 #[.pointer (some ⟨w.heap.size, 0, none⟩)] trivial (enters_of Try.func51 (by kernel_rfl) rfl) _ _ hmax (by omega) _ hseq
  refine Calls.mono ((callsIn_wide (n := 5)).1 cS) ?_
  rintro e w' ⟨v, ss, rfl, hS, hrow, hnil, hb⟩
  have hnd : out.Nodup := hs.imp fun h => Int.ne_of_lt h
  have hp : out.Perm (intKeys D) := CollectedI.perm (left := fun _ => false) ⟨hnd, fun x => by rw [hk.2 x]; simp⟩ hown lawI Try.underlying3 (fun _ => rfl)
  have he : ss.mergeSort (fun x y => decide (x ≤ y)) = out := by
    have h1 := mergeSort_of_perm_i (hS.trans hp.symm)
    refine h1.trans ?_
    exact List.mergeSort_of_pairwise (hs.imp fun h => by simp only [leI, decide_eq_true_eq]; omega)
  rw [he] at hrow
  have hl : ss.length = out.length := (hS.trans hp.symm).length_eq
  rw [hl] at hrow
  have hbq : Q w w' := ((Q.refl w).alloc _).below.trans (hb.mono (by simp))
  have hrow : w'.ownsRow w.heap.size 3 1 v out.length (numK.rows out) := by
    rw [numK_rows]
    exact ownsRow_base_a hrow (by simp)
  rcases hrow.2 with ⟨e1, h0⟩ | ⟨g, cap, cur, e1, _⟩
  · subst e1
    exact ⟨none, 0, by rw [h0], by have h2 := hrow; unfold OwnK; rw [h0] at h2 ⊢; exact h2, hbq⟩
  · subst e1
    exact ⟨some ⟨g, 0, none⟩, cap, rfl, hrow, hbq⟩

/-- the boxes of Blockers: the locks, the number, the span, the map, its variable. -/
structure Gb (w : World) (A : Option Addr) (n c : Nat) (B : Option Addr) (m d : Nat) (txn : Int) (x : Wn) (wr : World) : Prop where
  b0 : wr.cell? ⟨w.heap.size, 0, none⟩ = some (.slice A n c)
  b1 : wr.cell? ⟨w.heap.size, 1, none⟩ = some (.slice B m d)
  cap : Cap2 wr txn x (w.heap.size + 1) (w.heap.size + 1 + 1)
  cm : wr.cell? ⟨w.heap.size + 1 + 1 + 1 + 1, 0, none⟩ = some (.map (some (w.heap.size + 1 + 1 + 1)))
  q : Q w wr
  hl : w.heap.size + 5 ≤ wr.heap.size
section
variable {w wr w2 : World} {A B : Option Addr} {n c m d : Nat} {txn : Int} {x : Wn}
theorem Gb.step (h : Gb w A n c B m d txn x wr) (q : Q wr w2) : Gb w A n c B m d txn x w2 := ⟨box_ q h.b0, box_ q h.b1, h.cap.q q, box_ q h.cm, h.q.trans q, Nat.le_trans h.hl q.size⟩
theorem Gb.turn (h : Gb w A n c B m d txn x wr) (g : wr.grownBy w2 (some (w.heap.size + 1 + 1 + 1))) : Gb w A n c B m d txn x w2 := by
  have hl := h.hl
  have cell : ∀ b o v, wr.cell? ⟨b, o, none⟩ = some v → b < w.heap.size + 5 → b ≠ w.heap.size + 1 + 1 + 1 → w2.cell? ⟨b, o, none⟩ = some v := fun b o v hv h1 h2 =>
    (only_cell g (p := ⟨b, o, none⟩) (by show b < _; omega) h2).trans hv
  refine ⟨cell _ _ _ h.b0 (by omega) (by omega), cell _ _ _ h.b1 (by omega) (by omega), ?_, cell _ _ _ h.cm (by omega) (by omega), h.q.below.trans (only_below g (by omega) (by omega)), Nat.le_trans hl g.size⟩
  · obtain ⟨h1, h2, h3, h4, h5, h6⟩ := h.cap
    exact ⟨Nat.lt_of_lt_of_le h1 g.size, Nat.lt_of_lt_of_le h2 g.size, cell _ _ _ h3 (by omega) (by omega), cell _ _ _ h4 (by omega) (by omega), cell _ _ _ h5 (by omega) (by omega), cell _ _ _ h6 (by omega) (by omega)⟩
end
end Go.Proofs.Ytncnfblnelkmbaa

/- Contract: lock.Blockers, blocked. -/
namespace Go.Proofs.Ytncnfblnelkmbaa
set_option maxRecDepth 100000
open Go.RowKit Prm Lm Sm Go.Maps
set_option linter.unusedVariables false
set_option linter.unusedSimpArgs false

def I64H (l : List Ho) : Prop := ∀ h ∈ l, -9223372036854775808 ≤ h.txn ∧ h.txn ≤ 9223372036854775807
def I64C (l : List Cl) : Prop := ∀ h ∈ l, -9223372036854775808 ≤ h.txn ∧ h.txn ≤ 9223372036854775807
theorem Gb.new (w : World) (A : Option Addr) (n c : Nat) (B : Option Addr) (m d : Nat) (txn : Int) (x : Wn) : Gb w A n c B m d txn x (((((w.alloc (.cells #[.slice A n c, .slice B m d] 25)).alloc (.cells #[.int .i64 txn] 3)).alloc (.cells #[.int .i64 x.mode, .string x.lo, .string x.hi] 41)).alloc (.map #[] 0)).alloc (.cells #[.map (some (w.heap.size + 1 + 1 + 1))] 59)) := by
  have q5 := (((((Q.refl w).alloc (.cells #[.slice A n c, .slice B m d] 25)).alloc (.cells #[.int .i64 txn] 3)).alloc (.cells #[.int .i64 x.mode, .string x.lo, .string x.hi] 41)).alloc (.map #[] 0)).alloc (.cells #[.map (some (w.heap.size + 1 + 1 + 1))] 59)
  have s1 : (w.alloc (.cells #[.slice A n c, .slice B m d] 25)).heap.size = w.heap.size + 1 := by simp
  have s2 : ((w.alloc (.cells #[.slice A n c, .slice B m d] 25)).alloc (.cells #[.int .i64 txn] 3)).heap.size = w.heap.size + 1 + 1 := by simp
  have s4 : ((((w.alloc (.cells #[.slice A n c, .slice B m d] 25)).alloc (.cells #[.int .i64 txn] 3)).alloc (.cells #[.int .i64 x.mode, .string x.lo, .string x.hi] 41)).alloc (.map #[] 0)).heap.size = w.heap.size + 1 + 1 + 1 + 1 := by simp
  have h1 := ((((Bx.new w [.slice A n c, .slice B m d] 25).alloc (.cells #[.int .i64 txn] 3)).alloc (.cells #[.int .i64 x.mode, .string x.lo, .string x.hi] 41)).alloc (.map #[] 0)).alloc (.cells #[.map (some (w.heap.size + 1 + 1 + 1))] 59)
  have h2 := (((Bx.new (w.alloc (.cells #[.slice A n c, .slice B m d] 25)) [.int .i64 txn] 3).alloc (.cells #[.int .i64 x.mode, .string x.lo, .string x.hi] 41)).alloc (.map #[] 0)).alloc (.cells #[.map (some (w.heap.size + 1 + 1 + 1))] 59)
  have h3 := ((Bx.new ((w.alloc (.cells #[.slice A n c, .slice B m d] 25)).alloc (.cells #[.int .i64 txn] 3)) [.int .i64 x.mode, .string x.lo, .string x.hi] 41).alloc (.map #[] 0)).alloc (.cells #[.map (some (w.heap.size + 1 + 1 + 1))] 59)
  have h5 := Bx.new ((((w.alloc (.cells #[.slice A n c, .slice B m d] 25)).alloc (.cells #[.int .i64 txn] 3)).alloc (.cells #[.int .i64 x.mode, .string x.lo, .string x.hi] 41)).alloc (.map #[] 0)) [.map (some (w.heap.size + 1 + 1 + 1))] 59
  rw [s1] at h2
  rw [s2] at h3
  rw [s4] at h5
  exact ⟨(h1 0 _ rfl).1, (h1 1 _ rfl).1, ⟨h2.lt, h3.lt, (h2 0 _ rfl).1, (h3 0 _ rfl).1, (h3 1 _ rfl).1, (h3 2 _ rfl).1⟩, (h5 0 _ rfl).1, q5, by simp⟩
theorem made_map (w : World) (o1 o2 o3 o5 : Obj) (h : (((w.alloc o1).alloc o2).alloc o3).heap.size = w.heap.size + 1 + 1 + 1) : (((((w.alloc o1).alloc o2).alloc o3).alloc (.map #[] 0)).alloc o5).ownsMap Try.prog 3 (unitElem (H := Unit)) (w.heap.size + 1 + 1 + 1) 0 (.map []) := by
  rw [← h]
  exact (World.ownsMap_made _ Try.prog 3 unitElem).alloc _

set_option maxHeartbeats 8000000 in
set_option maxRecDepth 100000 in
theorem blockers_any (A B : Option Addr) (n c m d : Nat) (l : Lo) (txn : Int) (x : Wn) (N : Int) (w : World) (hA : Lst holdK w A n l.held) (hB : In_ claimK w B m d l.queue) (hi : I64H l.held) (hj : I64C l.queue) (hn : n ≤ 400000) (hm : m ≤ 400000) :
    Calls Try.prog 23 #[locV A n c B m d, .int .i64 txn, wnV x, .int .i64 N] w fun e w' => RetL numK w (blk l txn x N.toNat).length (blk l txn x N.toNat) e w' := by
  have HA := Lib.hid hA
  have HB := Lib.hid hB
  have HI := Lib.hid hi
  have HJ := Lib.hid hj
  have HAl := Lib.hid hA.len
  have HBl := Lib.hid hB.len
  have HBc := Lib.hid (And.intro hB.le hB.cap)
  have HBK := Lib.hid (show blk l txn x N.toNat = gatQ txn x (l.queue.take N.toNat) (gatH txn x l.held []) from rfl)
  have HRi := Lib.hid (blk_rise l txn x N.toNat)
  generalize blk l txn x N.toNat = bl at HBK HRi ⊢
  have hmm := @run_makeMap Try.prog
  have R0 := Lib.hid (Gb.new w A n c B m d txn x)
  have M0 := Lib.hid (made_map w (.cells #[.slice A n c, .slice B m d] 25) (.cells #[.int .i64 txn] 3) (.cells #[.int .i64 x.mode, .string x.lo, .string x.hi] 41) (.cells #[.map (some (w.heap.size + 1 + 1 + 1))] 59) (by simp))
  clear hA hB hi hj
  unfold wnV
  go_enter Try.func23, Try.ntmps23
  go_upto_region 2 with (fail)
  generalize (((((w.alloc (.cells #[.slice A n c, .slice B m d] 25)).alloc (.cells #[.int .i64 txn] 3)).alloc (.cells #[.int .i64 x.mode, .string x.lo, .string x.hi] 41)).alloc (.map #[] 0)).alloc (.cells #[.map (some (w.heap.size + 1 + 1 + 1))] 59)) = W0 at R0 M0 ⊢
  clear hmm
  have b0 := R0.out.b0
  go_wp2
  go_loopw [20] (fun i wr => ∃ (k : Nat) (D : DataW Unit) (os : List Int), k ≤ n ∧ i = .int .i64 k ∧ wr.ownsMap Try.prog 3 unitElem (w.heap.size + 1 + 1 + 1) k D ∧ KeysAre D os ∧ gatH txn x (l.held.take k) [] = os ∧ Gb w A n c B m d txn x wr) (fun i _ => n - (Go.RowKit.intOf i).toNat)
  case atStart => exact ⟨0, _, [], Nat.zero_le _, rfl, M0.out, keys_nil, rfl, R0.out⟩
  case round =>
    obtain ⟨k, D, os, hk, rfl, hm0, hkk, he, hr⟩ := hrel
    have HM := Lib.hid hm0
    have HK := Lib.hid hkk
    have HE := Lib.hid he
    have HR := Lib.hid hr
    clear hm0 hkk he hr b0 R0 M0
    by_cases hlt : k < n
    · have hkl : k < l.held.length := by have := HAl.out; omega
      have hkn : (k : Int) < (n : Int) := by omega
      have HG := Lib.hid (gatH_at (txn := txn) (w := x) hkl [])
      have HIk := Lib.hid (HI.out _ (List.getElem_mem hkl))
      obtain ⟨ad, rfl, hab, y0, y1, y2, y3⟩ := load_hold (HA.out.q HR.out.q) hlt hkl
      generalize l.held[k] = h at y0 y1 y2 y3 HG HIk
      have KG := Lib.hid (fun W hc hm hown => gather_any h.txn h.w x txn (w.heap.size + 1) (w.heap.size + 1 + 1) (w.heap.size + 1 + 1 + 1 + 1) (w.heap.size + 1 + 1 + 1) k D os W HIk.out hc hm hown HK.out (by omega))
      go_wp2_with fail
      refine (KG.out _ (HR.out.step ((Q.refl wr).alloc _)).cap (HR.out.step ((Q.refl wr).alloc _)).cm (HM.out.alloc _)).mono ?_
      rintro e w2 ⟨rfl, D2, m2, k2, g2⟩
      have S2 := Lib.hid (And.intro m2 (And.intro k2 ((HR.out.step ((Q.refl wr).alloc (.cells #[.int .i64 h.txn, .int .i64 h.w.mode, .string h.w.lo, .string h.w.hi] 55))).turn g2)))
      clear m2 k2 g2
      go_wp2
      go_roundw
      case rel => exact ⟨k + 1, D2, addT txn x h.txn h.w os, by omega, by go_num, S2.out.1, S2.out.2.1, by rw [HG.out, HE.out], S2.out.2.2⟩
      case measure => simp [Go.RowKit.intOf]; omega
    · have hkn : k = n := by omega
      subst hkn
      have HE : Hid (gatH txn x l.held [] = os) := Lib.hid (by have := HE.out; rwa [List.take_of_length_le (by have := HAl.out; omega)] at this)
      rw [HE.out] at HBK
      generalize hG : os = G at HBK HK HE
      clear hG
      have b1 := HR.out.b1
      have HR0 := HR
      have HM0 := HM
      have HK0 := HK
      clear HR HM HK
      obtain ⟨M, hM⟩ : ∃ M : Nat, (M : Int) = max 0 (min N m) := ⟨(max 0 (min N m)).toNat, by omega⟩
      have hMm : M ≤ m := by omega
      have HMt := Lib.hid (show l.queue.take N.toNat = l.queue.take M by
        by_cases h : N.toNat ≤ m
        · rw [show N.toNat = M by omega]
        · rw [List.take_of_length_le (by have := HBl.out; omega), List.take_of_length_le (by have := HBl.out; omega)])
      rw [HMt.out] at HBK
      have hB1 := HBc.out.1
      have hB2 := HBc.out.2
      unfold maxLen at hB2
      have hMd : M ≤ d := by omega
      have hM' : max 0 (min N (m : Int)) = (M : Int) := hM.symm
      clear hM
      cases B with
      | none =>
        obtain ⟨e1, e2⟩ := HB.out.nil rfl
        subst e1 e2
        have e3 : M = 0 := by omega
        subst e3
        go_wp2
        go_loopw [41] (fun i wr => ∃ (j : Nat) (D : DataW Unit) (os : List Int), j ≤ 0 ∧ i = .int .i64 j ∧ wr.ownsMap Try.prog 3 unitElem (w.heap.size + 1 + 1 + 1) (k + j) D ∧ KeysAre D os ∧ gatQ txn x (l.queue.take j) G = os ∧ Gb w A k c none 0 0 txn x wr) (fun i _ => 0 - (Go.RowKit.intOf i).toNat)
        case atStart => exact ⟨0, D, G, Nat.zero_le _, rfl, HM0.out, HK0.out, by simp [gatQ], HR0.out⟩
        case round =>
          rename_i Dq _
          clear HM0 HK0 HR0 b1
          obtain ⟨j, D, os, hj, rfl, hm0, hkk, he, hr⟩ := hrel
          have HM := Lib.hid hm0
          have HK := Lib.hid hkk
          have HE := Lib.hid he
          have HR := Lib.hid hr
          clear hm0 hkk he hr
          by_cases hlt : j < 0
          · (exfalso; omega)
          · have hjm : j = 0 := by omega
            subst hjm
            have HF := Lib.hid (show os = bl by rw [HBK.out, ← HE.out])
            have cm := HR.out.cm
            go_wp2_with fail
            refine (keys_any _ _).mono ?_
            rintro e w1 ⟨rfl, rfl⟩
            go_wp2_with fail
            refine (sorted_any (w.heap.size + 1 + 1 + 1) _ D bl wr HM.out (HF.out ▸ HK.out) HRi.out (by omega)).mono ?_
            rintro e w2 ⟨A2, c2, rfl, o2, q2⟩
            have S2 := Lib.hid (And.intro (o2.lower (b2 := w.heap.size) HR.out.q.size) (HR.out.q.trans q2))
            clear o2 q2
            go_wp2
            go_ret
            exact ⟨A2, c2, rfl, S2.out.1, S2.out.2⟩
      | some ad0 =>
        have hM0 : (0 : Int) ≤ (M : Int) := by omega
        go_wp2
        go_loopw [41] (fun i wr => ∃ (j : Nat) (D : DataW Unit) (os : List Int), j ≤ M ∧ i = .int .i64 j ∧ wr.ownsMap Try.prog 3 unitElem (w.heap.size + 1 + 1 + 1) (k + j) D ∧ KeysAre D os ∧ gatQ txn x (l.queue.take j) G = os ∧ Gb w A k c (some ad0) m d txn x wr) (fun i _ => M - (Go.RowKit.intOf i).toNat)
        case atStart => exact ⟨0, D, G, Nat.zero_le _, rfl, HM0.out, HK0.out, by simp [gatQ], HR0.out⟩
        case round =>
          rename_i Dq _
          clear HM0 HK0 HR0 b1
          obtain ⟨j, D, os, hj, rfl, hm0, hkk, he, hr⟩ := hrel
          have HM := Lib.hid hm0
          have HK := Lib.hid hkk
          have HE := Lib.hid he
          have HR := Lib.hid hr
          clear hm0 hkk he hr
          by_cases hlt : j < M
          · have hjl : j < l.queue.length := by have := HBl.out; omega
            have hkn : (j : Int) < (M : Int) := by omega
            have HG := Lib.hid (gatQ_at (txn := txn) (w := x) hjl G)
            have HIk := Lib.hid (HJ.out _ (List.getElem_mem hjl))
            obtain ⟨ad, hae, hab, y0, y1, y2, y3, y4⟩ := load_claim (HB.out.lst.q HR.out.q) (show j < m by omega) hjl
            injection hae with hae
            subst hae
            generalize l.queue[j] = h at y0 y1 y2 y3 y4 HG HIk
            have KG := Lib.hid (fun W hc hm hown => gather_any h.txn h.w x txn (w.heap.size + 1) (w.heap.size + 1 + 1) (w.heap.size + 1 + 1 + 1 + 1) (w.heap.size + 1 + 1 + 1) (k + j) D os W HIk.out hc hm hown HK.out (by omega))
            go_wp2_with fail
            refine (KG.out _ (HR.out.step ((Q.refl wr).alloc _)).cap (HR.out.step ((Q.refl wr).alloc _)).cm (HM.out.alloc _)).mono ?_
            rintro e w2 ⟨rfl, D2, m2, k2, g2⟩
            have S2 := Lib.hid (And.intro m2 (And.intro k2 ((HR.out.step ((Q.refl wr).alloc (.cells #[.int .i64 h.txn, .int .i64 h.w.mode, .string h.w.lo, .string h.w.hi, .int .u64 (h.til : Int)] 45))).turn g2)))
            clear m2 k2 g2
            go_wp2
            go_roundw
            case rel => exact ⟨j + 1, D2, addT txn x h.txn h.w os, by omega, by go_num, S2.out.1, S2.out.2.1, by rw [HG.out, HE.out], S2.out.2.2⟩
            case measure => simp [Go.RowKit.intOf]; omega
          · have hjm : j = M := by omega
            subst hjm
            have HF := Lib.hid (show os = bl by rw [HBK.out, ← HE.out])
            have cm := HR.out.cm
            go_wp2_with fail
            refine (keys_any _ _).mono ?_
            rintro e w1 ⟨rfl, rfl⟩
            go_wp2_with fail
            refine (sorted_any (w.heap.size + 1 + 1 + 1) (k + j) D bl wr HM.out (HF.out ▸ HK.out) HRi.out (by omega)).mono ?_
            rintro e w2 ⟨A2, c2, rfl, o2, q2⟩
            have S2 := Lib.hid (And.intro (o2.lower (b2 := w.heap.size) HR.out.q.size) (HR.out.q.trans q2))
            clear o2 q2
            go_wp2
            go_ret
            exact ⟨A2, c2, rfl, S2.out.1, S2.out.2⟩
end Go.Proofs.Ytncnfblnelkmbaa
