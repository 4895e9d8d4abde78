/- Contract: lock.Blockers' closure over its map. -/
import Derived.Test.YtenemdpjhoebpaaLockRef
import Derived.Test.YtenemdpjhoebpaaOwnRows
import Derived.Lib.MinMax
import Derived.Lib.SlKeysI
import Derived.Maps.OwnSet
namespace Go.Proofs.Ytenemdpjhoebpaa
set_option maxRecDepth 100000
open Go.RowKit Prm Lm Sm Go.Maps
set_option linter.unusedVariables false
set_option linter.unusedSimpArgs false

def KeysAre (D : DataW Unit) (out : List Int) : Prop := IsMap D ∧ ∀ x, x ∈ out ↔ Maps.has D (.int .i64 x) = true
theorem keys_nil : KeysAre (.map []) [] := ⟨isMap_empty, fun x => by simp [Maps.has]⟩
theorem keys_ins {D : DataW Unit} {out : List Int} (h : KeysAre D out) (o : Int) (d : DataW Unit) : KeysAre (D.put (.int .i64 o) d) (ins o out) := by
  refine ⟨h.1.put _ _, fun x => ?_⟩
  rw [mem_ins]
  by_cases e : x = o
  · subst e
    rw [has_put_same h.1 (show WideAt.IsKeyLit (.int .i64 x) from trivial)]; simp
  · rw [has_put_other (fun e' => e (by injection e')), ← h.2 x]; simp [e]
theorem lawI : Keyed Try.prog 3 := int_keyed Try.underlying3
theorem i64_wf {x : Int} (h1 : -9223372036854775808 ≤ x) (h2 : x ≤ 9223372036854775807) : (Lit.int .i64 x).wf = true := by
  have e1 : IntKind.i64.min = -9223372036854775808 := by decide
  have e2 : IntKind.i64.max = 9223372036854775807 := by decide
  simp only [Lit.wf, Bool.and_eq_true, decide_eq_true_eq]
  omega
theorem Q.only {w w' : World} (q : Q w w') (g : Nat) : w.grownBy w' (some g) := only_q q
theorem only_trans {a b c : World} {g : Nat} (h : a.grownBy b (some g)) (k : b.grownBy c (some g)) : a.grownBy c (some g) := h.trans k

set_option maxHeartbeats 2000000 in
theorem gather_any (other : Int) (v x : Wn) (txn : Int) (Bt Bw Bm b nn : Nat) (D : DataW Unit) (out : List Int) (w : World) (ho : -9223372036854775808 ≤ other ∧ other ≤ 9223372036854775807) (hc : Cap2 w txn x Bt Bw) (hm : w.cell? ⟨Bm, 0, none⟩ = some (.map (some b)))
    (hown : w.ownsMap Try.prog 3 unitElem b nn D) (hk : KeysAre D out) (hn : nn ≤ 1000000) :
    Calls Try.prog 36 #[.int .i64 other, wnV v, .pointer (some ⟨Bt, 0, none⟩), .pointer (some ⟨Bw, 0, none⟩), .pointer (some ⟨Bm, 0, none⟩)] w fun e w' =>
      e = .returned (.tuple #[]) ∧ ∃ D', w'.ownsMap Try.prog 3 unitElem b (nn + 1) D' ∧ KeysAre D' (addT txn x other v out) ∧ w.grownBy w' (some b) := by
  have K := Lib.hid (fun W => sclash_any v x W)
  have HM := Lib.hid hown
  have HK := Lib.hid hk
  have HW := Lib.hid (i64_wf ho.1 ho.2)
  have HC := Lib.hid hc
  have HA : Hid (addT txn x other v out = if Sm.clash v x = true ∧ other ≠ txn then ins other out else out) := Lib.hid rfl
  generalize addT txn x other v out = out2 at HA ⊢
  generalize Sm.clash v x = r at K HA
  obtain ⟨hB, hC, c0, c1, c2, c3⟩ := hc
  obtain ⟨m, lo, hi⟩ := v
  clear hown hk ho
  unfold wnV at *
  simp only at K
  by_cases ht : other = txn
  · have HE := Lib.hid (show out2 = out by rw [HA.out]; simp [ht])
    have et : (other != txn) = false := by simpa using ht
    clear ht HA
    go_enter Try.func36, Try.ntmps36
    go_wp2
    go_end0
    exact ⟨rfl, D, (HM.out.alloc _).mono (Nat.le_succ _), by rw [HE.out]; exact HK.out, Q.only ((Q.refl w).alloc _) b⟩
  · have et : (other != txn) = true := by simpa using ht
    cases r with
    | false =>
      have HE := Lib.hid (show out2 = out by rw [HA.out]; simp)
      clear ht HA
      go_enter Try.func36, Try.ntmps36
      go_wp2_with fail
      refine (K.out _).mono ?_
      rintro e w1 ⟨rfl, q1⟩
      have Q1 := Lib.hid (((Q.refl w).alloc (.cells #[.int .i64 m, .string lo, .string hi] 27)).trans q1)
      clear q1
      go_wp2
      go_end0
      exact ⟨rfl, D, (HM.out.kept Q1.out.grownBy (by simp)).mono (Nat.le_succ _), by rw [HE.out]; exact HK.out, Q.only Q1.out b⟩
    | true =>
      have HE := Lib.hid (show out2 = ins other out by rw [HA.out]; simp [ht])
      clear ht HA
      go_enter Try.func36, Try.ntmps36
      go_wp2_with fail
      refine (K.out _).mono ?_
      rintro e w1 ⟨rfl, q1⟩
      have Q1 := Lib.hid (((Q.refl w).alloc (.cells #[.int .i64 m, .string lo, .string hi] 27)).trans q1)
      have cm := box_ Q1.out hm
      clear q1
      go_wp2_with (at_mapUpdate
                   refine wpList_mapUpdate_own _ rfl _ _ _ 64 rfl 3 65 lawI Try.underlying64 unitElem b nn D rfl (HM.out.kept Q1.out.grownBy (by simp)) (by unfold maxLen; omega) (.int .i64 other) (.agg #[]) (.int .i64 other) rfl rfl (keyOf_int_mk Try.underlying3 HW.out) (.agg []) [] unitElem_mk ?_
                   intro w2 m2 g2
                   have S2 := Lib.hid (And.intro m2 (only_trans (Q.only Q1.out b) g2))
                   clear m2 g2)
      go_end0
      exact ⟨rfl, _, S2.out.1, by rw [HE.out]; exact keys_ins HK.out other _, S2.out.2⟩
end Go.Proofs.Ytenemdpjhoebpaa
