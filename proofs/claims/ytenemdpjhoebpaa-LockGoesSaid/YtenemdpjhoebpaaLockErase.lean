/- Contract: slices.Delete of one claim, at a list of the call's own. -/
import Derived.Test.YtenemdpjhoebpaaLockK
import Derived.Test.YtenemdpjhoebpaaKindRow
import Derived.Test.YtenemdpjhoebpaaFilt
import Derived.Deep.RegionLaw
namespace Go.Proofs.Ytenemdpjhoebpaa
set_option maxRecDepth 100000
open Go.RowKit Prm Lm
set_option linter.unusedVariables false
set_option linter.unusedSimpArgs false

section
variable {α : Type} {K : Kind α} {w : World} {base g n c : Nat} {l : List α}
theorem OwnK.cellsFrom (h : OwnK K w base (some ⟨g, 0, none⟩) n c l) (m : Nat) : ∀ j u, (K.rows (l.drop m))[j]? = some u → w.cell? ⟨g, m * K.k + j, none⟩ = some u := by
  intro j u hu
  rw [K.rows_drop, List.getElem?_drop] at hu
  have hl : m * K.k + j < (K.rows l).length := (List.getElem?_eq_some_iff.1 hu).1
  rw [World.ownsRow.cellAt h _ (by rw [← h.1]; exact hl)]
  exact hu
theorem erase_rowsK (K : Kind α) (l : List α) (k m : Nat) (xs Z D : List Value) (hl : l.length = m + 1) (hk : k < m + 1) (hx : xs.take ((m + 1) * K.k) = K.rows l) (hxl : (m + 1) * K.k ≤ xs.length) (R : List Value) :
    (((xs.take (k * K.k) ++ K.rows (l.drop (k + 1)) ++ R).take (m * K.k)) ++ Z ++ D).take (m * K.k) = K.rows (l.eraseIdx k) := by
  have hle : k * K.k ≤ (m + 1) * K.k := Nat.mul_le_mul_right _ (by omega)
  have h0 : xs.take (k * K.k) = K.rows (l.take k) := by
    rw [K.rows_take, ← hx, List.take_take, Nat.min_eq_left hle]
  rw [h0, List.eraseIdx_eq_take_drop_succ, K.rows_app]
  have hL : (K.rows (l.take k) ++ K.rows (l.drop (k + 1))).length = m * K.k := by
    rw [List.length_append, K.rows_len, K.rows_len, List.length_take, List.length_drop, hl, Nat.min_eq_left (by omega), ← Nat.add_mul]
    congr 1; omega
  rw [List.take_left' hL, List.append_assoc, List.take_left' hL]
theorem fin_eraseK {k m : Nat} {xs Z D R : List Value} (hl : l.length = m + 1) (hk : k < m + 1) (hm : m ≤ c) (hx : xs.take ((m + 1) * K.k) = K.rows l) (hxl : (m + 1) * K.k ≤ xs.length)
    (h : RowK K w base g c (((xs.take (k * K.k) ++ K.rows (l.drop (k + 1)) ++ R).take (m * K.k)) ++ Z ++ D)) : OwnK K w base (some ⟨g, 0, none⟩) m c (l.eraseIdx k) :=
  h.own hm (erase_rowsK K l k m xs Z D hl hk hx hxl R)
end

set_option maxHeartbeats 4000000 in
theorem erase_claim (base g m c k : Nat) (l : List Cl) (w : World) (h : OwnK claimK w base (some ⟨g, 0, none⟩) (m + 1) c l) (hk : k < m + 1) :
    Calls Try.prog 45 #[.slice (some ⟨g, 0, none⟩) (m + 1) c, .int .i64 k, .int .i64 ((k : Int) + 1)] w fun e w' => e = .returned (.slice (some ⟨g, 0, none⟩) m c) ∧ OwnK claimK w' base (some ⟨g, 0, none⟩) m c (l.eraseIdx k) ∧ w.grownBy w' (some g) := by
  obtain ⟨i0, hi, hz, hsz, hy⟩ := info_parts claimK.info
  have hb := h.block_lt.1
  have hc := h.le
  have hm := h.cap
  unfold maxLen at hm
  have HO := Lib.hid h
  have HL := Lib.hid h.len
  obtain ⟨xs, hr, hx⟩ := h.row
  have HX := Lib.hid hx
  have HR := Lib.hid hr
  have HXl := Lib.hid (show (m + 1) * 5 ≤ xs.length by rw [hr.len]; exact Nat.mul_le_mul_right 5 hc)
  clear h hr hx
  have b1 : ((k : Int) == (k : Int) + 1) = false := by simp; omega
  have s1 := Lib.hid (show (claimK.rows (l.drop (k + 1))).length = (m - k) * 5 by rw [claimK.rows_len, List.length_drop, HL.out]; show (m + 1 - (k + 1)) * 5 = _; congr 1; omega)
  have s3 := Lib.hid (show ∀ u ∈ claimK.rows (l.drop (k + 1)), u.oneCell' = true from claimK.rows_one _)
  have s4 := Lib.hid (show ∀ j, j < (claimK.rows (l.drop (k + 1))).length → (w.drew.cell? ⟨g, 0 + k * 5 + j, none⟩).isSome = true ∧ w.drew.frozen? ⟨g, 0 + k * 5 + j, none⟩ = false from fun j hj => by
    rw [s1.out] at hj
    exact ⟨HO.out.spare (0 + k * 5 + j) (by show _ < c * 5; omega), HO.out.free _⟩)
  have HB := Lib.hid hb
  clear hb
  have q1 : k ≤ c := by omega
  have q2 : k + 1 ≤ c := by omega
  have q3 : k ≤ m := by omega
  have q4 : (k : Int) + 1 ≤ (m : Int) + 1 := by omega
  have q5 : (k : Int) + 1 ≤ c := by omega
  have q6 : (k : Int) ≤ c := by omega
  have q7 : 0 ≤ (k : Int) + 1 := by omega
  have q11 : (k : Int) ≤ (k : Int) + 1 := by omega
  have q12 : k ≤ k + 1 := by omega
  have q8 : m ≤ c := by omega
  have q9 : (m : Int) ≤ c := by omega
  have q10 : (c = m) = False := by simp; omega
  have y := HR.out.drew.sets (k * 5) (claimK.rows (l.drop (k + 1))) (by rw [s1.out]; show k * 5 + (m - k) * 5 ≤ c * 5; omega)
  have Y := Lib.hid (And.intro y (only_sets (claimK.rows (l.drop (k + 1))) (k * 5) w.drew (only_drew (only_refl w g))))
  clear y
  by_cases hck : c = k + 1
  · have e : k = m := by omega
    subst e
    subst hck
    have s2 := Lib.hid (show ∀ j u, (claimK.rows (l.drop (k + 1)))[j]? = some u → w.drew.cell? ((⟨g, 0, none⟩ : Addr).add j) = some u from fun j u hu => by
      have := (List.getElem?_eq_some_iff.1 hu).1
      rw [s1.out] at this
      omega)
    clear q3
    rw [Nat.sub_self] at s1
    go_enter Try.func45, Try.ntmps45
    go_wp2
    go_region_law ((refine step_append_room (by rfl) _ _ _ (by rfl) _ i0 5 Try.underlying23 hi hsz _ _ _ _ (by rfl) _ _ _ (claimK.rows (l.drop (k + 1))) (by rfl) s1.out s2.out s3.out (by omega) s4.out ?_))
    generalize w.drew.setCells g (k * 5) (claimK.rows (l.drop (k + 1))) = W1 at Y ⊢
    obtain ⟨y, z⟩ := Y.out
    obtain ⟨zs, hzl, hcl⟩ := run_clearK claimK y (fun u hu => by simp [claimK, Value.cells] at hu; rcases hu with rfl | rfl | rfl | rfl | rfl <;> rfl) (zero_kind claimK) 0 (k * 5) 1 0 (by omega) (by show k * 5 + 1 * 5 ≤ (k + 1) * 5; omega)
    have hcl : (Builtin.clear_ #[23] 0 #[.slice (some ⟨g, k * 5, none⟩) 1 1]).run Try.prog W1 = .ok (.tuple #[]) (W1.setCells g (k * 5) zs) := hcl 1
    have F := Lib.hid (And.intro (y.sets (k * 5) zs (by rw [hzl]; show k * 5 + 1 * 5 ≤ (k + 1) * 5; omega)) (only_sets zs (k * 5) W1 z))
    clear y z Y
    go_wp2
    go_ret
    exact ⟨rfl, fin_eraseK HL.out hk (Nat.le_succ k) HX.out HXl.out F.out.1, F.out.2⟩
  · have s2 := Lib.hid (show ∀ j u, (claimK.rows (l.drop (k + 1)))[j]? = some u → w.drew.cell? ((⟨g, (k + 1) * 5, none⟩ : Addr).add j) = some u from fun j u hu => by
      rw [Addr.add_lit]; exact HO.out.cellsFrom (k + 1) j u hu)
    go_enter Try.func45, Try.ntmps45
    go_wp2
    go_region_law ((refine step_append_room (by rfl) _ _ _ (by rfl) _ i0 5 Try.underlying23 hi hsz _ _ _ _ (by rfl) _ _ _ (claimK.rows (l.drop (k + 1))) (by rfl) s1.out s2.out s3.out (by omega) s4.out ?_))
    generalize w.drew.setCells g (k * 5) (claimK.rows (l.drop (k + 1))) = W1 at Y ⊢
    obtain ⟨y, z⟩ := Y.out
    obtain ⟨zs, hzl, hcl⟩ := run_clearK claimK y (fun u hu => by simp [claimK, Value.cells] at hu; rcases hu with rfl | rfl | rfl | rfl | rfl <;> rfl) (zero_kind claimK) 0 (m * 5) 1 0 (by omega) (by show m * 5 + 1 * 5 ≤ c * 5; omega)
    have hcl : (Builtin.clear_ #[23] 0 #[.slice (some ⟨g, m * 5, none⟩) 1 (c - m)]).run Try.prog W1 = .ok (.tuple #[]) (W1.setCells g (m * 5) zs) := hcl (c - m)
    have F := Lib.hid (And.intro (y.sets (m * 5) zs (by rw [hzl]; show m * 5 + 1 * 5 ≤ c * 5; omega)) (only_sets zs (m * 5) W1 z))
    clear y z Y
    go_wp2
    go_ret
    exact ⟨rfl, fin_eraseK HL.out hk q8 HX.out HXl.out F.out.1, F.out.2⟩
end Go.Proofs.Ytenemdpjhoebpaa
