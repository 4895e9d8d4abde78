/- Contracts: slices.Delete at files. -/
import Derived.Test.YtpjadjbniddmgaaOwnRows
import Derived.Test.YtpjadjbniddmgaaDiskSt
import Derived.Test.YtpjadjbniddmgaaDiskMath3
import Derived.Deep.RegionLaw
namespace Go.Proofs.Ytpjadjbniddmgaa
open Go.RowKit Dkm
set_option linter.unusedVariables false

theorem rows_drop (l : List Fil) : ∀ (m : Nat), rows (l.drop m) = (rows l).drop (m * 3) := by
  induction l with
  | nil => intro m; simp [rows]
  | cons f l ih =>
    intro m
    cases m with
    | zero => simp
    | succ m =>
      rw [List.drop_succ_cons, ih m, rows, show (m + 1) * 3 = f.row.length + m * 3 by simp [Fil.row]; omega, List.drop_length_add_append]
theorem rows_take (l : List Fil) : ∀ (m : Nat), rows (l.take m) = (rows l).take (m * 3) := by
  induction l with
  | nil => intro m; simp [rows]
  | cons f l ih =>
    intro m
    cases m with
    | zero => simp [rows]
    | succ m =>
      rw [List.take_succ_cons, rows, ih m, rows, show (m + 1) * 3 = f.row.length + m * 3 by simp [Fil.row]; omega, List.take_length_add_append]
theorem own_cells {w : World} {base g n c : Nat} {l : List Fil} (h : Own w base (some ⟨g, 0, none⟩) n c l) (m : Nat) : ∀ j u, (rows (l.drop m))[j]? = some u → w.cell? ⟨g, m * 3 + j, none⟩ = some u := by
  intro j u hu
  rw [rows_drop, List.getElem?_drop] at hu
  have hl : m * 3 + j < (rows l).length := (List.getElem?_eq_some_iff.1 hu).1
  rw [World.ownsRow.cellAt h _ (by rw [← h.1]; exact hl)]
  exact hu
theorem own_spare {w : World} {base g n c : Nat} {l : List Fil} (h : Own w base (some ⟨g, 0, none⟩) n c l) (j : Nat) (hj : j < c * 3) : (w.cell? ⟨g, j, none⟩).isSome = true ∧ w.frozen? ⟨g, j, none⟩ = false := by
  refine ⟨?_, World.ownsRow.frozenAt h _⟩
  rcases h.parts with ⟨e, _⟩ | ⟨g', cur, e, hb, hh, hc, hm, hs, ht⟩
  · cases e
  injection e with e
  injection e with e
  subst e
  rw [cell_of_row _ _ j _ 29 (0, 0) hh]
  rw [Array.getElem?_eq_getElem (by omega)]
  rfl

theorem row_spare {w : World} {base g n c : Nat} {xs : List Value} (h : w.ownsRow base 29 3 (.slice (some ⟨g, 0, none⟩) n c) n xs) (j : Nat) (hj : j < c * 3) : (w.cell? ⟨g, j, none⟩).isSome = true ∧ w.frozen? ⟨g, j, none⟩ = false := by
  refine ⟨?_, World.ownsRow.frozenAt h _⟩
  rcases h.2 with ⟨e, _⟩ | ⟨g', cap, cur, e, hb, hh, hc, hm, hs, ht⟩
  · cases e
  injection e with e e2 e3
  injection e with e
  injection e with e
  subst e e3
  rw [cell_of_row _ _ j _ 29 (0, 0) hh]
  rw [Array.getElem?_eq_getElem (by omega)]
  rfl
theorem clear_one (w : World) (ty : TypeId) (b o c : Nat) (hc : ∀ j, j < 3 → (w.cell? ⟨b, o + j, none⟩).isSome = true) (hf : ∀ j, j < 3 → w.frozen? ⟨b, o + j, none⟩ = false) :
    (Builtin.clear_ #[22] ty #[.slice (some ⟨b, o, none⟩) 1 c]).run Try.prog w = .ok (.tuple #[]) (w.setCells b o [.string ⟨#[]⟩, .string ⟨#[]⟩, .string ⟨#[]⟩]) := by
  have hst := run_storeCells_cells (P := Try.prog) b o [.string ⟨#[]⟩, .string ⟨#[]⟩, .string ⟨#[]⟩] 0 w (by simpa using hc) (by simpa using hf) (by intro v hv; simp at hv; subst hv; rfl)
  simp only [Nat.add_zero] at hst
  have e : (Builtin.zeroCells (Value.agg #[.string ⟨#[]⟩, .string ⟨#[]⟩, .string ⟨#[]⟩]).cells 1).toList = [.string ⟨#[]⟩, .string ⟨#[]⟩, .string ⟨#[]⟩] := by kernel_rfl
  simp [Builtin.clear_, run_underlying Try.underlying22, e, hst]
theorem take_mid {α : Type} {P R Z D : List α} {L : Nat} (h : P.length = L) : ((P ++ R).take L ++ Z ++ D).take L = P := by
  rw [List.take_left' h, List.append_assoc, List.take_left' h]
theorem erase_rows (l : List Fil) (k m : Nat) (R Z D : List Value) (hl : l.length = m + 1) (hk : k < m + 1) :
    (((rows l).take (0 + k * 3) ++ rows (l.drop (k + 1)) ++ R).take (m * 3) ++ Z ++ D).take (m * 3) = rows (l.eraseIdx k) := by
  rw [List.eraseIdx_eq_take_drop_succ, rows_append, rows_take, Nat.zero_add]
  exact take_mid (by rw [List.length_append, List.length_take, rows_length, rows_length, List.length_drop, hl]; omega)

theorem fin_ {w : World} {base g c k m : Nat} {l : List Fil} {R Z D : List Value} (hl : l.length = m + 1) (hk : k < m + 1)
    (h : w.ownsRow base 29 3 (.slice (some ⟨g, 0, none⟩) m c) m ((((rows l).take (k * 3) ++ rows (l.drop (k + 1)) ++ R).take (m * 3) ++ Z ++ D).take (m * 3))) : Own w base (some ⟨g, 0, none⟩) m c (l.eraseIdx k) := by
  have e := erase_rows l k m R Z D hl hk
  rw [Nat.zero_add] at e
  rw [e] at h
  exact h

set_option maxHeartbeats 2000000 in
theorem delete_at (base : Nat) (g m c k : Nat) (l : List Fil) (w : World) (h : Own w base (some ⟨g, 0, none⟩) (m + 1) c l) (hk : k < m + 1) :
    Calls Try.prog 49 #[.slice (some ⟨g, 0, none⟩) (m + 1) c, .int .i64 k, .int .i64 ((k : Int) + 1)] w fun e w' => e = .returned (.slice (some ⟨g, 0, none⟩) m c) ∧ Own w' base (some ⟨g, 0, none⟩) m c (l.eraseIdx k) ∧ w.grownBy w' (some g) := by
  obtain ⟨i0, hi, hz, hsz, hy⟩ := info_parts file_info
  obtain ⟨hb, hc, hm⟩ : base ≤ g ∧ m + 1 ≤ c ∧ c ≤ maxLen := by
    rcases h.parts with ⟨e, _⟩ | ⟨g', cur, e, hb, hh, hc, hm, hs, ht⟩
    · cases e
    injection e with e
    injection e with e
    subst e
    exact ⟨hb, hc, hm⟩
  unfold maxLen at hm
  have HO := Lib.hid h
  have HL := Lib.hid h.len
  clear h
  have b1 : ((k : Int) == (k : Int) + 1) = false := by simp; omega
  have s1 := Lib.hid (show (rows (l.drop (k + 1))).length = (m - k) * 3 by rw [rows_length, List.length_drop, HL.out]; omega)
  have s3 := Lib.hid (show ∀ u ∈ rows (l.drop (k + 1)), u.oneCell' = true from rows_one _)
  have s4 := Lib.hid (show ∀ j, j < (rows (l.drop (k + 1))).length → (w.drew.cell? ⟨g, 0 + k * 3 + j, none⟩).isSome = true ∧ w.drew.frozen? ⟨g, 0 + k * 3 + j, none⟩ = false from fun j hj => by
    rw [s1.out] at hj
    exact own_spare HO.out (0 + k * 3 + j) (by omega))
  have HB := Lib.hid hb
  clear hb
  have q1 : k ≤ c := by omega
  have q2 : k + 1 ≤ c := by omega
  have q3 : k ≤ m := by omega
  have q4 : (k : Int) + 1 ≤ (m : Int) + 1 := by omega
  have q5 : (k : Int) + 1 ≤ c := by omega
  have q6 : (k : Int) ≤ c := by omega
  have q7 : 0 ≤ (k : Int) + 1 := by omega
  have q11 : (k : Int) ≤ (k : Int) + 1 := by omega
  have q12 : k ≤ k + 1 := by omega
  have q8 : m ≤ c := by omega
  have q9 : (m : Int) ≤ c := by omega
  have q10 : (c = m) = False := by simp; omega
  have y := owns_setCells (e := 29) (sz := 3) (rows (l.drop (k + 1))) (k * 3) w.drew (rows l) (show w.drew.ownsRow base 29 3 (.slice (some ⟨g, 0, none⟩) (m + 1) c) (m + 1) (rows l) from HO.out) (by rw [s1.out, rows_length, HL.out]; omega)
  have Y := Lib.hid (And.intro y (only_sets (rows (l.drop (k + 1))) (k * 3) w.drew (only_drew (only_refl w g))))
  clear y
  by_cases hck : c = k + 1
  · have e : k = m := by omega
    subst e
    subst hck
    have s2 := Lib.hid (show ∀ j u, (rows (l.drop (k + 1)))[j]? = some u → w.drew.cell? ((⟨g, 0, none⟩ : Addr).add j) = some u from fun j u hu => by
      have := (List.getElem?_eq_some_iff.1 hu).1
      rw [s1.out] at this
      omega)
    clear q3
    rw [Nat.sub_self] at s1
    go_enter Try.func49, Try.ntmps49
    go_wp2
    go_region_law ((refine step_append_room (by rfl) _ _ _ (by rfl) _ i0 3 Try.underlying22 hi hsz _ _ _ _ (by rfl) _ _ _ (rows (l.drop (k + 1))) (by rfl) s1.out s2.out s3.out (by omega) s4.out ?_))
    generalize w.drew.setCells g (k * 3) (rows (l.drop (k + 1))) = W1 at Y ⊢
    obtain ⟨y, z⟩ := Y.out
    have hcl : ∀ ty, (Builtin.clear_ #[22] ty #[.slice (some ⟨g, k * 3, none⟩) 1 1]).run Try.prog W1 = .ok (.tuple #[]) (W1.setCells g (k * 3) [.string ⟨#[]⟩, .string ⟨#[]⟩, .string ⟨#[]⟩]) := fun ty =>
      clear_one W1 ty g (k * 3) 1 (fun j hj => (row_spare y (k * 3 + j) (by omega)).1) (fun j hj => (row_spare y (k * 3 + j) (by omega)).2)
    have F := Lib.hid (And.intro (owns_short (owns_setCells (e := 29) (sz := 3) [.string ⟨#[]⟩, .string ⟨#[]⟩, .string ⟨#[]⟩] (k * 3) W1 _ y (by rw [y.1]; simp; omega)) (Nat.le_succ k)) (only_sets [.string ⟨#[]⟩, .string ⟨#[]⟩, .string ⟨#[]⟩] (k * 3) W1 z))
    clear y z Y
    go_wp2
    go_ret
    exact ⟨rfl, fin_ HL.out hk F.out.1, F.out.2⟩
  · have s2 := Lib.hid (show ∀ j u, (rows (l.drop (k + 1)))[j]? = some u → w.drew.cell? ((⟨g, (k + 1) * 3, none⟩ : Addr).add j) = some u from fun j u hu => by
      rw [Addr.add_lit]; exact own_cells HO.out (k + 1) j u hu)
    go_enter Try.func49, Try.ntmps49
    go_wp2
    go_region_law ((refine step_append_room (by rfl) _ _ _ (by rfl) _ i0 3 Try.underlying22 hi hsz _ _ _ _ (by rfl) _ _ _ (rows (l.drop (k + 1))) (by rfl) s1.out s2.out s3.out (by omega) s4.out ?_))
    generalize w.drew.setCells g (k * 3) (rows (l.drop (k + 1))) = W1 at Y ⊢
    obtain ⟨y, z⟩ := Y.out
    have hcl : ∀ ty, (Builtin.clear_ #[22] ty #[.slice (some ⟨g, m * 3, none⟩) 1 (c - m)]).run Try.prog W1 = .ok (.tuple #[]) (W1.setCells g (m * 3) [.string ⟨#[]⟩, .string ⟨#[]⟩, .string ⟨#[]⟩]) := fun ty =>
      clear_one W1 ty g (m * 3) (c - m) (fun j hj => (row_spare y (m * 3 + j) (by omega)).1) (fun j hj => (row_spare y (m * 3 + j) (by omega)).2)
    have F := Lib.hid (And.intro (owns_short (owns_setCells (e := 29) (sz := 3) [.string ⟨#[]⟩, .string ⟨#[]⟩, .string ⟨#[]⟩] (m * 3) W1 _ y (by rw [y.1]; simp; omega)) (Nat.le_succ m)) (only_sets [.string ⟨#[]⟩, .string ⟨#[]⟩, .string ⟨#[]⟩] (m * 3) W1 z))
    clear y z Y
    go_wp2
    go_ret
    exact ⟨rfl, fin_ HL.out hk F.out.1, F.out.2⟩
end Go.Proofs.Ytpjadjbniddmgaa
