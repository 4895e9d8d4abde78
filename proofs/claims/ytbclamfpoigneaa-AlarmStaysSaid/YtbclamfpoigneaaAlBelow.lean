/- Contracts: package alarm's own Less, left, below. -/
import Derived.Test.YtbclamfpoigneaaAlWeak
namespace Go.Proofs.Ytbclamfpoigneaa
set_option maxRecDepth 100000
open Go.RowKit
set_option linter.unusedVariables false
set_option linter.unusedSimpArgs false
namespace Am

set_option maxHeartbeats 1000000 in
theorem aless_any (a b : Al) (w : World) : Calls Try.prog 21 #[alV a, alV b] w fun e w' => e = .returned (.bool (less a b)) ∧ Q w w' := by
  obtain ⟨x, y⟩ := a
  obtain ⟨u, v⟩ := b
  unfold alV less
  simp only
  by_cases h : x = u
  · subst h
    rw [if_pos rfl]
    go_enter Try.func21, Try.ntmps21
    go_wp2
    go_ret
    exact ⟨rfl, ((Q.refl w).alloc _).alloc _⟩
  · rw [if_neg h]
    have hn : ¬ (x : Int) = (u : Int) := by omega
    have hb : decide ((x : Int) < (u : Int)) = decide (x < u) := by rw [Bool.eq_iff_iff]; simp
    have HB := Lib.hid hb
    clear hb
    go_enter Try.func21, Try.ntmps21
    go_wp2
    go_ret
    refine ⟨?_, ((Q.refl w).alloc _).alloc _⟩
    rw [← HB.out]
    rfl
theorem aleft_any (i : Nat) (w : World) (hi : i ≤ 35184372088832) : Calls Try.prog 30 #[.int .i64 (i : Int)] w fun e w' => e = .returned (.int .i64 ((2 * i + 1 : Nat) : Int)) ∧ w' = w := by
  go_enter Try.func30, Try.ntmps30
  go_wp2
  go_ret
  exact ⟨by first | rfl | (congr 2), rfl⟩

/-- the two that hang on a place, as an array; how many of them there are. -/
abbrev arrV (a b : Al) : Value := .agg #[.int .u64 (a.at_ : Int), .int .i64 a.id, .int .u64 (b.at_ : Int), .int .i64 b.id]
abbrev arrC (a b : Al) : List Value := [.int .u64 (a.at_ : Int), .int .i64 a.id, .int .u64 (b.at_ : Int), .int .i64 b.id]
def cnt (n i : Nat) : Nat := min 2 (n - (2 * i + 1))
theorem g_ge {h : List Al} {k : Nat} (hk : h.length ≤ k) : g h k = z := by unfold g; simp [hk]
theorem bx_lo2 {w : World} {b : Nat} {x y u v : Value} (h : Bx w b [x, y, u, v]) (x' y' : Value) : Bx ((w.setCell ⟨b, 0, none⟩ x').setCell ⟨b, 1, none⟩ y') b [x', y', u, v] :=
  (h.set (k := 0) (by simp) x').set (k := 1) (by simp) y'
theorem bx_hi2 {w : World} {b : Nat} {x y u v : Value} (h : Bx w b [x, y, u, v]) (x' y' : Value) : Bx ((w.setCell ⟨b, 2, none⟩ x').setCell ⟨b, 3, none⟩ y') b [x, y, x', y'] :=
  (h.set (k := 2) (by simp) x').set (k := 3) (by simp) y'
set_option maxHeartbeats 4000000 in
theorem abelow_any (A : Option Addr) (n c : Nat) (h : List Al) (i : Nat) (w : World) (hA : Lst alK w A n h) (hi : i ≤ n) (hn : n ≤ 17592186044416) :
    Calls Try.prog 27 #[.slice A n c, .int .i64 (i : Int)] w fun e w' => e = .returned (.tuple #[arrV (g h (2 * i + 1)) (g h (2 * i + 2)), .int .i64 ((cnt n i : Nat) : Int)]) ∧ Q w w' := by
  have HA := Lib.hid hA
  have HL := Lib.hid hA.len
  have K0 := Lib.hid (fun W => aleft_any i W (by omega))
  clear hA
  go_enter Try.func27, Try.ntmps27
  go_wp2
  have Z0 : List Value := [.int .u64 0, .int .i64 0, .int .u64 0, .int .i64 0]
  have B0 := Lib.hid (And.intro ((Bx.new w [.int .u64 0, .int .i64 0, .int .u64 0, .int .i64 0] 46).alloc (.cells #[.int .u64 0, .int .i64 0, .int .u64 0, .int .i64 0] 46)) (And.intro (Bx.new (w.alloc (.cells #[.int .u64 0, .int .i64 0, .int .u64 0, .int .i64 0] 46)) [.int .u64 0, .int .i64 0, .int .u64 0, .int .i64 0] 46) (((Q.refl w).alloc (.cells #[.int .u64 0, .int .i64 0, .int .u64 0, .int .i64 0] 46)).alloc (.cells #[.int .u64 0, .int .i64 0, .int .u64 0, .int .i64 0] 46))))
  rw [show (w.alloc (.cells #[.int .u64 0, .int .i64 0, .int .u64 0, .int .i64 0] 46)).heap.size = w.heap.size + 1 by simp] at B0
  go_loopw [9] (fun iv wr => ∃ k : Nat, iv = .int .i64 (k : Nat) ∧ k ≤ 2 ∧ (0 < k → 2 * i + k < n) ∧ Bx wr w.heap.size [.int .u64 0, .int .i64 0, .int .u64 0, .int .i64 0] ∧ Bx wr (w.heap.size + 1) (arrC (if 0 < k then g h (2 * i + 1) else z) (if 1 < k then g h (2 * i + 2) else z)) ∧ Q w wr) (fun iv _ => 2 - (intOf iv).toNat)
  case atStart => exact ⟨0, rfl, by omega, by omega, B0.out.1, B0.out.2.1, B0.out.2.2⟩
  case round =>
    obtain ⟨k, rfl, hk, hkn, hb0, hb1, hq⟩ := hrel
    have P := Lib.hid (And.intro hb0 (And.intro hb1 hq))
    clear hb0 hb1 hq B0 Z0
    have hc : k = 0 ∨ k = 1 ∨ k = 2 := by omega
    rcases hc with rfl | rfl | rfl
    · simp only [Nat.lt_irrefl, if_false, if_neg (by omega : ¬ 1 < 0)] at P
      clear hkn hk
      by_cases hlt : 2 * i + 1 < n
      · have hl : 2 * i + 1 < h.length := by rw [HL.out]; exact hlt
        obtain ⟨ad, rfl, hab, y0, y1⟩ := load_al (HA.out.q P.out.2.2) hlt hl
        rw [← g_lt hl] at y0 y1
        have HGE := Lib.hid hlt
        have hlt2 : ¬ ((2 * i + 1 : Nat) : Int) + 0 ≥ (n : Int) := by omega
        generalize hgf : g h (2 * i + 1) = f at y0 y1
        have HGF := Lib.hid hgf
        clear hgf
        obtain ⟨⟨b0, b1, b2, b3⟩, f0, f1, f2, f3⟩ := P.out.2.1.get4
        go_wp2_with fail
        refine (K0.out _).mono ?_
        rintro e w1 ⟨rfl, rfl⟩
        go_wp2
        go_roundw
        case rel =>
          refine ⟨1, rfl, by omega, fun _ => HGE.out, ?_, ?_, ?_⟩
          · exact P.out.1.far2 (by omega) _ _
          · have h2 := bx_lo2 P.out.2.1 (.int .u64 (f.at_ : Int)) (.int .i64 f.id)
            rw [if_pos (by omega), if_neg (by omega)]
            exact h2
          · exact P.out.2.2.set2 (by omega) _ _
        case measure => simp [intOf]
      · have hlt2 : ((2 * i + 1 : Nat) : Int) + 0 ≥ (n : Int) := by omega
        have HC : Hid (cnt n i = 0) := Lib.hid (by unfold cnt; omega)
        have HX : Hid (g h (2 * i + 1) = z) := Lib.hid (g_ge (by rw [HL.out]; omega))
        have HY : Hid (g h (2 * i + 2) = z) := Lib.hid (g_ge (by rw [HL.out]; omega))
        obtain ⟨⟨b0, b1, b2, b3⟩, fz0, fz1, fz2, fz3⟩ := P.out.2.1.get4
        obtain ⟨⟨c0, c1, c2, c3⟩, e0, e1, e2, e3⟩ := P.out.1.get4
        have R0 := Lib.hid (P.out.1.put4 (.int .u64 (z.at_ : Int)) (.int .i64 z.id) (.int .u64 (z.at_ : Int)) (.int .i64 z.id))
        have RQ := Lib.hid ((P.out.2.2.set2 (b := w.heap.size) (by omega) (.int .u64 (z.at_ : Int)) (.int .i64 z.id)).setCell (p := ⟨w.heap.size, 2, none⟩) (Nat.le_refl _) (.int .u64 (z.at_ : Int)) |>.setCell (p := ⟨w.heap.size, 3, none⟩) (Nat.le_refl _) (.int .i64 z.id))
        go_wp2_with fail
        refine (K0.out _).mono ?_
        rintro e w1 ⟨rfl, rfl⟩
        go_wp2
        generalize ((((w1.setCell ⟨w.heap.size, 0, none⟩ (.int .u64 (z.at_ : Int))).setCell ⟨w.heap.size, 1, none⟩ (.int .i64 z.id)).setCell ⟨w.heap.size, 2, none⟩ (.int .u64 (z.at_ : Int))).setCell ⟨w.heap.size, 3, none⟩ (.int .i64 z.id)) = W9 at R0 RQ ⊢
        obtain ⟨⟨r0, r1, r2, r3⟩, _⟩ := R0.out.get4
        refine bodyPost_ret (v := .tuple #[arrV z z, .int .i64 0]) (by simp [results, Try.results27, go_sem, r0, r1, r2, r3]) rfl ?_
        refine ⟨?_, RQ.out⟩
        rw [HC.out, HX.out, HY.out]; rfl
    · simp only [Nat.lt_irrefl, if_false, if_pos (by omega : 0 < 1)] at P
      have hk1 := hkn (by omega)
      clear hkn hk
      generalize hg1 : g h (2 * i + 1) = f0 at P ⊢
      have HG1 := Lib.hid hg1
      clear hg1
      by_cases hlt : 2 * i + 2 < n
      · have hl : 2 * i + 2 < h.length := by rw [HL.out]; exact hlt
        obtain ⟨ad, rfl, hab, y0, y1⟩ := load_al (HA.out.q P.out.2.2) hlt hl
        rw [← g_lt hl] at y0 y1
        have HGE := Lib.hid hlt
        have hlt2 : ¬ ((2 * i + 1 : Nat) : Int) + 1 ≥ (n : Int) := by omega
        generalize hgf : g h (2 * i + 2) = f at y0 y1
        have HGF := Lib.hid hgf
        clear hgf
        obtain ⟨⟨b0, b1, b2, b3⟩, f0, f1, f2, f3⟩ := P.out.2.1.get4
        go_wp2_with fail
        refine (K0.out _).mono ?_
        rintro e w1 ⟨rfl, rfl⟩
        go_wp2
        go_roundw
        case rel =>
          refine ⟨2, rfl, by omega, fun _ => HGE.out, ?_, ?_, ?_⟩
          · exact (P.out.1.far (p := ⟨w.heap.size + 1, 2, none⟩) (by simp) _).far (p := ⟨w.heap.size + 1, 3, none⟩) (by simp) _
          · have h2 := bx_hi2 P.out.2.1 (.int .u64 (f.at_ : Int)) (.int .i64 f.id)
            rw [if_pos (by omega), if_pos (by omega)]
            exact h2
          · exact (P.out.2.2.setCell (p := ⟨w.heap.size + 1, 2, none⟩) (by simp) _).setCell (p := ⟨w.heap.size + 1, 3, none⟩) (by simp) _
        case measure => simp [intOf]
      · have hlt2 : ((2 * i + 1 : Nat) : Int) + 1 ≥ (n : Int) := by omega
        have HC : Hid (cnt n i = 1) := Lib.hid (by unfold cnt; omega)
        have HX : Hid (g h (2 * i + 1) = f0) := HG1
        have HY : Hid (g h (2 * i + 2) = z) := Lib.hid (g_ge (by rw [HL.out]; omega))
        obtain ⟨⟨b0, b1, b2, b3⟩, fz0, fz1, fz2, fz3⟩ := P.out.2.1.get4
        obtain ⟨⟨c0, c1, c2, c3⟩, e0, e1, e2, e3⟩ := P.out.1.get4
        have R0 := Lib.hid (P.out.1.put4 (.int .u64 (f0.at_ : Int)) (.int .i64 f0.id) (.int .u64 (z.at_ : Int)) (.int .i64 z.id))
        have RQ := Lib.hid ((P.out.2.2.set2 (b := w.heap.size) (by omega) (.int .u64 (f0.at_ : Int)) (.int .i64 f0.id)).setCell (p := ⟨w.heap.size, 2, none⟩) (Nat.le_refl _) (.int .u64 (z.at_ : Int)) |>.setCell (p := ⟨w.heap.size, 3, none⟩) (Nat.le_refl _) (.int .i64 z.id))
        go_wp2_with fail
        refine (K0.out _).mono ?_
        rintro e w1 ⟨rfl, rfl⟩
        go_wp2
        generalize ((((w1.setCell ⟨w.heap.size, 0, none⟩ (.int .u64 (f0.at_ : Int))).setCell ⟨w.heap.size, 1, none⟩ (.int .i64 f0.id)).setCell ⟨w.heap.size, 2, none⟩ (.int .u64 (z.at_ : Int))).setCell ⟨w.heap.size, 3, none⟩ (.int .i64 z.id)) = W9 at R0 RQ ⊢
        obtain ⟨⟨r0, r1, r2, r3⟩, _⟩ := R0.out.get4
        refine bodyPost_ret (v := .tuple #[arrV f0 z, .int .i64 1]) (by simp [results, Try.results27, go_sem, r0, r1, r2, r3]) rfl ?_
        refine ⟨?_, RQ.out⟩
        rw [HC.out, HX.out, HY.out]; rfl
    · simp only [if_pos (by omega : 0 < 2), if_pos (by omega : 1 < 2)] at P
      have hk1 := hkn (by omega)
      clear hkn hk
      have HC : Hid (cnt n i = 2) := Lib.hid (by unfold cnt; omega)
      generalize hg1 : g h (2 * i + 1) = f0 at P ⊢
      generalize hg2 : g h (2 * i + 2) = f1 at P ⊢
      have HG1 := Lib.hid hg1
      have HG2 := Lib.hid hg2
      clear hg1 hg2
      obtain ⟨⟨b0, b1, b2, b3⟩, fz0, fz1, fz2, fz3⟩ := P.out.2.1.get4
      obtain ⟨⟨c0, c1, c2, c3⟩, e0, e1, e2, e3⟩ := P.out.1.get4
      have R0 := Lib.hid (P.out.1.put4 (.int .u64 (f0.at_ : Int)) (.int .i64 f0.id) (.int .u64 (f1.at_ : Int)) (.int .i64 f1.id))
      have RQ := Lib.hid ((P.out.2.2.set2 (b := w.heap.size) (by omega) (.int .u64 (f0.at_ : Int)) (.int .i64 f0.id)).setCell (p := ⟨w.heap.size, 2, none⟩) (Nat.le_refl _) (.int .u64 (f1.at_ : Int)) |>.setCell (p := ⟨w.heap.size, 3, none⟩) (Nat.le_refl _) (.int .i64 f1.id))
      go_wp2
      generalize ((((wr.setCell ⟨w.heap.size, 0, none⟩ (.int .u64 (f0.at_ : Int))).setCell ⟨w.heap.size, 1, none⟩ (.int .i64 f0.id)).setCell ⟨w.heap.size, 2, none⟩ (.int .u64 (f1.at_ : Int))).setCell ⟨w.heap.size, 3, none⟩ (.int .i64 f1.id)) = W9 at R0 RQ ⊢
      obtain ⟨⟨r0, r1, r2, r3⟩, _⟩ := R0.out.get4
      refine bodyPost_ret (v := .tuple #[arrV f0 f1, .int .i64 2]) (by simp [results, Try.results27, go_sem, r0, r1, r2, r3]) rfl ?_
      refine ⟨?_, RQ.out⟩
      rw [HC.out, HG1.out, HG2.out]; rfl
end Am
end Go.Proofs.Ytbclamfpoigneaa
