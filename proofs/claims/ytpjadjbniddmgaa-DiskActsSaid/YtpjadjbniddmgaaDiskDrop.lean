/- Contracts: drop. -/
import Derived.Test.YtpjadjbniddmgaaDiskDelete
import Derived.Deep.RegionHeld3
namespace Go.Proofs.Ytpjadjbniddmgaa
open Go.RowKit Dkm
set_option linter.unusedVariables false

theorem own_file {w : World} {base g n c : Nat} {l : List Fil} (h : Own w base (some ⟨g, 0, none⟩) n c l) {k : Nat} (hk : k < l.length) :
    w.cell? ⟨g, k * 3, none⟩ = some (.string l[k].nm) ∧ w.cell? ⟨g, k * 3 + 1, none⟩ = some (.string l[k].sf) ∧ w.cell? ⟨g, k * 3 + 2, none⟩ = some (.string l[k].wt) ∧ g < w.heap.size := by
  have hn := h.len
  have c0 : w.cell? ⟨g, k * 3, none⟩ = some (.string l[k].nm) := by rw [World.ownsRow.cellAt h _ (by omega)]; exact rows_at l k hk 0 (by omega)
  have c1 : w.cell? ⟨g, k * 3 + 1, none⟩ = some (.string l[k].sf) := by rw [World.ownsRow.cellAt h _ (by omega)]; exact rows_at l k hk 1 (by omega)
  have c2 : w.cell? ⟨g, k * 3 + 2, none⟩ = some (.string l[k].wt) := by rw [World.ownsRow.cellAt h _ (by omega)]; exact rows_at l k hk 2 (by omega)
  exact ⟨c0, c1, c2, block_lt_of_cell c0⟩

theorem own_far {w : World} {base g n c : Nat} {l : List Fil} (h : Own w base (some ⟨g, 0, none⟩) n c l) {p : Addr} (hp : p.block ≠ g) (u : Value) : Own (w.setCell p u) base (some ⟨g, 0, none⟩) n c l := by
  refine ⟨h.1, ?_⟩
  rcases h.2 with ⟨e, h0⟩ | ⟨g', cap, cur, e, hg, hh, r⟩
  · exact .inl ⟨e, h0⟩
  · have e' := e
    injection e' with e1
    injection e1 with e1
    injection e1 with e1
    exact .inr ⟨g', cap, cur, e, hg, (heap_setCell_other w p g' u (by omega)).trans hh, r⟩
theorem Bx.only {w w' : World} {b g : Nat} {vs : List Value} (h : Bx w b vs) (hg : w.grownBy w' (some g)) (hne : b ≠ g) : Bx w' b vs := fun j v hj => by
  have hb : b < w.heap.size := block_lt_of_cell (h j v hj).1
  have e := hg.block b hb (by intro e; injection e with e; exact hne e)
  exact ⟨(World.cell?_of_block (a := ⟨b, j, none⟩) e).trans (h j v hj).1, (World.frozen?_of_block (a := ⟨b, j, none⟩) e).trans (h j v hj).2⟩

set_option maxHeartbeats 2000000 in
theorem drop_at (base g m c k : Nat) (room fuse : Int) (off : Bool) (l : List Fil) (w : World) (h : Own w base (some ⟨g, 0, none⟩) (m + 1) c l) (hk : k < m + 1) (hkl : k < l.length) (hs : l[k].sf.size + l[k].wt.size ≤ maxLen) (hm : m + 1 ≤ maxLen) :
    Calls Try.prog 42 #[dkv (some ⟨g, 0, none⟩) (m + 1) c room fuse off, .int .i64 k] w fun e w' => e = .returned (dkv (some ⟨g, 0, none⟩) m c (wrap64 (room + ((l[k].sf.size + l[k].wt.size : Nat) : Int))) fuse off) ∧ Own w' base (some ⟨g, 0, none⟩) m c (l.eraseIdx k) ∧ w.grownBy w' (some g) := by
  have HO := Lib.hid h
  have HS := Lib.hid hs
  clear h
  unfold maxLen at hs hm
  have B0 := two_new w (.slice (some ⟨g, 0, none⟩) (m + 1) c) (.int .i64 room) (.int .i64 fuse) (.bool off) (.slice none 0 0) (.int .i64 0) (.int .i64 0) (.bool false) 24
  have O0 := HO.out.q (((Q.refl w).alloc (.cells #[.slice (some ⟨g, 0, none⟩) (m + 1) c, .int .i64 room, .int .i64 fuse, .bool off] 24)).alloc (.cells #[.slice none 0 0, .int .i64 0, .int .i64 0, .bool false] 24))
  have G0 := ((World.grownBy_alloc w (.cells #[.slice (some ⟨g, 0, none⟩) (m + 1) c, .int .i64 room, .int .i64 fuse, .bool off] 24) (some g)).trans (World.grownBy_alloc _ (.cells #[.slice none 0 0, .int .i64 0, .int .i64 0, .bool false] 24) (some g)))
  have q4 : (k : Int) < (m : Int) + 1 := by omega
  have q5 : 0 ≤ (k : Int) := by omega
  have gw : g < w.heap.size := (own_file HO.out hkl).2.2.2
  go_enter Try.func42, Try.ntmps42
  go_wp2
  generalize ((w.alloc (.cells #[.slice (some ⟨g, 0, none⟩) (m + 1) c, .int .i64 room, .int .i64 fuse, .bool off] 24)).alloc (.cells #[.slice none 0 0, .int .i64 0, .int .i64 0, .bool false] 24)) = W at B0 O0 G0 ⊢
  obtain ⟨⟨e0, e1, e2, e3⟩, f0, f1, f2, f3⟩ := B0.1.get4
  obtain ⟨c0, c1, c2, _⟩ := own_file O0 hkl
  have X := Lib.hid (And.intro B0 (And.intro O0 G0))
  clear B0 O0 G0
  go_region_with ((go_at_call 36
                   refine (size_any l[k] _ HS.out).mono ?_
                   rintro e w1 ⟨rfl, q1⟩
                   obtain ⟨⟨x0, x1, x2, x3⟩, y0, y1, y2, y3⟩ := (X.out.1.1.q ((Q.refl W).drew.trans q1)).get4))
  all_goals
    have hr : IntKind.i64.wrap (room + ((l[k].sf.size : Int) + (l[k].wt.size : Int))) = wrap64 (room + ((l[k].sf.size + l[k].wt.size : Nat) : Int)) := by
      rw [IntKind.wrap_i64]; unfold wrap64; omega
    rw [hr]
    clear hr
    generalize hR : wrap64 (room + ((l[k].sf.size + l[k].wt.size : Nat) : Int)) = room2
    have HR := Lib.hid hR
    clear hR
    obtain ⟨B0, O0, G0⟩ := X.out
    have q2 := (Q.refl W).drew.trans q1
    have D1 := (B0.1.q q2).set (k := 1) (by simp) (.int .i64 room2)
    have R1 := (B0.2.q q2).far (p := ⟨w.heap.size, 1, none⟩) (by simp) (.int .i64 room2)
    have O1 := own_far (O0.q q2) (p := ⟨w.heap.size, 1, none⟩) (by simp; omega) (.int .i64 room2)
    have G1 := only_new (G0.trans (only_q q2)) (p := ⟨w.heap.size, 1, none⟩) (Nat.le_refl _) (.int .i64 room2)
    clear B0 O0 G0 q1 q2 X e0 e1 e2 e3 f0 f1 f2 f3 x0 x1 x2 x3 y0 y1 y2 y3 c0 c1 c2
    generalize w1.setCell ⟨w.heap.size, 1, none⟩ (.int .i64 room2) = W2 at D1 R1 O1 G1 ⊢
    have Y := Lib.hid (And.intro D1 (And.intro R1 (And.intro O1 G1)))
    obtain ⟨⟨e0, e1, e2, e3⟩, f0, f1, f2, f3⟩ := D1.get4
    clear D1 R1 O1 G1
    go_wp2_with fail
    refine (delete_at base g m c k l W2 Y.out.2.2.1 hk).mono ?_
    rintro e w3 ⟨rfl, o3, g3⟩
    obtain ⟨D1, R1, O1, G1⟩ := Y.out
    have hne : w.heap.size ≠ g := by omega
    have hne1 : w.heap.size + 1 ≠ g := by omega
    have D3 := D1.only g3 hne
    have R3 := R1.only g3 hne1
    have F := Lib.hid (And.intro (own_far o3 (p := ⟨w.heap.size, 0, none⟩) hne (.slice (some ⟨g, 0, none⟩) m c)) (only_new (G1.trans g3) (p := ⟨w.heap.size, 0, none⟩) (Nat.le_refl _) (.slice (some ⟨g, 0, none⟩) m c)))
    clear e0 e1 e2 e3 f0 f1 f2 f3 D1 R1 O1 G1 o3 g3
    obtain ⟨⟨e0, e1, e2, e3⟩, f0, f1, f2, f3⟩ := D3.get4
    obtain ⟨⟨s0, s1, s2, s3⟩, h0, h1, h2, h3⟩ := R3.get4
    clear D3 R3
    go_wp2
    refine bodyPost_ret (v := dkv (some ⟨g, 0, none⟩) m c room2 fuse off) (by simp [results, Try.results42, go_sem, s0, s1, s2, s3]) rfl ⟨by rw [HR.out], ?_, ?_⟩
    · exact own_far (own_far (own_far (own_far F.out.1 (p := ⟨w.heap.size + 1, 0, none⟩) hne1 _) (p := ⟨w.heap.size + 1, 1, none⟩) hne1 _) (p := ⟨w.heap.size + 1, 2, none⟩) hne1 _) (p := ⟨w.heap.size + 1, 3, none⟩) hne1 _
    · exact only_new (only_new (only_new (only_new F.out.2 (p := ⟨w.heap.size + 1, 0, none⟩) (Nat.le_succ _) _) (p := ⟨w.heap.size + 1, 1, none⟩) (Nat.le_succ _) _) (p := ⟨w.heap.size + 1, 2, none⟩) (Nat.le_succ _) _) (p := ⟨w.heap.size + 1, 3, none⟩) (Nat.le_succ _) _
end Go.Proofs.Ytpjadjbniddmgaa
