/- Contracts: the document's swap. -/
import Derived.Test.YtbclamfpoigneaaAlRef
import Derived.Test.YtbclamfpoigneaaAppN
import Derived.Deep.DeepCutAuto
namespace Go.Proofs.Ytbclamfpoigneaa
set_option maxRecDepth 100000
open Go.RowKit
set_option linter.unusedVariables false
set_option linter.unusedSimpArgs false
namespace Am

theorem own_cells2 {w : World} {base g n c : Nat} {l : List Al} (h : OwnK alK w base (some ⟨g, 0, none⟩) n c l) {k : Nat} (hk : k < l.length) :
    w.cell? ⟨g, k * 2, none⟩ = some (.int .u64 ((l[k]).at_ : Int)) ∧ w.cell? ⟨g, k * 2 + 1, none⟩ = some (.int .i64 (l[k]).id) ∧ w.frozen? ⟨g, k * 2, none⟩ = false ∧ w.frozen? ⟨g, k * 2 + 1, none⟩ = false :=
  ⟨h.cells hk 0 _ rfl, h.cells hk 1 _ rfl, h.free _, h.free _⟩
theorem own_put2 {w : World} {base g n c : Nat} {l : List Al} (h : OwnK alK w base (some ⟨g, 0, none⟩) n c l) {k : Nat} (hk : k < l.length) (a : Al) :
    OwnK alK ((w.setCell ⟨g, k * 2, none⟩ (.int .u64 (a.at_ : Int))).setCell ⟨g, k * 2 + 1, none⟩ (.int .i64 a.id)) base (some ⟨g, 0, none⟩) n c (l.set k a) := h.put hk a
theorem own_some {w : World} {base n c : Nat} {A : Option Addr} {l : List Al} (h : OwnK alK w base A n c l) (hn : 0 < n) : ∃ g, A = some ⟨g, 0, none⟩ := by
  rcases h.parts with ⟨_, h0, _⟩ | ⟨g, cur, h0, _⟩
  · omega
  · exact ⟨g, h0⟩

set_option maxHeartbeats 4000000 in
theorem rswap_any (A : Option Addr) (n c : Nat) (h : List Al) (i k : Nat) (w : World) (hA : In_ alK w A n c h) (hi : i < n) (hk : k < n) (hn : n ≤ 1000000) :
    Calls Try.prog 24 #[.slice A n c, .int .i64 (i : Int), .int .i64 (k : Int)] w fun e w' => RetL alK w n (swp h i k) e w' := by
  have HA := Lib.hid hA
  have HL := Lib.hid hA.len
  have hil : i < h.length := by rw [HL.out]; exact hi
  have hkl : k < h.length := by rw [HL.out]; exact hk
  have hgi := g_lt hil
  have hgk := g_lt hkl
  have hsw : swp h i k = (h.set i h[k]).set k h[i] := by unfold swp; rw [hgi, hgk]
  have HS := Lib.hid hsw
  obtain ⟨ad, rfl, hab, y0, y1⟩ := load_al hA.lst hi hil
  obtain ⟨ad2, he2, hab2, z0, z1⟩ := load_al hA.lst hk hkl
  injection he2 with he2
  subst he2
  have hb : (0 + n) * alK.bs ≤ 140737488355328 := by show (0 + n) * 16 ≤ _; omega
  clear hA hgi hgk hsw
  unfold RetL
  go_enter Try.func24, Try.ntmps24
  go_upto_region 2 with (at_builtin
                         refine wpl_appK alK rfl (.tmp 8) (.tmp 9) 22 rfl rfl w.heap.size (some ⟨w.heap.size, 0, none⟩) 0 0 [] rfl (OwnK.lit0 alK w w.heap.size (Nat.le_refl _)) (some ad) n c h rfl (HA.out.lst.q ((Q.refl w).alloc _)) (fun e => by cases e) hb (by simp) ?_
                         intro A2 c2 w2 o2 b2
                         have q2 : Q w w2 := ((Q.refl w).alloc (.cells #[] 25)).below.trans b2
                         have O2 := Lib.hid (And.intro o2 q2)
                         clear o2 b2 q2)
  obtain ⟨g, rfl⟩ := own_some O2.out.1 (by omega)
  have hng : w.heap.size ≤ g := O2.out.1.block_lt.1
  obtain ⟨a0, a1, a2, a3⟩ := own_cells2 O2.out.1 (k := i) (by simpa using hil)
  have x0 := box_ O2.out.2 z0
  have x1 := box_ O2.out.2 z1
  have O3 := Lib.hid (And.intro (own_put2 O2.out.1 (k := i) (by simpa using hil) h[k]) ((O2.out.2.setCell (p := ⟨g, i * 2, none⟩) hng (.int .u64 ((h[k]).at_ : Int))).setCell (p := ⟨g, i * 2 + 1, none⟩) hng (.int .i64 (h[k]).id)))
  go_upto_region 3 with (fail)
  generalize ((w2.setCell ⟨g, i * 2, none⟩ (.int .u64 ((h[k]).at_ : Int))).setCell ⟨g, i * 2 + 1, none⟩ (.int .i64 (h[k]).id)) = w3 at O3 ⊢
  clear a0 a1 a2 a3 x0 x1
  obtain ⟨a0, a1, a2, a3⟩ := own_cells2 O3.out.1 (k := k) (by simpa using hkl)
  have x0 := box_ O3.out.2 y0
  have x1 := box_ O3.out.2 y1
  have O4 := Lib.hid (And.intro (own_put2 O3.out.1 (k := k) (by simpa using hkl) h[i]) ((O3.out.2.setCell (p := ⟨g, k * 2, none⟩) hng (.int .u64 ((h[i]).at_ : Int))).setCell (p := ⟨g, k * 2 + 1, none⟩) hng (.int .i64 (h[i]).id)))
  go_upto_region 4 with (fail)
  generalize ((w3.setCell ⟨g, k * 2, none⟩ (.int .u64 ((h[i]).at_ : Int))).setCell ⟨g, k * 2 + 1, none⟩ (.int .i64 (h[i]).id)) = w4 at O4 ⊢
  clear a0 a1 a2 a3 x0 x1
  go_wp2
  go_ret
  refine ⟨_, c2, rfl, ?_, O4.out.2⟩
  have := O4.out.1
  rw [HS.out]
  simpa using this
end Am
end Go.Proofs.Ytbclamfpoigneaa
