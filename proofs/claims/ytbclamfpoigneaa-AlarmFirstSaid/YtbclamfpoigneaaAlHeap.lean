/- Contracts: package alarm's own Heap. -/
import Derived.Test.YtbclamfpoigneaaAlBelow
namespace Go.Proofs.Ytbclamfpoigneaa
set_option maxRecDepth 100000
open Go.RowKit
set_option linter.unusedVariables false
set_option linter.unusedSimpArgs false
namespace Am

set_option maxHeartbeats 4000000 in
theorem aheap_any (A : Option Addr) (n c : Nat) (h : List Al) (w : World) (hA : Lst alK w A n h) (hn : n ≤ 17592186044416) :
    Calls Try.prog 19 #[.slice A n c] w fun e w' => e = .returned (.bool (heapB h)) ∧ Q w w' := by
  have HA := Lib.hid hA
  have HL := Lib.hid hA.len
  clear hA
  go_enter Try.func19, Try.ntmps19
  go_wp2
  go_loopw [11] (fun i wr => ∃ j : Nat, j ≤ n ∧ i = .int .i64 (j : Nat) ∧ (∀ k, 0 < k → k < n → par k < j → less (g h k) (g h (par k)) = false) ∧ Q w wr) (fun i _ => n - (intOf i).toNat)
  case atStart => exact ⟨0, Nat.zero_le _, rfl, fun k _ _ h => by omega, Q.refl _⟩
  case round =>
    obtain ⟨j, hj, rfl, hok, hq⟩ := hrel
    have HOK := Lib.hid hok
    have HQ := Lib.hid hq
    clear hok hq
    by_cases hlt : j < n
    case neg =>
      have hfin : heapB h = true := heapB_yes fun k h0 hk hp => HOK.out k h0 (by rw [← HL.out]; exact hk) (by rw [HL.out] at hp; omega)
      have hjn : ¬ (j : Int) < (n : Int) := by omega
      have HF := Lib.hid hfin
      clear hfin
      go_wp2
      go_ret
      exact ⟨by rw [HF.out]; rfl, HQ.out⟩
    have hjn : (j : Int) < (n : Int) := by omega
    have hjl : j < h.length := by rw [HL.out]; exact hlt
    obtain ⟨ad, rfl, hab, y0, y1⟩ := load_al (HA.out.q HQ.out) hlt hjl
    have hgj := g_lt hjl
    rw [← hgj] at y0 y1
    have K1 := Lib.hid (fun W (q : Q w W) => abelow_any (some ad) n c h j W (HA.out.q q) hj hn)
    have K2 := Lib.hid (fun a b W => aless_any a b W)
    clear hgj
    have q1 := (Q.refl wr).alloc (.cells #[.int .u64 ((g h j).at_ : Int), .int .i64 (g h j).id] 25)
    have X := Lib.hid (And.intro (HQ.out.trans q1) (Bx.new wr [.int .u64 ((g h j).at_ : Int), .int .i64 (g h j).id] 25))
    clear q1
    go_upto_region 4 with (fail)
    change Hid (_ ∧ Bx (wr.alloc (.cells #[.int .u64 ((g h j).at_ : Int), .int .i64 (g h j).id] 25)) _ _) at X
    generalize (wr.alloc (.cells #[.int .u64 ((g h j).at_ : Int), .int .i64 (g h j).id] 25)) = w1 at X ⊢
    generalize wr.heap.size = b4 at X ⊢
    clear y0 y1 HQ
    go_wp2_with fail
    refine (K1.out _ X.out.1).mono ?_
    rintro e w2 ⟨rfl, q2⟩
    have q3 := (Q.refl w2).alloc (.cells #[.int .u64 ((g h (2 * j + 1)).at_ : Int), .int .i64 (g h (2 * j + 1)).id, .int .u64 ((g h (2 * j + 2)).at_ : Int), .int .i64 (g h (2 * j + 2)).id] 46)
    have Y := Lib.hid (And.intro ((X.out.1.trans q2).trans q3) (And.intro ((X.out.2.q q2).q q3) (Bx.new w2 [.int .u64 ((g h (2 * j + 1)).at_ : Int), .int .i64 (g h (2 * j + 1)).id, .int .u64 ((g h (2 * j + 2)).at_ : Int), .int .i64 (g h (2 * j + 2)).id] 46)))
    clear q2 q3
    have hcn : cnt n j ≤ 2 := by unfold cnt; omega
    generalize hm : cnt n j = m at hcn ⊢
    have HM := Lib.hid hm
    clear hm
    go_upto_region 5 with (fail)
    change Hid (_ ∧ _ ∧ Bx (w2.alloc (.cells #[.int .u64 ((g h (2 * j + 1)).at_ : Int), .int .i64 (g h (2 * j + 1)).id, .int .u64 ((g h (2 * j + 2)).at_ : Int), .int .i64 (g h (2 * j + 2)).id] 46)) _ _) at Y
    generalize (w2.alloc (.cells #[.int .u64 ((g h (2 * j + 1)).at_ : Int), .int .i64 (g h (2 * j + 1)).id, .int .u64 ((g h (2 * j + 2)).at_ : Int), .int .i64 (g h (2 * j + 2)).id] 46)) = w3 at Y ⊢
    generalize w2.heap.size = b5 at Y ⊢
    have hm0 : (0 : Int) ≤ (m : Int) := by omega
    have hm2 : (m : Int) ≤ 2 := by omega
    go_upto_region 6 with (fail)
    go_loopw [25] (fun kv wr => ∃ k : Nat, k ≤ m ∧ kv = .int .i64 (k : Nat) ∧ (∀ k', k' < k → less (g h (2 * j + 1 + k')) (g h j) = false) ∧ Bx wr b4 [.int .u64 ((g h j).at_ : Int), .int .i64 (g h j).id] ∧
      Bx wr b5 [.int .u64 ((g h (2 * j + 1)).at_ : Int), .int .i64 (g h (2 * j + 1)).id, .int .u64 ((g h (2 * j + 2)).at_ : Int), .int .i64 (g h (2 * j + 2)).id] ∧ Q w wr) (fun i _ => m - (intOf i).toNat)
    case atStart => exact ⟨0, Nat.zero_le _, rfl, fun k h => by omega, Y.out.2.1, Y.out.2.2, Y.out.1⟩
    case round =>
      obtain ⟨k, hk, rfl, hok, hb4, hb5, hq⟩ := hrel
      have HOK2 := Lib.hid hok
      have P := Lib.hid (And.intro hb4 (And.intro hb5 hq))
      clear hok hb4 hb5 hq Y X
      by_cases hkm : k < m
      case neg =>
        have hst : ∀ k, 0 < k → k < n → par k < j + 1 → less (g h k) (g h (par k)) = false := by
          intro k' h0 h1 h2
          by_cases hp : par k' < j
          · exact HOK.out k' h0 h1 hp
          · have hp2 : par k' = j := by omega
            rw [hp2]
            unfold par at hp2
            have hc := HM.out
            unfold cnt at hc
            have := HOK2.out (k' - (2 * j + 1)) (by omega)
            rw [show 2 * j + 1 + (k' - (2 * j + 1)) = k' by omega] at this
            exact this
        have HST := Lib.hid hst
        have hkm2 : ¬ (k : Int) < (m : Int) := by omega
        clear hst
        go_wp2
        go_roundw
        case rel => exact ⟨j + 1, by omega, by go_num, HST.out, P.out.2.2⟩
        case measure => simp [intOf]; omega
      have hkm2 : (k : Int) < (m : Int) := by omega
      have hkn : 2 * j + 1 + k < n := by have hc := HM.out; unfold cnt at hc; omega
      have HKN := Lib.hid hkn
      obtain ⟨⟨c0, c1⟩, _⟩ := P.out.1.get2
      obtain ⟨⟨d0, d1, d2, d3⟩, _⟩ := P.out.2.1.get4
      have hd : wr.cell? ⟨b5, k * 2, none⟩ = some (.int .u64 ((g h (2 * j + 1 + k)).at_ : Int)) ∧ wr.cell? ⟨b5, k * 2 + 1, none⟩ = some (.int .i64 (g h (2 * j + 1 + k)).id) := by
        have hk2 : k = 0 ∨ k = 1 := by omega
        rcases hk2 with rfl | rfl
        · exact ⟨d0, d1⟩
        · exact ⟨d2, d3⟩
      obtain ⟨e0, e1⟩ := hd
      clear d0 d1 d2 d3 hkn
      have hcs : ∀ b, less (g h (2 * j + 1 + k)) (g h j) = b → (b = true → heapB h = false) ∧ (b = false → ∀ k', k' < k + 1 → less (g h (2 * j + 1 + k')) (g h j) = false) := by
        intro b hb
        refine ⟨fun hb2 => ?_, fun hb2 k' hk' => ?_⟩
        · exact heapB_no (i := j) (by rw [HL.out]; exact HKN.out) (by omega) (by unfold par; omega) (by rw [hb, hb2])
        · by_cases he : k' = k
          · subst he; rw [hb, hb2]
          · exact HOK2.out k' (by omega)
      generalize hgk : g h (2 * j + 1 + k) = x at e0 e1 hcs
      have HCS := Lib.hid hcs
      clear hcs hgk
      have x0 := c0
      have x1 := c1
      generalize g h j = y at *
      have q4 := (Q.refl wr).alloc (.cells #[.int .u64 (x.at_ : Int), .int .i64 x.id] 25)
      have Z := Lib.hid (And.intro (P.out.2.2.trans q4) (And.intro (P.out.1.q q4) (And.intro (P.out.2.1.q q4) (Bx.new wr [.int .u64 (x.at_ : Int), .int .i64 x.id] 25))))
      clear q4 P
      go_upto_region 8 with (fail)
      change Hid (_ ∧ _ ∧ _ ∧ Bx (wr.alloc (.cells #[.int .u64 (x.at_ : Int), .int .i64 x.id] 25)) _ _) at Z
      generalize (wr.alloc (.cells #[.int .u64 (x.at_ : Int), .int .i64 x.id] 25)) = w5 at Z ⊢
      generalize wr.heap.size = b8 at Z ⊢
      clear e0 e1 c0 c1 x0 x1
      obtain ⟨⟨c0, c1⟩, _⟩ := Z.out.2.1.get2
      obtain ⟨⟨e0, e1⟩, _⟩ := Z.out.2.2.2.get2
      go_wp2_with fail
      refine (K2.out x y _).mono ?_
      rintro e w6 ⟨rfl, q6⟩
      cases hb : less x y with
      | true =>
        have HF := Lib.hid ((HCS.out _ hb).1 rfl)
        clear hb
        go_wp2
        go_ret
        exact ⟨by rw [HF.out]; rfl, Z.out.1.trans q6⟩
      | false =>
        have HF := Lib.hid ((HCS.out _ hb).2 rfl)
        clear hb HCS
        have R := Lib.hid (And.intro (Z.out.1.trans q6) (And.intro (Z.out.2.1.q q6) (Z.out.2.2.1.q q6)))
        clear q6
        go_wp2
        go_roundw
        case rel => exact ⟨k + 1, by omega, by go_num, HF.out, R.out.2.1, R.out.2.2, R.out.1⟩
        case measure => simp [intOf]; omega
end Am
end Go.Proofs.Ytbclamfpoigneaa
