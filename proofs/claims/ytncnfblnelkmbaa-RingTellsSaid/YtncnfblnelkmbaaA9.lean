/- RingShown: merged. -/
import Derived.Test.YtncnfblnelkmbaaA6
import Derived.Test.YtncnfblnelkmbaaA8
/- The example of chapter 11, at the head of each law; and whether locks are few. -/
namespace Go.Proofs.Ytncnfblnelkmbaa
set_option maxRecDepth 100000
open Go.RowKit Lm Sm
set_option linter.unusedVariables false
set_option linter.unusedSimpArgs false

theorem rgs_1 : Lm.ask ⟨[], []⟩ 1 (key 2 ⟨#[97]⟩) 9 = (⟨[⟨1, (key 2 ⟨#[97]⟩)⟩], []⟩, 0) := by decide
theorem rgs_2 : Lm.ask ⟨[⟨1, (key 2 ⟨#[97]⟩)⟩], []⟩ 2 (key 2 ⟨#[98]⟩) 9 = (⟨[⟨1, (key 2 ⟨#[97]⟩)⟩, ⟨2, (key 2 ⟨#[98]⟩)⟩], []⟩, 0) := by decide
theorem rgs_3 : Lm.ask ⟨[⟨1, (key 2 ⟨#[97]⟩)⟩, ⟨2, (key 2 ⟨#[98]⟩)⟩], []⟩ 1 (key 2 ⟨#[98]⟩) 9 = (⟨[⟨1, (key 2 ⟨#[97]⟩)⟩, ⟨2, (key 2 ⟨#[98]⟩)⟩], [⟨1, (key 2 ⟨#[98]⟩), 9⟩]⟩, 12) := by decide
theorem rgs_4 : Lm.ask ⟨[⟨1, (key 2 ⟨#[97]⟩)⟩, ⟨2, (key 2 ⟨#[98]⟩)⟩], [⟨1, (key 2 ⟨#[98]⟩), 9⟩]⟩ 2 (key 2 ⟨#[97]⟩) 9 = (⟨[⟨1, (key 2 ⟨#[97]⟩)⟩, ⟨2, (key 2 ⟨#[98]⟩)⟩], [⟨1, (key 2 ⟨#[98]⟩), 9⟩, ⟨2, (key 2 ⟨#[97]⟩), 9⟩]⟩, 12) := by decide
theorem rgs_a1 : aft ⟨[⟨1, (key 2 ⟨#[97]⟩)⟩, ⟨2, (key 2 ⟨#[98]⟩)⟩], [⟨1, (key 2 ⟨#[98]⟩), 9⟩, ⟨2, (key 2 ⟨#[97]⟩), 9⟩]⟩ 1 = [2] := by decide
theorem rgs_a2 : aft ⟨[⟨1, (key 2 ⟨#[97]⟩)⟩, ⟨2, (key 2 ⟨#[98]⟩)⟩], [⟨1, (key 2 ⟨#[98]⟩), 9⟩, ⟨2, (key 2 ⟨#[97]⟩), 9⟩]⟩ 2 = [1] := by decide
theorem ring_two {l : Lo} (h1 : aft l 1 = [2]) (h2 : aft l 2 = [1]) : ring l 1 = [1, 2] := by
  have w1 : ∀ x, Wf l 1 x ↔ x = 2 := fun x => by rw [← mem_aft, h1]; simp
  have w2 : ∀ x, Wf l 2 x ↔ x = 1 := fun x => by rw [← mem_aft, h2]; simp
  have r12 : Rch l 1 2 := .one ((w1 2).2 rfl)
  have r21 : Rch l 2 1 := .one ((w2 1).2 rfl)
  have hr : ∀ x, x ∈ ([1, 2] : List Int) ↔ Rch l 1 x := reach_closed (fun x hx => by rw [(w1 x).1 hx]; simp)
    (fun x hx => by
      rcases List.mem_cons.1 hx with e | hx
      · subst e; exact r12.trans r21
      · rw [List.mem_singleton] at hx; subst hx; exact r12)
    (fun x hx y hy => by
      rcases List.mem_cons.1 hx with e | hx
      · subst e; rw [(w1 y).1 hy]; simp
      · rw [List.mem_singleton] at hx; subst hx; rw [(w2 y).1 hy]; simp)
  refine (ring_is (by simp) fun x => ?_).symm
  rw [hr x]
  refine ⟨fun h => ⟨h, ?_⟩, fun h => h.1⟩
  have hx := (hr x).2 h
  rcases List.mem_cons.1 hx with e | hx
  · subst e; exact r12.trans r21
  · rw [List.mem_singleton] at hx; subst hx; exact r21
theorem wnsK {m : Int} {k : ByteArray} (h : k.size ≤ 1000) : WnS (key m k) := wns (by show k.size ≤ _; omega) (by show (k ++ ⟨#[0]⟩).size ≤ _; rw [ByteArray.size_append]; show k.size + 1 ≤ _; omega)

set_option maxHeartbeats 16000000 in
set_option maxRecDepth 100000 in
theorem rgshown_any (w : World) : Calls Try.prog 8 #[] w fun e w' => e = .returned (.bool true) ∧ Q w w' := by
  have hS1 : WnS (key 2 ⟨#[97]⟩) := wnsK (by simp [ByteArray.size])
  have hS2 : WnS (key 2 ⟨#[98]⟩) := wnsK (by simp [ByteArray.size])
  have K1 := Lib.hid (fun W => rkey_any 2 ⟨#[97]⟩ W (by simp [ByteArray.size]))
  have K2 := Lib.hid (fun W => rkey_any 2 ⟨#[98]⟩ W (by simp [ByteArray.size]))
  have A1 := Lib.hid (fun W => rgs_1 ▸ rask_in none none 0 0 0 0 ⟨[], []⟩ 1 (key 2 ⟨#[97]⟩) 9 W (In_.none_ _ _) (In_.none_ _ _) hS1 (fun h hh => (by cases hh)) (fun h hh => (by cases hh)) (by omega) (by omega))
  have A2 := Lib.hid (fun A n c B m d W (h1 : In_ holdK W A n c [⟨1, (key 2 ⟨#[97]⟩)⟩]) (h2 : In_ claimK W B m d []) => rgs_2 ▸ rask_in A B n c m d ⟨[⟨1, (key 2 ⟨#[97]⟩)⟩], []⟩ 2 (key 2 ⟨#[98]⟩) 9 W h1 h2 hS2 (fun h hh => by simp at hh; (try rcases hh with rfl | rfl); (try subst hh); all_goals first | exact hS1 | exact hS2) (fun h hh => by cases hh) (by have := h1.len; simp at this; omega) (by have := h2.len; simp at this; omega))
  have A3 := Lib.hid (fun A n c B m d W (h1 : In_ holdK W A n c [⟨1, (key 2 ⟨#[97]⟩)⟩, ⟨2, (key 2 ⟨#[98]⟩)⟩]) (h2 : In_ claimK W B m d []) => rgs_3 ▸ rask_in A B n c m d ⟨[⟨1, (key 2 ⟨#[97]⟩)⟩, ⟨2, (key 2 ⟨#[98]⟩)⟩], []⟩ 1 (key 2 ⟨#[98]⟩) 9 W h1 h2 hS2 (fun h hh => by simp at hh; (try rcases hh with rfl | rfl); (try subst hh); all_goals first | exact hS1 | exact hS2) (fun h hh => by cases hh) (by have := h1.len; simp at this; omega) (by have := h2.len; simp at this; omega))
  have A4 := Lib.hid (fun A n c B m d W (h1 : In_ holdK W A n c [⟨1, (key 2 ⟨#[97]⟩)⟩, ⟨2, (key 2 ⟨#[98]⟩)⟩]) (h2 : In_ claimK W B m d [⟨1, (key 2 ⟨#[98]⟩), 9⟩]) => rgs_4 ▸ rask_in A B n c m d ⟨[⟨1, (key 2 ⟨#[97]⟩)⟩, ⟨2, (key 2 ⟨#[98]⟩)⟩], [⟨1, (key 2 ⟨#[98]⟩), 9⟩]⟩ 2 (key 2 ⟨#[97]⟩) 9 W h1 h2 hS1 (fun h hh => by simp at hh; (try rcases hh with rfl | rfl); (try subst hh); all_goals first | exact hS1 | exact hS2) (fun h hh => by simp at hh; (try rcases hh with rfl | rfl); (try subst hh); all_goals first | exact hS1 | exact hS2) (by have := h1.len; simp at this; omega) (by have := h2.len; simp at this; omega))
  have KR := Lib.hid (fun A n c B m d W (h1 : In_ holdK W A n c [⟨1, (key 2 ⟨#[97]⟩)⟩, ⟨2, (key 2 ⟨#[98]⟩)⟩]) (h2 : In_ claimK W B m d [⟨1, (key 2 ⟨#[98]⟩), 9⟩, ⟨2, (key 2 ⟨#[97]⟩), 9⟩]) => ring_two rgs_a1 rgs_a2 ▸ lring_any A B n c m d ⟨[⟨1, (key 2 ⟨#[97]⟩)⟩, ⟨2, (key 2 ⟨#[98]⟩)⟩], [⟨1, (key 2 ⟨#[98]⟩), 9⟩, ⟨2, (key 2 ⟨#[97]⟩), 9⟩]⟩ 1 W h1.lst h2 (fun h hh => by simp at hh; rcases hh with rfl | rfl <;> decide) (fun h hh => by simp at hh; rcases hh with rfl | rfl <;> decide) (by have := h1.len; have := h2.len; simp at *; omega))
  have KV := Lib.hid (fun A n c B m d W (h1 : In_ holdK W A n c [⟨1, (key 2 ⟨#[97]⟩)⟩, ⟨2, (key 2 ⟨#[98]⟩)⟩]) (h2 : In_ claimK W B m d [⟨1, (key 2 ⟨#[98]⟩), 9⟩, ⟨2, (key 2 ⟨#[97]⟩), 9⟩]) => ring_two rgs_a1 rgs_a2 ▸ lvictim_any A B n c m d ⟨[⟨1, (key 2 ⟨#[97]⟩)⟩, ⟨2, (key 2 ⟨#[98]⟩)⟩], [⟨1, (key 2 ⟨#[98]⟩), 9⟩, ⟨2, (key 2 ⟨#[97]⟩), 9⟩]⟩ 1 W h1.lst h2 (fun h hh => by simp at hh; rcases hh with rfl | rfl <;> decide) (fun h hh => by simp at hh; rcases hh with rfl | rfl <;> decide) (by have := h1.len; have := h2.len; simp at *; omega))
  simp only [List.getLast?_cons_cons, List.getLast?_singleton, Option.getD_some] at KV
  generalize hk1 : (key 2 ⟨#[97]⟩) = k1 at *
  generalize hk2 : (key 2 ⟨#[98]⟩) = k2 at *
  clear hk1 hk2 hS1 hS2
  unfold wnV at *
  go_enter Try.func8, Try.ntmps8
  go_wp2_with fail
  refine (K1.out _).mono ?_
  rintro e w1 ⟨rfl, q1⟩
  have Q1 := Lib.hid q1
  clear q1
  go_wp2_with fail
  refine (A1.out _).mono ?_
  rintro e w2 ⟨A, n, c, B, m, d, rfl, o1, o2, q2⟩
  go_upto_region 2 with (fail)
  have qa := (Q.refl w2).alloc (.cells #[.slice A n c, .slice B m d] 25)
  have BX : Hid (Bx (w2.alloc (.cells #[.slice A n c, .slice B m d] 25)) w2.heap.size [.slice A n c, .slice B m d]) := Lib.hid (Bx.new w2 [.slice A n c, .slice B m d] 25)
  have I1 := Lib.hid (And.intro (o1.q qa) (o2.q qa))
  have Q3 := Lib.hid ((Q1.out.trans q2).trans qa)
  have HG := Lib.hid (Q1.out.trans q2).size
  clear qa o1 o2 q2 Q1
  generalize w2.alloc (.cells #[.slice A n c, .slice B m d] 25) = W at BX I1 Q3 ⊢
  generalize w2.heap.size = g at BX HG ⊢
  obtain ⟨⟨b0, b1⟩, f0, f1⟩ := BX.out.get2
  go_wp2
  refine wp_region_heldL 6 (Q W) (by kernel_rfl) ?szz0 (fun hHeld => ?rzz0)
  case szz0 =>
    exact (Q.refl W).drew
  case' rzz0 => skip
  generalize hgen : W.drew = D0 at hHeld ⊢
  clear hgen
  refine wpAnyL_take (i := 0) (oi := ?ozz1) (v := ?vzz1) ?hzz1 ?azz1 ?bzz1 ?czz1 ?kzz1 ?qzz1 ?yzz1 ?szz1 ?rzz1
  case hzz1 => simp only [List.getElem?_toArray, List.getElem?_cons_zero]; rfl
  case azz1 => kernel_rfl
  case bzz1 => kernel_rfl
  case czz1 => kernel_rfl
  case kzz1 => kernel_rfl
  case yzz1 =>
    refine Or.inl ⟨by rfl, ?_⟩
    intro w hSw
    have z0 := box_ hSw b0; have z1 := box_ hSw b1; clear hSw
    go_simp
    try with_reducible rfl
  case qzz1 => exact fun _ _ _ h => h
  case szz1 => first | assumption | trivial
  case' rzz1 => simp only [Act.put, List.setIfInBounds_toArray, List.set_cons_zero, List.set_cons_succ]
  refine wpAnyL_ready (rs := [1]) (by kernel_rfl) (by simp) ?_
  refine AllReadyL.cons (o := ?ozz9) ?hzz9 (fun K hK => ?kzz9) ?mzz9
  case hzz9 => simp only [List.getElem?_toArray, List.getElem?_cons_zero, List.getElem?_cons_succ]; rfl
  case kzz9 =>
    go_simp
    refine (K2.out _).mono ?_
    rintro e v1 ⟨rfl, q4⟩
    go_wp2_with fail
    refine hK.out _ _ ?Szz9 (fun hHeld => ?Rzz9)
    case Szz9 =>
      exact hHeld.trans q4
    case Rzz9 =>
      clear hK K
      try simp only [Act.put, List.setIfInBounds_toArray, List.set_cons_zero, List.set_cons_succ]
      refine wpAnyL_ready (rs := [2]) (by kernel_rfl) (by simp) ?_
      refine AllReadyL.cons (o := ?ozz8) ?hzz8 (fun K hK => ?kzz8) ?mzz8
      case hzz8 => simp only [List.getElem?_toArray, List.getElem?_cons_zero, List.getElem?_cons_succ]; rfl
      case kzz8 =>
        go_simp
        refine (A2.out A n c B m d _ (I1.out.1.q (hHeld.trans (Q.refl _))) (I1.out.2.q hHeld)).mono ?_
        rintro e v2 ⟨A1, n1, c1, B1, m1, d1, rfl, o3, o4, q5⟩
        have X4 := Lib.hid (And.intro o3 o4)
        go_wp2_with fail
        refine hK.out _ _ ?Szz8 (fun hHeld => ?Rzz8)
        case Szz8 =>
          exact hHeld.trans q5
        case Rzz8 =>
          clear hK K
          try simp only [Act.put, List.setIfInBounds_toArray, List.set_cons_zero, List.set_cons_succ]
          refine wpAnyL_take (i := 3) (oi := ?ozz2) (v := ?vzz2) ?hzz2 ?azz2 ?bzz2 ?czz2 ?kzz2 ?qzz2 ?yzz2 ?szz2 ?rzz2
          case hzz2 => simp only [List.getElem?_toArray, List.getElem?_cons_zero, List.getElem?_cons_succ]; rfl
          case azz2 => kernel_rfl
          case bzz2 => kernel_rfl
          case czz2 => kernel_rfl
          case kzz2 => kernel_rfl
          case yzz2 =>
            refine Or.inl ⟨by rfl, ?_⟩
            intro w hSw
            have z0 := box_ hSw b0; have z1 := box_ hSw b1; clear hSw
            go_simp
            try with_reducible rfl
          case qzz2 => exact fun _ _ _ h => h
          case szz2 => first | assumption | trivial
          case' rzz2 => simp only [Act.put, List.setIfInBounds_toArray, List.set_cons_zero, List.set_cons_succ]
          refine wpAnyL_take (i := 4) (oi := ?ozz3) (v := ?vzz3) ?hzz3 ?azz3 ?bzz3 ?czz3 ?kzz3 ?qzz3 ?yzz3 ?szz3 ?rzz3
          case hzz3 => simp only [List.getElem?_toArray, List.getElem?_cons_zero, List.getElem?_cons_succ]; rfl
          case azz3 => kernel_rfl
          case bzz3 => kernel_rfl
          case czz3 => kernel_rfl
          case kzz3 => kernel_rfl
          case yzz3 =>
            refine Or.inl ⟨by rfl, ?_⟩
            intro w hSw
            have z0 := box_ hSw b0; have z1 := box_ hSw b1; clear hSw
            go_simp
            try with_reducible rfl
          case qzz3 => exact fun _ _ _ h => h
          case szz3 => first | assumption | trivial
          case' rzz3 => simp only [Act.put, List.setIfInBounds_toArray, List.set_cons_zero, List.set_cons_succ]
          refine wpAnyL_ready (rs := [5, 6]) (by kernel_rfl) (by simp) ?_
          refine AllReadyL.cons (o := ?ozz6) ?hzz6 (fun K hK => ?kzz6) ?mzz6
          case hzz6 => simp only [List.getElem?_toArray, List.getElem?_cons_zero, List.getElem?_cons_succ]; rfl
          case kzz6 =>
            go_simp
            refine hK.out _ _ ?Szz6 (fun hHeld => ?Rzz6)
            case Szz6 =>
              exact hHeld
            case Rzz6 =>
              clear hK K
              try simp only [Act.put, List.setIfInBounds_toArray, List.set_cons_zero, List.set_cons_succ]
              refine wpAnyL_ready (rs := [6]) (by kernel_rfl) (by simp) ?_
              refine AllReadyL.consK (o := ?ozz4) ?hzz4 ?lzz4 (fun K hK => ?kzz4) ?mzz4
              case hzz4 => simp only [List.getElem?_toArray, List.getElem?_cons_zero, List.getElem?_cons_succ]; rfl
              case lzz4 => kernel_rfl
              case kzz4 =>
                have HZ := Lib.hid hHeld
                obtain ⟨⟨p0, p1⟩, p2, p3⟩ := (BX.out.q hHeld).get2
                have hgv := BX.out.lt
                go_simp
                refine hK.out _ _ ?Rzz4
                case Rzz4 =>
                  clear hK K
                  try simp only [Act.put, List.setIfInBounds_toArray, List.set_cons_zero, List.set_cons_succ]
                  refine wpAnyH_done (by kernel_rfl) ?_ _
                  have Y0 := Lib.hid (((BX.out.q HZ.out).get2).1)
                  have BX1 := Lib.hid ((BX.out.q HZ.out).set2 (.slice A1 n1 c1) (.slice B1 m1 d1))
                  have Q31 := Lib.hid ((Q3.out.trans HZ.out).set2 (b := g) HG.out (.slice A1 n1 c1) (.slice B1 m1 d1))
                  have Y1 : Hid ((v2.setCell ⟨g, 0, none⟩ (.slice A1 n1 c1)).cell? ⟨g, 1, none⟩ = some (.slice B m d)) := Lib.hid (((BX.out.q HZ.out).set (k := 0) (by simp) (.slice A1 n1 c1)) 1 _ rfl).1
                  have I11 := Lib.hid (And.intro ((X4.out.1.odd oddH Y0.out.1 (.slice A1 n1 c1)).odd oddH Y1.out (.slice B1 m1 d1)) ((X4.out.2.odd oddC Y0.out.1 (.slice A1 n1 c1)).odd oddC Y1.out (.slice B1 m1 d1)))
                  clear X4 HZ b0 b1 f0 f1 p0 p1 p2 p3 hgv o3 o4 Y0 Y1 BX I1 Q3
                  go_upto_region 3 with (fail)
                  generalize (v2.setCell ⟨g, 0, none⟩ (.slice A1 n1 c1)).setCell ⟨g, 1, none⟩ (.slice B1 m1 d1) = W1 at I11 BX1 Q31 ⊢
                  obtain ⟨⟨b0, b1⟩, f0, f1⟩ := BX1.out.get2
                  go_wp2
                  refine wp_region_heldL 6 (Q W1) (by kernel_rfl) ?szz10a (fun hHeld => ?rzz10a)
                  case szz10a =>
                    exact (Q.refl W1).drew
                  case' rzz10a => skip
                  generalize hgen : W1.drew = D0 at hHeld ⊢
                  clear hgen
                  refine wpAnyL_take (i := 0) (oi := ?ozz11a) (v := ?vzz11a) ?hzz11a ?azz11a ?bzz11a ?czz11a ?kzz11a ?qzz11a ?yzz11a ?szz11a ?rzz11a
                  case hzz11a => simp only [List.getElem?_toArray, List.getElem?_cons_zero]; rfl
                  case azz11a => kernel_rfl
                  case bzz11a => kernel_rfl
                  case czz11a => kernel_rfl
                  case kzz11a => kernel_rfl
                  case yzz11a =>
                    refine Or.inl ⟨by rfl, ?_⟩
                    intro w hSw
                    have z0 := box_ hSw b0; have z1 := box_ hSw b1; clear hSw
                    go_simp
                    try with_reducible rfl
                  case qzz11a => exact fun _ _ _ h => h
                  case szz11a => first | assumption | trivial
                  case' rzz11a => simp only [Act.put, List.setIfInBounds_toArray, List.set_cons_zero, List.set_cons_succ]
                  refine wpAnyL_ready (rs := [1]) (by kernel_rfl) (by simp) ?_
                  refine AllReadyL.cons (o := ?ozz19a) ?hzz19a (fun K hK => ?kzz19a) ?mzz19a
                  case hzz19a => simp only [List.getElem?_toArray, List.getElem?_cons_zero, List.getElem?_cons_succ]; rfl
                  case kzz19a =>
                    go_simp
                    refine (K2.out _).mono ?_
                    rintro e v1 ⟨rfl, q4⟩
                    go_wp2_with fail
                    refine hK.out _ _ ?Szz19a (fun hHeld => ?Rzz19a)
                    case Szz19a =>
                      exact hHeld.trans q4
                    case Rzz19a =>
                      clear hK K
                      try simp only [Act.put, List.setIfInBounds_toArray, List.set_cons_zero, List.set_cons_succ]
                      refine wpAnyL_ready (rs := [2]) (by kernel_rfl) (by simp) ?_
                      refine AllReadyL.cons (o := ?ozz18a) ?hzz18a (fun K hK => ?kzz18a) ?mzz18a
                      case hzz18a => simp only [List.getElem?_toArray, List.getElem?_cons_zero, List.getElem?_cons_succ]; rfl
                      case kzz18a =>
                        go_simp
                        refine (A3.out A1 n1 c1 B1 m1 d1 _ (I11.out.1.q (hHeld.trans (Q.refl _))) (I11.out.2.q hHeld)).mono ?_
                        rintro e v2 ⟨A2, n2, c2, B2, m2, d2, rfl, o3, o4, q5⟩
                        have X4 := Lib.hid (And.intro o3 o4)
                        go_wp2_with fail
                        refine hK.out _ _ ?Szz18a (fun hHeld => ?Rzz18a)
                        case Szz18a =>
                          exact hHeld.trans q5
                        case Rzz18a =>
                          clear hK K
                          try simp only [Act.put, List.setIfInBounds_toArray, List.set_cons_zero, List.set_cons_succ]
                          refine wpAnyL_take (i := 3) (oi := ?ozz12a) (v := ?vzz12a) ?hzz12a ?azz12a ?bzz12a ?czz12a ?kzz12a ?qzz12a ?yzz12a ?szz12a ?rzz12a
                          case hzz12a => simp only [List.getElem?_toArray, List.getElem?_cons_zero, List.getElem?_cons_succ]; rfl
                          case azz12a => kernel_rfl
                          case bzz12a => kernel_rfl
                          case czz12a => kernel_rfl
                          case kzz12a => kernel_rfl
                          case yzz12a =>
                            refine Or.inl ⟨by rfl, ?_⟩
                            intro w hSw
                            have z0 := box_ hSw b0; have z1 := box_ hSw b1; clear hSw
                            go_simp
                            try with_reducible rfl
                          case qzz12a => exact fun _ _ _ h => h
                          case szz12a => first | assumption | trivial
                          case' rzz12a => simp only [Act.put, List.setIfInBounds_toArray, List.set_cons_zero, List.set_cons_succ]
                          refine wpAnyL_take (i := 4) (oi := ?ozz13a) (v := ?vzz13a) ?hzz13a ?azz13a ?bzz13a ?czz13a ?kzz13a ?qzz13a ?yzz13a ?szz13a ?rzz13a
                          case hzz13a => simp only [List.getElem?_toArray, List.getElem?_cons_zero, List.getElem?_cons_succ]; rfl
                          case azz13a => kernel_rfl
                          case bzz13a => kernel_rfl
                          case czz13a => kernel_rfl
                          case kzz13a => kernel_rfl
                          case yzz13a =>
                            refine Or.inl ⟨by rfl, ?_⟩
                            intro w hSw
                            have z0 := box_ hSw b0; have z1 := box_ hSw b1; clear hSw
                            go_simp
                            try with_reducible rfl
                          case qzz13a => exact fun _ _ _ h => h
                          case szz13a => first | assumption | trivial
                          case' rzz13a => simp only [Act.put, List.setIfInBounds_toArray, List.set_cons_zero, List.set_cons_succ]
                          refine wpAnyL_ready (rs := [5, 6]) (by kernel_rfl) (by simp) ?_
                          refine AllReadyL.cons (o := ?ozz16a) ?hzz16a (fun K hK => ?kzz16a) ?mzz16a
                          case hzz16a => simp only [List.getElem?_toArray, List.getElem?_cons_zero, List.getElem?_cons_succ]; rfl
                          case kzz16a =>
                            go_simp
                            refine hK.out _ _ ?Szz16a (fun hHeld => ?Rzz16a)
                            case Szz16a =>
                              exact hHeld
                            case Rzz16a =>
                              clear hK K
                              try simp only [Act.put, List.setIfInBounds_toArray, List.set_cons_zero, List.set_cons_succ]
                              refine wpAnyL_ready (rs := [6]) (by kernel_rfl) (by simp) ?_
                              refine AllReadyL.consK (o := ?ozz14a) ?hzz14a ?lzz14a (fun K hK => ?kzz14a) ?mzz14a
                              case hzz14a => simp only [List.getElem?_toArray, List.getElem?_cons_zero, List.getElem?_cons_succ]; rfl
                              case lzz14a => kernel_rfl
                              case kzz14a =>
                                have HZ := Lib.hid hHeld
                                obtain ⟨⟨p0, p1⟩, p2, p3⟩ := (BX1.out.q hHeld).get2
                                have hgv := BX1.out.lt
                                go_simp
                                refine hK.out _ _ ?Rzz14a
                                case Rzz14a =>
                                  clear hK K
                                  try simp only [Act.put, List.setIfInBounds_toArray, List.set_cons_zero, List.set_cons_succ]
                                  refine wpAnyH_done (by kernel_rfl) ?_ _
                                  have Y0 := Lib.hid (((BX1.out.q HZ.out).get2).1)
                                  have BX2 := Lib.hid ((BX1.out.q HZ.out).set2 (.slice A2 n2 c2) (.slice B2 m2 d2))
                                  have Q32 := Lib.hid ((Q31.out.trans HZ.out).set2 (b := g) HG.out (.slice A2 n2 c2) (.slice B2 m2 d2))
                                  have Y1 : Hid ((v2.setCell ⟨g, 0, none⟩ (.slice A2 n2 c2)).cell? ⟨g, 1, none⟩ = some (.slice B1 m1 d1)) := Lib.hid (((BX1.out.q HZ.out).set (k := 0) (by simp) (.slice A2 n2 c2)) 1 _ rfl).1
                                  have I12 := Lib.hid (And.intro ((X4.out.1.odd oddH Y0.out.1 (.slice A2 n2 c2)).odd oddH Y1.out (.slice B2 m2 d2)) ((X4.out.2.odd oddC Y0.out.1 (.slice A2 n2 c2)).odd oddC Y1.out (.slice B2 m2 d2)))
                                  clear X4 HZ b0 b1 f0 f1 p0 p1 p2 p3 hgv o3 o4 Y0 Y1 BX1 I11 Q31
                                  go_upto_region 4 with (fail)
                                  generalize (v2.setCell ⟨g, 0, none⟩ (.slice A2 n2 c2)).setCell ⟨g, 1, none⟩ (.slice B2 m2 d2) = W2 at I12 BX2 Q32 ⊢
                                  obtain ⟨⟨b0, b1⟩, f0, f1⟩ := BX2.out.get2
                                  go_wp2
                                  refine wp_region_heldL 6 (Q W2) (by kernel_rfl) ?szz20aa (fun hHeld => ?rzz20aa)
                                  case szz20aa =>
                                    exact (Q.refl W2).drew
                                  case' rzz20aa => skip
                                  generalize hgen : W2.drew = D0 at hHeld ⊢
                                  clear hgen
                                  refine wpAnyL_take (i := 0) (oi := ?ozz21aa) (v := ?vzz21aa) ?hzz21aa ?azz21aa ?bzz21aa ?czz21aa ?kzz21aa ?qzz21aa ?yzz21aa ?szz21aa ?rzz21aa
                                  case hzz21aa => simp only [List.getElem?_toArray, List.getElem?_cons_zero]; rfl
                                  case azz21aa => kernel_rfl
                                  case bzz21aa => kernel_rfl
                                  case czz21aa => kernel_rfl
                                  case kzz21aa => kernel_rfl
                                  case yzz21aa =>
                                    refine Or.inl ⟨by rfl, ?_⟩
                                    intro w hSw
                                    have z0 := box_ hSw b0; have z1 := box_ hSw b1; clear hSw
                                    go_simp
                                    try with_reducible rfl
                                  case qzz21aa => exact fun _ _ _ h => h
                                  case szz21aa => first | assumption | trivial
                                  case' rzz21aa => simp only [Act.put, List.setIfInBounds_toArray, List.set_cons_zero, List.set_cons_succ]
                                  refine wpAnyL_ready (rs := [1]) (by kernel_rfl) (by simp) ?_
                                  refine AllReadyL.cons (o := ?ozz29aa) ?hzz29aa (fun K hK => ?kzz29aa) ?mzz29aa
                                  case hzz29aa => simp only [List.getElem?_toArray, List.getElem?_cons_zero, List.getElem?_cons_succ]; rfl
                                  case kzz29aa =>
                                    go_simp
                                    refine (K1.out _).mono ?_
                                    rintro e v1 ⟨rfl, q4⟩
                                    go_wp2_with fail
                                    refine hK.out _ _ ?Szz29aa (fun hHeld => ?Rzz29aa)
                                    case Szz29aa =>
                                      exact hHeld.trans q4
                                    case Rzz29aa =>
                                      clear hK K
                                      try simp only [Act.put, List.setIfInBounds_toArray, List.set_cons_zero, List.set_cons_succ]
                                      refine wpAnyL_ready (rs := [2]) (by kernel_rfl) (by simp) ?_
                                      refine AllReadyL.cons (o := ?ozz28aa) ?hzz28aa (fun K hK => ?kzz28aa) ?mzz28aa
                                      case hzz28aa => simp only [List.getElem?_toArray, List.getElem?_cons_zero, List.getElem?_cons_succ]; rfl
                                      case kzz28aa =>
                                        go_simp
                                        refine (A4.out A2 n2 c2 B2 m2 d2 _ (I12.out.1.q (hHeld.trans (Q.refl _))) (I12.out.2.q hHeld)).mono ?_
                                        rintro e v2 ⟨A3, n3, c3, B3, m3, d3, rfl, o3, o4, q5⟩
                                        have X4 := Lib.hid (And.intro o3 o4)
                                        go_wp2_with fail
                                        refine hK.out _ _ ?Szz28aa (fun hHeld => ?Rzz28aa)
                                        case Szz28aa =>
                                          exact hHeld.trans q5
                                        case Rzz28aa =>
                                          clear hK K
                                          try simp only [Act.put, List.setIfInBounds_toArray, List.set_cons_zero, List.set_cons_succ]
                                          refine wpAnyL_take (i := 3) (oi := ?ozz22aa) (v := ?vzz22aa) ?hzz22aa ?azz22aa ?bzz22aa ?czz22aa ?kzz22aa ?qzz22aa ?yzz22aa ?szz22aa ?rzz22aa
                                          case hzz22aa => simp only [List.getElem?_toArray, List.getElem?_cons_zero, List.getElem?_cons_succ]; rfl
                                          case azz22aa => kernel_rfl
                                          case bzz22aa => kernel_rfl
                                          case czz22aa => kernel_rfl
                                          case kzz22aa => kernel_rfl
                                          case yzz22aa =>
                                            refine Or.inl ⟨by rfl, ?_⟩
                                            intro w hSw
                                            have z0 := box_ hSw b0; have z1 := box_ hSw b1; clear hSw
                                            go_simp
                                            try with_reducible rfl
                                          case qzz22aa => exact fun _ _ _ h => h
                                          case szz22aa => first | assumption | trivial
                                          case' rzz22aa => simp only [Act.put, List.setIfInBounds_toArray, List.set_cons_zero, List.set_cons_succ]
                                          refine wpAnyL_take (i := 4) (oi := ?ozz23aa) (v := ?vzz23aa) ?hzz23aa ?azz23aa ?bzz23aa ?czz23aa ?kzz23aa ?qzz23aa ?yzz23aa ?szz23aa ?rzz23aa
                                          case hzz23aa => simp only [List.getElem?_toArray, List.getElem?_cons_zero, List.getElem?_cons_succ]; rfl
                                          case azz23aa => kernel_rfl
                                          case bzz23aa => kernel_rfl
                                          case czz23aa => kernel_rfl
                                          case kzz23aa => kernel_rfl
                                          case yzz23aa =>
                                            refine Or.inl ⟨by rfl, ?_⟩
                                            intro w hSw
                                            have z0 := box_ hSw b0; have z1 := box_ hSw b1; clear hSw
                                            go_simp
                                            try with_reducible rfl
                                          case qzz23aa => exact fun _ _ _ h => h
                                          case szz23aa => first | assumption | trivial
                                          case' rzz23aa => simp only [Act.put, List.setIfInBounds_toArray, List.set_cons_zero, List.set_cons_succ]
                                          refine wpAnyL_ready (rs := [5, 6]) (by kernel_rfl) (by simp) ?_
                                          refine AllReadyL.cons (o := ?ozz26aa) ?hzz26aa (fun K hK => ?kzz26aa) ?mzz26aa
                                          case hzz26aa => simp only [List.getElem?_toArray, List.getElem?_cons_zero, List.getElem?_cons_succ]; rfl
                                          case kzz26aa =>
                                            go_simp
                                            refine hK.out _ _ ?Szz26aa (fun hHeld => ?Rzz26aa)
                                            case Szz26aa =>
                                              exact hHeld
                                            case Rzz26aa =>
                                              clear hK K
                                              try simp only [Act.put, List.setIfInBounds_toArray, List.set_cons_zero, List.set_cons_succ]
                                              refine wpAnyL_ready (rs := [6]) (by kernel_rfl) (by simp) ?_
                                              refine AllReadyL.consK (o := ?ozz24aa) ?hzz24aa ?lzz24aa (fun K hK => ?kzz24aa) ?mzz24aa
                                              case hzz24aa => simp only [List.getElem?_toArray, List.getElem?_cons_zero, List.getElem?_cons_succ]; rfl
                                              case lzz24aa => kernel_rfl
                                              case kzz24aa =>
                                                have HZ := Lib.hid hHeld
                                                obtain ⟨⟨p0, p1⟩, p2, p3⟩ := (BX2.out.q hHeld).get2
                                                have hgv := BX2.out.lt
                                                go_simp
                                                refine hK.out _ _ ?Rzz24aa
                                                case Rzz24aa =>
                                                  clear hK K
                                                  try simp only [Act.put, List.setIfInBounds_toArray, List.set_cons_zero, List.set_cons_succ]
                                                  refine wpAnyH_done (by kernel_rfl) ?_ _
                                                  have Y0 := Lib.hid (((BX2.out.q HZ.out).get2).1)
                                                  have BX3 := Lib.hid ((BX2.out.q HZ.out).set2 (.slice A3 n3 c3) (.slice B3 m3 d3))
                                                  have Q33 := Lib.hid ((Q32.out.trans HZ.out).set2 (b := g) HG.out (.slice A3 n3 c3) (.slice B3 m3 d3))
                                                  have Y1 : Hid ((v2.setCell ⟨g, 0, none⟩ (.slice A3 n3 c3)).cell? ⟨g, 1, none⟩ = some (.slice B2 m2 d2)) := Lib.hid (((BX2.out.q HZ.out).set (k := 0) (by simp) (.slice A3 n3 c3)) 1 _ rfl).1
                                                  have I13 := Lib.hid (And.intro ((X4.out.1.odd oddH Y0.out.1 (.slice A3 n3 c3)).odd oddH Y1.out (.slice B3 m3 d3)) ((X4.out.2.odd oddC Y0.out.1 (.slice A3 n3 c3)).odd oddC Y1.out (.slice B3 m3 d3)))
                                                  clear X4 HZ b0 b1 f0 f1 p0 p1 p2 p3 hgv o3 o4 Y0 Y1 BX2 I12 Q32
                                                  go_upto_region 5 with (fail)
                                                  generalize (v2.setCell ⟨g, 0, none⟩ (.slice A3 n3 c3)).setCell ⟨g, 1, none⟩ (.slice B3 m3 d3) = W3 at I13 BX3 Q33 ⊢
                                                  obtain ⟨⟨b0, b1⟩, f0, f1⟩ := BX3.out.get2
                                                  go_wp2_with fail
                                                  refine (KR.out A3 n3 c3 B3 m3 d3 _ I13.out.1 I13.out.2).mono ?_
                                                  rintro e w6 ⟨A6, c6, rfl, o6, q6⟩
                                                  have O6 := Lib.hid o6
                                                  have I6 := Lib.hid (And.intro (I13.out.1.q q6) (I13.out.2.q q6))
                                                  have Q6 := Lib.hid (Q33.out.trans q6)
                                                  have BX6 := Lib.hid (BX3.out.q q6)
                                                  clear o6 q6 b0 b1 f0 f1
                                                  obtain ⟨⟨b0, b1⟩, f0, f1⟩ := BX6.out.get2
                                                  go_wp2_with fail
                                                  refine (KV.out A3 n3 c3 B3 m3 d3 _ I6.out.1 I6.out.2).mono ?_
                                                  rintro e w7 ⟨rfl, q7⟩
                                                  have Q7 := Lib.hid (Q6.out.trans q7)
                                                  obtain ⟨ad, hae, hab, y0⟩ := load_num (O6.out.lst.q q7) (k := 0) (by simp) (by simp)
                                                  obtain ⟨ad2, hae2, hab2, y1⟩ := load_num (O6.out.lst.q q7) (k := 1) (by simp) (by simp)
                                                  subst hae
                                                  injection hae2 with hae2
                                                  subst hae2
                                                  simp only [List.getElem_cons_zero, List.getElem_cons_succ] at y0 y1
                                                  have y0 : w7.cell? ad = some (.int .i64 1) := by simpa [Addr.add] using y0
                                                  have y1 : w7.cell? ⟨ad.block, ad.off + 1, none⟩ = some (.int .i64 2) := by simpa [Addr.add] using y1
                                                  clear b0 b1 f0 f1 O6 I6 BX6 q7
                                                  simp only [List.length_cons, List.length_nil]
                                                  go_wp2
                                                  go_ret
                                                  exact ⟨by first | rfl | (simp; done), Q7.out⟩
                                              case' mzz24aa => skip
                                              exact AllReadyL.nil
                                          case' mzz26aa => skip
                                          refine AllReadyL.consK (o := ?ozz27aa) ?hzz27aa ?lzz27aa (fun K hK => ?kzz27aa) ?mzz27aa
                                          case hzz27aa => simp only [List.getElem?_toArray, List.getElem?_cons_zero, List.getElem?_cons_succ]; rfl
                                          case lzz27aa => kernel_rfl
                                          case kzz27aa =>
                                            have HZ := Lib.hid hHeld
                                            obtain ⟨⟨p0, p1⟩, p2, p3⟩ := (BX2.out.q hHeld).get2
                                            have hgv := BX2.out.lt
                                            go_simp
                                            refine hK.out _ _ ?Rzz27aa
                                            case Rzz27aa =>
                                              clear hK K
                                              try simp only [Act.put, List.setIfInBounds_toArray, List.set_cons_zero, List.set_cons_succ]
                                              refine wpAnyH_take (i := 5) (oi := ?ozz25aa) (v := ?vzz25aa) ?hzz25aa ?azz25aa ?bzz25aa ?czz25aa ?qzz25aa ?yzz25aa ?szz25aa ?rzz25aa
                                              case hzz25aa => simp only [List.getElem?_toArray, List.getElem?_cons_zero, List.getElem?_cons_succ]; rfl
                                              case azz25aa => kernel_rfl
                                              case bzz25aa => kernel_rfl
                                              case czz25aa => kernel_rfl
                                              case yzz25aa =>
                                                refine Or.inl ⟨by rfl, ?_⟩
                                                intro w hSw
                                                skip
                                                go_simp
                                                try with_reducible rfl
                                              case qzz25aa => exact fun _ _ _ h => h
                                              case szz25aa => first | assumption | trivial
                                              case' rzz25aa => simp only [Act.put, List.setIfInBounds_toArray, List.set_cons_zero, List.set_cons_succ]
                                              refine wpAnyH_done (by kernel_rfl) ?_ _
                                              have Y0 := Lib.hid (((BX2.out.q HZ.out).get2).1)
                                              have BX3 := Lib.hid ((BX2.out.q HZ.out).set2 (.slice A3 n3 c3) (.slice B3 m3 d3))
                                              have Q33 := Lib.hid ((Q32.out.trans HZ.out).set2 (b := g) HG.out (.slice A3 n3 c3) (.slice B3 m3 d3))
                                              have Y1 : Hid ((v2.setCell ⟨g, 0, none⟩ (.slice A3 n3 c3)).cell? ⟨g, 1, none⟩ = some (.slice B2 m2 d2)) := Lib.hid (((BX2.out.q HZ.out).set (k := 0) (by simp) (.slice A3 n3 c3)) 1 _ rfl).1
                                              have I13 := Lib.hid (And.intro ((X4.out.1.odd oddH Y0.out.1 (.slice A3 n3 c3)).odd oddH Y1.out (.slice B3 m3 d3)) ((X4.out.2.odd oddC Y0.out.1 (.slice A3 n3 c3)).odd oddC Y1.out (.slice B3 m3 d3)))
                                              clear X4 HZ b0 b1 f0 f1 p0 p1 p2 p3 hgv o3 o4 Y0 Y1 BX2 I12 Q32
                                              go_upto_region 5 with (fail)
                                              generalize (v2.setCell ⟨g, 0, none⟩ (.slice A3 n3 c3)).setCell ⟨g, 1, none⟩ (.slice B3 m3 d3) = W3 at I13 BX3 Q33 ⊢
                                              obtain ⟨⟨b0, b1⟩, f0, f1⟩ := BX3.out.get2
                                              go_wp2_with fail
                                              refine (KR.out A3 n3 c3 B3 m3 d3 _ I13.out.1 I13.out.2).mono ?_
                                              rintro e w6 ⟨A6, c6, rfl, o6, q6⟩
                                              have O6 := Lib.hid o6
                                              have I6 := Lib.hid (And.intro (I13.out.1.q q6) (I13.out.2.q q6))
                                              have Q6 := Lib.hid (Q33.out.trans q6)
                                              have BX6 := Lib.hid (BX3.out.q q6)
                                              clear o6 q6 b0 b1 f0 f1
                                              obtain ⟨⟨b0, b1⟩, f0, f1⟩ := BX6.out.get2
                                              go_wp2_with fail
                                              refine (KV.out A3 n3 c3 B3 m3 d3 _ I6.out.1 I6.out.2).mono ?_
                                              rintro e w7 ⟨rfl, q7⟩
                                              have Q7 := Lib.hid (Q6.out.trans q7)
                                              obtain ⟨ad, hae, hab, y0⟩ := load_num (O6.out.lst.q q7) (k := 0) (by simp) (by simp)
                                              obtain ⟨ad2, hae2, hab2, y1⟩ := load_num (O6.out.lst.q q7) (k := 1) (by simp) (by simp)
                                              subst hae
                                              injection hae2 with hae2
                                              subst hae2
                                              simp only [List.getElem_cons_zero, List.getElem_cons_succ] at y0 y1
                                              have y0 : w7.cell? ad = some (.int .i64 1) := by simpa [Addr.add] using y0
                                              have y1 : w7.cell? ⟨ad.block, ad.off + 1, none⟩ = some (.int .i64 2) := by simpa [Addr.add] using y1
                                              clear b0 b1 f0 f1 O6 I6 BX6 q7
                                              simp only [List.length_cons, List.length_nil]
                                              go_wp2
                                              go_ret
                                              exact ⟨by first | rfl | (simp; done), Q7.out⟩
                                          case' mzz27aa => skip
                                          exact AllReadyL.nil
                                      case' mzz28aa => skip
                                      exact AllReadyL.nil
                                  case' mzz29aa => skip
                                  exact AllReadyL.nil
                              case' mzz14a => skip
                              exact AllReadyL.nil
                          case' mzz16a => skip
                          refine AllReadyL.consK (o := ?ozz17a) ?hzz17a ?lzz17a (fun K hK => ?kzz17a) ?mzz17a
                          case hzz17a => simp only [List.getElem?_toArray, List.getElem?_cons_zero, List.getElem?_cons_succ]; rfl
                          case lzz17a => kernel_rfl
                          case kzz17a =>
                            have HZ := Lib.hid hHeld
                            obtain ⟨⟨p0, p1⟩, p2, p3⟩ := (BX1.out.q hHeld).get2
                            have hgv := BX1.out.lt
                            go_simp
                            refine hK.out _ _ ?Rzz17a
                            case Rzz17a =>
                              clear hK K
                              try simp only [Act.put, List.setIfInBounds_toArray, List.set_cons_zero, List.set_cons_succ]
                              refine wpAnyH_take (i := 5) (oi := ?ozz15a) (v := ?vzz15a) ?hzz15a ?azz15a ?bzz15a ?czz15a ?qzz15a ?yzz15a ?szz15a ?rzz15a
                              case hzz15a => simp only [List.getElem?_toArray, List.getElem?_cons_zero, List.getElem?_cons_succ]; rfl
                              case azz15a => kernel_rfl
                              case bzz15a => kernel_rfl
                              case czz15a => kernel_rfl
                              case yzz15a =>
                                refine Or.inl ⟨by rfl, ?_⟩
                                intro w hSw
                                skip
                                go_simp
                                try with_reducible rfl
                              case qzz15a => exact fun _ _ _ h => h
                              case szz15a => first | assumption | trivial
                              case' rzz15a => simp only [Act.put, List.setIfInBounds_toArray, List.set_cons_zero, List.set_cons_succ]
                              refine wpAnyH_done (by kernel_rfl) ?_ _
                              have Y0 := Lib.hid (((BX1.out.q HZ.out).get2).1)
                              have BX2 := Lib.hid ((BX1.out.q HZ.out).set2 (.slice A2 n2 c2) (.slice B2 m2 d2))
                              have Q32 := Lib.hid ((Q31.out.trans HZ.out).set2 (b := g) HG.out (.slice A2 n2 c2) (.slice B2 m2 d2))
                              have Y1 : Hid ((v2.setCell ⟨g, 0, none⟩ (.slice A2 n2 c2)).cell? ⟨g, 1, none⟩ = some (.slice B1 m1 d1)) := Lib.hid (((BX1.out.q HZ.out).set (k := 0) (by simp) (.slice A2 n2 c2)) 1 _ rfl).1
                              have I12 := Lib.hid (And.intro ((X4.out.1.odd oddH Y0.out.1 (.slice A2 n2 c2)).odd oddH Y1.out (.slice B2 m2 d2)) ((X4.out.2.odd oddC Y0.out.1 (.slice A2 n2 c2)).odd oddC Y1.out (.slice B2 m2 d2)))
                              clear X4 HZ b0 b1 f0 f1 p0 p1 p2 p3 hgv o3 o4 Y0 Y1 BX1 I11 Q31
                              go_upto_region 4 with (fail)
                              generalize (v2.setCell ⟨g, 0, none⟩ (.slice A2 n2 c2)).setCell ⟨g, 1, none⟩ (.slice B2 m2 d2) = W2 at I12 BX2 Q32 ⊢
                              obtain ⟨⟨b0, b1⟩, f0, f1⟩ := BX2.out.get2
                              go_wp2
                              refine wp_region_heldL 6 (Q W2) (by kernel_rfl) ?szz20ba (fun hHeld => ?rzz20ba)
                              case szz20ba =>
                                exact (Q.refl W2).drew
                              case' rzz20ba => skip
                              generalize hgen : W2.drew = D0 at hHeld ⊢
                              clear hgen
                              refine wpAnyL_take (i := 0) (oi := ?ozz21ba) (v := ?vzz21ba) ?hzz21ba ?azz21ba ?bzz21ba ?czz21ba ?kzz21ba ?qzz21ba ?yzz21ba ?szz21ba ?rzz21ba
                              case hzz21ba => simp only [List.getElem?_toArray, List.getElem?_cons_zero]; rfl
                              case azz21ba => kernel_rfl
                              case bzz21ba => kernel_rfl
                              case czz21ba => kernel_rfl
                              case kzz21ba => kernel_rfl
                              case yzz21ba =>
                                refine Or.inl ⟨by rfl, ?_⟩
                                intro w hSw
                                have z0 := box_ hSw b0; have z1 := box_ hSw b1; clear hSw
                                go_simp
                                try with_reducible rfl
                              case qzz21ba => exact fun _ _ _ h => h
                              case szz21ba => first | assumption | trivial
                              case' rzz21ba => simp only [Act.put, List.setIfInBounds_toArray, List.set_cons_zero, List.set_cons_succ]
                              refine wpAnyL_ready (rs := [1]) (by kernel_rfl) (by simp) ?_
                              refine AllReadyL.cons (o := ?ozz29ba) ?hzz29ba (fun K hK => ?kzz29ba) ?mzz29ba
                              case hzz29ba => simp only [List.getElem?_toArray, List.getElem?_cons_zero, List.getElem?_cons_succ]; rfl
                              case kzz29ba =>
                                go_simp
                                refine (K1.out _).mono ?_
                                rintro e v1 ⟨rfl, q4⟩
                                go_wp2_with fail
                                refine hK.out _ _ ?Szz29ba (fun hHeld => ?Rzz29ba)
                                case Szz29ba =>
                                  exact hHeld.trans q4
                                case Rzz29ba =>
                                  clear hK K
                                  try simp only [Act.put, List.setIfInBounds_toArray, List.set_cons_zero, List.set_cons_succ]
                                  refine wpAnyL_ready (rs := [2]) (by kernel_rfl) (by simp) ?_
                                  refine AllReadyL.cons (o := ?ozz28ba) ?hzz28ba (fun K hK => ?kzz28ba) ?mzz28ba
                                  case hzz28ba => simp only [List.getElem?_toArray, List.getElem?_cons_zero, List.getElem?_cons_succ]; rfl
                                  case kzz28ba =>
                                    go_simp
                                    refine (A4.out A2 n2 c2 B2 m2 d2 _ (I12.out.1.q (hHeld.trans (Q.refl _))) (I12.out.2.q hHeld)).mono ?_
                                    rintro e v2 ⟨A3, n3, c3, B3, m3, d3, rfl, o3, o4, q5⟩
                                    have X4 := Lib.hid (And.intro o3 o4)
                                    go_wp2_with fail
                                    refine hK.out _ _ ?Szz28ba (fun hHeld => ?Rzz28ba)
                                    case Szz28ba =>
                                      exact hHeld.trans q5
                                    case Rzz28ba =>
                                      clear hK K
                                      try simp only [Act.put, List.setIfInBounds_toArray, List.set_cons_zero, List.set_cons_succ]
                                      refine wpAnyL_take (i := 3) (oi := ?ozz22ba) (v := ?vzz22ba) ?hzz22ba ?azz22ba ?bzz22ba ?czz22ba ?kzz22ba ?qzz22ba ?yzz22ba ?szz22ba ?rzz22ba
                                      case hzz22ba => simp only [List.getElem?_toArray, List.getElem?_cons_zero, List.getElem?_cons_succ]; rfl
                                      case azz22ba => kernel_rfl
                                      case bzz22ba => kernel_rfl
                                      case czz22ba => kernel_rfl
                                      case kzz22ba => kernel_rfl
                                      case yzz22ba =>
                                        refine Or.inl ⟨by rfl, ?_⟩
                                        intro w hSw
                                        have z0 := box_ hSw b0; have z1 := box_ hSw b1; clear hSw
                                        go_simp
                                        try with_reducible rfl
                                      case qzz22ba => exact fun _ _ _ h => h
                                      case szz22ba => first | assumption | trivial
                                      case' rzz22ba => simp only [Act.put, List.setIfInBounds_toArray, List.set_cons_zero, List.set_cons_succ]
                                      refine wpAnyL_take (i := 4) (oi := ?ozz23ba) (v := ?vzz23ba) ?hzz23ba ?azz23ba ?bzz23ba ?czz23ba ?kzz23ba ?qzz23ba ?yzz23ba ?szz23ba ?rzz23ba
                                      case hzz23ba => simp only [List.getElem?_toArray, List.getElem?_cons_zero, List.getElem?_cons_succ]; rfl
                                      case azz23ba => kernel_rfl
                                      case bzz23ba => kernel_rfl
                                      case czz23ba => kernel_rfl
                                      case kzz23ba => kernel_rfl
                                      case yzz23ba =>
                                        refine Or.inl ⟨by rfl, ?_⟩
                                        intro w hSw
                                        have z0 := box_ hSw b0; have z1 := box_ hSw b1; clear hSw
                                        go_simp
                                        try with_reducible rfl
                                      case qzz23ba => exact fun _ _ _ h => h
                                      case szz23ba => first | assumption | trivial
                                      case' rzz23ba => simp only [Act.put, List.setIfInBounds_toArray, List.set_cons_zero, List.set_cons_succ]
                                      refine wpAnyL_ready (rs := [5, 6]) (by kernel_rfl) (by simp) ?_
                                      refine AllReadyL.cons (o := ?ozz26ba) ?hzz26ba (fun K hK => ?kzz26ba) ?mzz26ba
                                      case hzz26ba => simp only [List.getElem?_toArray, List.getElem?_cons_zero, List.getElem?_cons_succ]; rfl
                                      case kzz26ba =>
                                        go_simp
                                        refine hK.out _ _ ?Szz26ba (fun hHeld => ?Rzz26ba)
                                        case Szz26ba =>
                                          exact hHeld
                                        case Rzz26ba =>
                                          clear hK K
                                          try simp only [Act.put, List.setIfInBounds_toArray, List.set_cons_zero, List.set_cons_succ]
                                          refine wpAnyL_ready (rs := [6]) (by kernel_rfl) (by simp) ?_
                                          refine AllReadyL.consK (o := ?ozz24ba) ?hzz24ba ?lzz24ba (fun K hK => ?kzz24ba) ?mzz24ba
                                          case hzz24ba => simp only [List.getElem?_toArray, List.getElem?_cons_zero, List.getElem?_cons_succ]; rfl
                                          case lzz24ba => kernel_rfl
                                          case kzz24ba =>
                                            have HZ := Lib.hid hHeld
                                            obtain ⟨⟨p0, p1⟩, p2, p3⟩ := (BX2.out.q hHeld).get2
                                            have hgv := BX2.out.lt
                                            go_simp
                                            refine hK.out _ _ ?Rzz24ba
                                            case Rzz24ba =>
                                              clear hK K
                                              try simp only [Act.put, List.setIfInBounds_toArray, List.set_cons_zero, List.set_cons_succ]
                                              refine wpAnyH_done (by kernel_rfl) ?_ _
                                              have Y0 := Lib.hid (((BX2.out.q HZ.out).get2).1)
                                              have BX3 := Lib.hid ((BX2.out.q HZ.out).set2 (.slice A3 n3 c3) (.slice B3 m3 d3))
                                              have Q33 := Lib.hid ((Q32.out.trans HZ.out).set2 (b := g) HG.out (.slice A3 n3 c3) (.slice B3 m3 d3))
                                              have Y1 : Hid ((v2.setCell ⟨g, 0, none⟩ (.slice A3 n3 c3)).cell? ⟨g, 1, none⟩ = some (.slice B2 m2 d2)) := Lib.hid (((BX2.out.q HZ.out).set (k := 0) (by simp) (.slice A3 n3 c3)) 1 _ rfl).1
                                              have I13 := Lib.hid (And.intro ((X4.out.1.odd oddH Y0.out.1 (.slice A3 n3 c3)).odd oddH Y1.out (.slice B3 m3 d3)) ((X4.out.2.odd oddC Y0.out.1 (.slice A3 n3 c3)).odd oddC Y1.out (.slice B3 m3 d3)))
                                              clear X4 HZ b0 b1 f0 f1 p0 p1 p2 p3 hgv o3 o4 Y0 Y1 BX2 I12 Q32
                                              go_upto_region 5 with (fail)
                                              generalize (v2.setCell ⟨g, 0, none⟩ (.slice A3 n3 c3)).setCell ⟨g, 1, none⟩ (.slice B3 m3 d3) = W3 at I13 BX3 Q33 ⊢
                                              obtain ⟨⟨b0, b1⟩, f0, f1⟩ := BX3.out.get2
                                              go_wp2_with fail
                                              refine (KR.out A3 n3 c3 B3 m3 d3 _ I13.out.1 I13.out.2).mono ?_
                                              rintro e w6 ⟨A6, c6, rfl, o6, q6⟩
                                              have O6 := Lib.hid o6
                                              have I6 := Lib.hid (And.intro (I13.out.1.q q6) (I13.out.2.q q6))
                                              have Q6 := Lib.hid (Q33.out.trans q6)
                                              have BX6 := Lib.hid (BX3.out.q q6)
                                              clear o6 q6 b0 b1 f0 f1
                                              obtain ⟨⟨b0, b1⟩, f0, f1⟩ := BX6.out.get2
                                              go_wp2_with fail
                                              refine (KV.out A3 n3 c3 B3 m3 d3 _ I6.out.1 I6.out.2).mono ?_
                                              rintro e w7 ⟨rfl, q7⟩
                                              have Q7 := Lib.hid (Q6.out.trans q7)
                                              obtain ⟨ad, hae, hab, y0⟩ := load_num (O6.out.lst.q q7) (k := 0) (by simp) (by simp)
                                              obtain ⟨ad2, hae2, hab2, y1⟩ := load_num (O6.out.lst.q q7) (k := 1) (by simp) (by simp)
                                              subst hae
                                              injection hae2 with hae2
                                              subst hae2
                                              simp only [List.getElem_cons_zero, List.getElem_cons_succ] at y0 y1
                                              have y0 : w7.cell? ad = some (.int .i64 1) := by simpa [Addr.add] using y0
                                              have y1 : w7.cell? ⟨ad.block, ad.off + 1, none⟩ = some (.int .i64 2) := by simpa [Addr.add] using y1
                                              clear b0 b1 f0 f1 O6 I6 BX6 q7
                                              simp only [List.length_cons, List.length_nil]
                                              go_wp2
                                              go_ret
                                              exact ⟨by first | rfl | (simp; done), Q7.out⟩
                                          case' mzz24ba => skip
                                          exact AllReadyL.nil
                                      case' mzz26ba => skip
                                      refine AllReadyL.consK (o := ?ozz27ba) ?hzz27ba ?lzz27ba (fun K hK => ?kzz27ba) ?mzz27ba
                                      case hzz27ba => simp only [List.getElem?_toArray, List.getElem?_cons_zero, List.getElem?_cons_succ]; rfl
                                      case lzz27ba => kernel_rfl
                                      case kzz27ba =>
                                        have HZ := Lib.hid hHeld
                                        obtain ⟨⟨p0, p1⟩, p2, p3⟩ := (BX2.out.q hHeld).get2
                                        have hgv := BX2.out.lt
                                        go_simp
                                        refine hK.out _ _ ?Rzz27ba
                                        case Rzz27ba =>
                                          clear hK K
                                          try simp only [Act.put, List.setIfInBounds_toArray, List.set_cons_zero, List.set_cons_succ]
                                          refine wpAnyH_take (i := 5) (oi := ?ozz25ba) (v := ?vzz25ba) ?hzz25ba ?azz25ba ?bzz25ba ?czz25ba ?qzz25ba ?yzz25ba ?szz25ba ?rzz25ba
                                          case hzz25ba => simp only [List.getElem?_toArray, List.getElem?_cons_zero, List.getElem?_cons_succ]; rfl
                                          case azz25ba => kernel_rfl
                                          case bzz25ba => kernel_rfl
                                          case czz25ba => kernel_rfl
                                          case yzz25ba =>
                                            refine Or.inl ⟨by rfl, ?_⟩
                                            intro w hSw
                                            skip
                                            go_simp
                                            try with_reducible rfl
                                          case qzz25ba => exact fun _ _ _ h => h
                                          case szz25ba => first | assumption | trivial
                                          case' rzz25ba => simp only [Act.put, List.setIfInBounds_toArray, List.set_cons_zero, List.set_cons_succ]
                                          refine wpAnyH_done (by kernel_rfl) ?_ _
                                          have Y0 := Lib.hid (((BX2.out.q HZ.out).get2).1)
                                          have BX3 := Lib.hid ((BX2.out.q HZ.out).set2 (.slice A3 n3 c3) (.slice B3 m3 d3))
                                          have Q33 := Lib.hid ((Q32.out.trans HZ.out).set2 (b := g) HG.out (.slice A3 n3 c3) (.slice B3 m3 d3))
                                          have Y1 : Hid ((v2.setCell ⟨g, 0, none⟩ (.slice A3 n3 c3)).cell? ⟨g, 1, none⟩ = some (.slice B2 m2 d2)) := Lib.hid (((BX2.out.q HZ.out).set (k := 0) (by simp) (.slice A3 n3 c3)) 1 _ rfl).1
                                          have I13 := Lib.hid (And.intro ((X4.out.1.odd oddH Y0.out.1 (.slice A3 n3 c3)).odd oddH Y1.out (.slice B3 m3 d3)) ((X4.out.2.odd oddC Y0.out.1 (.slice A3 n3 c3)).odd oddC Y1.out (.slice B3 m3 d3)))
                                          clear X4 HZ b0 b1 f0 f1 p0 p1 p2 p3 hgv o3 o4 Y0 Y1 BX2 I12 Q32
                                          go_upto_region 5 with (fail)
                                          generalize (v2.setCell ⟨g, 0, none⟩ (.slice A3 n3 c3)).setCell ⟨g, 1, none⟩ (.slice B3 m3 d3) = W3 at I13 BX3 Q33 ⊢
                                          obtain ⟨⟨b0, b1⟩, f0, f1⟩ := BX3.out.get2
                                          go_wp2_with fail
                                          refine (KR.out A3 n3 c3 B3 m3 d3 _ I13.out.1 I13.out.2).mono ?_
                                          rintro e w6 ⟨A6, c6, rfl, o6, q6⟩
                                          have O6 := Lib.hid o6
                                          have I6 := Lib.hid (And.intro (I13.out.1.q q6) (I13.out.2.q q6))
                                          have Q6 := Lib.hid (Q33.out.trans q6)
                                          have BX6 := Lib.hid (BX3.out.q q6)
                                          clear o6 q6 b0 b1 f0 f1
                                          obtain ⟨⟨b0, b1⟩, f0, f1⟩ := BX6.out.get2
                                          go_wp2_with fail
                                          refine (KV.out A3 n3 c3 B3 m3 d3 _ I6.out.1 I6.out.2).mono ?_
                                          rintro e w7 ⟨rfl, q7⟩
                                          have Q7 := Lib.hid (Q6.out.trans q7)
                                          obtain ⟨ad, hae, hab, y0⟩ := load_num (O6.out.lst.q q7) (k := 0) (by simp) (by simp)
                                          obtain ⟨ad2, hae2, hab2, y1⟩ := load_num (O6.out.lst.q q7) (k := 1) (by simp) (by simp)
                                          subst hae
                                          injection hae2 with hae2
                                          subst hae2
                                          simp only [List.getElem_cons_zero, List.getElem_cons_succ] at y0 y1
                                          have y0 : w7.cell? ad = some (.int .i64 1) := by simpa [Addr.add] using y0
                                          have y1 : w7.cell? ⟨ad.block, ad.off + 1, none⟩ = some (.int .i64 2) := by simpa [Addr.add] using y1
                                          clear b0 b1 f0 f1 O6 I6 BX6 q7
                                          simp only [List.length_cons, List.length_nil]
                                          go_wp2
                                          go_ret
                                          exact ⟨by first | rfl | (simp; done), Q7.out⟩
                                      case' mzz27ba => skip
                                      exact AllReadyL.nil
                                  case' mzz28ba => skip
                                  exact AllReadyL.nil
                              case' mzz29ba => skip
                              exact AllReadyL.nil
                          case' mzz17a => skip
                          exact AllReadyL.nil
                      case' mzz18a => skip
                      exact AllReadyL.nil
                  case' mzz19a => skip
                  exact AllReadyL.nil
              case' mzz4 => skip
              exact AllReadyL.nil
          case' mzz6 => skip
          refine AllReadyL.consK (o := ?ozz7) ?hzz7 ?lzz7 (fun K hK => ?kzz7) ?mzz7
          case hzz7 => simp only [List.getElem?_toArray, List.getElem?_cons_zero, List.getElem?_cons_succ]; rfl
          case lzz7 => kernel_rfl
          case kzz7 =>
            have HZ := Lib.hid hHeld
            obtain ⟨⟨p0, p1⟩, p2, p3⟩ := (BX.out.q hHeld).get2
            have hgv := BX.out.lt
            go_simp
            refine hK.out _ _ ?Rzz7
            case Rzz7 =>
              clear hK K
              try simp only [Act.put, List.setIfInBounds_toArray, List.set_cons_zero, List.set_cons_succ]
              refine wpAnyH_take (i := 5) (oi := ?ozz5) (v := ?vzz5) ?hzz5 ?azz5 ?bzz5 ?czz5 ?qzz5 ?yzz5 ?szz5 ?rzz5
              case hzz5 => simp only [List.getElem?_toArray, List.getElem?_cons_zero, List.getElem?_cons_succ]; rfl
              case azz5 => kernel_rfl
              case bzz5 => kernel_rfl
              case czz5 => kernel_rfl
              case yzz5 =>
                refine Or.inl ⟨by rfl, ?_⟩
                intro w hSw
                skip
                go_simp
                try with_reducible rfl
              case qzz5 => exact fun _ _ _ h => h
              case szz5 => first | assumption | trivial
              case' rzz5 => simp only [Act.put, List.setIfInBounds_toArray, List.set_cons_zero, List.set_cons_succ]
              refine wpAnyH_done (by kernel_rfl) ?_ _
              have Y0 := Lib.hid (((BX.out.q HZ.out).get2).1)
              have BX1 := Lib.hid ((BX.out.q HZ.out).set2 (.slice A1 n1 c1) (.slice B1 m1 d1))
              have Q31 := Lib.hid ((Q3.out.trans HZ.out).set2 (b := g) HG.out (.slice A1 n1 c1) (.slice B1 m1 d1))
              have Y1 : Hid ((v2.setCell ⟨g, 0, none⟩ (.slice A1 n1 c1)).cell? ⟨g, 1, none⟩ = some (.slice B m d)) := Lib.hid (((BX.out.q HZ.out).set (k := 0) (by simp) (.slice A1 n1 c1)) 1 _ rfl).1
              have I11 := Lib.hid (And.intro ((X4.out.1.odd oddH Y0.out.1 (.slice A1 n1 c1)).odd oddH Y1.out (.slice B1 m1 d1)) ((X4.out.2.odd oddC Y0.out.1 (.slice A1 n1 c1)).odd oddC Y1.out (.slice B1 m1 d1)))
              clear X4 HZ b0 b1 f0 f1 p0 p1 p2 p3 hgv o3 o4 Y0 Y1 BX I1 Q3
              go_upto_region 3 with (fail)
              generalize (v2.setCell ⟨g, 0, none⟩ (.slice A1 n1 c1)).setCell ⟨g, 1, none⟩ (.slice B1 m1 d1) = W1 at I11 BX1 Q31 ⊢
              obtain ⟨⟨b0, b1⟩, f0, f1⟩ := BX1.out.get2
              go_wp2
              refine wp_region_heldL 6 (Q W1) (by kernel_rfl) ?szz10b (fun hHeld => ?rzz10b)
              case szz10b =>
                exact (Q.refl W1).drew
              case' rzz10b => skip
              generalize hgen : W1.drew = D0 at hHeld ⊢
              clear hgen
              refine wpAnyL_take (i := 0) (oi := ?ozz11b) (v := ?vzz11b) ?hzz11b ?azz11b ?bzz11b ?czz11b ?kzz11b ?qzz11b ?yzz11b ?szz11b ?rzz11b
              case hzz11b => simp only [List.getElem?_toArray, List.getElem?_cons_zero]; rfl
              case azz11b => kernel_rfl
              case bzz11b => kernel_rfl
              case czz11b => kernel_rfl
              case kzz11b => kernel_rfl
              case yzz11b =>
                refine Or.inl ⟨by rfl, ?_⟩
                intro w hSw
                have z0 := box_ hSw b0; have z1 := box_ hSw b1; clear hSw
                go_simp
                try with_reducible rfl
              case qzz11b => exact fun _ _ _ h => h
              case szz11b => first | assumption | trivial
              case' rzz11b => simp only [Act.put, List.setIfInBounds_toArray, List.set_cons_zero, List.set_cons_succ]
              refine wpAnyL_ready (rs := [1]) (by kernel_rfl) (by simp) ?_
              refine AllReadyL.cons (o := ?ozz19b) ?hzz19b (fun K hK => ?kzz19b) ?mzz19b
              case hzz19b => simp only [List.getElem?_toArray, List.getElem?_cons_zero, List.getElem?_cons_succ]; rfl
              case kzz19b =>
                go_simp
                refine (K2.out _).mono ?_
                rintro e v1 ⟨rfl, q4⟩
                go_wp2_with fail
                refine hK.out _ _ ?Szz19b (fun hHeld => ?Rzz19b)
                case Szz19b =>
                  exact hHeld.trans q4
                case Rzz19b =>
                  clear hK K
                  try simp only [Act.put, List.setIfInBounds_toArray, List.set_cons_zero, List.set_cons_succ]
                  refine wpAnyL_ready (rs := [2]) (by kernel_rfl) (by simp) ?_
                  refine AllReadyL.cons (o := ?ozz18b) ?hzz18b (fun K hK => ?kzz18b) ?mzz18b
                  case hzz18b => simp only [List.getElem?_toArray, List.getElem?_cons_zero, List.getElem?_cons_succ]; rfl
                  case kzz18b =>
                    go_simp
                    refine (A3.out A1 n1 c1 B1 m1 d1 _ (I11.out.1.q (hHeld.trans (Q.refl _))) (I11.out.2.q hHeld)).mono ?_
                    rintro e v2 ⟨A2, n2, c2, B2, m2, d2, rfl, o3, o4, q5⟩
                    have X4 := Lib.hid (And.intro o3 o4)
                    go_wp2_with fail
                    refine hK.out _ _ ?Szz18b (fun hHeld => ?Rzz18b)
                    case Szz18b =>
                      exact hHeld.trans q5
                    case Rzz18b =>
                      clear hK K
                      try simp only [Act.put, List.setIfInBounds_toArray, List.set_cons_zero, List.set_cons_succ]
                      refine wpAnyL_take (i := 3) (oi := ?ozz12b) (v := ?vzz12b) ?hzz12b ?azz12b ?bzz12b ?czz12b ?kzz12b ?qzz12b ?yzz12b ?szz12b ?rzz12b
                      case hzz12b => simp only [List.getElem?_toArray, List.getElem?_cons_zero, List.getElem?_cons_succ]; rfl
                      case azz12b => kernel_rfl
                      case bzz12b => kernel_rfl
                      case czz12b => kernel_rfl
                      case kzz12b => kernel_rfl
                      case yzz12b =>
                        refine Or.inl ⟨by rfl, ?_⟩
                        intro w hSw
                        have z0 := box_ hSw b0; have z1 := box_ hSw b1; clear hSw
                        go_simp
                        try with_reducible rfl
                      case qzz12b => exact fun _ _ _ h => h
                      case szz12b => first | assumption | trivial
                      case' rzz12b => simp only [Act.put, List.setIfInBounds_toArray, List.set_cons_zero, List.set_cons_succ]
                      refine wpAnyL_take (i := 4) (oi := ?ozz13b) (v := ?vzz13b) ?hzz13b ?azz13b ?bzz13b ?czz13b ?kzz13b ?qzz13b ?yzz13b ?szz13b ?rzz13b
                      case hzz13b => simp only [List.getElem?_toArray, List.getElem?_cons_zero, List.getElem?_cons_succ]; rfl
                      case azz13b => kernel_rfl
                      case bzz13b => kernel_rfl
                      case czz13b => kernel_rfl
                      case kzz13b => kernel_rfl
                      case yzz13b =>
                        refine Or.inl ⟨by rfl, ?_⟩
                        intro w hSw
                        have z0 := box_ hSw b0; have z1 := box_ hSw b1; clear hSw
                        go_simp
                        try with_reducible rfl
                      case qzz13b => exact fun _ _ _ h => h
                      case szz13b => first | assumption | trivial
                      case' rzz13b => simp only [Act.put, List.setIfInBounds_toArray, List.set_cons_zero, List.set_cons_succ]
                      refine wpAnyL_ready (rs := [5, 6]) (by kernel_rfl) (by simp) ?_
                      refine AllReadyL.cons (o := ?ozz16b) ?hzz16b (fun K hK => ?kzz16b) ?mzz16b
                      case hzz16b => simp only [List.getElem?_toArray, List.getElem?_cons_zero, List.getElem?_cons_succ]; rfl
                      case kzz16b =>
                        go_simp
                        refine hK.out _ _ ?Szz16b (fun hHeld => ?Rzz16b)
                        case Szz16b =>
                          exact hHeld
                        case Rzz16b =>
                          clear hK K
                          try simp only [Act.put, List.setIfInBounds_toArray, List.set_cons_zero, List.set_cons_succ]
                          refine wpAnyL_ready (rs := [6]) (by kernel_rfl) (by simp) ?_
                          refine AllReadyL.consK (o := ?ozz14b) ?hzz14b ?lzz14b (fun K hK => ?kzz14b) ?mzz14b
                          case hzz14b => simp only [List.getElem?_toArray, List.getElem?_cons_zero, List.getElem?_cons_succ]; rfl
                          case lzz14b => kernel_rfl
                          case kzz14b =>
                            have HZ := Lib.hid hHeld
                            obtain ⟨⟨p0, p1⟩, p2, p3⟩ := (BX1.out.q hHeld).get2
                            have hgv := BX1.out.lt
                            go_simp
                            refine hK.out _ _ ?Rzz14b
                            case Rzz14b =>
                              clear hK K
                              try simp only [Act.put, List.setIfInBounds_toArray, List.set_cons_zero, List.set_cons_succ]
                              refine wpAnyH_done (by kernel_rfl) ?_ _
                              have Y0 := Lib.hid (((BX1.out.q HZ.out).get2).1)
                              have BX2 := Lib.hid ((BX1.out.q HZ.out).set2 (.slice A2 n2 c2) (.slice B2 m2 d2))
                              have Q32 := Lib.hid ((Q31.out.trans HZ.out).set2 (b := g) HG.out (.slice A2 n2 c2) (.slice B2 m2 d2))
                              have Y1 : Hid ((v2.setCell ⟨g, 0, none⟩ (.slice A2 n2 c2)).cell? ⟨g, 1, none⟩ = some (.slice B1 m1 d1)) := Lib.hid (((BX1.out.q HZ.out).set (k := 0) (by simp) (.slice A2 n2 c2)) 1 _ rfl).1
                              have I12 := Lib.hid (And.intro ((X4.out.1.odd oddH Y0.out.1 (.slice A2 n2 c2)).odd oddH Y1.out (.slice B2 m2 d2)) ((X4.out.2.odd oddC Y0.out.1 (.slice A2 n2 c2)).odd oddC Y1.out (.slice B2 m2 d2)))
                              clear X4 HZ b0 b1 f0 f1 p0 p1 p2 p3 hgv o3 o4 Y0 Y1 BX1 I11 Q31
                              go_upto_region 4 with (fail)
                              generalize (v2.setCell ⟨g, 0, none⟩ (.slice A2 n2 c2)).setCell ⟨g, 1, none⟩ (.slice B2 m2 d2) = W2 at I12 BX2 Q32 ⊢
                              obtain ⟨⟨b0, b1⟩, f0, f1⟩ := BX2.out.get2
                              go_wp2
                              refine wp_region_heldL 6 (Q W2) (by kernel_rfl) ?szz20ab (fun hHeld => ?rzz20ab)
                              case szz20ab =>
                                exact (Q.refl W2).drew
                              case' rzz20ab => skip
                              generalize hgen : W2.drew = D0 at hHeld ⊢
                              clear hgen
                              refine wpAnyL_take (i := 0) (oi := ?ozz21ab) (v := ?vzz21ab) ?hzz21ab ?azz21ab ?bzz21ab ?czz21ab ?kzz21ab ?qzz21ab ?yzz21ab ?szz21ab ?rzz21ab
                              case hzz21ab => simp only [List.getElem?_toArray, List.getElem?_cons_zero]; rfl
                              case azz21ab => kernel_rfl
                              case bzz21ab => kernel_rfl
                              case czz21ab => kernel_rfl
                              case kzz21ab => kernel_rfl
                              case yzz21ab =>
                                refine Or.inl ⟨by rfl, ?_⟩
                                intro w hSw
                                have z0 := box_ hSw b0; have z1 := box_ hSw b1; clear hSw
                                go_simp
                                try with_reducible rfl
                              case qzz21ab => exact fun _ _ _ h => h
                              case szz21ab => first | assumption | trivial
                              case' rzz21ab => simp only [Act.put, List.setIfInBounds_toArray, List.set_cons_zero, List.set_cons_succ]
                              refine wpAnyL_ready (rs := [1]) (by kernel_rfl) (by simp) ?_
                              refine AllReadyL.cons (o := ?ozz29ab) ?hzz29ab (fun K hK => ?kzz29ab) ?mzz29ab
                              case hzz29ab => simp only [List.getElem?_toArray, List.getElem?_cons_zero, List.getElem?_cons_succ]; rfl
                              case kzz29ab =>
                                go_simp
                                refine (K1.out _).mono ?_
                                rintro e v1 ⟨rfl, q4⟩
                                go_wp2_with fail
                                refine hK.out _ _ ?Szz29ab (fun hHeld => ?Rzz29ab)
                                case Szz29ab =>
                                  exact hHeld.trans q4
                                case Rzz29ab =>
                                  clear hK K
                                  try simp only [Act.put, List.setIfInBounds_toArray, List.set_cons_zero, List.set_cons_succ]
                                  refine wpAnyL_ready (rs := [2]) (by kernel_rfl) (by simp) ?_
                                  refine AllReadyL.cons (o := ?ozz28ab) ?hzz28ab (fun K hK => ?kzz28ab) ?mzz28ab
                                  case hzz28ab => simp only [List.getElem?_toArray, List.getElem?_cons_zero, List.getElem?_cons_succ]; rfl
                                  case kzz28ab =>
                                    go_simp
                                    refine (A4.out A2 n2 c2 B2 m2 d2 _ (I12.out.1.q (hHeld.trans (Q.refl _))) (I12.out.2.q hHeld)).mono ?_
                                    rintro e v2 ⟨A3, n3, c3, B3, m3, d3, rfl, o3, o4, q5⟩
                                    have X4 := Lib.hid (And.intro o3 o4)
                                    go_wp2_with fail
                                    refine hK.out _ _ ?Szz28ab (fun hHeld => ?Rzz28ab)
                                    case Szz28ab =>
                                      exact hHeld.trans q5
                                    case Rzz28ab =>
                                      clear hK K
                                      try simp only [Act.put, List.setIfInBounds_toArray, List.set_cons_zero, List.set_cons_succ]
                                      refine wpAnyL_take (i := 3) (oi := ?ozz22ab) (v := ?vzz22ab) ?hzz22ab ?azz22ab ?bzz22ab ?czz22ab ?kzz22ab ?qzz22ab ?yzz22ab ?szz22ab ?rzz22ab
                                      case hzz22ab => simp only [List.getElem?_toArray, List.getElem?_cons_zero, List.getElem?_cons_succ]; rfl
                                      case azz22ab => kernel_rfl
                                      case bzz22ab => kernel_rfl
                                      case czz22ab => kernel_rfl
                                      case kzz22ab => kernel_rfl
                                      case yzz22ab =>
                                        refine Or.inl ⟨by rfl, ?_⟩
                                        intro w hSw
                                        have z0 := box_ hSw b0; have z1 := box_ hSw b1; clear hSw
                                        go_simp
                                        try with_reducible rfl
                                      case qzz22ab => exact fun _ _ _ h => h
                                      case szz22ab => first | assumption | trivial
                                      case' rzz22ab => simp only [Act.put, List.setIfInBounds_toArray, List.set_cons_zero, List.set_cons_succ]
                                      refine wpAnyL_take (i := 4) (oi := ?ozz23ab) (v := ?vzz23ab) ?hzz23ab ?azz23ab ?bzz23ab ?czz23ab ?kzz23ab ?qzz23ab ?yzz23ab ?szz23ab ?rzz23ab
                                      case hzz23ab => simp only [List.getElem?_toArray, List.getElem?_cons_zero, List.getElem?_cons_succ]; rfl
                                      case azz23ab => kernel_rfl
                                      case bzz23ab => kernel_rfl
                                      case czz23ab => kernel_rfl
                                      case kzz23ab => kernel_rfl
                                      case yzz23ab =>
                                        refine Or.inl ⟨by rfl, ?_⟩
                                        intro w hSw
                                        have z0 := box_ hSw b0; have z1 := box_ hSw b1; clear hSw
                                        go_simp
                                        try with_reducible rfl
                                      case qzz23ab => exact fun _ _ _ h => h
                                      case szz23ab => first | assumption | trivial
                                      case' rzz23ab => simp only [Act.put, List.setIfInBounds_toArray, List.set_cons_zero, List.set_cons_succ]
                                      refine wpAnyL_ready (rs := [5, 6]) (by kernel_rfl) (by simp) ?_
                                      refine AllReadyL.cons (o := ?ozz26ab) ?hzz26ab (fun K hK => ?kzz26ab) ?mzz26ab
                                      case hzz26ab => simp only [List.getElem?_toArray, List.getElem?_cons_zero, List.getElem?_cons_succ]; rfl
                                      case kzz26ab =>
                                        go_simp
                                        refine hK.out _ _ ?Szz26ab (fun hHeld => ?Rzz26ab)
                                        case Szz26ab =>
                                          exact hHeld
                                        case Rzz26ab =>
                                          clear hK K
                                          try simp only [Act.put, List.setIfInBounds_toArray, List.set_cons_zero, List.set_cons_succ]
                                          refine wpAnyL_ready (rs := [6]) (by kernel_rfl) (by simp) ?_
                                          refine AllReadyL.consK (o := ?ozz24ab) ?hzz24ab ?lzz24ab (fun K hK => ?kzz24ab) ?mzz24ab
                                          case hzz24ab => simp only [List.getElem?_toArray, List.getElem?_cons_zero, List.getElem?_cons_succ]; rfl
                                          case lzz24ab => kernel_rfl
                                          case kzz24ab =>
                                            have HZ := Lib.hid hHeld
                                            obtain ⟨⟨p0, p1⟩, p2, p3⟩ := (BX2.out.q hHeld).get2
                                            have hgv := BX2.out.lt
                                            go_simp
                                            refine hK.out _ _ ?Rzz24ab
                                            case Rzz24ab =>
                                              clear hK K
                                              try simp only [Act.put, List.setIfInBounds_toArray, List.set_cons_zero, List.set_cons_succ]
                                              refine wpAnyH_done (by kernel_rfl) ?_ _
                                              have Y0 := Lib.hid (((BX2.out.q HZ.out).get2).1)
                                              have BX3 := Lib.hid ((BX2.out.q HZ.out).set2 (.slice A3 n3 c3) (.slice B3 m3 d3))
                                              have Q33 := Lib.hid ((Q32.out.trans HZ.out).set2 (b := g) HG.out (.slice A3 n3 c3) (.slice B3 m3 d3))
                                              have Y1 : Hid ((v2.setCell ⟨g, 0, none⟩ (.slice A3 n3 c3)).cell? ⟨g, 1, none⟩ = some (.slice B2 m2 d2)) := Lib.hid (((BX2.out.q HZ.out).set (k := 0) (by simp) (.slice A3 n3 c3)) 1 _ rfl).1
                                              have I13 := Lib.hid (And.intro ((X4.out.1.odd oddH Y0.out.1 (.slice A3 n3 c3)).odd oddH Y1.out (.slice B3 m3 d3)) ((X4.out.2.odd oddC Y0.out.1 (.slice A3 n3 c3)).odd oddC Y1.out (.slice B3 m3 d3)))
                                              clear X4 HZ b0 b1 f0 f1 p0 p1 p2 p3 hgv o3 o4 Y0 Y1 BX2 I12 Q32
                                              go_upto_region 5 with (fail)
                                              generalize (v2.setCell ⟨g, 0, none⟩ (.slice A3 n3 c3)).setCell ⟨g, 1, none⟩ (.slice B3 m3 d3) = W3 at I13 BX3 Q33 ⊢
                                              obtain ⟨⟨b0, b1⟩, f0, f1⟩ := BX3.out.get2
                                              go_wp2_with fail
                                              refine (KR.out A3 n3 c3 B3 m3 d3 _ I13.out.1 I13.out.2).mono ?_
                                              rintro e w6 ⟨A6, c6, rfl, o6, q6⟩
                                              have O6 := Lib.hid o6
                                              have I6 := Lib.hid (And.intro (I13.out.1.q q6) (I13.out.2.q q6))
                                              have Q6 := Lib.hid (Q33.out.trans q6)
                                              have BX6 := Lib.hid (BX3.out.q q6)
                                              clear o6 q6 b0 b1 f0 f1
                                              obtain ⟨⟨b0, b1⟩, f0, f1⟩ := BX6.out.get2
                                              go_wp2_with fail
                                              refine (KV.out A3 n3 c3 B3 m3 d3 _ I6.out.1 I6.out.2).mono ?_
                                              rintro e w7 ⟨rfl, q7⟩
                                              have Q7 := Lib.hid (Q6.out.trans q7)
                                              obtain ⟨ad, hae, hab, y0⟩ := load_num (O6.out.lst.q q7) (k := 0) (by simp) (by simp)
                                              obtain ⟨ad2, hae2, hab2, y1⟩ := load_num (O6.out.lst.q q7) (k := 1) (by simp) (by simp)
                                              subst hae
                                              injection hae2 with hae2
                                              subst hae2
                                              simp only [List.getElem_cons_zero, List.getElem_cons_succ] at y0 y1
                                              have y0 : w7.cell? ad = some (.int .i64 1) := by simpa [Addr.add] using y0
                                              have y1 : w7.cell? ⟨ad.block, ad.off + 1, none⟩ = some (.int .i64 2) := by simpa [Addr.add] using y1
                                              clear b0 b1 f0 f1 O6 I6 BX6 q7
                                              simp only [List.length_cons, List.length_nil]
                                              go_wp2
                                              go_ret
                                              exact ⟨by first | rfl | (simp; done), Q7.out⟩
                                          case' mzz24ab => skip
                                          exact AllReadyL.nil
                                      case' mzz26ab => skip
                                      refine AllReadyL.consK (o := ?ozz27ab) ?hzz27ab ?lzz27ab (fun K hK => ?kzz27ab) ?mzz27ab
                                      case hzz27ab => simp only [List.getElem?_toArray, List.getElem?_cons_zero, List.getElem?_cons_succ]; rfl
                                      case lzz27ab => kernel_rfl
                                      case kzz27ab =>
                                        have HZ := Lib.hid hHeld
                                        obtain ⟨⟨p0, p1⟩, p2, p3⟩ := (BX2.out.q hHeld).get2
                                        have hgv := BX2.out.lt
                                        go_simp
                                        refine hK.out _ _ ?Rzz27ab
                                        case Rzz27ab =>
                                          clear hK K
                                          try simp only [Act.put, List.setIfInBounds_toArray, List.set_cons_zero, List.set_cons_succ]
                                          refine wpAnyH_take (i := 5) (oi := ?ozz25ab) (v := ?vzz25ab) ?hzz25ab ?azz25ab ?bzz25ab ?czz25ab ?qzz25ab ?yzz25ab ?szz25ab ?rzz25ab
                                          case hzz25ab => simp only [List.getElem?_toArray, List.getElem?_cons_zero, List.getElem?_cons_succ]; rfl
                                          case azz25ab => kernel_rfl
                                          case bzz25ab => kernel_rfl
                                          case czz25ab => kernel_rfl
                                          case yzz25ab =>
                                            refine Or.inl ⟨by rfl, ?_⟩
                                            intro w hSw
                                            skip
                                            go_simp
                                            try with_reducible rfl
                                          case qzz25ab => exact fun _ _ _ h => h
                                          case szz25ab => first | assumption | trivial
                                          case' rzz25ab => simp only [Act.put, List.setIfInBounds_toArray, List.set_cons_zero, List.set_cons_succ]
                                          refine wpAnyH_done (by kernel_rfl) ?_ _
                                          have Y0 := Lib.hid (((BX2.out.q HZ.out).get2).1)
                                          have BX3 := Lib.hid ((BX2.out.q HZ.out).set2 (.slice A3 n3 c3) (.slice B3 m3 d3))
                                          have Q33 := Lib.hid ((Q32.out.trans HZ.out).set2 (b := g) HG.out (.slice A3 n3 c3) (.slice B3 m3 d3))
                                          have Y1 : Hid ((v2.setCell ⟨g, 0, none⟩ (.slice A3 n3 c3)).cell? ⟨g, 1, none⟩ = some (.slice B2 m2 d2)) := Lib.hid (((BX2.out.q HZ.out).set (k := 0) (by simp) (.slice A3 n3 c3)) 1 _ rfl).1
                                          have I13 := Lib.hid (And.intro ((X4.out.1.odd oddH Y0.out.1 (.slice A3 n3 c3)).odd oddH Y1.out (.slice B3 m3 d3)) ((X4.out.2.odd oddC Y0.out.1 (.slice A3 n3 c3)).odd oddC Y1.out (.slice B3 m3 d3)))
                                          clear X4 HZ b0 b1 f0 f1 p0 p1 p2 p3 hgv o3 o4 Y0 Y1 BX2 I12 Q32
                                          go_upto_region 5 with (fail)
                                          generalize (v2.setCell ⟨g, 0, none⟩ (.slice A3 n3 c3)).setCell ⟨g, 1, none⟩ (.slice B3 m3 d3) = W3 at I13 BX3 Q33 ⊢
                                          obtain ⟨⟨b0, b1⟩, f0, f1⟩ := BX3.out.get2
                                          go_wp2_with fail
                                          refine (KR.out A3 n3 c3 B3 m3 d3 _ I13.out.1 I13.out.2).mono ?_
                                          rintro e w6 ⟨A6, c6, rfl, o6, q6⟩
                                          have O6 := Lib.hid o6
                                          have I6 := Lib.hid (And.intro (I13.out.1.q q6) (I13.out.2.q q6))
                                          have Q6 := Lib.hid (Q33.out.trans q6)
                                          have BX6 := Lib.hid (BX3.out.q q6)
                                          clear o6 q6 b0 b1 f0 f1
                                          obtain ⟨⟨b0, b1⟩, f0, f1⟩ := BX6.out.get2
                                          go_wp2_with fail
                                          refine (KV.out A3 n3 c3 B3 m3 d3 _ I6.out.1 I6.out.2).mono ?_
                                          rintro e w7 ⟨rfl, q7⟩
                                          have Q7 := Lib.hid (Q6.out.trans q7)
                                          obtain ⟨ad, hae, hab, y0⟩ := load_num (O6.out.lst.q q7) (k := 0) (by simp) (by simp)
                                          obtain ⟨ad2, hae2, hab2, y1⟩ := load_num (O6.out.lst.q q7) (k := 1) (by simp) (by simp)
                                          subst hae
                                          injection hae2 with hae2
                                          subst hae2
                                          simp only [List.getElem_cons_zero, List.getElem_cons_succ] at y0 y1
                                          have y0 : w7.cell? ad = some (.int .i64 1) := by simpa [Addr.add] using y0
                                          have y1 : w7.cell? ⟨ad.block, ad.off + 1, none⟩ = some (.int .i64 2) := by simpa [Addr.add] using y1
                                          clear b0 b1 f0 f1 O6 I6 BX6 q7
                                          simp only [List.length_cons, List.length_nil]
                                          go_wp2
                                          go_ret
                                          exact ⟨by first | rfl | (simp; done), Q7.out⟩
                                      case' mzz27ab => skip
                                      exact AllReadyL.nil
                                  case' mzz28ab => skip
                                  exact AllReadyL.nil
                              case' mzz29ab => skip
                              exact AllReadyL.nil
                          case' mzz14b => skip
                          exact AllReadyL.nil
                      case' mzz16b => skip
                      refine AllReadyL.consK (o := ?ozz17b) ?hzz17b ?lzz17b (fun K hK => ?kzz17b) ?mzz17b
                      case hzz17b => simp only [List.getElem?_toArray, List.getElem?_cons_zero, List.getElem?_cons_succ]; rfl
                      case lzz17b => kernel_rfl
                      case kzz17b =>
                        have HZ := Lib.hid hHeld
                        obtain ⟨⟨p0, p1⟩, p2, p3⟩ := (BX1.out.q hHeld).get2
                        have hgv := BX1.out.lt
                        go_simp
                        refine hK.out _ _ ?Rzz17b
                        case Rzz17b =>
                          clear hK K
                          try simp only [Act.put, List.setIfInBounds_toArray, List.set_cons_zero, List.set_cons_succ]
                          refine wpAnyH_take (i := 5) (oi := ?ozz15b) (v := ?vzz15b) ?hzz15b ?azz15b ?bzz15b ?czz15b ?qzz15b ?yzz15b ?szz15b ?rzz15b
                          case hzz15b => simp only [List.getElem?_toArray, List.getElem?_cons_zero, List.getElem?_cons_succ]; rfl
                          case azz15b => kernel_rfl
                          case bzz15b => kernel_rfl
                          case czz15b => kernel_rfl
                          case yzz15b =>
                            refine Or.inl ⟨by rfl, ?_⟩
                            intro w hSw
                            skip
                            go_simp
                            try with_reducible rfl
                          case qzz15b => exact fun _ _ _ h => h
                          case szz15b => first | assumption | trivial
                          case' rzz15b => simp only [Act.put, List.setIfInBounds_toArray, List.set_cons_zero, List.set_cons_succ]
                          refine wpAnyH_done (by kernel_rfl) ?_ _
                          have Y0 := Lib.hid (((BX1.out.q HZ.out).get2).1)
                          have BX2 := Lib.hid ((BX1.out.q HZ.out).set2 (.slice A2 n2 c2) (.slice B2 m2 d2))
                          have Q32 := Lib.hid ((Q31.out.trans HZ.out).set2 (b := g) HG.out (.slice A2 n2 c2) (.slice B2 m2 d2))
                          have Y1 : Hid ((v2.setCell ⟨g, 0, none⟩ (.slice A2 n2 c2)).cell? ⟨g, 1, none⟩ = some (.slice B1 m1 d1)) := Lib.hid (((BX1.out.q HZ.out).set (k := 0) (by simp) (.slice A2 n2 c2)) 1 _ rfl).1
                          have I12 := Lib.hid (And.intro ((X4.out.1.odd oddH Y0.out.1 (.slice A2 n2 c2)).odd oddH Y1.out (.slice B2 m2 d2)) ((X4.out.2.odd oddC Y0.out.1 (.slice A2 n2 c2)).odd oddC Y1.out (.slice B2 m2 d2)))
                          clear X4 HZ b0 b1 f0 f1 p0 p1 p2 p3 hgv o3 o4 Y0 Y1 BX1 I11 Q31
                          go_upto_region 4 with (fail)
                          generalize (v2.setCell ⟨g, 0, none⟩ (.slice A2 n2 c2)).setCell ⟨g, 1, none⟩ (.slice B2 m2 d2) = W2 at I12 BX2 Q32 ⊢
                          obtain ⟨⟨b0, b1⟩, f0, f1⟩ := BX2.out.get2
                          go_wp2
                          refine wp_region_heldL 6 (Q W2) (by kernel_rfl) ?szz20bb (fun hHeld => ?rzz20bb)
                          case szz20bb =>
                            exact (Q.refl W2).drew
                          case' rzz20bb => skip
                          generalize hgen : W2.drew = D0 at hHeld ⊢
                          clear hgen
                          refine wpAnyL_take (i := 0) (oi := ?ozz21bb) (v := ?vzz21bb) ?hzz21bb ?azz21bb ?bzz21bb ?czz21bb ?kzz21bb ?qzz21bb ?yzz21bb ?szz21bb ?rzz21bb
                          case hzz21bb => simp only [List.getElem?_toArray, List.getElem?_cons_zero]; rfl
                          case azz21bb => kernel_rfl
                          case bzz21bb => kernel_rfl
                          case czz21bb => kernel_rfl
                          case kzz21bb => kernel_rfl
                          case yzz21bb =>
                            refine Or.inl ⟨by rfl, ?_⟩
                            intro w hSw
                            have z0 := box_ hSw b0; have z1 := box_ hSw b1; clear hSw
                            go_simp
                            try with_reducible rfl
                          case qzz21bb => exact fun _ _ _ h => h
                          case szz21bb => first | assumption | trivial
                          case' rzz21bb => simp only [Act.put, List.setIfInBounds_toArray, List.set_cons_zero, List.set_cons_succ]
                          refine wpAnyL_ready (rs := [1]) (by kernel_rfl) (by simp) ?_
                          refine AllReadyL.cons (o := ?ozz29bb) ?hzz29bb (fun K hK => ?kzz29bb) ?mzz29bb
                          case hzz29bb => simp only [List.getElem?_toArray, List.getElem?_cons_zero, List.getElem?_cons_succ]; rfl
                          case kzz29bb =>
                            go_simp
                            refine (K1.out _).mono ?_
                            rintro e v1 ⟨rfl, q4⟩
                            go_wp2_with fail
                            refine hK.out _ _ ?Szz29bb (fun hHeld => ?Rzz29bb)
                            case Szz29bb =>
                              exact hHeld.trans q4
                            case Rzz29bb =>
                              clear hK K
                              try simp only [Act.put, List.setIfInBounds_toArray, List.set_cons_zero, List.set_cons_succ]
                              refine wpAnyL_ready (rs := [2]) (by kernel_rfl) (by simp) ?_
                              refine AllReadyL.cons (o := ?ozz28bb) ?hzz28bb (fun K hK => ?kzz28bb) ?mzz28bb
                              case hzz28bb => simp only [List.getElem?_toArray, List.getElem?_cons_zero, List.getElem?_cons_succ]; rfl
                              case kzz28bb =>
                                go_simp
                                refine (A4.out A2 n2 c2 B2 m2 d2 _ (I12.out.1.q (hHeld.trans (Q.refl _))) (I12.out.2.q hHeld)).mono ?_
                                rintro e v2 ⟨A3, n3, c3, B3, m3, d3, rfl, o3, o4, q5⟩
                                have X4 := Lib.hid (And.intro o3 o4)
                                go_wp2_with fail
                                refine hK.out _ _ ?Szz28bb (fun hHeld => ?Rzz28bb)
                                case Szz28bb =>
                                  exact hHeld.trans q5
                                case Rzz28bb =>
                                  clear hK K
                                  try simp only [Act.put, List.setIfInBounds_toArray, List.set_cons_zero, List.set_cons_succ]
                                  refine wpAnyL_take (i := 3) (oi := ?ozz22bb) (v := ?vzz22bb) ?hzz22bb ?azz22bb ?bzz22bb ?czz22bb ?kzz22bb ?qzz22bb ?yzz22bb ?szz22bb ?rzz22bb
                                  case hzz22bb => simp only [List.getElem?_toArray, List.getElem?_cons_zero, List.getElem?_cons_succ]; rfl
                                  case azz22bb => kernel_rfl
                                  case bzz22bb => kernel_rfl
                                  case czz22bb => kernel_rfl
                                  case kzz22bb => kernel_rfl
                                  case yzz22bb =>
                                    refine Or.inl ⟨by rfl, ?_⟩
                                    intro w hSw
                                    have z0 := box_ hSw b0; have z1 := box_ hSw b1; clear hSw
                                    go_simp
                                    try with_reducible rfl
                                  case qzz22bb => exact fun _ _ _ h => h
                                  case szz22bb => first | assumption | trivial
                                  case' rzz22bb => simp only [Act.put, List.setIfInBounds_toArray, List.set_cons_zero, List.set_cons_succ]
                                  refine wpAnyL_take (i := 4) (oi := ?ozz23bb) (v := ?vzz23bb) ?hzz23bb ?azz23bb ?bzz23bb ?czz23bb ?kzz23bb ?qzz23bb ?yzz23bb ?szz23bb ?rzz23bb
                                  case hzz23bb => simp only [List.getElem?_toArray, List.getElem?_cons_zero, List.getElem?_cons_succ]; rfl
                                  case azz23bb => kernel_rfl
                                  case bzz23bb => kernel_rfl
                                  case czz23bb => kernel_rfl
                                  case kzz23bb => kernel_rfl
                                  case yzz23bb =>
                                    refine Or.inl ⟨by rfl, ?_⟩
                                    intro w hSw
                                    have z0 := box_ hSw b0; have z1 := box_ hSw b1; clear hSw
                                    go_simp
                                    try with_reducible rfl
                                  case qzz23bb => exact fun _ _ _ h => h
                                  case szz23bb => first | assumption | trivial
                                  case' rzz23bb => simp only [Act.put, List.setIfInBounds_toArray, List.set_cons_zero, List.set_cons_succ]
                                  refine wpAnyL_ready (rs := [5, 6]) (by kernel_rfl) (by simp) ?_
                                  refine AllReadyL.cons (o := ?ozz26bb) ?hzz26bb (fun K hK => ?kzz26bb) ?mzz26bb
                                  case hzz26bb => simp only [List.getElem?_toArray, List.getElem?_cons_zero, List.getElem?_cons_succ]; rfl
                                  case kzz26bb =>
                                    go_simp
                                    refine hK.out _ _ ?Szz26bb (fun hHeld => ?Rzz26bb)
                                    case Szz26bb =>
                                      exact hHeld
                                    case Rzz26bb =>
                                      clear hK K
                                      try simp only [Act.put, List.setIfInBounds_toArray, List.set_cons_zero, List.set_cons_succ]
                                      refine wpAnyL_ready (rs := [6]) (by kernel_rfl) (by simp) ?_
                                      refine AllReadyL.consK (o := ?ozz24bb) ?hzz24bb ?lzz24bb (fun K hK => ?kzz24bb) ?mzz24bb
                                      case hzz24bb => simp only [List.getElem?_toArray, List.getElem?_cons_zero, List.getElem?_cons_succ]; rfl
                                      case lzz24bb => kernel_rfl
                                      case kzz24bb =>
                                        have HZ := Lib.hid hHeld
                                        obtain ⟨⟨p0, p1⟩, p2, p3⟩ := (BX2.out.q hHeld).get2
                                        have hgv := BX2.out.lt
                                        go_simp
                                        refine hK.out _ _ ?Rzz24bb
                                        case Rzz24bb =>
                                          clear hK K
                                          try simp only [Act.put, List.setIfInBounds_toArray, List.set_cons_zero, List.set_cons_succ]
                                          refine wpAnyH_done (by kernel_rfl) ?_ _
                                          have Y0 := Lib.hid (((BX2.out.q HZ.out).get2).1)
                                          have BX3 := Lib.hid ((BX2.out.q HZ.out).set2 (.slice A3 n3 c3) (.slice B3 m3 d3))
                                          have Q33 := Lib.hid ((Q32.out.trans HZ.out).set2 (b := g) HG.out (.slice A3 n3 c3) (.slice B3 m3 d3))
                                          have Y1 : Hid ((v2.setCell ⟨g, 0, none⟩ (.slice A3 n3 c3)).cell? ⟨g, 1, none⟩ = some (.slice B2 m2 d2)) := Lib.hid (((BX2.out.q HZ.out).set (k := 0) (by simp) (.slice A3 n3 c3)) 1 _ rfl).1
                                          have I13 := Lib.hid (And.intro ((X4.out.1.odd oddH Y0.out.1 (.slice A3 n3 c3)).odd oddH Y1.out (.slice B3 m3 d3)) ((X4.out.2.odd oddC Y0.out.1 (.slice A3 n3 c3)).odd oddC Y1.out (.slice B3 m3 d3)))
                                          clear X4 HZ b0 b1 f0 f1 p0 p1 p2 p3 hgv o3 o4 Y0 Y1 BX2 I12 Q32
                                          go_upto_region 5 with (fail)
                                          generalize (v2.setCell ⟨g, 0, none⟩ (.slice A3 n3 c3)).setCell ⟨g, 1, none⟩ (.slice B3 m3 d3) = W3 at I13 BX3 Q33 ⊢
                                          obtain ⟨⟨b0, b1⟩, f0, f1⟩ := BX3.out.get2
                                          go_wp2_with fail
                                          refine (KR.out A3 n3 c3 B3 m3 d3 _ I13.out.1 I13.out.2).mono ?_
                                          rintro e w6 ⟨A6, c6, rfl, o6, q6⟩
                                          have O6 := Lib.hid o6
                                          have I6 := Lib.hid (And.intro (I13.out.1.q q6) (I13.out.2.q q6))
                                          have Q6 := Lib.hid (Q33.out.trans q6)
                                          have BX6 := Lib.hid (BX3.out.q q6)
                                          clear o6 q6 b0 b1 f0 f1
                                          obtain ⟨⟨b0, b1⟩, f0, f1⟩ := BX6.out.get2
                                          go_wp2_with fail
                                          refine (KV.out A3 n3 c3 B3 m3 d3 _ I6.out.1 I6.out.2).mono ?_
                                          rintro e w7 ⟨rfl, q7⟩
                                          have Q7 := Lib.hid (Q6.out.trans q7)
                                          obtain ⟨ad, hae, hab, y0⟩ := load_num (O6.out.lst.q q7) (k := 0) (by simp) (by simp)
                                          obtain ⟨ad2, hae2, hab2, y1⟩ := load_num (O6.out.lst.q q7) (k := 1) (by simp) (by simp)
                                          subst hae
                                          injection hae2 with hae2
                                          subst hae2
                                          simp only [List.getElem_cons_zero, List.getElem_cons_succ] at y0 y1
                                          have y0 : w7.cell? ad = some (.int .i64 1) := by simpa [Addr.add] using y0
                                          have y1 : w7.cell? ⟨ad.block, ad.off + 1, none⟩ = some (.int .i64 2) := by simpa [Addr.add] using y1
                                          clear b0 b1 f0 f1 O6 I6 BX6 q7
                                          simp only [List.length_cons, List.length_nil]
                                          go_wp2
                                          go_ret
                                          exact ⟨by first | rfl | (simp; done), Q7.out⟩
                                      case' mzz24bb => skip
                                      exact AllReadyL.nil
                                  case' mzz26bb => skip
                                  refine AllReadyL.consK (o := ?ozz27bb) ?hzz27bb ?lzz27bb (fun K hK => ?kzz27bb) ?mzz27bb
                                  case hzz27bb => simp only [List.getElem?_toArray, List.getElem?_cons_zero, List.getElem?_cons_succ]; rfl
                                  case lzz27bb => kernel_rfl
                                  case kzz27bb =>
                                    have HZ := Lib.hid hHeld
                                    obtain ⟨⟨p0, p1⟩, p2, p3⟩ := (BX2.out.q hHeld).get2
                                    have hgv := BX2.out.lt
                                    go_simp
                                    refine hK.out _ _ ?Rzz27bb
                                    case Rzz27bb =>
                                      clear hK K
                                      try simp only [Act.put, List.setIfInBounds_toArray, List.set_cons_zero, List.set_cons_succ]
                                      refine wpAnyH_take (i := 5) (oi := ?ozz25bb) (v := ?vzz25bb) ?hzz25bb ?azz25bb ?bzz25bb ?czz25bb ?qzz25bb ?yzz25bb ?szz25bb ?rzz25bb
                                      case hzz25bb => simp only [List.getElem?_toArray, List.getElem?_cons_zero, List.getElem?_cons_succ]; rfl
                                      case azz25bb => kernel_rfl
                                      case bzz25bb => kernel_rfl
                                      case czz25bb => kernel_rfl
                                      case yzz25bb =>
                                        refine Or.inl ⟨by rfl, ?_⟩
                                        intro w hSw
                                        skip
                                        go_simp
                                        try with_reducible rfl
                                      case qzz25bb => exact fun _ _ _ h => h
                                      case szz25bb => first | assumption | trivial
                                      case' rzz25bb => simp only [Act.put, List.setIfInBounds_toArray, List.set_cons_zero, List.set_cons_succ]
                                      refine wpAnyH_done (by kernel_rfl) ?_ _
                                      have Y0 := Lib.hid (((BX2.out.q HZ.out).get2).1)
                                      have BX3 := Lib.hid ((BX2.out.q HZ.out).set2 (.slice A3 n3 c3) (.slice B3 m3 d3))
                                      have Q33 := Lib.hid ((Q32.out.trans HZ.out).set2 (b := g) HG.out (.slice A3 n3 c3) (.slice B3 m3 d3))
                                      have Y1 : Hid ((v2.setCell ⟨g, 0, none⟩ (.slice A3 n3 c3)).cell? ⟨g, 1, none⟩ = some (.slice B2 m2 d2)) := Lib.hid (((BX2.out.q HZ.out).set (k := 0) (by simp) (.slice A3 n3 c3)) 1 _ rfl).1
                                      have I13 := Lib.hid (And.intro ((X4.out.1.odd oddH Y0.out.1 (.slice A3 n3 c3)).odd oddH Y1.out (.slice B3 m3 d3)) ((X4.out.2.odd oddC Y0.out.1 (.slice A3 n3 c3)).odd oddC Y1.out (.slice B3 m3 d3)))
                                      clear X4 HZ b0 b1 f0 f1 p0 p1 p2 p3 hgv o3 o4 Y0 Y1 BX2 I12 Q32
                                      go_upto_region 5 with (fail)
                                      generalize (v2.setCell ⟨g, 0, none⟩ (.slice A3 n3 c3)).setCell ⟨g, 1, none⟩ (.slice B3 m3 d3) = W3 at I13 BX3 Q33 ⊢
                                      obtain ⟨⟨b0, b1⟩, f0, f1⟩ := BX3.out.get2
                                      go_wp2_with fail
                                      refine (KR.out A3 n3 c3 B3 m3 d3 _ I13.out.1 I13.out.2).mono ?_
                                      rintro e w6 ⟨A6, c6, rfl, o6, q6⟩
                                      have O6 := Lib.hid o6
                                      have I6 := Lib.hid (And.intro (I13.out.1.q q6) (I13.out.2.q q6))
                                      have Q6 := Lib.hid (Q33.out.trans q6)
                                      have BX6 := Lib.hid (BX3.out.q q6)
                                      clear o6 q6 b0 b1 f0 f1
                                      obtain ⟨⟨b0, b1⟩, f0, f1⟩ := BX6.out.get2
                                      go_wp2_with fail
                                      refine (KV.out A3 n3 c3 B3 m3 d3 _ I6.out.1 I6.out.2).mono ?_
                                      rintro e w7 ⟨rfl, q7⟩
                                      have Q7 := Lib.hid (Q6.out.trans q7)
                                      obtain ⟨ad, hae, hab, y0⟩ := load_num (O6.out.lst.q q7) (k := 0) (by simp) (by simp)
                                      obtain ⟨ad2, hae2, hab2, y1⟩ := load_num (O6.out.lst.q q7) (k := 1) (by simp) (by simp)
                                      subst hae
                                      injection hae2 with hae2
                                      subst hae2
                                      simp only [List.getElem_cons_zero, List.getElem_cons_succ] at y0 y1
                                      have y0 : w7.cell? ad = some (.int .i64 1) := by simpa [Addr.add] using y0
                                      have y1 : w7.cell? ⟨ad.block, ad.off + 1, none⟩ = some (.int .i64 2) := by simpa [Addr.add] using y1
                                      clear b0 b1 f0 f1 O6 I6 BX6 q7
                                      simp only [List.length_cons, List.length_nil]
                                      go_wp2
                                      go_ret
                                      exact ⟨by first | rfl | (simp; done), Q7.out⟩
                                  case' mzz27bb => skip
                                  exact AllReadyL.nil
                              case' mzz28bb => skip
                              exact AllReadyL.nil
                          case' mzz29bb => skip
                          exact AllReadyL.nil
                      case' mzz17b => skip
                      exact AllReadyL.nil
                  case' mzz18b => skip
                  exact AllReadyL.nil
              case' mzz19b => skip
              exact AllReadyL.nil
          case' mzz7 => skip
          exact AllReadyL.nil
      case' mzz8 => skip
      exact AllReadyL.nil
  case' mzz9 => skip
  exact AllReadyL.nil

theorem rgsmall_any (A B : Option Addr) (n c m d : Nat) (w : World) :
    Calls Try.prog 9 #[locV A n c B m d] w fun e w' => e = .returned (.bool (decide (n ≤ 30) && decide (m ≤ 12))) ∧ Q w w' := by
  have B1 := Lib.hid (Bx.new w [.slice A n c, .slice B m d] 25)
  by_cases h1 : n ≤ 30
  all_goals
    by_cases h2 : m ≤ 12
    all_goals
      have i1 : decide (n ≤ 30) = decide ((n : Int) ≤ 30) := by by_cases h : n ≤ 30 <;> simp [h] <;> omega
      have i2 : decide (m ≤ 12) = decide ((m : Int) ≤ 12) := by by_cases h : m ≤ 12 <;> simp [h] <;> omega
      go_enter Try.func9, Try.ntmps9
      go_wp2
      go_ret
      exact ⟨by simp [h1, h2] <;> omega, (Q.refl w).alloc _⟩
theorem rgmany {n m : Nat} (h : ¬ (n ≤ 30 ∧ m ≤ 12)) : (decide (n ≤ 30) && decide (m ≤ 12)) = false := by
  by_cases h1 : n ≤ 30 <;> by_cases h2 : m ≤ 12 <;> simp [h1, h2]
  exact h ⟨h1, h2⟩
theorem rgfew {n m : Nat} (h : n ≤ 30 ∧ m ≤ 12) : (decide (n ≤ 30) && decide (m ≤ 12)) = true := by simp [h.1, h.2]
end Go.Proofs.Ytncnfblnelkmbaa
