/- The examples of chapter 10, at the head of each law; and whether locks are few. -/
import Derived.Test.YtenemdpjhoebpaaLockRefFree
import Derived.Test.YtenemdpjhoebpaaLockIn
namespace Go.Proofs.Ytenemdpjhoebpaa
set_option maxRecDepth 100000
open Go.RowKit Prm Lm Sm
set_option linter.unusedVariables false
set_option linter.unusedSimpArgs false

theorem shown_a1 : Lm.ask ⟨[], []⟩ 1 (key 2 ⟨#[97]⟩) 9 = (⟨[⟨1, key 2 ⟨#[97]⟩⟩], []⟩, 0) := by decide
theorem shown_a2 : Lm.ask ⟨[⟨1, key 2 ⟨#[97]⟩⟩], []⟩ 2 (key 1 ⟨#[97]⟩) 9 = (⟨[⟨1, key 2 ⟨#[97]⟩⟩], [⟨2, key 1 ⟨#[97]⟩, 9⟩]⟩, 12) := by decide
theorem shown_a3 : (Lm.free ⟨[⟨1, key 2 ⟨#[97]⟩⟩], [⟨2, key 1 ⟨#[97]⟩, 9⟩]⟩ 1).2 = [2] := by decide
theorem few_in {A B : Option Addr} {n c m d : Nat} {l : Lo} {w : World} {b1 b2 : Nat} (h1 : OwnK holdK w b1 A n c l.held) (h2 : OwnK claimK w b2 B m d l.queue) (hn : n ≤ 1000) (hm : m ≤ 1000) : In_ holdK w A n c l.held ∧ In_ claimK w B m d l.queue :=
  ⟨h1.in_ (by show n * 48 ≤ _; omega), h2.in_ (by show m * 56 ≤ _; omega)⟩

set_option maxHeartbeats 4000000 in
theorem lshown_any (w : World) : Calls Try.prog 10 #[] w fun e w' => e = .returned (.bool true) ∧ Q w w' := by
  have K1 := Lib.hid (fun W => rkey_any 2 ⟨#[97]⟩ W (by simp [ByteArray.size]))
  have K2 := Lib.hid (fun W => rkey_any 1 ⟨#[97]⟩ W (by simp [ByteArray.size]))
  have A1 := Lib.hid (fun W => shown_a1 ▸ lask_any none none 0 0 0 0 ⟨[], []⟩ 1 (key 2 ⟨#[97]⟩) 9 W (In_.none_ _ _) (In_.none_ _ _) ⟨by omega, by omega, fun h hh => (by cases hh), fun h hh => (by cases hh)⟩)
  have A2 := Lib.hid (fun A n c B m d W (h1 : In_ holdK W A n c [⟨1, key 2 ⟨#[97]⟩⟩]) (h2 : In_ claimK W B m d []) => shown_a2 ▸ lask_any A B n c m d ⟨[⟨1, key 2 ⟨#[97]⟩⟩], []⟩ 2 (key 1 ⟨#[97]⟩) 9 W h1 h2 ⟨by have := h1.len; simp at this; omega, by have := h2.len; simp at this; omega, fun h hh => (by simp at hh; subst hh; decide), fun h hh => (by cases hh)⟩)
  have A3 := Lib.hid (fun A n c B m d W (h1 : In_ holdK W A n c [⟨1, key 2 ⟨#[97]⟩⟩]) (h2 : In_ claimK W B m d [⟨2, key 1 ⟨#[97]⟩, 9⟩]) => lfree_any A B n c m d ⟨[⟨1, key 2 ⟨#[97]⟩⟩], [⟨2, key 1 ⟨#[97]⟩, 9⟩]⟩ 1 W h1 h2 ⟨fun h hh => (by simp at hh; subst hh; decide), fun h hh => (by simp at hh; subst hh; decide)⟩ (by have := h1.len; have := h2.len; simp at *; omega))
  have HT := Lib.hid shown_a3
  generalize Lm.free ⟨[⟨1, key 2 ⟨#[97]⟩⟩], [⟨2, key 1 ⟨#[97]⟩, 9⟩]⟩ 1 = fr at A3 HT
  generalize hk2 : key 2 ⟨#[97]⟩ = k2 at *
  generalize hk1 : key 1 ⟨#[97]⟩ = k1 at *
  clear hk1 hk2
  unfold wnV at *
  go_enter Try.func10, Try.ntmps10
  go_wp2_with fail
  refine (K1.out _).mono ?_
  rintro e w1 ⟨rfl, q1⟩
  have Q1 := Lib.hid q1
  clear q1
  go_wp2_with fail
  refine (A1.out _).mono ?_
  rintro e w2 ⟨A, n, c, B, m, d, rfl, o1, o2, q2⟩
  have n1 : n = 1 := by have := o1.len; simpa using this.symm
  have m0 : m = 0 := by have := o2.len; simpa using this.symm
  subst n1 m0
  have I1 := Lib.hid (few_in (l := ⟨[⟨1, k2⟩], []⟩) o1 o2 (by omega) (by omega))
  have Q2 := Lib.hid (Q1.out.trans q2)
  clear o1 o2 q2
  go_upto_region 2 with (fail)
  have BX := Lib.hid (Bx.new w2 [.slice A 1 c, .slice B 0 d] 25)
  have qa := (Q.refl w2).alloc (.cells #[.slice A 1 c, .slice B 0 d] 25)
  have I2 := Lib.hid (And.intro (I1.out.1.q qa) (I1.out.2.q qa))
  have Q3 := Lib.hid (Q2.out.trans qa)
  have BX : Hid (Bx (w2.alloc (.cells #[.slice A 1 c, .slice B 0 d] 25)) w2.heap.size [.slice A 1 c, .slice B 0 d]) := BX
  clear qa
  generalize w2.alloc (.cells #[.slice A 1 c, .slice B 0 d] 25) = W at BX I2 Q3 ⊢
  generalize hg : w2.heap.size = g at BX ⊢
  have HG := Lib.hid (show w.heap.size ≤ g by rw [← hg]; exact Q2.out.size)
  clear hg
  obtain ⟨⟨b0, b1⟩, f0, f1⟩ := BX.out.get2
  go_wp2
  refine wp_region_heldL 6 (Q W) (by kernel_rfl) ?szz0 (fun hHeld => ?rzz0)
  case szz0 =>
    exact (Q.refl W).drew
  case' rzz0 => skip
  generalize hgen : W.drew = D0 at hHeld ⊢
  clear hgen
  refine wpAnyL_take (i := 0) (oi := ?ozz1) (v := ?vzz1) ?hzz1 ?azz1 ?bzz1 ?czz1 ?kzz1 ?qzz1 ?yzz1 ?szz1 ?rzz1
  case hzz1 => simp only [List.getElem?_toArray, List.getElem?_cons_zero]; rfl
  case azz1 => kernel_rfl
  case bzz1 => kernel_rfl
  case czz1 => kernel_rfl
  case kzz1 => kernel_rfl
  case yzz1 =>
    refine Or.inl ⟨by rfl, ?_⟩
    intro w hSw
    have z0 := box_ hSw b0; have z1 := box_ hSw b1; clear hSw
    go_simp
    try with_reducible rfl
  case qzz1 => exact fun _ _ _ h => h
  case szz1 => first | assumption | trivial
  case' rzz1 => simp only [Act.put, List.setIfInBounds_toArray, List.set_cons_zero, List.set_cons_succ]
  refine wpAnyL_ready (rs := [1]) (by kernel_rfl) (by simp) ?_
  refine AllReadyL.cons (o := ?ozz11) ?hzz11 (fun K hK => ?kzz11) ?mzz11
  case hzz11 => simp only [List.getElem?_toArray, List.getElem?_cons_zero, List.getElem?_cons_succ]; rfl
  case kzz11 =>
    go_simp
    refine (K2.out _).mono ?_
    rintro e v1 ⟨rfl, q4⟩
    have Qv := Lib.hid (hHeld.trans q4)
    go_wp2_with fail
    refine hK.out _ _ ?Szz11 (fun hHeld => ?Rzz11)
    case Szz11 =>
      exact hHeld.trans q4
    case Rzz11 =>
      clear hK K
      try simp only [Act.put, List.setIfInBounds_toArray, List.set_cons_zero, List.set_cons_succ]
      refine wpAnyL_ready (rs := [2]) (by kernel_rfl) (by simp) ?_
      refine AllReadyL.cons (o := ?ozz10) ?hzz10 (fun K hK => ?kzz10) ?mzz10
      case hzz10 => simp only [List.getElem?_toArray, List.getElem?_cons_zero, List.getElem?_cons_succ]; rfl
      case kzz10 =>
        go_simp
        refine (A2.out A 1 c B 0 d _ (I2.out.1.q (hHeld.trans (Q.refl _))) (I2.out.2.q hHeld)).mono ?_
        rintro e v2 ⟨A4, n4, c4, B4, m4, d4, rfl, o3, o4, q5⟩
        go_wp2_with fail
        refine hK.out _ _ ?Szz10 (fun hHeld => ?Rzz10)
        case Szz10 =>
          exact hHeld.trans q5
        case Rzz10 =>
          clear hK K
          try simp only [Act.put, List.setIfInBounds_toArray, List.set_cons_zero, List.set_cons_succ]
          refine wpAnyL_take (i := 3) (oi := ?ozz2) (v := ?vzz2) ?hzz2 ?azz2 ?bzz2 ?czz2 ?kzz2 ?qzz2 ?yzz2 ?szz2 ?rzz2
          case hzz2 => simp only [List.getElem?_toArray, List.getElem?_cons_zero, List.getElem?_cons_succ]; rfl
          case azz2 => kernel_rfl
          case bzz2 => kernel_rfl
          case czz2 => kernel_rfl
          case kzz2 => kernel_rfl
          case yzz2 =>
            refine Or.inl ⟨by rfl, ?_⟩
            intro w hSw
            have z0 := box_ hSw b0; have z1 := box_ hSw b1; clear hSw
            go_simp
            try with_reducible rfl
          case qzz2 => exact fun _ _ _ h => h
          case szz2 => first | assumption | trivial
          case' rzz2 => simp only [Act.put, List.setIfInBounds_toArray, List.set_cons_zero, List.set_cons_succ]
          refine wpAnyL_take (i := 4) (oi := ?ozz3) (v := ?vzz3) ?hzz3 ?azz3 ?bzz3 ?czz3 ?kzz3 ?qzz3 ?yzz3 ?szz3 ?rzz3
          case hzz3 => simp only [List.getElem?_toArray, List.getElem?_cons_zero, List.getElem?_cons_succ]; rfl
          case azz3 => kernel_rfl
          case bzz3 => kernel_rfl
          case czz3 => kernel_rfl
          case kzz3 => kernel_rfl
          case yzz3 =>
            refine Or.inl ⟨by rfl, ?_⟩
            intro w hSw
            have z0 := box_ hSw b0; have z1 := box_ hSw b1; clear hSw
            go_simp
            try with_reducible rfl
          case qzz3 => exact fun _ _ _ h => h
          case szz3 => first | assumption | trivial
          case' rzz3 => simp only [Act.put, List.setIfInBounds_toArray, List.set_cons_zero, List.set_cons_succ]
          refine wpAnyL_ready (rs := [5, 6]) (by kernel_rfl) (by simp) ?_
          refine AllReadyL.cons (o := ?ozz8) ?hzz8 (fun K hK => ?kzz8) ?mzz8
          case hzz8 => simp only [List.getElem?_toArray, List.getElem?_cons_zero, List.getElem?_cons_succ]; rfl
          case kzz8 =>
            go_simp
            refine hK.out _ _ ?Szz8 (fun hHeld => ?Rzz8)
            case Szz8 =>
              exact hHeld
            case Rzz8 =>
              clear hK K
              try simp only [Act.put, List.setIfInBounds_toArray, List.set_cons_zero, List.set_cons_succ]
              refine wpAnyL_ready (rs := [6]) (by kernel_rfl) (by simp) ?_
              refine AllReadyL.consK (o := ?ozz5) ?hzz5 ?lzz5 (fun K hK => ?kzz5) ?mzz5
              case hzz5 => simp only [List.getElem?_toArray, List.getElem?_cons_zero, List.getElem?_cons_succ]; rfl
              case lzz5 => kernel_rfl
              case kzz5 =>
                have HZ := Lib.hid hHeld
                have X4 := Lib.hid (And.intro o3 o4)
                obtain ⟨⟨p0, p1⟩, p2, p3⟩ := (BX.out.q hHeld).get2
                have hgv := BX.out.lt
                go_simp
                refine hK.out _ _ ?Rzz5
                case Rzz5 =>
                  clear hK K
                  try simp only [Act.put, List.setIfInBounds_toArray, List.set_cons_zero, List.set_cons_succ]
                  refine wpAnyH_take (i := 7) (oi := ?ozz4) (v := ?vzz4) ?hzz4 ?azz4 ?bzz4 ?czz4 ?qzz4 ?yzz4 ?szz4 ?rzz4
                  case hzz4 => simp only [List.getElem?_toArray, List.getElem?_cons_zero, List.getElem?_cons_succ]; rfl
                  case azz4 => kernel_rfl
                  case bzz4 => kernel_rfl
                  case czz4 => kernel_rfl
                  case yzz4 =>
                    refine Or.inl ⟨by rfl, ?_⟩
                    intro w hSw
                    skip
                    go_simp
                    try with_reducible rfl
                  case qzz4 => exact fun _ _ _ h => h
                  case szz4 => first | assumption | trivial
                  case' rzz4 => simp only [Act.put, List.setIfInBounds_toArray, List.set_cons_zero, List.set_cons_succ]
                  refine wpAnyH_done (by kernel_rfl) ?_ _
                  have n1 : n4 = 1 := by have := X4.out.1.len; simpa using this.symm
                  have m1 : m4 = 1 := by have := X4.out.2.len; simpa using this.symm
                  subst n1 m1
                  have hv1 : g < v1.heap.size := Nat.lt_of_lt_of_le BX.out.lt Qv.out.size
                  have X5 := Lib.hid (And.intro (X4.out.1.set2 (b := g) hv1 (.slice A4 1 c4) (.slice B4 1 d4)) (X4.out.2.set2 (b := g) hv1 (.slice A4 1 c4) (.slice B4 1 d4)))
                  have B5 := Lib.hid ((BX.out.q HZ.out).set2 (.slice A4 1 c4) (.slice B4 1 d4))
                  have Q5 := Lib.hid ((Q3.out.trans HZ.out).set2 (b := g) HG.out (.slice A4 1 c4) (.slice B4 1 d4))
                  clear X4 HZ hv1 b0 b1 f0 f1 p0 p1 p2 p3 hgv o3 o4 q5 q4
                  go_upto_region 3 with (fail)
                  generalize (v2.setCell ⟨g, 0, none⟩ (.slice A4 1 c4)).setCell ⟨g, 1, none⟩ (.slice B4 1 d4) = W5 at X5 B5 Q5 ⊢
                  obtain ⟨⟨b0, b1⟩, f0, f1⟩ := B5.out.get2
                  have I5 := Lib.hid (few_in (l := ⟨[⟨1, k2⟩], [⟨2, k1, 9⟩]⟩) X5.out.1 X5.out.2 (by omega) (by omega))
                  go_wp2_with fail
                  refine (A3.out A4 1 c4 B4 1 d4 _ I5.out.1 I5.out.2).mono ?_
                  rintro e w6 ⟨A6, n6, c6, B6, m6, d6, C6, p6, q6, rfl, _, _, o7, q7⟩
                  rw [HT.out] at o7
                  have p1 : p6 = 1 := by have := o7.len; simpa using this.symm
                  subst p1
                  have Q6 := Lib.hid (Q5.out.trans q7)
                  obtain ⟨ad, hae, hab, y0⟩ := load_num o7.lst (Nat.lt_succ_self 0) (by simp)
                  subst hae
                  have y0 : w6.cell? ad = some (.int .i64 2) := by simpa [Addr.add] using y0
                  have y1 := box_ ((Q.refl w6).alloc (.cells #[.slice A6 n6 c6, .slice B6 m6 d6] 25)) y0
                  clear o7 q7
                  go_wp2
                  go_ret
                  exact ⟨by first | rfl | (simp; done), Q6.out.alloc _⟩
              case' mzz5 => skip
              exact AllReadyL.nil
          case' mzz8 => skip
          refine AllReadyL.consK (o := ?ozz9) ?hzz9 ?lzz9 (fun K hK => ?kzz9) ?mzz9
          case hzz9 => simp only [List.getElem?_toArray, List.getElem?_cons_zero, List.getElem?_cons_succ]; rfl
          case lzz9 => kernel_rfl
          case kzz9 =>
            have HZ := Lib.hid hHeld
            have X4 := Lib.hid (And.intro o3 o4)
            obtain ⟨⟨p0, p1⟩, p2, p3⟩ := (BX.out.q hHeld).get2
            have hgv := BX.out.lt
            go_simp
            refine hK.out _ _ ?Rzz9
            case Rzz9 =>
              clear hK K
              try simp only [Act.put, List.setIfInBounds_toArray, List.set_cons_zero, List.set_cons_succ]
              refine wpAnyH_take (i := 5) (oi := ?ozz6) (v := ?vzz6) ?hzz6 ?azz6 ?bzz6 ?czz6 ?qzz6 ?yzz6 ?szz6 ?rzz6
              case hzz6 => simp only [List.getElem?_toArray, List.getElem?_cons_zero, List.getElem?_cons_succ]; rfl
              case azz6 => kernel_rfl
              case bzz6 => kernel_rfl
              case czz6 => kernel_rfl
              case yzz6 =>
                refine Or.inl ⟨by rfl, ?_⟩
                intro w hSw
                skip
                go_simp
                try with_reducible rfl
              case qzz6 => exact fun _ _ _ h => h
              case szz6 => first | assumption | trivial
              case' rzz6 => simp only [Act.put, List.setIfInBounds_toArray, List.set_cons_zero, List.set_cons_succ]
              refine wpAnyH_take (i := 7) (oi := ?ozz7) (v := ?vzz7) ?hzz7 ?azz7 ?bzz7 ?czz7 ?qzz7 ?yzz7 ?szz7 ?rzz7
              case hzz7 => simp only [List.getElem?_toArray, List.getElem?_cons_zero, List.getElem?_cons_succ]; rfl
              case azz7 => kernel_rfl
              case bzz7 => kernel_rfl
              case czz7 => kernel_rfl
              case yzz7 =>
                refine Or.inl ⟨by rfl, ?_⟩
                intro w hSw
                skip
                go_simp
                try with_reducible rfl
              case qzz7 => exact fun _ _ _ h => h
              case szz7 => first | assumption | trivial
              case' rzz7 => simp only [Act.put, List.setIfInBounds_toArray, List.set_cons_zero, List.set_cons_succ]
              refine wpAnyH_done (by kernel_rfl) ?_ _
              have n1 : n4 = 1 := by have := X4.out.1.len; simpa using this.symm
              have m1 : m4 = 1 := by have := X4.out.2.len; simpa using this.symm
              subst n1 m1
              have hv1 : g < v1.heap.size := Nat.lt_of_lt_of_le BX.out.lt Qv.out.size
              have X5 := Lib.hid (And.intro (X4.out.1.set2 (b := g) hv1 (.slice A4 1 c4) (.slice B4 1 d4)) (X4.out.2.set2 (b := g) hv1 (.slice A4 1 c4) (.slice B4 1 d4)))
              have B5 := Lib.hid ((BX.out.q HZ.out).set2 (.slice A4 1 c4) (.slice B4 1 d4))
              have Q5 := Lib.hid ((Q3.out.trans HZ.out).set2 (b := g) HG.out (.slice A4 1 c4) (.slice B4 1 d4))
              clear X4 HZ hv1 b0 b1 f0 f1 p0 p1 p2 p3 hgv o3 o4 q5 q4
              go_upto_region 3 with (fail)
              generalize (v2.setCell ⟨g, 0, none⟩ (.slice A4 1 c4)).setCell ⟨g, 1, none⟩ (.slice B4 1 d4) = W5 at X5 B5 Q5 ⊢
              obtain ⟨⟨b0, b1⟩, f0, f1⟩ := B5.out.get2
              have I5 := Lib.hid (few_in (l := ⟨[⟨1, k2⟩], [⟨2, k1, 9⟩]⟩) X5.out.1 X5.out.2 (by omega) (by omega))
              go_wp2_with fail
              refine (A3.out A4 1 c4 B4 1 d4 _ I5.out.1 I5.out.2).mono ?_
              rintro e w6 ⟨A6, n6, c6, B6, m6, d6, C6, p6, q6, rfl, _, _, o7, q7⟩
              rw [HT.out] at o7
              have p1 : p6 = 1 := by have := o7.len; simpa using this.symm
              subst p1
              have Q6 := Lib.hid (Q5.out.trans q7)
              obtain ⟨ad, hae, hab, y0⟩ := load_num o7.lst (Nat.lt_succ_self 0) (by simp)
              subst hae
              have y0 : w6.cell? ad = some (.int .i64 2) := by simpa [Addr.add] using y0
              have y1 := box_ ((Q.refl w6).alloc (.cells #[.slice A6 n6 c6, .slice B6 m6 d6] 25)) y0
              clear o7 q7
              go_wp2
              go_ret
              exact ⟨by first | rfl | (simp; done), Q6.out.alloc _⟩
          case' mzz9 => skip
          exact AllReadyL.nil
      case' mzz10 => skip
      exact AllReadyL.nil
  case' mzz11 => skip
  exact AllReadyL.nil

theorem lsmall_any (A B : Option Addr) (n c m d : Nat) (w : World) :
    Calls Try.prog 11 #[locV A n c B m d] w fun e w' => e = .returned (.bool (decide (n ≤ 200) && decide (m ≤ 40))) ∧ Q w w' := by
  have B1 := Lib.hid (Bx.new w [.slice A n c, .slice B m d] 25)
  by_cases h1 : n ≤ 200
  all_goals
    by_cases h2 : m ≤ 40
    all_goals
      have i1 : decide (n ≤ 200) = decide ((n : Int) ≤ 200) := by by_cases h : n ≤ 200 <;> simp [h] <;> omega
      have i2 : decide (m ≤ 40) = decide ((m : Int) ≤ 40) := by by_cases h : m ≤ 40 <;> simp [h] <;> omega
      go_enter Try.func11, Try.ntmps11
      go_wp2
      go_ret
      exact ⟨by simp [h1, h2] <;> omega, (Q.refl w).alloc _⟩
end Go.Proofs.Ytenemdpjhoebpaa
