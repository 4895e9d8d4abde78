/- Contracts: package alarm's own Pop, Due, Drop. -/
import Derived.Test.YtbclamfpoigneaaAlPop
import Derived.Test.YtbclamfpoigneaaAlHeap
import Derived.Test.YtbclamfpoigneaaHeldL
import Derived.Deep.DeepCutAuto
namespace Go.Proofs.Ytbclamfpoigneaa
set_option maxRecDepth 100000
open Go.RowKit
set_option linter.unusedVariables false
set_option linter.unusedSimpArgs false
namespace Am

set_option maxHeartbeats 4000000 in
theorem apops_any (A : Option Addr) (n c : Nat) (h : List Al) (w : World) (hA : In_ alK w A n c h) (hn : n ≤ 900000) :
    Calls Try.prog 12 #[.slice A n c] w (RetPs w h) := by
  have HA := Lib.hid hA
  have HL := Lib.hid hA.len
  have qr := (Q.refl w).alloc (.cells #[.int .u64 0, .int .i64 0] 25)
  have B0 := Lib.hid (And.intro (Bx.new w [.int .u64 0, .int .i64 0] 25) qr)
  clear qr
  unfold RetPs alV
  by_cases h0 : n = 0
  · subst h0
    have hnil : h = [] := List.eq_nil_of_length_eq_zero HL.out
    subst hnil
    clear hA
    go_enter Try.func12, Try.ntmps12
    go_upto_region 1 with (fail)
    change Hid (Bx (w.alloc (.cells #[.int .u64 0, .int .i64 0] 25)) _ _ ∧ _) at B0
    generalize (w.alloc (.cells #[.int .u64 0, .int .i64 0] 25)) = W1 at B0 ⊢
    obtain ⟨⟨b0, b1⟩, b2, b3⟩ := B0.out.1.get2
    have Z1 := Lib.hid (B0.out.1.set2 (.int .u64 0) (.int .i64 0))
    have Z2 := Lib.hid (B0.out.2.set2 (b := w.heap.size) (Nat.le_refl _) (.int .u64 0) (.int .i64 0))
    go_wp2
    generalize ((W1.setCell ⟨w.heap.size, 0, none⟩ (.int .u64 0)).setCell ⟨w.heap.size, 1, none⟩ (.int .i64 0)) = W9 at Z1 Z2 ⊢
    obtain ⟨⟨r0, r1⟩, _⟩ := Z1.out.get2
    refine bodyPost_ret (v := .tuple #[.slice none 0 0, .agg #[.int .u64 0, .int .i64 0], .bool false]) (by simp [results, Try.results12, go_sem, r0, r1]) rfl ?_
    exact ⟨none, 0, rfl, In_.none_ _ _, fun e => absurd e (by simp), Z2.out⟩
  have hnp : 0 < n := by omega
  obtain ⟨m, hm⟩ : ∃ m, n = m + 1 := ⟨n - 1, by omega⟩
  have h0l : 0 < h.length := by rw [HL.out]; exact hnp
  obtain ⟨ad, rfl, hab, y0, y1⟩ := load_al hA.lst hnp h0l
  rw [show ad.add (0 * 2) = ad from rfl, ← g_lt h0l] at y0 y1
  have hnl : ¬ (n : Int) = 0 := by omega
  have hnI : (0 : Int) < (n : Int) := by omega
  have hpl := popR_len h
  rw [HL.out] at hpl
  have HPL : Hid ((popR h).length = m ∧ 0 < h.length) := Lib.hid ⟨by omega, h0l⟩
  have K1 := Lib.hid (fun W (q : Q w W) => cloneAls (some ad) n c h W (HA.out.q q))
  have K2 := Lib.hid (fun base p c2 W (ho : OwnK alK W base (some ⟨p, 0, none⟩) n c2 h) => apopin_any base p n m c2 h W ho hm (by omega))
  have hmb : m ≤ 900000 := by omega
  generalize g h 0 = f at *
  clear hA h0l hpl hm hab
  go_enter Try.func12, Try.ntmps12
  go_upto_region 1 with (fail)
  change Hid (Bx (w.alloc (.cells #[.int .u64 0, .int .i64 0] 25)) _ _ ∧ _) at B0
  have hw1 : w.heap.size < (w.alloc (.cells #[.int .u64 0, .int .i64 0] 25)).heap.size := B0.out.1.lt
  have x0 := box_ B0.out.2 y0
  have x1 := box_ B0.out.2 y1
  clear y0 y1
  generalize (w.alloc (.cells #[.int .u64 0, .int .i64 0] 25)) = W1 at B0 hw1 x0 x1 ⊢
  go_upto_region 3 with (fail)
  refine wp_region_heldL 7 (Q W1) (by kernel_rfl) ?szz0 (fun hHeld => ?rzz0)
  case szz0 =>
    exact (Q.refl W1).drew
  case' rzz0 => skip
  generalize hgen : W1.drew = D0 at hHeld ⊢
  clear hgen
  refine wpAnyL_take (i := 0) (oi := ?ozz1) (v := ?vzz1) ?hzz1 ?azz1 ?bzz1 ?czz1 ?kzz1 ?qzz1 ?yzz1 ?szz1 ?rzz1
  case hzz1 => simp only [List.getElem?_toArray, List.getElem?_cons_zero]; rfl
  case azz1 => kernel_rfl
  case bzz1 => kernel_rfl
  case czz1 => kernel_rfl
  case kzz1 => kernel_rfl
  case yzz1 =>
    refine Or.inl ⟨by rfl, ?_⟩
    intro w hSw
    skip
    go_simp
    try with_reducible rfl
  case qzz1 => exact fun _ _ _ h => h
  case szz1 => first | assumption | trivial
  case' rzz1 => simp only [Act.put, List.setIfInBounds_toArray, List.set_cons_zero, List.set_cons_succ]
  refine wpAnyL_ready (rs := [1, 3]) (by kernel_rfl) (by simp) ?_
  refine AllReadyL.cons (o := ?ozz108) ?hzz108 (fun K hK => ?kzz108) ?mzz108
  case hzz108 => simp only [List.getElem?_toArray, List.getElem?_cons_zero, List.getElem?_cons_succ]; rfl
  case kzz108 =>
    go_simp
    refine (K1.out _ (B0.out.2.trans hHeld)).mono ?_
    rintro e v2 ⟨A2, c2, rfl, o2, q2⟩
    obtain ⟨p, rfl⟩ := own_some o2 hnp
    have hp : W1.heap.size ≤ p := Nat.le_trans hHeld.size o2.block_lt.1
    have HO := Lib.hid (o2.lower (b2 := W1.heap.size) hHeld.size)
    go_wp2_with fail
    refine hK.out _ _ ?Szz108 (fun hHeld => ?Rzz108)
    case Szz108 =>
      exact hHeld.trans q2
    case Rzz108 =>
      clear hK K
      try simp only [Act.put, List.setIfInBounds_toArray, List.set_cons_zero, List.set_cons_succ]
      refine wpAnyL_ready (rs := [2, 3]) (by kernel_rfl) (by simp) ?_
      refine AllReadyL.cons (o := ?ozz53) ?hzz53 (fun K hK => ?kzz53) ?mzz53
      case hzz53 => simp only [List.getElem?_toArray, List.getElem?_cons_zero, List.getElem?_cons_succ]; rfl
      case kzz53 =>
        go_simp
        refine (K2.out _ p c2 _ (HO.out.q (by first | exact Q.refl _ | assumption))).mono ?_
        rintro e v3 ⟨rfl, o3, q3⟩
        have HR := Lib.hid o3
        go_wp2_with fail
        refine hK.out _ _ ?Szz53 (fun hHeld => ?Rzz53)
        case Szz53 =>
          exact Below.trans hHeld (only_below q3 hp hHeld.size)
        case Rzz53 =>
          clear hK K
          try simp only [Act.put, List.setIfInBounds_toArray, List.set_cons_zero, List.set_cons_succ]
          refine wpAnyL_ready (rs := [3, 6]) (by kernel_rfl) (by simp) ?_
          refine AllReadyL.cons (o := ?ozz21) ?hzz21 (fun K hK => ?kzz21) ?mzz21
          case hzz21 => simp only [List.getElem?_toArray, List.getElem?_cons_zero, List.getElem?_cons_succ]; rfl
          case kzz21 =>
            go_simp
            refine hK.out _ _ ?Szz21 (fun hHeld => ?Rzz21)
            case Szz21 =>
              first | exact hHeld | trivial
            case Rzz21 =>
              clear hK K
              try simp only [Act.put, List.setIfInBounds_toArray, List.set_cons_zero, List.set_cons_succ]
              refine wpAnyL_ready (rs := [4, 6]) (by kernel_rfl) (by simp) ?_
              refine AllReadyL.cons (o := ?ozz14) ?hzz14 (fun K hK => ?kzz14) ?mzz14
              case hzz14 => simp only [List.getElem?_toArray, List.getElem?_cons_zero, List.getElem?_cons_succ]; rfl
              case kzz14 =>
                go_simp
                refine hK.out _ _ ?Szz14 (fun hHeld => ?Rzz14)
                case Szz14 =>
                  first | exact hHeld | trivial
                case Rzz14 =>
                  clear hK K
                  try simp only [Act.put, List.setIfInBounds_toArray, List.set_cons_zero, List.set_cons_succ]
                  refine wpAnyL_ready (rs := [5, 6]) (by kernel_rfl) (by simp) ?_
                  refine AllReadyL.cons (o := ?ozz8) ?hzz8 (fun K hK => ?kzz8) ?mzz8
                  case hzz8 => simp only [List.getElem?_toArray, List.getElem?_cons_zero, List.getElem?_cons_succ]; rfl
                  case kzz8 =>
                    have hSw := hHeld
                    have a0 := box_ hSw x0; have a1 := box_ hSw x1; clear hSw
                    go_simp
                    refine hK.out _ _ ?Szz8 (fun hHeld => ?Rzz8)
                    case Szz8 =>
                      first | exact hHeld | trivial
                    case Rzz8 =>
                      clear hK K
                      try simp only [Act.put, List.setIfInBounds_toArray, List.set_cons_zero, List.set_cons_succ]
                      refine wpAnyL_take (i := 6) (oi := ?ozz2) (v := ?vzz2) ?hzz2 ?azz2 ?bzz2 ?czz2 ?kzz2 ?qzz2 ?yzz2 ?szz2 ?rzz2
                      case hzz2 => simp only [List.getElem?_toArray, List.getElem?_cons_zero, List.getElem?_cons_succ]; rfl
                      case azz2 => kernel_rfl
                      case bzz2 => kernel_rfl
                      case czz2 => kernel_rfl
                      case kzz2 => kernel_rfl
                      case yzz2 =>
                        refine Or.inl ⟨by rfl, ?_⟩
                        intro w hSw
                        skip
                        go_simp
                        try with_reducible rfl
                      case qzz2 => exact fun _ _ _ h => h
                      case szz2 => first | assumption | trivial
                      case' rzz2 => simp only [Act.put, List.setIfInBounds_toArray, List.set_cons_zero, List.set_cons_succ]
                      refine wpAnyL_ready (rs := [7]) (by kernel_rfl) (by simp) ?_
                      refine AllReadyL.consK (o := ?ozz4) ?hzz4 ?lzz4 (fun K hK => ?kzz4) ?mzz4
                      case hzz4 => simp only [List.getElem?_toArray, List.getElem?_cons_zero, List.getElem?_cons_succ]; rfl
                      case lzz4 => kernel_rfl
                      case kzz4 =>
                        have HZ := Lib.hid hHeld
                        have HB := Lib.hid (B0.out.1.q HZ.out)
                        obtain ⟨⟨st0, st1⟩, st2, st3⟩ := HB.out.get2
                        go_simp
                        clear st0 st1 st2 st3
                        refine hK.out _ _ ?Rzz4
                        case Rzz4 =>
                          clear hK K
                          try simp only [Act.put, List.setIfInBounds_toArray, List.set_cons_zero, List.set_cons_succ]
                          refine wpAnyH_take (i := 8) (oi := ?ozz3) (v := ?vzz3) ?hzz3 ?azz3 ?bzz3 ?czz3 ?qzz3 ?yzz3 ?szz3 ?rzz3
                          case hzz3 => simp only [List.getElem?_toArray, List.getElem?_cons_zero, List.getElem?_cons_succ]; rfl
                          case azz3 => kernel_rfl
                          case bzz3 => kernel_rfl
                          case czz3 => kernel_rfl
                          case yzz3 =>
                            refine Or.inl ⟨by rfl, ?_⟩
                            intro w hSw
                            skip
                            go_simp
                            try with_reducible rfl
                          case qzz3 => exact fun _ _ _ h => h
                          case szz3 => first | assumption | trivial
                          case' rzz3 => simp only [Act.put, List.setIfInBounds_toArray, List.set_cons_zero, List.set_cons_succ]
                          refine wpAnyH_done (by kernel_rfl) ?_ _
                          have Z1 := Lib.hid ((B0.out.1.q HZ.out).set2 (.int .u64 (f.at_ : Int)) (.int .i64 f.id))
                          have Z2 := Lib.hid (HR.out.set2 hw1 (.int .u64 (f.at_ : Int)) (.int .i64 f.id))
                          have Z3 := Lib.hid ((B0.out.2.trans HZ.out).set2 (b := w.heap.size) (Nat.le_refl _) (.int .u64 (f.at_ : Int)) (.int .i64 f.id))
                          generalize ((v3.setCell ⟨w.heap.size, 0, none⟩ (.int .u64 (f.at_ : Int))).setCell ⟨w.heap.size, 1, none⟩ (.int .i64 f.id)) = W9 at Z1 Z2 Z3 ⊢
                          go_wp2
                          obtain ⟨⟨r0, r1⟩, _⟩ := Z1.out.get2
                          refine bodyPost_ret (v := .tuple #[.slice (some ⟨p, 0, none⟩) m c2, .agg #[.int .u64 (f.at_ : Int), .int .i64 f.id], .bool true]) (by simp [results, Try.results12, go_sem, r0, r1]) rfl ?_
                          refine ⟨some ⟨p, 0, none⟩, c2, by rw [HPL.out.1, decide_eq_true HPL.out.2], ?_, ?_, Z3.out⟩
                          · rw [HPL.out.1]; exact Z2.out.in_ (by show m * 16 ≤ _; omega)
                          · rintro _ ad2 e
                            injection e with e
                            subst e
                            exact ⟨Nat.le_trans (Nat.le_of_lt hw1) Z2.out.block_lt.1, Z2.out.block_lt.2⟩
                      case' mzz4 => skip
                      exact AllReadyL.nil
                  case' mzz8 => skip
                  refine AllReadyL.cons (o := ?ozz9) ?hzz9 (fun K hK => ?kzz9) ?mzz9
                  case hzz9 => simp only [List.getElem?_toArray, List.getElem?_cons_zero, List.getElem?_cons_succ]; rfl
                  case kzz9 =>
                    go_simp
                    refine hK.out _ _ ?Szz9 (fun hHeld => ?Rzz9)
                    case Szz9 =>
                      first | exact hHeld | trivial
                    case Rzz9 =>
                      clear hK K
                      try simp only [Act.put, List.setIfInBounds_toArray, List.set_cons_zero, List.set_cons_succ]
                      refine wpAnyL_take (i := 5) (oi := ?ozz5) (v := ?vzz5) ?hzz5 ?azz5 ?bzz5 ?czz5 ?kzz5 ?qzz5 ?yzz5 ?szz5 ?rzz5
                      case hzz5 => simp only [List.getElem?_toArray, List.getElem?_cons_zero, List.getElem?_cons_succ]; rfl
                      case azz5 => kernel_rfl
                      case bzz5 => kernel_rfl
                      case czz5 => kernel_rfl
                      case kzz5 => kernel_rfl
                      case yzz5 =>
                        refine Or.inl ⟨by rfl, ?_⟩
                        intro w hSw
                        have a0 := box_ hSw x0; have a1 := box_ hSw x1; clear hSw
                        go_simp
                        try with_reducible rfl
                      case qzz5 => exact fun _ _ _ h => h
                      case szz5 => first | assumption | trivial
                      case' rzz5 => simp only [Act.put, List.setIfInBounds_toArray, List.set_cons_zero, List.set_cons_succ]
                      refine wpAnyL_ready (rs := [7]) (by kernel_rfl) (by simp) ?_
                      refine AllReadyL.consK (o := ?ozz7) ?hzz7 ?lzz7 (fun K hK => ?kzz7) ?mzz7
                      case hzz7 => simp only [List.getElem?_toArray, List.getElem?_cons_zero, List.getElem?_cons_succ]; rfl
                      case lzz7 => kernel_rfl
                      case kzz7 =>
                        have HZ := Lib.hid hHeld
                        have HB := Lib.hid (B0.out.1.q HZ.out)
                        obtain ⟨⟨st0, st1⟩, st2, st3⟩ := HB.out.get2
                        go_simp
                        clear st0 st1 st2 st3
                        refine hK.out _ _ ?Rzz7
                        case Rzz7 =>
                          clear hK K
                          try simp only [Act.put, List.setIfInBounds_toArray, List.set_cons_zero, List.set_cons_succ]
                          refine wpAnyH_take (i := 8) (oi := ?ozz6) (v := ?vzz6) ?hzz6 ?azz6 ?bzz6 ?czz6 ?qzz6 ?yzz6 ?szz6 ?rzz6
                          case hzz6 => simp only [List.getElem?_toArray, List.getElem?_cons_zero, List.getElem?_cons_succ]; rfl
                          case azz6 => kernel_rfl
                          case bzz6 => kernel_rfl
                          case czz6 => kernel_rfl
                          case yzz6 =>
                            refine Or.inl ⟨by rfl, ?_⟩
                            intro w hSw
                            skip
                            go_simp
                            try with_reducible rfl
                          case qzz6 => exact fun _ _ _ h => h
                          case szz6 => first | assumption | trivial
                          case' rzz6 => simp only [Act.put, List.setIfInBounds_toArray, List.set_cons_zero, List.set_cons_succ]
                          refine wpAnyH_done (by kernel_rfl) ?_ _
                          have Z1 := Lib.hid ((B0.out.1.q HZ.out).set2 (.int .u64 (f.at_ : Int)) (.int .i64 f.id))
                          have Z2 := Lib.hid (HR.out.set2 hw1 (.int .u64 (f.at_ : Int)) (.int .i64 f.id))
                          have Z3 := Lib.hid ((B0.out.2.trans HZ.out).set2 (b := w.heap.size) (Nat.le_refl _) (.int .u64 (f.at_ : Int)) (.int .i64 f.id))
                          generalize ((v3.setCell ⟨w.heap.size, 0, none⟩ (.int .u64 (f.at_ : Int))).setCell ⟨w.heap.size, 1, none⟩ (.int .i64 f.id)) = W9 at Z1 Z2 Z3 ⊢
                          go_wp2
                          obtain ⟨⟨r0, r1⟩, _⟩ := Z1.out.get2
                          refine bodyPost_ret (v := .tuple #[.slice (some ⟨p, 0, none⟩) m c2, .agg #[.int .u64 (f.at_ : Int), .int .i64 f.id], .bool true]) (by simp [results, Try.results12, go_sem, r0, r1]) rfl ?_
                          refine ⟨some ⟨p, 0, none⟩, c2, by rw [HPL.out.1, decide_eq_true HPL.out.2], ?_, ?_, Z3.out⟩
                          · rw [HPL.out.1]; exact Z2.out.in_ (by show m * 16 ≤ _; omega)
                          · rintro _ ad2 e
                            injection e with e
                            subst e
                            exact ⟨Nat.le_trans (Nat.le_of_lt hw1) Z2.out.block_lt.1, Z2.out.block_lt.2⟩
                      case' mzz7 => skip
                      exact AllReadyL.nil
                  case' mzz9 => skip
                  exact AllReadyL.nil
              case' mzz14 => skip
              refine AllReadyL.cons (o := ?ozz15) ?hzz15 (fun K hK => ?kzz15) ?mzz15
              case hzz15 => simp only [List.getElem?_toArray, List.getElem?_cons_zero, List.getElem?_cons_succ]; rfl
              case kzz15 =>
                go_simp
                refine hK.out _ _ ?Szz15 (fun hHeld => ?Rzz15)
                case Szz15 =>
                  first | exact hHeld | trivial
                case Rzz15 =>
                  clear hK K
                  try simp only [Act.put, List.setIfInBounds_toArray, List.set_cons_zero, List.set_cons_succ]
                  refine wpAnyL_take (i := 4) (oi := ?ozz10) (v := ?vzz10) ?hzz10 ?azz10 ?bzz10 ?czz10 ?kzz10 ?qzz10 ?yzz10 ?szz10 ?rzz10
                  case hzz10 => simp only [List.getElem?_toArray, List.getElem?_cons_zero, List.getElem?_cons_succ]; rfl
                  case azz10 => kernel_rfl
                  case bzz10 => kernel_rfl
                  case czz10 => kernel_rfl
                  case kzz10 => kernel_rfl
                  case yzz10 =>
                    refine Or.inl ⟨by rfl, ?_⟩
                    intro w hSw
                    skip
                    go_simp
                    try with_reducible rfl
                  case qzz10 => exact fun _ _ _ h => h
                  case szz10 => first | assumption | trivial
                  case' rzz10 => simp only [Act.put, List.setIfInBounds_toArray, List.set_cons_zero, List.set_cons_succ]
                  refine wpAnyL_take (i := 5) (oi := ?ozz11) (v := ?vzz11) ?hzz11 ?azz11 ?bzz11 ?czz11 ?kzz11 ?qzz11 ?yzz11 ?szz11 ?rzz11
                  case hzz11 => simp only [List.getElem?_toArray, List.getElem?_cons_zero, List.getElem?_cons_succ]; rfl
                  case azz11 => kernel_rfl
                  case bzz11 => kernel_rfl
                  case czz11 => kernel_rfl
                  case kzz11 => kernel_rfl
                  case yzz11 =>
                    refine Or.inl ⟨by rfl, ?_⟩
                    intro w hSw
                    have a0 := box_ hSw x0; have a1 := box_ hSw x1; clear hSw
                    go_simp
                    try with_reducible rfl
                  case qzz11 => exact fun _ _ _ h => h
                  case szz11 => first | assumption | trivial
                  case' rzz11 => simp only [Act.put, List.setIfInBounds_toArray, List.set_cons_zero, List.set_cons_succ]
                  refine wpAnyL_ready (rs := [7]) (by kernel_rfl) (by simp) ?_
                  refine AllReadyL.consK (o := ?ozz13) ?hzz13 ?lzz13 (fun K hK => ?kzz13) ?mzz13
                  case hzz13 => simp only [List.getElem?_toArray, List.getElem?_cons_zero, List.getElem?_cons_succ]; rfl
                  case lzz13 => kernel_rfl
                  case kzz13 =>
                    have HZ := Lib.hid hHeld
                    have HB := Lib.hid (B0.out.1.q HZ.out)
                    obtain ⟨⟨st0, st1⟩, st2, st3⟩ := HB.out.get2
                    go_simp
                    clear st0 st1 st2 st3
                    refine hK.out _ _ ?Rzz13
                    case Rzz13 =>
                      clear hK K
                      try simp only [Act.put, List.setIfInBounds_toArray, List.set_cons_zero, List.set_cons_succ]
                      refine wpAnyH_take (i := 8) (oi := ?ozz12) (v := ?vzz12) ?hzz12 ?azz12 ?bzz12 ?czz12 ?qzz12 ?yzz12 ?szz12 ?rzz12
                      case hzz12 => simp only [List.getElem?_toArray, List.getElem?_cons_zero, List.getElem?_cons_succ]; rfl
                      case azz12 => kernel_rfl
                      case bzz12 => kernel_rfl
                      case czz12 => kernel_rfl
                      case yzz12 =>
                        refine Or.inl ⟨by rfl, ?_⟩
                        intro w hSw
                        skip
                        go_simp
                        try with_reducible rfl
                      case qzz12 => exact fun _ _ _ h => h
                      case szz12 => first | assumption | trivial
                      case' rzz12 => simp only [Act.put, List.setIfInBounds_toArray, List.set_cons_zero, List.set_cons_succ]
                      refine wpAnyH_done (by kernel_rfl) ?_ _
                      have Z1 := Lib.hid ((B0.out.1.q HZ.out).set2 (.int .u64 (f.at_ : Int)) (.int .i64 f.id))
                      have Z2 := Lib.hid (HR.out.set2 hw1 (.int .u64 (f.at_ : Int)) (.int .i64 f.id))
                      have Z3 := Lib.hid ((B0.out.2.trans HZ.out).set2 (b := w.heap.size) (Nat.le_refl _) (.int .u64 (f.at_ : Int)) (.int .i64 f.id))
                      generalize ((v3.setCell ⟨w.heap.size, 0, none⟩ (.int .u64 (f.at_ : Int))).setCell ⟨w.heap.size, 1, none⟩ (.int .i64 f.id)) = W9 at Z1 Z2 Z3 ⊢
                      go_wp2
                      obtain ⟨⟨r0, r1⟩, _⟩ := Z1.out.get2
                      refine bodyPost_ret (v := .tuple #[.slice (some ⟨p, 0, none⟩) m c2, .agg #[.int .u64 (f.at_ : Int), .int .i64 f.id], .bool true]) (by simp [results, Try.results12, go_sem, r0, r1]) rfl ?_
                      refine ⟨some ⟨p, 0, none⟩, c2, by rw [HPL.out.1, decide_eq_true HPL.out.2], ?_, ?_, Z3.out⟩
                      · rw [HPL.out.1]; exact Z2.out.in_ (by show m * 16 ≤ _; omega)
                      · rintro _ ad2 e
                        injection e with e
                        subst e
                        exact ⟨Nat.le_trans (Nat.le_of_lt hw1) Z2.out.block_lt.1, Z2.out.block_lt.2⟩
                  case' mzz13 => skip
                  exact AllReadyL.nil
              case' mzz15 => skip
              exact AllReadyL.nil
          case' mzz21 => skip
          refine AllReadyL.cons (o := ?ozz22) ?hzz22 (fun K hK => ?kzz22) ?mzz22
          case hzz22 => simp only [List.getElem?_toArray, List.getElem?_cons_zero, List.getElem?_cons_succ]; rfl
          case kzz22 =>
            go_simp
            refine hK.out _ _ ?Szz22 (fun hHeld => ?Rzz22)
            case Szz22 =>
              first | exact hHeld | trivial
            case Rzz22 =>
              clear hK K
              try simp only [Act.put, List.setIfInBounds_toArray, List.set_cons_zero, List.set_cons_succ]
              refine wpAnyL_take (i := 3) (oi := ?ozz16) (v := ?vzz16) ?hzz16 ?azz16 ?bzz16 ?czz16 ?kzz16 ?qzz16 ?yzz16 ?szz16 ?rzz16
              case hzz16 => simp only [List.getElem?_toArray, List.getElem?_cons_zero, List.getElem?_cons_succ]; rfl
              case azz16 => kernel_rfl
              case bzz16 => kernel_rfl
              case czz16 => kernel_rfl
              case kzz16 => kernel_rfl
              case yzz16 =>
                refine Or.inl ⟨by rfl, ?_⟩
                intro w hSw
                skip
                go_simp
                try with_reducible rfl
              case qzz16 => exact fun _ _ _ h => h
              case szz16 => first | assumption | trivial
              case' rzz16 => simp only [Act.put, List.setIfInBounds_toArray, List.set_cons_zero, List.set_cons_succ]
              refine wpAnyL_take (i := 4) (oi := ?ozz17) (v := ?vzz17) ?hzz17 ?azz17 ?bzz17 ?czz17 ?kzz17 ?qzz17 ?yzz17 ?szz17 ?rzz17
              case hzz17 => simp only [List.getElem?_toArray, List.getElem?_cons_zero, List.getElem?_cons_succ]; rfl
              case azz17 => kernel_rfl
              case bzz17 => kernel_rfl
              case czz17 => kernel_rfl
              case kzz17 => kernel_rfl
              case yzz17 =>
                refine Or.inl ⟨by rfl, ?_⟩
                intro w hSw
                skip
                go_simp
                try with_reducible rfl
              case qzz17 => exact fun _ _ _ h => h
              case szz17 => first | assumption | trivial
              case' rzz17 => simp only [Act.put, List.setIfInBounds_toArray, List.set_cons_zero, List.set_cons_succ]
              refine wpAnyL_take (i := 5) (oi := ?ozz18) (v := ?vzz18) ?hzz18 ?azz18 ?bzz18 ?czz18 ?kzz18 ?qzz18 ?yzz18 ?szz18 ?rzz18
              case hzz18 => simp only [List.getElem?_toArray, List.getElem?_cons_zero, List.getElem?_cons_succ]; rfl
              case azz18 => kernel_rfl
              case bzz18 => kernel_rfl
              case czz18 => kernel_rfl
              case kzz18 => kernel_rfl
              case yzz18 =>
                refine Or.inl ⟨by rfl, ?_⟩
                intro w hSw
                have a0 := box_ hSw x0; have a1 := box_ hSw x1; clear hSw
                go_simp
                try with_reducible rfl
              case qzz18 => exact fun _ _ _ h => h
              case szz18 => first | assumption | trivial
              case' rzz18 => simp only [Act.put, List.setIfInBounds_toArray, List.set_cons_zero, List.set_cons_succ]
              refine wpAnyL_ready (rs := [7]) (by kernel_rfl) (by simp) ?_
              refine AllReadyL.consK (o := ?ozz20) ?hzz20 ?lzz20 (fun K hK => ?kzz20) ?mzz20
              case hzz20 => simp only [List.getElem?_toArray, List.getElem?_cons_zero, List.getElem?_cons_succ]; rfl
              case lzz20 => kernel_rfl
              case kzz20 =>
                have HZ := Lib.hid hHeld
                have HB := Lib.hid (B0.out.1.q HZ.out)
                obtain ⟨⟨st0, st1⟩, st2, st3⟩ := HB.out.get2
                go_simp
                clear st0 st1 st2 st3
                refine hK.out _ _ ?Rzz20
                case Rzz20 =>
                  clear hK K
                  try simp only [Act.put, List.setIfInBounds_toArray, List.set_cons_zero, List.set_cons_succ]
                  refine wpAnyH_take (i := 8) (oi := ?ozz19) (v := ?vzz19) ?hzz19 ?azz19 ?bzz19 ?czz19 ?qzz19 ?yzz19 ?szz19 ?rzz19
                  case hzz19 => simp only [List.getElem?_toArray, List.getElem?_cons_zero, List.getElem?_cons_succ]; rfl
                  case azz19 => kernel_rfl
                  case bzz19 => kernel_rfl
                  case czz19 => kernel_rfl
                  case yzz19 =>
                    refine Or.inl ⟨by rfl, ?_⟩
                    intro w hSw
                    skip
                    go_simp
                    try with_reducible rfl
                  case qzz19 => exact fun _ _ _ h => h
                  case szz19 => first | assumption | trivial
                  case' rzz19 => simp only [Act.put, List.setIfInBounds_toArray, List.set_cons_zero, List.set_cons_succ]
                  refine wpAnyH_done (by kernel_rfl) ?_ _
                  have Z1 := Lib.hid ((B0.out.1.q HZ.out).set2 (.int .u64 (f.at_ : Int)) (.int .i64 f.id))
                  have Z2 := Lib.hid (HR.out.set2 hw1 (.int .u64 (f.at_ : Int)) (.int .i64 f.id))
                  have Z3 := Lib.hid ((B0.out.2.trans HZ.out).set2 (b := w.heap.size) (Nat.le_refl _) (.int .u64 (f.at_ : Int)) (.int .i64 f.id))
                  generalize ((v3.setCell ⟨w.heap.size, 0, none⟩ (.int .u64 (f.at_ : Int))).setCell ⟨w.heap.size, 1, none⟩ (.int .i64 f.id)) = W9 at Z1 Z2 Z3 ⊢
                  go_wp2
                  obtain ⟨⟨r0, r1⟩, _⟩ := Z1.out.get2
                  refine bodyPost_ret (v := .tuple #[.slice (some ⟨p, 0, none⟩) m c2, .agg #[.int .u64 (f.at_ : Int), .int .i64 f.id], .bool true]) (by simp [results, Try.results12, go_sem, r0, r1]) rfl ?_
                  refine ⟨some ⟨p, 0, none⟩, c2, by rw [HPL.out.1, decide_eq_true HPL.out.2], ?_, ?_, Z3.out⟩
                  · rw [HPL.out.1]; exact Z2.out.in_ (by show m * 16 ≤ _; omega)
                  · rintro _ ad2 e
                    injection e with e
                    subst e
                    exact ⟨Nat.le_trans (Nat.le_of_lt hw1) Z2.out.block_lt.1, Z2.out.block_lt.2⟩
              case' mzz20 => skip
              exact AllReadyL.nil
          case' mzz22 => skip
          exact AllReadyL.nil
      case' mzz53 => skip
      refine AllReadyL.cons (o := ?ozz54) ?hzz54 (fun K hK => ?kzz54) ?mzz54
      case hzz54 => simp only [List.getElem?_toArray, List.getElem?_cons_zero, List.getElem?_cons_succ]; rfl
      case kzz54 =>
        go_simp
        refine hK.out _ _ ?Szz54 (fun hHeld => ?Rzz54)
        case Szz54 =>
          first | exact hHeld | trivial
        case Rzz54 =>
          clear hK K
          try simp only [Act.put, List.setIfInBounds_toArray, List.set_cons_zero, List.set_cons_succ]
          refine wpAnyL_ready (rs := [2, 4]) (by kernel_rfl) (by simp) ?_
          refine AllReadyL.cons (o := ?ozz51) ?hzz51 (fun K hK => ?kzz51) ?mzz51
          case hzz51 => simp only [List.getElem?_toArray, List.getElem?_cons_zero, List.getElem?_cons_succ]; rfl
          case kzz51 =>
            go_simp
            refine (K2.out _ p c2 _ (HO.out.q (by first | exact Q.refl _ | assumption))).mono ?_
            rintro e v3 ⟨rfl, o3, q3⟩
            have HR := Lib.hid o3
            go_wp2_with fail
            refine hK.out _ _ ?Szz51 (fun hHeld => ?Rzz51)
            case Szz51 =>
              exact Below.trans hHeld (only_below q3 hp hHeld.size)
            case Rzz51 =>
              clear hK K
              try simp only [Act.put, List.setIfInBounds_toArray, List.set_cons_zero, List.set_cons_succ]
              refine wpAnyL_ready (rs := [4, 6]) (by kernel_rfl) (by simp) ?_
              refine AllReadyL.cons (o := ?ozz35) ?hzz35 (fun K hK => ?kzz35) ?mzz35
              case hzz35 => simp only [List.getElem?_toArray, List.getElem?_cons_zero, List.getElem?_cons_succ]; rfl
              case kzz35 =>
                go_simp
                refine hK.out _ _ ?Szz35 (fun hHeld => ?Rzz35)
                case Szz35 =>
                  first | exact hHeld | trivial
                case Rzz35 =>
                  clear hK K
                  try simp only [Act.put, List.setIfInBounds_toArray, List.set_cons_zero, List.set_cons_succ]
                  refine wpAnyL_ready (rs := [5, 6]) (by kernel_rfl) (by simp) ?_
                  refine AllReadyL.cons (o := ?ozz29) ?hzz29 (fun K hK => ?kzz29) ?mzz29
                  case hzz29 => simp only [List.getElem?_toArray, List.getElem?_cons_zero, List.getElem?_cons_succ]; rfl
                  case kzz29 =>
                    have hSw := hHeld
                    have a0 := box_ hSw x0; have a1 := box_ hSw x1; clear hSw
                    go_simp
                    refine hK.out _ _ ?Szz29 (fun hHeld => ?Rzz29)
                    case Szz29 =>
                      first | exact hHeld | trivial
                    case Rzz29 =>
                      clear hK K
                      try simp only [Act.put, List.setIfInBounds_toArray, List.set_cons_zero, List.set_cons_succ]
                      refine wpAnyL_take (i := 6) (oi := ?ozz23) (v := ?vzz23) ?hzz23 ?azz23 ?bzz23 ?czz23 ?kzz23 ?qzz23 ?yzz23 ?szz23 ?rzz23
                      case hzz23 => simp only [List.getElem?_toArray, List.getElem?_cons_zero, List.getElem?_cons_succ]; rfl
                      case azz23 => kernel_rfl
                      case bzz23 => kernel_rfl
                      case czz23 => kernel_rfl
                      case kzz23 => kernel_rfl
                      case yzz23 =>
                        refine Or.inl ⟨by rfl, ?_⟩
                        intro w hSw
                        skip
                        go_simp
                        try with_reducible rfl
                      case qzz23 => exact fun _ _ _ h => h
                      case szz23 => first | assumption | trivial
                      case' rzz23 => simp only [Act.put, List.setIfInBounds_toArray, List.set_cons_zero, List.set_cons_succ]
                      refine wpAnyL_ready (rs := [7]) (by kernel_rfl) (by simp) ?_
                      refine AllReadyL.consK (o := ?ozz25) ?hzz25 ?lzz25 (fun K hK => ?kzz25) ?mzz25
                      case hzz25 => simp only [List.getElem?_toArray, List.getElem?_cons_zero, List.getElem?_cons_succ]; rfl
                      case lzz25 => kernel_rfl
                      case kzz25 =>
                        have HZ := Lib.hid hHeld
                        have HB := Lib.hid (B0.out.1.q HZ.out)
                        obtain ⟨⟨st0, st1⟩, st2, st3⟩ := HB.out.get2
                        go_simp
                        clear st0 st1 st2 st3
                        refine hK.out _ _ ?Rzz25
                        case Rzz25 =>
                          clear hK K
                          try simp only [Act.put, List.setIfInBounds_toArray, List.set_cons_zero, List.set_cons_succ]
                          refine wpAnyH_take (i := 8) (oi := ?ozz24) (v := ?vzz24) ?hzz24 ?azz24 ?bzz24 ?czz24 ?qzz24 ?yzz24 ?szz24 ?rzz24
                          case hzz24 => simp only [List.getElem?_toArray, List.getElem?_cons_zero, List.getElem?_cons_succ]; rfl
                          case azz24 => kernel_rfl
                          case bzz24 => kernel_rfl
                          case czz24 => kernel_rfl
                          case yzz24 =>
                            refine Or.inl ⟨by rfl, ?_⟩
                            intro w hSw
                            skip
                            go_simp
                            try with_reducible rfl
                          case qzz24 => exact fun _ _ _ h => h
                          case szz24 => first | assumption | trivial
                          case' rzz24 => simp only [Act.put, List.setIfInBounds_toArray, List.set_cons_zero, List.set_cons_succ]
                          refine wpAnyH_done (by kernel_rfl) ?_ _
                          have Z1 := Lib.hid ((B0.out.1.q HZ.out).set2 (.int .u64 (f.at_ : Int)) (.int .i64 f.id))
                          have Z2 := Lib.hid (HR.out.set2 hw1 (.int .u64 (f.at_ : Int)) (.int .i64 f.id))
                          have Z3 := Lib.hid ((B0.out.2.trans HZ.out).set2 (b := w.heap.size) (Nat.le_refl _) (.int .u64 (f.at_ : Int)) (.int .i64 f.id))
                          generalize ((v3.setCell ⟨w.heap.size, 0, none⟩ (.int .u64 (f.at_ : Int))).setCell ⟨w.heap.size, 1, none⟩ (.int .i64 f.id)) = W9 at Z1 Z2 Z3 ⊢
                          go_wp2
                          obtain ⟨⟨r0, r1⟩, _⟩ := Z1.out.get2
                          refine bodyPost_ret (v := .tuple #[.slice (some ⟨p, 0, none⟩) m c2, .agg #[.int .u64 (f.at_ : Int), .int .i64 f.id], .bool true]) (by simp [results, Try.results12, go_sem, r0, r1]) rfl ?_
                          refine ⟨some ⟨p, 0, none⟩, c2, by rw [HPL.out.1, decide_eq_true HPL.out.2], ?_, ?_, Z3.out⟩
                          · rw [HPL.out.1]; exact Z2.out.in_ (by show m * 16 ≤ _; omega)
                          · rintro _ ad2 e
                            injection e with e
                            subst e
                            exact ⟨Nat.le_trans (Nat.le_of_lt hw1) Z2.out.block_lt.1, Z2.out.block_lt.2⟩
                      case' mzz25 => skip
                      exact AllReadyL.nil
                  case' mzz29 => skip
                  refine AllReadyL.cons (o := ?ozz30) ?hzz30 (fun K hK => ?kzz30) ?mzz30
                  case hzz30 => simp only [List.getElem?_toArray, List.getElem?_cons_zero, List.getElem?_cons_succ]; rfl
                  case kzz30 =>
                    go_simp
                    refine hK.out _ _ ?Szz30 (fun hHeld => ?Rzz30)
                    case Szz30 =>
                      first | exact hHeld | trivial
                    case Rzz30 =>
                      clear hK K
                      try simp only [Act.put, List.setIfInBounds_toArray, List.set_cons_zero, List.set_cons_succ]
                      refine wpAnyL_take (i := 5) (oi := ?ozz26) (v := ?vzz26) ?hzz26 ?azz26 ?bzz26 ?czz26 ?kzz26 ?qzz26 ?yzz26 ?szz26 ?rzz26
                      case hzz26 => simp only [List.getElem?_toArray, List.getElem?_cons_zero, List.getElem?_cons_succ]; rfl
                      case azz26 => kernel_rfl
                      case bzz26 => kernel_rfl
                      case czz26 => kernel_rfl
                      case kzz26 => kernel_rfl
                      case yzz26 =>
                        refine Or.inl ⟨by rfl, ?_⟩
                        intro w hSw
                        have a0 := box_ hSw x0; have a1 := box_ hSw x1; clear hSw
                        go_simp
                        try with_reducible rfl
                      case qzz26 => exact fun _ _ _ h => h
                      case szz26 => first | assumption | trivial
                      case' rzz26 => simp only [Act.put, List.setIfInBounds_toArray, List.set_cons_zero, List.set_cons_succ]
                      refine wpAnyL_ready (rs := [7]) (by kernel_rfl) (by simp) ?_
                      refine AllReadyL.consK (o := ?ozz28) ?hzz28 ?lzz28 (fun K hK => ?kzz28) ?mzz28
                      case hzz28 => simp only [List.getElem?_toArray, List.getElem?_cons_zero, List.getElem?_cons_succ]; rfl
                      case lzz28 => kernel_rfl
                      case kzz28 =>
                        have HZ := Lib.hid hHeld
                        have HB := Lib.hid (B0.out.1.q HZ.out)
                        obtain ⟨⟨st0, st1⟩, st2, st3⟩ := HB.out.get2
                        go_simp
                        clear st0 st1 st2 st3
                        refine hK.out _ _ ?Rzz28
                        case Rzz28 =>
                          clear hK K
                          try simp only [Act.put, List.setIfInBounds_toArray, List.set_cons_zero, List.set_cons_succ]
                          refine wpAnyH_take (i := 8) (oi := ?ozz27) (v := ?vzz27) ?hzz27 ?azz27 ?bzz27 ?czz27 ?qzz27 ?yzz27 ?szz27 ?rzz27
                          case hzz27 => simp only [List.getElem?_toArray, List.getElem?_cons_zero, List.getElem?_cons_succ]; rfl
                          case azz27 => kernel_rfl
                          case bzz27 => kernel_rfl
                          case czz27 => kernel_rfl
                          case yzz27 =>
                            refine Or.inl ⟨by rfl, ?_⟩
                            intro w hSw
                            skip
                            go_simp
                            try with_reducible rfl
                          case qzz27 => exact fun _ _ _ h => h
                          case szz27 => first | assumption | trivial
                          case' rzz27 => simp only [Act.put, List.setIfInBounds_toArray, List.set_cons_zero, List.set_cons_succ]
                          refine wpAnyH_done (by kernel_rfl) ?_ _
                          have Z1 := Lib.hid ((B0.out.1.q HZ.out).set2 (.int .u64 (f.at_ : Int)) (.int .i64 f.id))
                          have Z2 := Lib.hid (HR.out.set2 hw1 (.int .u64 (f.at_ : Int)) (.int .i64 f.id))
                          have Z3 := Lib.hid ((B0.out.2.trans HZ.out).set2 (b := w.heap.size) (Nat.le_refl _) (.int .u64 (f.at_ : Int)) (.int .i64 f.id))
                          generalize ((v3.setCell ⟨w.heap.size, 0, none⟩ (.int .u64 (f.at_ : Int))).setCell ⟨w.heap.size, 1, none⟩ (.int .i64 f.id)) = W9 at Z1 Z2 Z3 ⊢
                          go_wp2
                          obtain ⟨⟨r0, r1⟩, _⟩ := Z1.out.get2
                          refine bodyPost_ret (v := .tuple #[.slice (some ⟨p, 0, none⟩) m c2, .agg #[.int .u64 (f.at_ : Int), .int .i64 f.id], .bool true]) (by simp [results, Try.results12, go_sem, r0, r1]) rfl ?_
                          refine ⟨some ⟨p, 0, none⟩, c2, by rw [HPL.out.1, decide_eq_true HPL.out.2], ?_, ?_, Z3.out⟩
                          · rw [HPL.out.1]; exact Z2.out.in_ (by show m * 16 ≤ _; omega)
                          · rintro _ ad2 e
                            injection e with e
                            subst e
                            exact ⟨Nat.le_trans (Nat.le_of_lt hw1) Z2.out.block_lt.1, Z2.out.block_lt.2⟩
                      case' mzz28 => skip
                      exact AllReadyL.nil
                  case' mzz30 => skip
                  exact AllReadyL.nil
              case' mzz35 => skip
              refine AllReadyL.cons (o := ?ozz36) ?hzz36 (fun K hK => ?kzz36) ?mzz36
              case hzz36 => simp only [List.getElem?_toArray, List.getElem?_cons_zero, List.getElem?_cons_succ]; rfl
              case kzz36 =>
                go_simp
                refine hK.out _ _ ?Szz36 (fun hHeld => ?Rzz36)
                case Szz36 =>
                  first | exact hHeld | trivial
                case Rzz36 =>
                  clear hK K
                  try simp only [Act.put, List.setIfInBounds_toArray, List.set_cons_zero, List.set_cons_succ]
                  refine wpAnyL_take (i := 4) (oi := ?ozz31) (v := ?vzz31) ?hzz31 ?azz31 ?bzz31 ?czz31 ?kzz31 ?qzz31 ?yzz31 ?szz31 ?rzz31
                  case hzz31 => simp only [List.getElem?_toArray, List.getElem?_cons_zero, List.getElem?_cons_succ]; rfl
                  case azz31 => kernel_rfl
                  case bzz31 => kernel_rfl
                  case czz31 => kernel_rfl
                  case kzz31 => kernel_rfl
                  case yzz31 =>
                    refine Or.inl ⟨by rfl, ?_⟩
                    intro w hSw
                    skip
                    go_simp
                    try with_reducible rfl
                  case qzz31 => exact fun _ _ _ h => h
                  case szz31 => first | assumption | trivial
                  case' rzz31 => simp only [Act.put, List.setIfInBounds_toArray, List.set_cons_zero, List.set_cons_succ]
                  refine wpAnyL_take (i := 5) (oi := ?ozz32) (v := ?vzz32) ?hzz32 ?azz32 ?bzz32 ?czz32 ?kzz32 ?qzz32 ?yzz32 ?szz32 ?rzz32
                  case hzz32 => simp only [List.getElem?_toArray, List.getElem?_cons_zero, List.getElem?_cons_succ]; rfl
                  case azz32 => kernel_rfl
                  case bzz32 => kernel_rfl
                  case czz32 => kernel_rfl
                  case kzz32 => kernel_rfl
                  case yzz32 =>
                    refine Or.inl ⟨by rfl, ?_⟩
                    intro w hSw
                    have a0 := box_ hSw x0; have a1 := box_ hSw x1; clear hSw
                    go_simp
                    try with_reducible rfl
                  case qzz32 => exact fun _ _ _ h => h
                  case szz32 => first | assumption | trivial
                  case' rzz32 => simp only [Act.put, List.setIfInBounds_toArray, List.set_cons_zero, List.set_cons_succ]
                  refine wpAnyL_ready (rs := [7]) (by kernel_rfl) (by simp) ?_
                  refine AllReadyL.consK (o := ?ozz34) ?hzz34 ?lzz34 (fun K hK => ?kzz34) ?mzz34
                  case hzz34 => simp only [List.getElem?_toArray, List.getElem?_cons_zero, List.getElem?_cons_succ]; rfl
                  case lzz34 => kernel_rfl
                  case kzz34 =>
                    have HZ := Lib.hid hHeld
                    have HB := Lib.hid (B0.out.1.q HZ.out)
                    obtain ⟨⟨st0, st1⟩, st2, st3⟩ := HB.out.get2
                    go_simp
                    clear st0 st1 st2 st3
                    refine hK.out _ _ ?Rzz34
                    case Rzz34 =>
                      clear hK K
                      try simp only [Act.put, List.setIfInBounds_toArray, List.set_cons_zero, List.set_cons_succ]
                      refine wpAnyH_take (i := 8) (oi := ?ozz33) (v := ?vzz33) ?hzz33 ?azz33 ?bzz33 ?czz33 ?qzz33 ?yzz33 ?szz33 ?rzz33
                      case hzz33 => simp only [List.getElem?_toArray, List.getElem?_cons_zero, List.getElem?_cons_succ]; rfl
                      case azz33 => kernel_rfl
                      case bzz33 => kernel_rfl
                      case czz33 => kernel_rfl
                      case yzz33 =>
                        refine Or.inl ⟨by rfl, ?_⟩
                        intro w hSw
                        skip
                        go_simp
                        try with_reducible rfl
                      case qzz33 => exact fun _ _ _ h => h
                      case szz33 => first | assumption | trivial
                      case' rzz33 => simp only [Act.put, List.setIfInBounds_toArray, List.set_cons_zero, List.set_cons_succ]
                      refine wpAnyH_done (by kernel_rfl) ?_ _
                      have Z1 := Lib.hid ((B0.out.1.q HZ.out).set2 (.int .u64 (f.at_ : Int)) (.int .i64 f.id))
                      have Z2 := Lib.hid (HR.out.set2 hw1 (.int .u64 (f.at_ : Int)) (.int .i64 f.id))
                      have Z3 := Lib.hid ((B0.out.2.trans HZ.out).set2 (b := w.heap.size) (Nat.le_refl _) (.int .u64 (f.at_ : Int)) (.int .i64 f.id))
                      generalize ((v3.setCell ⟨w.heap.size, 0, none⟩ (.int .u64 (f.at_ : Int))).setCell ⟨w.heap.size, 1, none⟩ (.int .i64 f.id)) = W9 at Z1 Z2 Z3 ⊢
                      go_wp2
                      obtain ⟨⟨r0, r1⟩, _⟩ := Z1.out.get2
                      refine bodyPost_ret (v := .tuple #[.slice (some ⟨p, 0, none⟩) m c2, .agg #[.int .u64 (f.at_ : Int), .int .i64 f.id], .bool true]) (by simp [results, Try.results12, go_sem, r0, r1]) rfl ?_
                      refine ⟨some ⟨p, 0, none⟩, c2, by rw [HPL.out.1, decide_eq_true HPL.out.2], ?_, ?_, Z3.out⟩
                      · rw [HPL.out.1]; exact Z2.out.in_ (by show m * 16 ≤ _; omega)
                      · rintro _ ad2 e
                        injection e with e
                        subst e
                        exact ⟨Nat.le_trans (Nat.le_of_lt hw1) Z2.out.block_lt.1, Z2.out.block_lt.2⟩
                  case' mzz34 => skip
                  exact AllReadyL.nil
              case' mzz36 => skip
              exact AllReadyL.nil
          case' mzz51 => skip
          refine AllReadyL.cons (o := ?ozz52) ?hzz52 (fun K hK => ?kzz52) ?mzz52
          case hzz52 => simp only [List.getElem?_toArray, List.getElem?_cons_zero, List.getElem?_cons_succ]; rfl
          case kzz52 =>
            go_simp
            refine hK.out _ _ ?Szz52 (fun hHeld => ?Rzz52)
            case Szz52 =>
              first | exact hHeld | trivial
            case Rzz52 =>
              clear hK K
              try simp only [Act.put, List.setIfInBounds_toArray, List.set_cons_zero, List.set_cons_succ]
              refine wpAnyL_ready (rs := [2, 5]) (by kernel_rfl) (by simp) ?_
              refine AllReadyL.cons (o := ?ozz49) ?hzz49 (fun K hK => ?kzz49) ?mzz49
              case hzz49 => simp only [List.getElem?_toArray, List.getElem?_cons_zero, List.getElem?_cons_succ]; rfl
              case kzz49 =>
                go_simp
                refine (K2.out _ p c2 _ (HO.out.q (by first | exact Q.refl _ | assumption))).mono ?_
                rintro e v3 ⟨rfl, o3, q3⟩
                have HR := Lib.hid o3
                go_wp2_with fail
                refine hK.out _ _ ?Szz49 (fun hHeld => ?Rzz49)
                case Szz49 =>
                  exact Below.trans hHeld (only_below q3 hp hHeld.size)
                case Rzz49 =>
                  clear hK K
                  try simp only [Act.put, List.setIfInBounds_toArray, List.set_cons_zero, List.set_cons_succ]
                  refine wpAnyL_ready (rs := [5, 6]) (by kernel_rfl) (by simp) ?_
                  refine AllReadyL.cons (o := ?ozz43) ?hzz43 (fun K hK => ?kzz43) ?mzz43
                  case hzz43 => simp only [List.getElem?_toArray, List.getElem?_cons_zero, List.getElem?_cons_succ]; rfl
                  case kzz43 =>
                    have hSw := hHeld
                    have a0 := box_ hSw x0; have a1 := box_ hSw x1; clear hSw
                    go_simp
                    refine hK.out _ _ ?Szz43 (fun hHeld => ?Rzz43)
                    case Szz43 =>
                      first | exact hHeld | trivial
                    case Rzz43 =>
                      clear hK K
                      try simp only [Act.put, List.setIfInBounds_toArray, List.set_cons_zero, List.set_cons_succ]
                      refine wpAnyL_take (i := 6) (oi := ?ozz37) (v := ?vzz37) ?hzz37 ?azz37 ?bzz37 ?czz37 ?kzz37 ?qzz37 ?yzz37 ?szz37 ?rzz37
                      case hzz37 => simp only [List.getElem?_toArray, List.getElem?_cons_zero, List.getElem?_cons_succ]; rfl
                      case azz37 => kernel_rfl
                      case bzz37 => kernel_rfl
                      case czz37 => kernel_rfl
                      case kzz37 => kernel_rfl
                      case yzz37 =>
                        refine Or.inl ⟨by rfl, ?_⟩
                        intro w hSw
                        skip
                        go_simp
                        try with_reducible rfl
                      case qzz37 => exact fun _ _ _ h => h
                      case szz37 => first | assumption | trivial
                      case' rzz37 => simp only [Act.put, List.setIfInBounds_toArray, List.set_cons_zero, List.set_cons_succ]
                      refine wpAnyL_ready (rs := [7]) (by kernel_rfl) (by simp) ?_
                      refine AllReadyL.consK (o := ?ozz39) ?hzz39 ?lzz39 (fun K hK => ?kzz39) ?mzz39
                      case hzz39 => simp only [List.getElem?_toArray, List.getElem?_cons_zero, List.getElem?_cons_succ]; rfl
                      case lzz39 => kernel_rfl
                      case kzz39 =>
                        have HZ := Lib.hid hHeld
                        have HB := Lib.hid (B0.out.1.q HZ.out)
                        obtain ⟨⟨st0, st1⟩, st2, st3⟩ := HB.out.get2
                        go_simp
                        clear st0 st1 st2 st3
                        refine hK.out _ _ ?Rzz39
                        case Rzz39 =>
                          clear hK K
                          try simp only [Act.put, List.setIfInBounds_toArray, List.set_cons_zero, List.set_cons_succ]
                          refine wpAnyH_take (i := 8) (oi := ?ozz38) (v := ?vzz38) ?hzz38 ?azz38 ?bzz38 ?czz38 ?qzz38 ?yzz38 ?szz38 ?rzz38
                          case hzz38 => simp only [List.getElem?_toArray, List.getElem?_cons_zero, List.getElem?_cons_succ]; rfl
                          case azz38 => kernel_rfl
                          case bzz38 => kernel_rfl
                          case czz38 => kernel_rfl
                          case yzz38 =>
                            refine Or.inl ⟨by rfl, ?_⟩
                            intro w hSw
                            skip
                            go_simp
                            try with_reducible rfl
                          case qzz38 => exact fun _ _ _ h => h
                          case szz38 => first | assumption | trivial
                          case' rzz38 => simp only [Act.put, List.setIfInBounds_toArray, List.set_cons_zero, List.set_cons_succ]
                          refine wpAnyH_done (by kernel_rfl) ?_ _
                          have Z1 := Lib.hid ((B0.out.1.q HZ.out).set2 (.int .u64 (f.at_ : Int)) (.int .i64 f.id))
                          have Z2 := Lib.hid (HR.out.set2 hw1 (.int .u64 (f.at_ : Int)) (.int .i64 f.id))
                          have Z3 := Lib.hid ((B0.out.2.trans HZ.out).set2 (b := w.heap.size) (Nat.le_refl _) (.int .u64 (f.at_ : Int)) (.int .i64 f.id))
                          generalize ((v3.setCell ⟨w.heap.size, 0, none⟩ (.int .u64 (f.at_ : Int))).setCell ⟨w.heap.size, 1, none⟩ (.int .i64 f.id)) = W9 at Z1 Z2 Z3 ⊢
                          go_wp2
                          obtain ⟨⟨r0, r1⟩, _⟩ := Z1.out.get2
                          refine bodyPost_ret (v := .tuple #[.slice (some ⟨p, 0, none⟩) m c2, .agg #[.int .u64 (f.at_ : Int), .int .i64 f.id], .bool true]) (by simp [results, Try.results12, go_sem, r0, r1]) rfl ?_
                          refine ⟨some ⟨p, 0, none⟩, c2, by rw [HPL.out.1, decide_eq_true HPL.out.2], ?_, ?_, Z3.out⟩
                          · rw [HPL.out.1]; exact Z2.out.in_ (by show m * 16 ≤ _; omega)
                          · rintro _ ad2 e
                            injection e with e
                            subst e
                            exact ⟨Nat.le_trans (Nat.le_of_lt hw1) Z2.out.block_lt.1, Z2.out.block_lt.2⟩
                      case' mzz39 => skip
                      exact AllReadyL.nil
                  case' mzz43 => skip
                  refine AllReadyL.cons (o := ?ozz44) ?hzz44 (fun K hK => ?kzz44) ?mzz44
                  case hzz44 => simp only [List.getElem?_toArray, List.getElem?_cons_zero, List.getElem?_cons_succ]; rfl
                  case kzz44 =>
                    go_simp
                    refine hK.out _ _ ?Szz44 (fun hHeld => ?Rzz44)
                    case Szz44 =>
                      first | exact hHeld | trivial
                    case Rzz44 =>
                      clear hK K
                      try simp only [Act.put, List.setIfInBounds_toArray, List.set_cons_zero, List.set_cons_succ]
                      refine wpAnyL_take (i := 5) (oi := ?ozz40) (v := ?vzz40) ?hzz40 ?azz40 ?bzz40 ?czz40 ?kzz40 ?qzz40 ?yzz40 ?szz40 ?rzz40
                      case hzz40 => simp only [List.getElem?_toArray, List.getElem?_cons_zero, List.getElem?_cons_succ]; rfl
                      case azz40 => kernel_rfl
                      case bzz40 => kernel_rfl
                      case czz40 => kernel_rfl
                      case kzz40 => kernel_rfl
                      case yzz40 =>
                        refine Or.inl ⟨by rfl, ?_⟩
                        intro w hSw
                        have a0 := box_ hSw x0; have a1 := box_ hSw x1; clear hSw
                        go_simp
                        try with_reducible rfl
                      case qzz40 => exact fun _ _ _ h => h
                      case szz40 => first | assumption | trivial
                      case' rzz40 => simp only [Act.put, List.setIfInBounds_toArray, List.set_cons_zero, List.set_cons_succ]
                      refine wpAnyL_ready (rs := [7]) (by kernel_rfl) (by simp) ?_
                      refine AllReadyL.consK (o := ?ozz42) ?hzz42 ?lzz42 (fun K hK => ?kzz42) ?mzz42
                      case hzz42 => simp only [List.getElem?_toArray, List.getElem?_cons_zero, List.getElem?_cons_succ]; rfl
                      case lzz42 => kernel_rfl
                      case kzz42 =>
                        have HZ := Lib.hid hHeld
                        have HB := Lib.hid (B0.out.1.q HZ.out)
                        obtain ⟨⟨st0, st1⟩, st2, st3⟩ := HB.out.get2
                        go_simp
                        clear st0 st1 st2 st3
                        refine hK.out _ _ ?Rzz42
                        case Rzz42 =>
                          clear hK K
                          try simp only [Act.put, List.setIfInBounds_toArray, List.set_cons_zero, List.set_cons_succ]
                          refine wpAnyH_take (i := 8) (oi := ?ozz41) (v := ?vzz41) ?hzz41 ?azz41 ?bzz41 ?czz41 ?qzz41 ?yzz41 ?szz41 ?rzz41
                          case hzz41 => simp only [List.getElem?_toArray, List.getElem?_cons_zero, List.getElem?_cons_succ]; rfl
                          case azz41 => kernel_rfl
                          case bzz41 => kernel_rfl
                          case czz41 => kernel_rfl
                          case yzz41 =>
                            refine Or.inl ⟨by rfl, ?_⟩
                            intro w hSw
                            skip
                            go_simp
                            try with_reducible rfl
                          case qzz41 => exact fun _ _ _ h => h
                          case szz41 => first | assumption | trivial
                          case' rzz41 => simp only [Act.put, List.setIfInBounds_toArray, List.set_cons_zero, List.set_cons_succ]
                          refine wpAnyH_done (by kernel_rfl) ?_ _
                          have Z1 := Lib.hid ((B0.out.1.q HZ.out).set2 (.int .u64 (f.at_ : Int)) (.int .i64 f.id))
                          have Z2 := Lib.hid (HR.out.set2 hw1 (.int .u64 (f.at_ : Int)) (.int .i64 f.id))
                          have Z3 := Lib.hid ((B0.out.2.trans HZ.out).set2 (b := w.heap.size) (Nat.le_refl _) (.int .u64 (f.at_ : Int)) (.int .i64 f.id))
                          generalize ((v3.setCell ⟨w.heap.size, 0, none⟩ (.int .u64 (f.at_ : Int))).setCell ⟨w.heap.size, 1, none⟩ (.int .i64 f.id)) = W9 at Z1 Z2 Z3 ⊢
                          go_wp2
                          obtain ⟨⟨r0, r1⟩, _⟩ := Z1.out.get2
                          refine bodyPost_ret (v := .tuple #[.slice (some ⟨p, 0, none⟩) m c2, .agg #[.int .u64 (f.at_ : Int), .int .i64 f.id], .bool true]) (by simp [results, Try.results12, go_sem, r0, r1]) rfl ?_
                          refine ⟨some ⟨p, 0, none⟩, c2, by rw [HPL.out.1, decide_eq_true HPL.out.2], ?_, ?_, Z3.out⟩
                          · rw [HPL.out.1]; exact Z2.out.in_ (by show m * 16 ≤ _; omega)
                          · rintro _ ad2 e
                            injection e with e
                            subst e
                            exact ⟨Nat.le_trans (Nat.le_of_lt hw1) Z2.out.block_lt.1, Z2.out.block_lt.2⟩
                      case' mzz42 => skip
                      exact AllReadyL.nil
                  case' mzz44 => skip
                  exact AllReadyL.nil
              case' mzz49 => skip
              refine AllReadyL.cons (o := ?ozz50) ?hzz50 (fun K hK => ?kzz50) ?mzz50
              case hzz50 => simp only [List.getElem?_toArray, List.getElem?_cons_zero, List.getElem?_cons_succ]; rfl
              case kzz50 =>
                have hSw := hHeld
                have a0 := box_ hSw x0; have a1 := box_ hSw x1; clear hSw
                go_simp
                refine hK.out _ _ ?Szz50 (fun hHeld => ?Rzz50)
                case Szz50 =>
                  first | exact hHeld | trivial
                case Rzz50 =>
                  clear hK K
                  try simp only [Act.put, List.setIfInBounds_toArray, List.set_cons_zero, List.set_cons_succ]
                  refine wpAnyL_ready (rs := [2]) (by kernel_rfl) (by simp) ?_
                  refine AllReadyL.cons (o := ?ozz48) ?hzz48 (fun K hK => ?kzz48) ?mzz48
                  case hzz48 => simp only [List.getElem?_toArray, List.getElem?_cons_zero, List.getElem?_cons_succ]; rfl
                  case kzz48 =>
                    go_simp
                    refine (K2.out _ p c2 _ (HO.out.q (by first | exact Q.refl _ | assumption))).mono ?_
                    rintro e v3 ⟨rfl, o3, q3⟩
                    have HR := Lib.hid o3
                    go_wp2_with fail
                    refine hK.out _ _ ?Szz48 (fun hHeld => ?Rzz48)
                    case Szz48 =>
                      exact Below.trans hHeld (only_below q3 hp hHeld.size)
                    case Rzz48 =>
                      clear hK K
                      try simp only [Act.put, List.setIfInBounds_toArray, List.set_cons_zero, List.set_cons_succ]
                      refine wpAnyL_take (i := 6) (oi := ?ozz45) (v := ?vzz45) ?hzz45 ?azz45 ?bzz45 ?czz45 ?kzz45 ?qzz45 ?yzz45 ?szz45 ?rzz45
                      case hzz45 => simp only [List.getElem?_toArray, List.getElem?_cons_zero, List.getElem?_cons_succ]; rfl
                      case azz45 => kernel_rfl
                      case bzz45 => kernel_rfl
                      case czz45 => kernel_rfl
                      case kzz45 => kernel_rfl
                      case yzz45 =>
                        refine Or.inl ⟨by rfl, ?_⟩
                        intro w hSw
                        skip
                        go_simp
                        try with_reducible rfl
                      case qzz45 => exact fun _ _ _ h => h
                      case szz45 => first | assumption | trivial
                      case' rzz45 => simp only [Act.put, List.setIfInBounds_toArray, List.set_cons_zero, List.set_cons_succ]
                      refine wpAnyL_ready (rs := [7]) (by kernel_rfl) (by simp) ?_
                      refine AllReadyL.consK (o := ?ozz47) ?hzz47 ?lzz47 (fun K hK => ?kzz47) ?mzz47
                      case hzz47 => simp only [List.getElem?_toArray, List.getElem?_cons_zero, List.getElem?_cons_succ]; rfl
                      case lzz47 => kernel_rfl
                      case kzz47 =>
                        have HZ := Lib.hid hHeld
                        have HB := Lib.hid (B0.out.1.q HZ.out)
                        obtain ⟨⟨st0, st1⟩, st2, st3⟩ := HB.out.get2
                        go_simp
                        clear st0 st1 st2 st3
                        refine hK.out _ _ ?Rzz47
                        case Rzz47 =>
                          clear hK K
                          try simp only [Act.put, List.setIfInBounds_toArray, List.set_cons_zero, List.set_cons_succ]
                          refine wpAnyH_take (i := 8) (oi := ?ozz46) (v := ?vzz46) ?hzz46 ?azz46 ?bzz46 ?czz46 ?qzz46 ?yzz46 ?szz46 ?rzz46
                          case hzz46 => simp only [List.getElem?_toArray, List.getElem?_cons_zero, List.getElem?_cons_succ]; rfl
                          case azz46 => kernel_rfl
                          case bzz46 => kernel_rfl
                          case czz46 => kernel_rfl
                          case yzz46 =>
                            refine Or.inl ⟨by rfl, ?_⟩
                            intro w hSw
                            skip
                            go_simp
                            try with_reducible rfl
                          case qzz46 => exact fun _ _ _ h => h
                          case szz46 => first | assumption | trivial
                          case' rzz46 => simp only [Act.put, List.setIfInBounds_toArray, List.set_cons_zero, List.set_cons_succ]
                          refine wpAnyH_done (by kernel_rfl) ?_ _
                          have Z1 := Lib.hid ((B0.out.1.q HZ.out).set2 (.int .u64 (f.at_ : Int)) (.int .i64 f.id))
                          have Z2 := Lib.hid (HR.out.set2 hw1 (.int .u64 (f.at_ : Int)) (.int .i64 f.id))
                          have Z3 := Lib.hid ((B0.out.2.trans HZ.out).set2 (b := w.heap.size) (Nat.le_refl _) (.int .u64 (f.at_ : Int)) (.int .i64 f.id))
                          generalize ((v3.setCell ⟨w.heap.size, 0, none⟩ (.int .u64 (f.at_ : Int))).setCell ⟨w.heap.size, 1, none⟩ (.int .i64 f.id)) = W9 at Z1 Z2 Z3 ⊢
                          go_wp2
                          obtain ⟨⟨r0, r1⟩, _⟩ := Z1.out.get2
                          refine bodyPost_ret (v := .tuple #[.slice (some ⟨p, 0, none⟩) m c2, .agg #[.int .u64 (f.at_ : Int), .int .i64 f.id], .bool true]) (by simp [results, Try.results12, go_sem, r0, r1]) rfl ?_
                          refine ⟨some ⟨p, 0, none⟩, c2, by rw [HPL.out.1, decide_eq_true HPL.out.2], ?_, ?_, Z3.out⟩
                          · rw [HPL.out.1]; exact Z2.out.in_ (by show m * 16 ≤ _; omega)
                          · rintro _ ad2 e
                            injection e with e
                            subst e
                            exact ⟨Nat.le_trans (Nat.le_of_lt hw1) Z2.out.block_lt.1, Z2.out.block_lt.2⟩
                      case' mzz47 => skip
                      exact AllReadyL.nil
                  case' mzz48 => skip
                  exact AllReadyL.nil
              case' mzz50 => skip
              exact AllReadyL.nil
          case' mzz52 => skip
          exact AllReadyL.nil
      case' mzz54 => skip
      exact AllReadyL.nil
  case' mzz108 => skip
  refine AllReadyL.cons (o := ?ozz109) ?hzz109 (fun K hK => ?kzz109) ?mzz109
  case hzz109 => simp only [List.getElem?_toArray, List.getElem?_cons_zero, List.getElem?_cons_succ]; rfl
  case kzz109 =>
    go_simp
    refine hK.out _ _ ?Szz109 (fun hHeld => ?Rzz109)
    case Szz109 =>
      first | exact hHeld | trivial
    case Rzz109 =>
      clear hK K
      try simp only [Act.put, List.setIfInBounds_toArray, List.set_cons_zero, List.set_cons_succ]
      refine wpAnyL_ready (rs := [1, 4]) (by kernel_rfl) (by simp) ?_
      refine AllReadyL.cons (o := ?ozz106) ?hzz106 (fun K hK => ?kzz106) ?mzz106
      case hzz106 => simp only [List.getElem?_toArray, List.getElem?_cons_zero, List.getElem?_cons_succ]; rfl
      case kzz106 =>
        go_simp
        refine (K1.out _ (B0.out.2.trans hHeld)).mono ?_
        rintro e v2 ⟨A2, c2, rfl, o2, q2⟩
        obtain ⟨p, rfl⟩ := own_some o2 hnp
        have hp : W1.heap.size ≤ p := Nat.le_trans hHeld.size o2.block_lt.1
        have HO := Lib.hid (o2.lower (b2 := W1.heap.size) hHeld.size)
        go_wp2_with fail
        refine hK.out _ _ ?Szz106 (fun hHeld => ?Rzz106)
        case Szz106 =>
          exact hHeld.trans q2
        case Rzz106 =>
          clear hK K
          try simp only [Act.put, List.setIfInBounds_toArray, List.set_cons_zero, List.set_cons_succ]
          refine wpAnyL_ready (rs := [2, 4]) (by kernel_rfl) (by simp) ?_
          refine AllReadyL.cons (o := ?ozz83) ?hzz83 (fun K hK => ?kzz83) ?mzz83
          case hzz83 => simp only [List.getElem?_toArray, List.getElem?_cons_zero, List.getElem?_cons_succ]; rfl
          case kzz83 =>
            go_simp
            refine (K2.out _ p c2 _ (HO.out.q (by first | exact Q.refl _ | assumption))).mono ?_
            rintro e v3 ⟨rfl, o3, q3⟩
            have HR := Lib.hid o3
            go_wp2_with fail
            refine hK.out _ _ ?Szz83 (fun hHeld => ?Rzz83)
            case Szz83 =>
              exact Below.trans hHeld (only_below q3 hp hHeld.size)
            case Rzz83 =>
              clear hK K
              try simp only [Act.put, List.setIfInBounds_toArray, List.set_cons_zero, List.set_cons_succ]
              refine wpAnyL_ready (rs := [4, 6]) (by kernel_rfl) (by simp) ?_
              refine AllReadyL.cons (o := ?ozz67) ?hzz67 (fun K hK => ?kzz67) ?mzz67
              case hzz67 => simp only [List.getElem?_toArray, List.getElem?_cons_zero, List.getElem?_cons_succ]; rfl
              case kzz67 =>
                go_simp
                refine hK.out _ _ ?Szz67 (fun hHeld => ?Rzz67)
                case Szz67 =>
                  first | exact hHeld | trivial
                case Rzz67 =>
                  clear hK K
                  try simp only [Act.put, List.setIfInBounds_toArray, List.set_cons_zero, List.set_cons_succ]
                  refine wpAnyL_ready (rs := [5, 6]) (by kernel_rfl) (by simp) ?_
                  refine AllReadyL.cons (o := ?ozz61) ?hzz61 (fun K hK => ?kzz61) ?mzz61
                  case hzz61 => simp only [List.getElem?_toArray, List.getElem?_cons_zero, List.getElem?_cons_succ]; rfl
                  case kzz61 =>
                    have hSw := hHeld
                    have a0 := box_ hSw x0; have a1 := box_ hSw x1; clear hSw
                    go_simp
                    refine hK.out _ _ ?Szz61 (fun hHeld => ?Rzz61)
                    case Szz61 =>
                      first | exact hHeld | trivial
                    case Rzz61 =>
                      clear hK K
                      try simp only [Act.put, List.setIfInBounds_toArray, List.set_cons_zero, List.set_cons_succ]
                      refine wpAnyL_take (i := 6) (oi := ?ozz55) (v := ?vzz55) ?hzz55 ?azz55 ?bzz55 ?czz55 ?kzz55 ?qzz55 ?yzz55 ?szz55 ?rzz55
                      case hzz55 => simp only [List.getElem?_toArray, List.getElem?_cons_zero, List.getElem?_cons_succ]; rfl
                      case azz55 => kernel_rfl
                      case bzz55 => kernel_rfl
                      case czz55 => kernel_rfl
                      case kzz55 => kernel_rfl
                      case yzz55 =>
                        refine Or.inl ⟨by rfl, ?_⟩
                        intro w hSw
                        skip
                        go_simp
                        try with_reducible rfl
                      case qzz55 => exact fun _ _ _ h => h
                      case szz55 => first | assumption | trivial
                      case' rzz55 => simp only [Act.put, List.setIfInBounds_toArray, List.set_cons_zero, List.set_cons_succ]
                      refine wpAnyL_ready (rs := [7]) (by kernel_rfl) (by simp) ?_
                      refine AllReadyL.consK (o := ?ozz57) ?hzz57 ?lzz57 (fun K hK => ?kzz57) ?mzz57
                      case hzz57 => simp only [List.getElem?_toArray, List.getElem?_cons_zero, List.getElem?_cons_succ]; rfl
                      case lzz57 => kernel_rfl
                      case kzz57 =>
                        have HZ := Lib.hid hHeld
                        have HB := Lib.hid (B0.out.1.q HZ.out)
                        obtain ⟨⟨st0, st1⟩, st2, st3⟩ := HB.out.get2
                        go_simp
                        clear st0 st1 st2 st3
                        refine hK.out _ _ ?Rzz57
                        case Rzz57 =>
                          clear hK K
                          try simp only [Act.put, List.setIfInBounds_toArray, List.set_cons_zero, List.set_cons_succ]
                          refine wpAnyH_take (i := 8) (oi := ?ozz56) (v := ?vzz56) ?hzz56 ?azz56 ?bzz56 ?czz56 ?qzz56 ?yzz56 ?szz56 ?rzz56
                          case hzz56 => simp only [List.getElem?_toArray, List.getElem?_cons_zero, List.getElem?_cons_succ]; rfl
                          case azz56 => kernel_rfl
                          case bzz56 => kernel_rfl
                          case czz56 => kernel_rfl
                          case yzz56 =>
                            refine Or.inl ⟨by rfl, ?_⟩
                            intro w hSw
                            skip
                            go_simp
                            try with_reducible rfl
                          case qzz56 => exact fun _ _ _ h => h
                          case szz56 => first | assumption | trivial
                          case' rzz56 => simp only [Act.put, List.setIfInBounds_toArray, List.set_cons_zero, List.set_cons_succ]
                          refine wpAnyH_done (by kernel_rfl) ?_ _
                          have Z1 := Lib.hid ((B0.out.1.q HZ.out).set2 (.int .u64 (f.at_ : Int)) (.int .i64 f.id))
                          have Z2 := Lib.hid (HR.out.set2 hw1 (.int .u64 (f.at_ : Int)) (.int .i64 f.id))
                          have Z3 := Lib.hid ((B0.out.2.trans HZ.out).set2 (b := w.heap.size) (Nat.le_refl _) (.int .u64 (f.at_ : Int)) (.int .i64 f.id))
                          generalize ((v3.setCell ⟨w.heap.size, 0, none⟩ (.int .u64 (f.at_ : Int))).setCell ⟨w.heap.size, 1, none⟩ (.int .i64 f.id)) = W9 at Z1 Z2 Z3 ⊢
                          go_wp2
                          obtain ⟨⟨r0, r1⟩, _⟩ := Z1.out.get2
                          refine bodyPost_ret (v := .tuple #[.slice (some ⟨p, 0, none⟩) m c2, .agg #[.int .u64 (f.at_ : Int), .int .i64 f.id], .bool true]) (by simp [results, Try.results12, go_sem, r0, r1]) rfl ?_
                          refine ⟨some ⟨p, 0, none⟩, c2, by rw [HPL.out.1, decide_eq_true HPL.out.2], ?_, ?_, Z3.out⟩
                          · rw [HPL.out.1]; exact Z2.out.in_ (by show m * 16 ≤ _; omega)
                          · rintro _ ad2 e
                            injection e with e
                            subst e
                            exact ⟨Nat.le_trans (Nat.le_of_lt hw1) Z2.out.block_lt.1, Z2.out.block_lt.2⟩
                      case' mzz57 => skip
                      exact AllReadyL.nil
                  case' mzz61 => skip
                  refine AllReadyL.cons (o := ?ozz62) ?hzz62 (fun K hK => ?kzz62) ?mzz62
                  case hzz62 => simp only [List.getElem?_toArray, List.getElem?_cons_zero, List.getElem?_cons_succ]; rfl
                  case kzz62 =>
                    go_simp
                    refine hK.out _ _ ?Szz62 (fun hHeld => ?Rzz62)
                    case Szz62 =>
                      first | exact hHeld | trivial
                    case Rzz62 =>
                      clear hK K
                      try simp only [Act.put, List.setIfInBounds_toArray, List.set_cons_zero, List.set_cons_succ]
                      refine wpAnyL_take (i := 5) (oi := ?ozz58) (v := ?vzz58) ?hzz58 ?azz58 ?bzz58 ?czz58 ?kzz58 ?qzz58 ?yzz58 ?szz58 ?rzz58
                      case hzz58 => simp only [List.getElem?_toArray, List.getElem?_cons_zero, List.getElem?_cons_succ]; rfl
                      case azz58 => kernel_rfl
                      case bzz58 => kernel_rfl
                      case czz58 => kernel_rfl
                      case kzz58 => kernel_rfl
                      case yzz58 =>
                        refine Or.inl ⟨by rfl, ?_⟩
                        intro w hSw
                        have a0 := box_ hSw x0; have a1 := box_ hSw x1; clear hSw
                        go_simp
                        try with_reducible rfl
                      case qzz58 => exact fun _ _ _ h => h
                      case szz58 => first | assumption | trivial
                      case' rzz58 => simp only [Act.put, List.setIfInBounds_toArray, List.set_cons_zero, List.set_cons_succ]
                      refine wpAnyL_ready (rs := [7]) (by kernel_rfl) (by simp) ?_
                      refine AllReadyL.consK (o := ?ozz60) ?hzz60 ?lzz60 (fun K hK => ?kzz60) ?mzz60
                      case hzz60 => simp only [List.getElem?_toArray, List.getElem?_cons_zero, List.getElem?_cons_succ]; rfl
                      case lzz60 => kernel_rfl
                      case kzz60 =>
                        have HZ := Lib.hid hHeld
                        have HB := Lib.hid (B0.out.1.q HZ.out)
                        obtain ⟨⟨st0, st1⟩, st2, st3⟩ := HB.out.get2
                        go_simp
                        clear st0 st1 st2 st3
                        refine hK.out _ _ ?Rzz60
                        case Rzz60 =>
                          clear hK K
                          try simp only [Act.put, List.setIfInBounds_toArray, List.set_cons_zero, List.set_cons_succ]
                          refine wpAnyH_take (i := 8) (oi := ?ozz59) (v := ?vzz59) ?hzz59 ?azz59 ?bzz59 ?czz59 ?qzz59 ?yzz59 ?szz59 ?rzz59
                          case hzz59 => simp only [List.getElem?_toArray, List.getElem?_cons_zero, List.getElem?_cons_succ]; rfl
                          case azz59 => kernel_rfl
                          case bzz59 => kernel_rfl
                          case czz59 => kernel_rfl
                          case yzz59 =>
                            refine Or.inl ⟨by rfl, ?_⟩
                            intro w hSw
                            skip
                            go_simp
                            try with_reducible rfl
                          case qzz59 => exact fun _ _ _ h => h
                          case szz59 => first | assumption | trivial
                          case' rzz59 => simp only [Act.put, List.setIfInBounds_toArray, List.set_cons_zero, List.set_cons_succ]
                          refine wpAnyH_done (by kernel_rfl) ?_ _
                          have Z1 := Lib.hid ((B0.out.1.q HZ.out).set2 (.int .u64 (f.at_ : Int)) (.int .i64 f.id))
                          have Z2 := Lib.hid (HR.out.set2 hw1 (.int .u64 (f.at_ : Int)) (.int .i64 f.id))
                          have Z3 := Lib.hid ((B0.out.2.trans HZ.out).set2 (b := w.heap.size) (Nat.le_refl _) (.int .u64 (f.at_ : Int)) (.int .i64 f.id))
                          generalize ((v3.setCell ⟨w.heap.size, 0, none⟩ (.int .u64 (f.at_ : Int))).setCell ⟨w.heap.size, 1, none⟩ (.int .i64 f.id)) = W9 at Z1 Z2 Z3 ⊢
                          go_wp2
                          obtain ⟨⟨r0, r1⟩, _⟩ := Z1.out.get2
                          refine bodyPost_ret (v := .tuple #[.slice (some ⟨p, 0, none⟩) m c2, .agg #[.int .u64 (f.at_ : Int), .int .i64 f.id], .bool true]) (by simp [results, Try.results12, go_sem, r0, r1]) rfl ?_
                          refine ⟨some ⟨p, 0, none⟩, c2, by rw [HPL.out.1, decide_eq_true HPL.out.2], ?_, ?_, Z3.out⟩
                          · rw [HPL.out.1]; exact Z2.out.in_ (by show m * 16 ≤ _; omega)
                          · rintro _ ad2 e
                            injection e with e
                            subst e
                            exact ⟨Nat.le_trans (Nat.le_of_lt hw1) Z2.out.block_lt.1, Z2.out.block_lt.2⟩
                      case' mzz60 => skip
                      exact AllReadyL.nil
                  case' mzz62 => skip
                  exact AllReadyL.nil
              case' mzz67 => skip
              refine AllReadyL.cons (o := ?ozz68) ?hzz68 (fun K hK => ?kzz68) ?mzz68
              case hzz68 => simp only [List.getElem?_toArray, List.getElem?_cons_zero, List.getElem?_cons_succ]; rfl
              case kzz68 =>
                go_simp
                refine hK.out _ _ ?Szz68 (fun hHeld => ?Rzz68)
                case Szz68 =>
                  first | exact hHeld | trivial
                case Rzz68 =>
                  clear hK K
                  try simp only [Act.put, List.setIfInBounds_toArray, List.set_cons_zero, List.set_cons_succ]
                  refine wpAnyL_take (i := 4) (oi := ?ozz63) (v := ?vzz63) ?hzz63 ?azz63 ?bzz63 ?czz63 ?kzz63 ?qzz63 ?yzz63 ?szz63 ?rzz63
                  case hzz63 => simp only [List.getElem?_toArray, List.getElem?_cons_zero, List.getElem?_cons_succ]; rfl
                  case azz63 => kernel_rfl
                  case bzz63 => kernel_rfl
                  case czz63 => kernel_rfl
                  case kzz63 => kernel_rfl
                  case yzz63 =>
                    refine Or.inl ⟨by rfl, ?_⟩
                    intro w hSw
                    skip
                    go_simp
                    try with_reducible rfl
                  case qzz63 => exact fun _ _ _ h => h
                  case szz63 => first | assumption | trivial
                  case' rzz63 => simp only [Act.put, List.setIfInBounds_toArray, List.set_cons_zero, List.set_cons_succ]
                  refine wpAnyL_take (i := 5) (oi := ?ozz64) (v := ?vzz64) ?hzz64 ?azz64 ?bzz64 ?czz64 ?kzz64 ?qzz64 ?yzz64 ?szz64 ?rzz64
                  case hzz64 => simp only [List.getElem?_toArray, List.getElem?_cons_zero, List.getElem?_cons_succ]; rfl
                  case azz64 => kernel_rfl
                  case bzz64 => kernel_rfl
                  case czz64 => kernel_rfl
                  case kzz64 => kernel_rfl
                  case yzz64 =>
                    refine Or.inl ⟨by rfl, ?_⟩
                    intro w hSw
                    have a0 := box_ hSw x0; have a1 := box_ hSw x1; clear hSw
                    go_simp
                    try with_reducible rfl
                  case qzz64 => exact fun _ _ _ h => h
                  case szz64 => first | assumption | trivial
                  case' rzz64 => simp only [Act.put, List.setIfInBounds_toArray, List.set_cons_zero, List.set_cons_succ]
                  refine wpAnyL_ready (rs := [7]) (by kernel_rfl) (by simp) ?_
                  refine AllReadyL.consK (o := ?ozz66) ?hzz66 ?lzz66 (fun K hK => ?kzz66) ?mzz66
                  case hzz66 => simp only [List.getElem?_toArray, List.getElem?_cons_zero, List.getElem?_cons_succ]; rfl
                  case lzz66 => kernel_rfl
                  case kzz66 =>
                    have HZ := Lib.hid hHeld
                    have HB := Lib.hid (B0.out.1.q HZ.out)
                    obtain ⟨⟨st0, st1⟩, st2, st3⟩ := HB.out.get2
                    go_simp
                    clear st0 st1 st2 st3
                    refine hK.out _ _ ?Rzz66
                    case Rzz66 =>
                      clear hK K
                      try simp only [Act.put, List.setIfInBounds_toArray, List.set_cons_zero, List.set_cons_succ]
                      refine wpAnyH_take (i := 8) (oi := ?ozz65) (v := ?vzz65) ?hzz65 ?azz65 ?bzz65 ?czz65 ?qzz65 ?yzz65 ?szz65 ?rzz65
                      case hzz65 => simp only [List.getElem?_toArray, List.getElem?_cons_zero, List.getElem?_cons_succ]; rfl
                      case azz65 => kernel_rfl
                      case bzz65 => kernel_rfl
                      case czz65 => kernel_rfl
                      case yzz65 =>
                        refine Or.inl ⟨by rfl, ?_⟩
                        intro w hSw
                        skip
                        go_simp
                        try with_reducible rfl
                      case qzz65 => exact fun _ _ _ h => h
                      case szz65 => first | assumption | trivial
                      case' rzz65 => simp only [Act.put, List.setIfInBounds_toArray, List.set_cons_zero, List.set_cons_succ]
                      refine wpAnyH_done (by kernel_rfl) ?_ _
                      have Z1 := Lib.hid ((B0.out.1.q HZ.out).set2 (.int .u64 (f.at_ : Int)) (.int .i64 f.id))
                      have Z2 := Lib.hid (HR.out.set2 hw1 (.int .u64 (f.at_ : Int)) (.int .i64 f.id))
                      have Z3 := Lib.hid ((B0.out.2.trans HZ.out).set2 (b := w.heap.size) (Nat.le_refl _) (.int .u64 (f.at_ : Int)) (.int .i64 f.id))
                      generalize ((v3.setCell ⟨w.heap.size, 0, none⟩ (.int .u64 (f.at_ : Int))).setCell ⟨w.heap.size, 1, none⟩ (.int .i64 f.id)) = W9 at Z1 Z2 Z3 ⊢
                      go_wp2
                      obtain ⟨⟨r0, r1⟩, _⟩ := Z1.out.get2
                      refine bodyPost_ret (v := .tuple #[.slice (some ⟨p, 0, none⟩) m c2, .agg #[.int .u64 (f.at_ : Int), .int .i64 f.id], .bool true]) (by simp [results, Try.results12, go_sem, r0, r1]) rfl ?_
                      refine ⟨some ⟨p, 0, none⟩, c2, by rw [HPL.out.1, decide_eq_true HPL.out.2], ?_, ?_, Z3.out⟩
                      · rw [HPL.out.1]; exact Z2.out.in_ (by show m * 16 ≤ _; omega)
                      · rintro _ ad2 e
                        injection e with e
                        subst e
                        exact ⟨Nat.le_trans (Nat.le_of_lt hw1) Z2.out.block_lt.1, Z2.out.block_lt.2⟩
                  case' mzz66 => skip
                  exact AllReadyL.nil
              case' mzz68 => skip
              exact AllReadyL.nil
          case' mzz83 => skip
          refine AllReadyL.cons (o := ?ozz84) ?hzz84 (fun K hK => ?kzz84) ?mzz84
          case hzz84 => simp only [List.getElem?_toArray, List.getElem?_cons_zero, List.getElem?_cons_succ]; rfl
          case kzz84 =>
            go_simp
            refine hK.out _ _ ?Szz84 (fun hHeld => ?Rzz84)
            case Szz84 =>
              first | exact hHeld | trivial
            case Rzz84 =>
              clear hK K
              try simp only [Act.put, List.setIfInBounds_toArray, List.set_cons_zero, List.set_cons_succ]
              refine wpAnyL_ready (rs := [2, 5]) (by kernel_rfl) (by simp) ?_
              refine AllReadyL.cons (o := ?ozz81) ?hzz81 (fun K hK => ?kzz81) ?mzz81
              case hzz81 => simp only [List.getElem?_toArray, List.getElem?_cons_zero, List.getElem?_cons_succ]; rfl
              case kzz81 =>
                go_simp
                refine (K2.out _ p c2 _ (HO.out.q (by first | exact Q.refl _ | assumption))).mono ?_
                rintro e v3 ⟨rfl, o3, q3⟩
                have HR := Lib.hid o3
                go_wp2_with fail
                refine hK.out _ _ ?Szz81 (fun hHeld => ?Rzz81)
                case Szz81 =>
                  exact Below.trans hHeld (only_below q3 hp hHeld.size)
                case Rzz81 =>
                  clear hK K
                  try simp only [Act.put, List.setIfInBounds_toArray, List.set_cons_zero, List.set_cons_succ]
                  refine wpAnyL_ready (rs := [5, 6]) (by kernel_rfl) (by simp) ?_
                  refine AllReadyL.cons (o := ?ozz75) ?hzz75 (fun K hK => ?kzz75) ?mzz75
                  case hzz75 => simp only [List.getElem?_toArray, List.getElem?_cons_zero, List.getElem?_cons_succ]; rfl
                  case kzz75 =>
                    have hSw := hHeld
                    have a0 := box_ hSw x0; have a1 := box_ hSw x1; clear hSw
                    go_simp
                    refine hK.out _ _ ?Szz75 (fun hHeld => ?Rzz75)
                    case Szz75 =>
                      first | exact hHeld | trivial
                    case Rzz75 =>
                      clear hK K
                      try simp only [Act.put, List.setIfInBounds_toArray, List.set_cons_zero, List.set_cons_succ]
                      refine wpAnyL_take (i := 6) (oi := ?ozz69) (v := ?vzz69) ?hzz69 ?azz69 ?bzz69 ?czz69 ?kzz69 ?qzz69 ?yzz69 ?szz69 ?rzz69
                      case hzz69 => simp only [List.getElem?_toArray, List.getElem?_cons_zero, List.getElem?_cons_succ]; rfl
                      case azz69 => kernel_rfl
                      case bzz69 => kernel_rfl
                      case czz69 => kernel_rfl
                      case kzz69 => kernel_rfl
                      case yzz69 =>
                        refine Or.inl ⟨by rfl, ?_⟩
                        intro w hSw
                        skip
                        go_simp
                        try with_reducible rfl
                      case qzz69 => exact fun _ _ _ h => h
                      case szz69 => first | assumption | trivial
                      case' rzz69 => simp only [Act.put, List.setIfInBounds_toArray, List.set_cons_zero, List.set_cons_succ]
                      refine wpAnyL_ready (rs := [7]) (by kernel_rfl) (by simp) ?_
                      refine AllReadyL.consK (o := ?ozz71) ?hzz71 ?lzz71 (fun K hK => ?kzz71) ?mzz71
                      case hzz71 => simp only [List.getElem?_toArray, List.getElem?_cons_zero, List.getElem?_cons_succ]; rfl
                      case lzz71 => kernel_rfl
                      case kzz71 =>
                        have HZ := Lib.hid hHeld
                        have HB := Lib.hid (B0.out.1.q HZ.out)
                        obtain ⟨⟨st0, st1⟩, st2, st3⟩ := HB.out.get2
                        go_simp
                        clear st0 st1 st2 st3
                        refine hK.out _ _ ?Rzz71
                        case Rzz71 =>
                          clear hK K
                          try simp only [Act.put, List.setIfInBounds_toArray, List.set_cons_zero, List.set_cons_succ]
                          refine wpAnyH_take (i := 8) (oi := ?ozz70) (v := ?vzz70) ?hzz70 ?azz70 ?bzz70 ?czz70 ?qzz70 ?yzz70 ?szz70 ?rzz70
                          case hzz70 => simp only [List.getElem?_toArray, List.getElem?_cons_zero, List.getElem?_cons_succ]; rfl
                          case azz70 => kernel_rfl
                          case bzz70 => kernel_rfl
                          case czz70 => kernel_rfl
                          case yzz70 =>
                            refine Or.inl ⟨by rfl, ?_⟩
                            intro w hSw
                            skip
                            go_simp
                            try with_reducible rfl
                          case qzz70 => exact fun _ _ _ h => h
                          case szz70 => first | assumption | trivial
                          case' rzz70 => simp only [Act.put, List.setIfInBounds_toArray, List.set_cons_zero, List.set_cons_succ]
                          refine wpAnyH_done (by kernel_rfl) ?_ _
                          have Z1 := Lib.hid ((B0.out.1.q HZ.out).set2 (.int .u64 (f.at_ : Int)) (.int .i64 f.id))
                          have Z2 := Lib.hid (HR.out.set2 hw1 (.int .u64 (f.at_ : Int)) (.int .i64 f.id))
                          have Z3 := Lib.hid ((B0.out.2.trans HZ.out).set2 (b := w.heap.size) (Nat.le_refl _) (.int .u64 (f.at_ : Int)) (.int .i64 f.id))
                          generalize ((v3.setCell ⟨w.heap.size, 0, none⟩ (.int .u64 (f.at_ : Int))).setCell ⟨w.heap.size, 1, none⟩ (.int .i64 f.id)) = W9 at Z1 Z2 Z3 ⊢
                          go_wp2
                          obtain ⟨⟨r0, r1⟩, _⟩ := Z1.out.get2
                          refine bodyPost_ret (v := .tuple #[.slice (some ⟨p, 0, none⟩) m c2, .agg #[.int .u64 (f.at_ : Int), .int .i64 f.id], .bool true]) (by simp [results, Try.results12, go_sem, r0, r1]) rfl ?_
                          refine ⟨some ⟨p, 0, none⟩, c2, by rw [HPL.out.1, decide_eq_true HPL.out.2], ?_, ?_, Z3.out⟩
                          · rw [HPL.out.1]; exact Z2.out.in_ (by show m * 16 ≤ _; omega)
                          · rintro _ ad2 e
                            injection e with e
                            subst e
                            exact ⟨Nat.le_trans (Nat.le_of_lt hw1) Z2.out.block_lt.1, Z2.out.block_lt.2⟩
                      case' mzz71 => skip
                      exact AllReadyL.nil
                  case' mzz75 => skip
                  refine AllReadyL.cons (o := ?ozz76) ?hzz76 (fun K hK => ?kzz76) ?mzz76
                  case hzz76 => simp only [List.getElem?_toArray, List.getElem?_cons_zero, List.getElem?_cons_succ]; rfl
                  case kzz76 =>
                    go_simp
                    refine hK.out _ _ ?Szz76 (fun hHeld => ?Rzz76)
                    case Szz76 =>
                      first | exact hHeld | trivial
                    case Rzz76 =>
                      clear hK K
                      try simp only [Act.put, List.setIfInBounds_toArray, List.set_cons_zero, List.set_cons_succ]
                      refine wpAnyL_take (i := 5) (oi := ?ozz72) (v := ?vzz72) ?hzz72 ?azz72 ?bzz72 ?czz72 ?kzz72 ?qzz72 ?yzz72 ?szz72 ?rzz72
                      case hzz72 => simp only [List.getElem?_toArray, List.getElem?_cons_zero, List.getElem?_cons_succ]; rfl
                      case azz72 => kernel_rfl
                      case bzz72 => kernel_rfl
                      case czz72 => kernel_rfl
                      case kzz72 => kernel_rfl
                      case yzz72 =>
                        refine Or.inl ⟨by rfl, ?_⟩
                        intro w hSw
                        have a0 := box_ hSw x0; have a1 := box_ hSw x1; clear hSw
                        go_simp
                        try with_reducible rfl
                      case qzz72 => exact fun _ _ _ h => h
                      case szz72 => first | assumption | trivial
                      case' rzz72 => simp only [Act.put, List.setIfInBounds_toArray, List.set_cons_zero, List.set_cons_succ]
                      refine wpAnyL_ready (rs := [7]) (by kernel_rfl) (by simp) ?_
                      refine AllReadyL.consK (o := ?ozz74) ?hzz74 ?lzz74 (fun K hK => ?kzz74) ?mzz74
                      case hzz74 => simp only [List.getElem?_toArray, List.getElem?_cons_zero, List.getElem?_cons_succ]; rfl
                      case lzz74 => kernel_rfl
                      case kzz74 =>
                        have HZ := Lib.hid hHeld
                        have HB := Lib.hid (B0.out.1.q HZ.out)
                        obtain ⟨⟨st0, st1⟩, st2, st3⟩ := HB.out.get2
                        go_simp
                        clear st0 st1 st2 st3
                        refine hK.out _ _ ?Rzz74
                        case Rzz74 =>
                          clear hK K
                          try simp only [Act.put, List.setIfInBounds_toArray, List.set_cons_zero, List.set_cons_succ]
                          refine wpAnyH_take (i := 8) (oi := ?ozz73) (v := ?vzz73) ?hzz73 ?azz73 ?bzz73 ?czz73 ?qzz73 ?yzz73 ?szz73 ?rzz73
                          case hzz73 => simp only [List.getElem?_toArray, List.getElem?_cons_zero, List.getElem?_cons_succ]; rfl
                          case azz73 => kernel_rfl
                          case bzz73 => kernel_rfl
                          case czz73 => kernel_rfl
                          case yzz73 =>
                            refine Or.inl ⟨by rfl, ?_⟩
                            intro w hSw
                            skip
                            go_simp
                            try with_reducible rfl
                          case qzz73 => exact fun _ _ _ h => h
                          case szz73 => first | assumption | trivial
                          case' rzz73 => simp only [Act.put, List.setIfInBounds_toArray, List.set_cons_zero, List.set_cons_succ]
                          refine wpAnyH_done (by kernel_rfl) ?_ _
                          have Z1 := Lib.hid ((B0.out.1.q HZ.out).set2 (.int .u64 (f.at_ : Int)) (.int .i64 f.id))
                          have Z2 := Lib.hid (HR.out.set2 hw1 (.int .u64 (f.at_ : Int)) (.int .i64 f.id))
                          have Z3 := Lib.hid ((B0.out.2.trans HZ.out).set2 (b := w.heap.size) (Nat.le_refl _) (.int .u64 (f.at_ : Int)) (.int .i64 f.id))
                          generalize ((v3.setCell ⟨w.heap.size, 0, none⟩ (.int .u64 (f.at_ : Int))).setCell ⟨w.heap.size, 1, none⟩ (.int .i64 f.id)) = W9 at Z1 Z2 Z3 ⊢
                          go_wp2
                          obtain ⟨⟨r0, r1⟩, _⟩ := Z1.out.get2
                          refine bodyPost_ret (v := .tuple #[.slice (some ⟨p, 0, none⟩) m c2, .agg #[.int .u64 (f.at_ : Int), .int .i64 f.id], .bool true]) (by simp [results, Try.results12, go_sem, r0, r1]) rfl ?_
                          refine ⟨some ⟨p, 0, none⟩, c2, by rw [HPL.out.1, decide_eq_true HPL.out.2], ?_, ?_, Z3.out⟩
                          · rw [HPL.out.1]; exact Z2.out.in_ (by show m * 16 ≤ _; omega)
                          · rintro _ ad2 e
                            injection e with e
                            subst e
                            exact ⟨Nat.le_trans (Nat.le_of_lt hw1) Z2.out.block_lt.1, Z2.out.block_lt.2⟩
                      case' mzz74 => skip
                      exact AllReadyL.nil
                  case' mzz76 => skip
                  exact AllReadyL.nil
              case' mzz81 => skip
              refine AllReadyL.cons (o := ?ozz82) ?hzz82 (fun K hK => ?kzz82) ?mzz82
              case hzz82 => simp only [List.getElem?_toArray, List.getElem?_cons_zero, List.getElem?_cons_succ]; rfl
              case kzz82 =>
                have hSw := hHeld
                have a0 := box_ hSw x0; have a1 := box_ hSw x1; clear hSw
                go_simp
                refine hK.out _ _ ?Szz82 (fun hHeld => ?Rzz82)
                case Szz82 =>
                  first | exact hHeld | trivial
                case Rzz82 =>
                  clear hK K
                  try simp only [Act.put, List.setIfInBounds_toArray, List.set_cons_zero, List.set_cons_succ]
                  refine wpAnyL_ready (rs := [2]) (by kernel_rfl) (by simp) ?_
                  refine AllReadyL.cons (o := ?ozz80) ?hzz80 (fun K hK => ?kzz80) ?mzz80
                  case hzz80 => simp only [List.getElem?_toArray, List.getElem?_cons_zero, List.getElem?_cons_succ]; rfl
                  case kzz80 =>
                    go_simp
                    refine (K2.out _ p c2 _ (HO.out.q (by first | exact Q.refl _ | assumption))).mono ?_
                    rintro e v3 ⟨rfl, o3, q3⟩
                    have HR := Lib.hid o3
                    go_wp2_with fail
                    refine hK.out _ _ ?Szz80 (fun hHeld => ?Rzz80)
                    case Szz80 =>
                      exact Below.trans hHeld (only_below q3 hp hHeld.size)
                    case Rzz80 =>
                      clear hK K
                      try simp only [Act.put, List.setIfInBounds_toArray, List.set_cons_zero, List.set_cons_succ]
                      refine wpAnyL_take (i := 6) (oi := ?ozz77) (v := ?vzz77) ?hzz77 ?azz77 ?bzz77 ?czz77 ?kzz77 ?qzz77 ?yzz77 ?szz77 ?rzz77
                      case hzz77 => simp only [List.getElem?_toArray, List.getElem?_cons_zero, List.getElem?_cons_succ]; rfl
                      case azz77 => kernel_rfl
                      case bzz77 => kernel_rfl
                      case czz77 => kernel_rfl
                      case kzz77 => kernel_rfl
                      case yzz77 =>
                        refine Or.inl ⟨by rfl, ?_⟩
                        intro w hSw
                        skip
                        go_simp
                        try with_reducible rfl
                      case qzz77 => exact fun _ _ _ h => h
                      case szz77 => first | assumption | trivial
                      case' rzz77 => simp only [Act.put, List.setIfInBounds_toArray, List.set_cons_zero, List.set_cons_succ]
                      refine wpAnyL_ready (rs := [7]) (by kernel_rfl) (by simp) ?_
                      refine AllReadyL.consK (o := ?ozz79) ?hzz79 ?lzz79 (fun K hK => ?kzz79) ?mzz79
                      case hzz79 => simp only [List.getElem?_toArray, List.getElem?_cons_zero, List.getElem?_cons_succ]; rfl
                      case lzz79 => kernel_rfl
                      case kzz79 =>
                        have HZ := Lib.hid hHeld
                        have HB := Lib.hid (B0.out.1.q HZ.out)
                        obtain ⟨⟨st0, st1⟩, st2, st3⟩ := HB.out.get2
                        go_simp
                        clear st0 st1 st2 st3
                        refine hK.out _ _ ?Rzz79
                        case Rzz79 =>
                          clear hK K
                          try simp only [Act.put, List.setIfInBounds_toArray, List.set_cons_zero, List.set_cons_succ]
                          refine wpAnyH_take (i := 8) (oi := ?ozz78) (v := ?vzz78) ?hzz78 ?azz78 ?bzz78 ?czz78 ?qzz78 ?yzz78 ?szz78 ?rzz78
                          case hzz78 => simp only [List.getElem?_toArray, List.getElem?_cons_zero, List.getElem?_cons_succ]; rfl
                          case azz78 => kernel_rfl
                          case bzz78 => kernel_rfl
                          case czz78 => kernel_rfl
                          case yzz78 =>
                            refine Or.inl ⟨by rfl, ?_⟩
                            intro w hSw
                            skip
                            go_simp
                            try with_reducible rfl
                          case qzz78 => exact fun _ _ _ h => h
                          case szz78 => first | assumption | trivial
                          case' rzz78 => simp only [Act.put, List.setIfInBounds_toArray, List.set_cons_zero, List.set_cons_succ]
                          refine wpAnyH_done (by kernel_rfl) ?_ _
                          have Z1 := Lib.hid ((B0.out.1.q HZ.out).set2 (.int .u64 (f.at_ : Int)) (.int .i64 f.id))
                          have Z2 := Lib.hid (HR.out.set2 hw1 (.int .u64 (f.at_ : Int)) (.int .i64 f.id))
                          have Z3 := Lib.hid ((B0.out.2.trans HZ.out).set2 (b := w.heap.size) (Nat.le_refl _) (.int .u64 (f.at_ : Int)) (.int .i64 f.id))
                          generalize ((v3.setCell ⟨w.heap.size, 0, none⟩ (.int .u64 (f.at_ : Int))).setCell ⟨w.heap.size, 1, none⟩ (.int .i64 f.id)) = W9 at Z1 Z2 Z3 ⊢
                          go_wp2
                          obtain ⟨⟨r0, r1⟩, _⟩ := Z1.out.get2
                          refine bodyPost_ret (v := .tuple #[.slice (some ⟨p, 0, none⟩) m c2, .agg #[.int .u64 (f.at_ : Int), .int .i64 f.id], .bool true]) (by simp [results, Try.results12, go_sem, r0, r1]) rfl ?_
                          refine ⟨some ⟨p, 0, none⟩, c2, by rw [HPL.out.1, decide_eq_true HPL.out.2], ?_, ?_, Z3.out⟩
                          · rw [HPL.out.1]; exact Z2.out.in_ (by show m * 16 ≤ _; omega)
                          · rintro _ ad2 e
                            injection e with e
                            subst e
                            exact ⟨Nat.le_trans (Nat.le_of_lt hw1) Z2.out.block_lt.1, Z2.out.block_lt.2⟩
                      case' mzz79 => skip
                      exact AllReadyL.nil
                  case' mzz80 => skip
                  exact AllReadyL.nil
              case' mzz82 => skip
              exact AllReadyL.nil
          case' mzz84 => skip
          exact AllReadyL.nil
      case' mzz106 => skip
      refine AllReadyL.cons (o := ?ozz107) ?hzz107 (fun K hK => ?kzz107) ?mzz107
      case hzz107 => simp only [List.getElem?_toArray, List.getElem?_cons_zero, List.getElem?_cons_succ]; rfl
      case kzz107 =>
        go_simp
        refine hK.out _ _ ?Szz107 (fun hHeld => ?Rzz107)
        case Szz107 =>
          first | exact hHeld | trivial
        case Rzz107 =>
          clear hK K
          try simp only [Act.put, List.setIfInBounds_toArray, List.set_cons_zero, List.set_cons_succ]
          refine wpAnyL_ready (rs := [1, 5]) (by kernel_rfl) (by simp) ?_
          refine AllReadyL.cons (o := ?ozz104) ?hzz104 (fun K hK => ?kzz104) ?mzz104
          case hzz104 => simp only [List.getElem?_toArray, List.getElem?_cons_zero, List.getElem?_cons_succ]; rfl
          case kzz104 =>
            go_simp
            refine (K1.out _ (B0.out.2.trans hHeld)).mono ?_
            rintro e v2 ⟨A2, c2, rfl, o2, q2⟩
            obtain ⟨p, rfl⟩ := own_some o2 hnp
            have hp : W1.heap.size ≤ p := Nat.le_trans hHeld.size o2.block_lt.1
            have HO := Lib.hid (o2.lower (b2 := W1.heap.size) hHeld.size)
            go_wp2_with fail
            refine hK.out _ _ ?Szz104 (fun hHeld => ?Rzz104)
            case Szz104 =>
              exact hHeld.trans q2
            case Rzz104 =>
              clear hK K
              try simp only [Act.put, List.setIfInBounds_toArray, List.set_cons_zero, List.set_cons_succ]
              refine wpAnyL_ready (rs := [2, 5]) (by kernel_rfl) (by simp) ?_
              refine AllReadyL.cons (o := ?ozz97) ?hzz97 (fun K hK => ?kzz97) ?mzz97
              case hzz97 => simp only [List.getElem?_toArray, List.getElem?_cons_zero, List.getElem?_cons_succ]; rfl
              case kzz97 =>
                go_simp
                refine (K2.out _ p c2 _ (HO.out.q (by first | exact Q.refl _ | assumption))).mono ?_
                rintro e v3 ⟨rfl, o3, q3⟩
                have HR := Lib.hid o3
                go_wp2_with fail
                refine hK.out _ _ ?Szz97 (fun hHeld => ?Rzz97)
                case Szz97 =>
                  exact Below.trans hHeld (only_below q3 hp hHeld.size)
                case Rzz97 =>
                  clear hK K
                  try simp only [Act.put, List.setIfInBounds_toArray, List.set_cons_zero, List.set_cons_succ]
                  refine wpAnyL_ready (rs := [5, 6]) (by kernel_rfl) (by simp) ?_
                  refine AllReadyL.cons (o := ?ozz91) ?hzz91 (fun K hK => ?kzz91) ?mzz91
                  case hzz91 => simp only [List.getElem?_toArray, List.getElem?_cons_zero, List.getElem?_cons_succ]; rfl
                  case kzz91 =>
                    have hSw := hHeld
                    have a0 := box_ hSw x0; have a1 := box_ hSw x1; clear hSw
                    go_simp
                    refine hK.out _ _ ?Szz91 (fun hHeld => ?Rzz91)
                    case Szz91 =>
                      first | exact hHeld | trivial
                    case Rzz91 =>
                      clear hK K
                      try simp only [Act.put, List.setIfInBounds_toArray, List.set_cons_zero, List.set_cons_succ]
                      refine wpAnyL_take (i := 6) (oi := ?ozz85) (v := ?vzz85) ?hzz85 ?azz85 ?bzz85 ?czz85 ?kzz85 ?qzz85 ?yzz85 ?szz85 ?rzz85
                      case hzz85 => simp only [List.getElem?_toArray, List.getElem?_cons_zero, List.getElem?_cons_succ]; rfl
                      case azz85 => kernel_rfl
                      case bzz85 => kernel_rfl
                      case czz85 => kernel_rfl
                      case kzz85 => kernel_rfl
                      case yzz85 =>
                        refine Or.inl ⟨by rfl, ?_⟩
                        intro w hSw
                        skip
                        go_simp
                        try with_reducible rfl
                      case qzz85 => exact fun _ _ _ h => h
                      case szz85 => first | assumption | trivial
                      case' rzz85 => simp only [Act.put, List.setIfInBounds_toArray, List.set_cons_zero, List.set_cons_succ]
                      refine wpAnyL_ready (rs := [7]) (by kernel_rfl) (by simp) ?_
                      refine AllReadyL.consK (o := ?ozz87) ?hzz87 ?lzz87 (fun K hK => ?kzz87) ?mzz87
                      case hzz87 => simp only [List.getElem?_toArray, List.getElem?_cons_zero, List.getElem?_cons_succ]; rfl
                      case lzz87 => kernel_rfl
                      case kzz87 =>
                        have HZ := Lib.hid hHeld
                        have HB := Lib.hid (B0.out.1.q HZ.out)
                        obtain ⟨⟨st0, st1⟩, st2, st3⟩ := HB.out.get2
                        go_simp
                        clear st0 st1 st2 st3
                        refine hK.out _ _ ?Rzz87
                        case Rzz87 =>
                          clear hK K
                          try simp only [Act.put, List.setIfInBounds_toArray, List.set_cons_zero, List.set_cons_succ]
                          refine wpAnyH_take (i := 8) (oi := ?ozz86) (v := ?vzz86) ?hzz86 ?azz86 ?bzz86 ?czz86 ?qzz86 ?yzz86 ?szz86 ?rzz86
                          case hzz86 => simp only [List.getElem?_toArray, List.getElem?_cons_zero, List.getElem?_cons_succ]; rfl
                          case azz86 => kernel_rfl
                          case bzz86 => kernel_rfl
                          case czz86 => kernel_rfl
                          case yzz86 =>
                            refine Or.inl ⟨by rfl, ?_⟩
                            intro w hSw
                            skip
                            go_simp
                            try with_reducible rfl
                          case qzz86 => exact fun _ _ _ h => h
                          case szz86 => first | assumption | trivial
                          case' rzz86 => simp only [Act.put, List.setIfInBounds_toArray, List.set_cons_zero, List.set_cons_succ]
                          refine wpAnyH_done (by kernel_rfl) ?_ _
                          have Z1 := Lib.hid ((B0.out.1.q HZ.out).set2 (.int .u64 (f.at_ : Int)) (.int .i64 f.id))
                          have Z2 := Lib.hid (HR.out.set2 hw1 (.int .u64 (f.at_ : Int)) (.int .i64 f.id))
                          have Z3 := Lib.hid ((B0.out.2.trans HZ.out).set2 (b := w.heap.size) (Nat.le_refl _) (.int .u64 (f.at_ : Int)) (.int .i64 f.id))
                          generalize ((v3.setCell ⟨w.heap.size, 0, none⟩ (.int .u64 (f.at_ : Int))).setCell ⟨w.heap.size, 1, none⟩ (.int .i64 f.id)) = W9 at Z1 Z2 Z3 ⊢
                          go_wp2
                          obtain ⟨⟨r0, r1⟩, _⟩ := Z1.out.get2
                          refine bodyPost_ret (v := .tuple #[.slice (some ⟨p, 0, none⟩) m c2, .agg #[.int .u64 (f.at_ : Int), .int .i64 f.id], .bool true]) (by simp [results, Try.results12, go_sem, r0, r1]) rfl ?_
                          refine ⟨some ⟨p, 0, none⟩, c2, by rw [HPL.out.1, decide_eq_true HPL.out.2], ?_, ?_, Z3.out⟩
                          · rw [HPL.out.1]; exact Z2.out.in_ (by show m * 16 ≤ _; omega)
                          · rintro _ ad2 e
                            injection e with e
                            subst e
                            exact ⟨Nat.le_trans (Nat.le_of_lt hw1) Z2.out.block_lt.1, Z2.out.block_lt.2⟩
                      case' mzz87 => skip
                      exact AllReadyL.nil
                  case' mzz91 => skip
                  refine AllReadyL.cons (o := ?ozz92) ?hzz92 (fun K hK => ?kzz92) ?mzz92
                  case hzz92 => simp only [List.getElem?_toArray, List.getElem?_cons_zero, List.getElem?_cons_succ]; rfl
                  case kzz92 =>
                    go_simp
                    refine hK.out _ _ ?Szz92 (fun hHeld => ?Rzz92)
                    case Szz92 =>
                      first | exact hHeld | trivial
                    case Rzz92 =>
                      clear hK K
                      try simp only [Act.put, List.setIfInBounds_toArray, List.set_cons_zero, List.set_cons_succ]
                      refine wpAnyL_take (i := 5) (oi := ?ozz88) (v := ?vzz88) ?hzz88 ?azz88 ?bzz88 ?czz88 ?kzz88 ?qzz88 ?yzz88 ?szz88 ?rzz88
                      case hzz88 => simp only [List.getElem?_toArray, List.getElem?_cons_zero, List.getElem?_cons_succ]; rfl
                      case azz88 => kernel_rfl
                      case bzz88 => kernel_rfl
                      case czz88 => kernel_rfl
                      case kzz88 => kernel_rfl
                      case yzz88 =>
                        refine Or.inl ⟨by rfl, ?_⟩
                        intro w hSw
                        have a0 := box_ hSw x0; have a1 := box_ hSw x1; clear hSw
                        go_simp
                        try with_reducible rfl
                      case qzz88 => exact fun _ _ _ h => h
                      case szz88 => first | assumption | trivial
                      case' rzz88 => simp only [Act.put, List.setIfInBounds_toArray, List.set_cons_zero, List.set_cons_succ]
                      refine wpAnyL_ready (rs := [7]) (by kernel_rfl) (by simp) ?_
                      refine AllReadyL.consK (o := ?ozz90) ?hzz90 ?lzz90 (fun K hK => ?kzz90) ?mzz90
                      case hzz90 => simp only [List.getElem?_toArray, List.getElem?_cons_zero, List.getElem?_cons_succ]; rfl
                      case lzz90 => kernel_rfl
                      case kzz90 =>
                        have HZ := Lib.hid hHeld
                        have HB := Lib.hid (B0.out.1.q HZ.out)
                        obtain ⟨⟨st0, st1⟩, st2, st3⟩ := HB.out.get2
                        go_simp
                        clear st0 st1 st2 st3
                        refine hK.out _ _ ?Rzz90
                        case Rzz90 =>
                          clear hK K
                          try simp only [Act.put, List.setIfInBounds_toArray, List.set_cons_zero, List.set_cons_succ]
                          refine wpAnyH_take (i := 8) (oi := ?ozz89) (v := ?vzz89) ?hzz89 ?azz89 ?bzz89 ?czz89 ?qzz89 ?yzz89 ?szz89 ?rzz89
                          case hzz89 => simp only [List.getElem?_toArray, List.getElem?_cons_zero, List.getElem?_cons_succ]; rfl
                          case azz89 => kernel_rfl
                          case bzz89 => kernel_rfl
                          case czz89 => kernel_rfl
                          case yzz89 =>
                            refine Or.inl ⟨by rfl, ?_⟩
                            intro w hSw
                            skip
                            go_simp
                            try with_reducible rfl
                          case qzz89 => exact fun _ _ _ h => h
                          case szz89 => first | assumption | trivial
                          case' rzz89 => simp only [Act.put, List.setIfInBounds_toArray, List.set_cons_zero, List.set_cons_succ]
                          refine wpAnyH_done (by kernel_rfl) ?_ _
                          have Z1 := Lib.hid ((B0.out.1.q HZ.out).set2 (.int .u64 (f.at_ : Int)) (.int .i64 f.id))
                          have Z2 := Lib.hid (HR.out.set2 hw1 (.int .u64 (f.at_ : Int)) (.int .i64 f.id))
                          have Z3 := Lib.hid ((B0.out.2.trans HZ.out).set2 (b := w.heap.size) (Nat.le_refl _) (.int .u64 (f.at_ : Int)) (.int .i64 f.id))
                          generalize ((v3.setCell ⟨w.heap.size, 0, none⟩ (.int .u64 (f.at_ : Int))).setCell ⟨w.heap.size, 1, none⟩ (.int .i64 f.id)) = W9 at Z1 Z2 Z3 ⊢
                          go_wp2
                          obtain ⟨⟨r0, r1⟩, _⟩ := Z1.out.get2
                          refine bodyPost_ret (v := .tuple #[.slice (some ⟨p, 0, none⟩) m c2, .agg #[.int .u64 (f.at_ : Int), .int .i64 f.id], .bool true]) (by simp [results, Try.results12, go_sem, r0, r1]) rfl ?_
                          refine ⟨some ⟨p, 0, none⟩, c2, by rw [HPL.out.1, decide_eq_true HPL.out.2], ?_, ?_, Z3.out⟩
                          · rw [HPL.out.1]; exact Z2.out.in_ (by show m * 16 ≤ _; omega)
                          · rintro _ ad2 e
                            injection e with e
                            subst e
                            exact ⟨Nat.le_trans (Nat.le_of_lt hw1) Z2.out.block_lt.1, Z2.out.block_lt.2⟩
                      case' mzz90 => skip
                      exact AllReadyL.nil
                  case' mzz92 => skip
                  exact AllReadyL.nil
              case' mzz97 => skip
              refine AllReadyL.cons (o := ?ozz98) ?hzz98 (fun K hK => ?kzz98) ?mzz98
              case hzz98 => simp only [List.getElem?_toArray, List.getElem?_cons_zero, List.getElem?_cons_succ]; rfl
              case kzz98 =>
                have hSw := hHeld
                have a0 := box_ hSw x0; have a1 := box_ hSw x1; clear hSw
                go_simp
                refine hK.out _ _ ?Szz98 (fun hHeld => ?Rzz98)
                case Szz98 =>
                  first | exact hHeld | trivial
                case Rzz98 =>
                  clear hK K
                  try simp only [Act.put, List.setIfInBounds_toArray, List.set_cons_zero, List.set_cons_succ]
                  refine wpAnyL_ready (rs := [2]) (by kernel_rfl) (by simp) ?_
                  refine AllReadyL.cons (o := ?ozz96) ?hzz96 (fun K hK => ?kzz96) ?mzz96
                  case hzz96 => simp only [List.getElem?_toArray, List.getElem?_cons_zero, List.getElem?_cons_succ]; rfl
                  case kzz96 =>
                    go_simp
                    refine (K2.out _ p c2 _ (HO.out.q (by first | exact Q.refl _ | assumption))).mono ?_
                    rintro e v3 ⟨rfl, o3, q3⟩
                    have HR := Lib.hid o3
                    go_wp2_with fail
                    refine hK.out _ _ ?Szz96 (fun hHeld => ?Rzz96)
                    case Szz96 =>
                      exact Below.trans hHeld (only_below q3 hp hHeld.size)
                    case Rzz96 =>
                      clear hK K
                      try simp only [Act.put, List.setIfInBounds_toArray, List.set_cons_zero, List.set_cons_succ]
                      refine wpAnyL_take (i := 6) (oi := ?ozz93) (v := ?vzz93) ?hzz93 ?azz93 ?bzz93 ?czz93 ?kzz93 ?qzz93 ?yzz93 ?szz93 ?rzz93
                      case hzz93 => simp only [List.getElem?_toArray, List.getElem?_cons_zero, List.getElem?_cons_succ]; rfl
                      case azz93 => kernel_rfl
                      case bzz93 => kernel_rfl
                      case czz93 => kernel_rfl
                      case kzz93 => kernel_rfl
                      case yzz93 =>
                        refine Or.inl ⟨by rfl, ?_⟩
                        intro w hSw
                        skip
                        go_simp
                        try with_reducible rfl
                      case qzz93 => exact fun _ _ _ h => h
                      case szz93 => first | assumption | trivial
                      case' rzz93 => simp only [Act.put, List.setIfInBounds_toArray, List.set_cons_zero, List.set_cons_succ]
                      refine wpAnyL_ready (rs := [7]) (by kernel_rfl) (by simp) ?_
                      refine AllReadyL.consK (o := ?ozz95) ?hzz95 ?lzz95 (fun K hK => ?kzz95) ?mzz95
                      case hzz95 => simp only [List.getElem?_toArray, List.getElem?_cons_zero, List.getElem?_cons_succ]; rfl
                      case lzz95 => kernel_rfl
                      case kzz95 =>
                        have HZ := Lib.hid hHeld
                        have HB := Lib.hid (B0.out.1.q HZ.out)
                        obtain ⟨⟨st0, st1⟩, st2, st3⟩ := HB.out.get2
                        go_simp
                        clear st0 st1 st2 st3
                        refine hK.out _ _ ?Rzz95
                        case Rzz95 =>
                          clear hK K
                          try simp only [Act.put, List.setIfInBounds_toArray, List.set_cons_zero, List.set_cons_succ]
                          refine wpAnyH_take (i := 8) (oi := ?ozz94) (v := ?vzz94) ?hzz94 ?azz94 ?bzz94 ?czz94 ?qzz94 ?yzz94 ?szz94 ?rzz94
                          case hzz94 => simp only [List.getElem?_toArray, List.getElem?_cons_zero, List.getElem?_cons_succ]; rfl
                          case azz94 => kernel_rfl
                          case bzz94 => kernel_rfl
                          case czz94 => kernel_rfl
                          case yzz94 =>
                            refine Or.inl ⟨by rfl, ?_⟩
                            intro w hSw
                            skip
                            go_simp
                            try with_reducible rfl
                          case qzz94 => exact fun _ _ _ h => h
                          case szz94 => first | assumption | trivial
                          case' rzz94 => simp only [Act.put, List.setIfInBounds_toArray, List.set_cons_zero, List.set_cons_succ]
                          refine wpAnyH_done (by kernel_rfl) ?_ _
                          have Z1 := Lib.hid ((B0.out.1.q HZ.out).set2 (.int .u64 (f.at_ : Int)) (.int .i64 f.id))
                          have Z2 := Lib.hid (HR.out.set2 hw1 (.int .u64 (f.at_ : Int)) (.int .i64 f.id))
                          have Z3 := Lib.hid ((B0.out.2.trans HZ.out).set2 (b := w.heap.size) (Nat.le_refl _) (.int .u64 (f.at_ : Int)) (.int .i64 f.id))
                          generalize ((v3.setCell ⟨w.heap.size, 0, none⟩ (.int .u64 (f.at_ : Int))).setCell ⟨w.heap.size, 1, none⟩ (.int .i64 f.id)) = W9 at Z1 Z2 Z3 ⊢
                          go_wp2
                          obtain ⟨⟨r0, r1⟩, _⟩ := Z1.out.get2
                          refine bodyPost_ret (v := .tuple #[.slice (some ⟨p, 0, none⟩) m c2, .agg #[.int .u64 (f.at_ : Int), .int .i64 f.id], .bool true]) (by simp [results, Try.results12, go_sem, r0, r1]) rfl ?_
                          refine ⟨some ⟨p, 0, none⟩, c2, by rw [HPL.out.1, decide_eq_true HPL.out.2], ?_, ?_, Z3.out⟩
                          · rw [HPL.out.1]; exact Z2.out.in_ (by show m * 16 ≤ _; omega)
                          · rintro _ ad2 e
                            injection e with e
                            subst e
                            exact ⟨Nat.le_trans (Nat.le_of_lt hw1) Z2.out.block_lt.1, Z2.out.block_lt.2⟩
                      case' mzz95 => skip
                      exact AllReadyL.nil
                  case' mzz96 => skip
                  exact AllReadyL.nil
              case' mzz98 => skip
              exact AllReadyL.nil
          case' mzz104 => skip
          refine AllReadyL.cons (o := ?ozz105) ?hzz105 (fun K hK => ?kzz105) ?mzz105
          case hzz105 => simp only [List.getElem?_toArray, List.getElem?_cons_zero, List.getElem?_cons_succ]; rfl
          case kzz105 =>
            have hSw := hHeld
            have a0 := box_ hSw x0; have a1 := box_ hSw x1; clear hSw
            go_simp
            refine hK.out _ _ ?Szz105 (fun hHeld => ?Rzz105)
            case Szz105 =>
              first | exact hHeld | trivial
            case Rzz105 =>
              clear hK K
              try simp only [Act.put, List.setIfInBounds_toArray, List.set_cons_zero, List.set_cons_succ]
              refine wpAnyL_ready (rs := [1]) (by kernel_rfl) (by simp) ?_
              refine AllReadyL.cons (o := ?ozz103) ?hzz103 (fun K hK => ?kzz103) ?mzz103
              case hzz103 => simp only [List.getElem?_toArray, List.getElem?_cons_zero, List.getElem?_cons_succ]; rfl
              case kzz103 =>
                go_simp
                refine (K1.out _ (B0.out.2.trans hHeld)).mono ?_
                rintro e v2 ⟨A2, c2, rfl, o2, q2⟩
                obtain ⟨p, rfl⟩ := own_some o2 hnp
                have hp : W1.heap.size ≤ p := Nat.le_trans hHeld.size o2.block_lt.1
                have HO := Lib.hid (o2.lower (b2 := W1.heap.size) hHeld.size)
                go_wp2_with fail
                refine hK.out _ _ ?Szz103 (fun hHeld => ?Rzz103)
                case Szz103 =>
                  exact hHeld.trans q2
                case Rzz103 =>
                  clear hK K
                  try simp only [Act.put, List.setIfInBounds_toArray, List.set_cons_zero, List.set_cons_succ]
                  refine wpAnyL_ready (rs := [2]) (by kernel_rfl) (by simp) ?_
                  refine AllReadyL.cons (o := ?ozz102) ?hzz102 (fun K hK => ?kzz102) ?mzz102
                  case hzz102 => simp only [List.getElem?_toArray, List.getElem?_cons_zero, List.getElem?_cons_succ]; rfl
                  case kzz102 =>
                    go_simp
                    refine (K2.out _ p c2 _ (HO.out.q (by first | exact Q.refl _ | assumption))).mono ?_
                    rintro e v3 ⟨rfl, o3, q3⟩
                    have HR := Lib.hid o3
                    go_wp2_with fail
                    refine hK.out _ _ ?Szz102 (fun hHeld => ?Rzz102)
                    case Szz102 =>
                      exact Below.trans hHeld (only_below q3 hp hHeld.size)
                    case Rzz102 =>
                      clear hK K
                      try simp only [Act.put, List.setIfInBounds_toArray, List.set_cons_zero, List.set_cons_succ]
                      refine wpAnyL_take (i := 6) (oi := ?ozz99) (v := ?vzz99) ?hzz99 ?azz99 ?bzz99 ?czz99 ?kzz99 ?qzz99 ?yzz99 ?szz99 ?rzz99
                      case hzz99 => simp only [List.getElem?_toArray, List.getElem?_cons_zero, List.getElem?_cons_succ]; rfl
                      case azz99 => kernel_rfl
                      case bzz99 => kernel_rfl
                      case czz99 => kernel_rfl
                      case kzz99 => kernel_rfl
                      case yzz99 =>
                        refine Or.inl ⟨by rfl, ?_⟩
                        intro w hSw
                        skip
                        go_simp
                        try with_reducible rfl
                      case qzz99 => exact fun _ _ _ h => h
                      case szz99 => first | assumption | trivial
                      case' rzz99 => simp only [Act.put, List.setIfInBounds_toArray, List.set_cons_zero, List.set_cons_succ]
                      refine wpAnyL_ready (rs := [7]) (by kernel_rfl) (by simp) ?_
                      refine AllReadyL.consK (o := ?ozz101) ?hzz101 ?lzz101 (fun K hK => ?kzz101) ?mzz101
                      case hzz101 => simp only [List.getElem?_toArray, List.getElem?_cons_zero, List.getElem?_cons_succ]; rfl
                      case lzz101 => kernel_rfl
                      case kzz101 =>
                        have HZ := Lib.hid hHeld
                        have HB := Lib.hid (B0.out.1.q HZ.out)
                        obtain ⟨⟨st0, st1⟩, st2, st3⟩ := HB.out.get2
                        go_simp
                        clear st0 st1 st2 st3
                        refine hK.out _ _ ?Rzz101
                        case Rzz101 =>
                          clear hK K
                          try simp only [Act.put, List.setIfInBounds_toArray, List.set_cons_zero, List.set_cons_succ]
                          refine wpAnyH_take (i := 8) (oi := ?ozz100) (v := ?vzz100) ?hzz100 ?azz100 ?bzz100 ?czz100 ?qzz100 ?yzz100 ?szz100 ?rzz100
                          case hzz100 => simp only [List.getElem?_toArray, List.getElem?_cons_zero, List.getElem?_cons_succ]; rfl
                          case azz100 => kernel_rfl
                          case bzz100 => kernel_rfl
                          case czz100 => kernel_rfl
                          case yzz100 =>
                            refine Or.inl ⟨by rfl, ?_⟩
                            intro w hSw
                            skip
                            go_simp
                            try with_reducible rfl
                          case qzz100 => exact fun _ _ _ h => h
                          case szz100 => first | assumption | trivial
                          case' rzz100 => simp only [Act.put, List.setIfInBounds_toArray, List.set_cons_zero, List.set_cons_succ]
                          refine wpAnyH_done (by kernel_rfl) ?_ _
                          have Z1 := Lib.hid ((B0.out.1.q HZ.out).set2 (.int .u64 (f.at_ : Int)) (.int .i64 f.id))
                          have Z2 := Lib.hid (HR.out.set2 hw1 (.int .u64 (f.at_ : Int)) (.int .i64 f.id))
                          have Z3 := Lib.hid ((B0.out.2.trans HZ.out).set2 (b := w.heap.size) (Nat.le_refl _) (.int .u64 (f.at_ : Int)) (.int .i64 f.id))
                          generalize ((v3.setCell ⟨w.heap.size, 0, none⟩ (.int .u64 (f.at_ : Int))).setCell ⟨w.heap.size, 1, none⟩ (.int .i64 f.id)) = W9 at Z1 Z2 Z3 ⊢
                          go_wp2
                          obtain ⟨⟨r0, r1⟩, _⟩ := Z1.out.get2
                          refine bodyPost_ret (v := .tuple #[.slice (some ⟨p, 0, none⟩) m c2, .agg #[.int .u64 (f.at_ : Int), .int .i64 f.id], .bool true]) (by simp [results, Try.results12, go_sem, r0, r1]) rfl ?_
                          refine ⟨some ⟨p, 0, none⟩, c2, by rw [HPL.out.1, decide_eq_true HPL.out.2], ?_, ?_, Z3.out⟩
                          · rw [HPL.out.1]; exact Z2.out.in_ (by show m * 16 ≤ _; omega)
                          · rintro _ ad2 e
                            injection e with e
                            subst e
                            exact ⟨Nat.le_trans (Nat.le_of_lt hw1) Z2.out.block_lt.1, Z2.out.block_lt.2⟩
                      case' mzz101 => skip
                      exact AllReadyL.nil
                  case' mzz102 => skip
                  exact AllReadyL.nil
              case' mzz103 => skip
              exact AllReadyL.nil
          case' mzz105 => skip
          exact AllReadyL.nil
      case' mzz107 => skip
      exact AllReadyL.nil
  case' mzz109 => skip
  exact AllReadyL.nil

set_option maxHeartbeats 4000000 in
theorem apop_any (A : Option Addr) (n c : Nat) (h : List Al) (w : World) (hA : In_ alK w A n c h) (hn : n ≤ 900000) :
    Calls Try.prog 12 #[.slice A n c] w (RetPw w h) := (apops_any A n c h w hA hn).mono fun e w' => retPs_w
set_option maxHeartbeats 4000000 in
theorem adue_any (A : Option Addr) (n c : Nat) (h : List Al) (now : Nat) (w : World) (hA : In_ alK w A n c h) (hn : n ≤ 900000) :
    Calls Try.prog 14 #[.slice A n c, .int .u64 (now : Int)] w (RetDw w (due n h now)) := by
  have HL := Lib.hid hA.len
  have HN := Lib.hid hn
  have K0 := Lib.hid (cloneAls A n c h w hA)
  clear hA
  go_enter Try.func14, Try.ntmps14
  go_wp2_with fail
  refine K0.out.mono ?_
  rintro e w1 ⟨A1, c1, rfl, o1, q1⟩
  have O1 := Lib.hid (And.intro o1 q1)
  clear o1 q1
  go_wp2
  go_loopw [0, 6] (fun hv ov wr => ∃ (A4 B : Option Addr) (c4 d f : Nat) (l : List Al) (os : List Int), hv = .slice A4 l.length c4 ∧ ov = .slice B os.length d ∧ OwnK alK wr w.heap.size A4 l.length c4 l ∧ OwnK numK wr w.heap.size B os.length d os ∧ l.length ≤ f ∧ l.length + os.length = n ∧ Apt B A4 ∧
    due n h now = ((due f l now).1, os ++ (due f l now).2) ∧ Q w wr) (fun hv _ _ => match hv with | .slice _ m _ => m | _ => 0)
  case atStart =>
    have hl := HL.out
    exact ⟨A1, none, c1, 0, n, h, [], by rw [hl], rfl, by rw [hl]; exact O1.out.1, OwnK.nil_ _ _ _, by omega, by simpa using hl, (fun _ _ e => by cases e), by simp, O1.out.2⟩
  case round =>
    obtain ⟨A4, B, c4, d, f, l, os, rfl, rfl, hi, ho, hlf, hls, hap, hdu, hq⟩ := hrel
    have HI := Lib.hid hi
    have HO := Lib.hid (And.intro ho hap)
    have HQ := Lib.hid hq
    have HD := Lib.hid hdu
    have HF := Lib.hid hlf
    have hb := HN.out
    have hlb : l.length ≤ 900000 := by omega
    have hob : os.length ≤ 900000 := by omega
    have HS := Lib.hid hls
    clear hi ho hq hdu hlf hls hb hap O1
    have hfin : ∀ (e : ¬ (0 < l.length ∧ (g l 0).at_ ≤ now)), due n h now = (l, os) := fun e => by
      rw [HD.out, due_end e]; simp
    have HFIN := Lib.hid hfin
    clear hfin
    by_cases h0 : l.length = 0
    · have HX := Lib.hid (HFIN.out (by omega))
      generalize hm : l.length = m at *
      subst h0
      have hz : ¬ (0 : Int) < 0 := by omega
      have HM := Lib.hid hm
      clear hm
      go_wp2
      go_ret2
      refine ⟨A4, c4, B, d, by rw [HX.out]; simp only [HM.out]; rfl, ?_, ?_, HQ.out⟩
      · rw [HX.out]; simp only [HM.out]; exact HI.out.in_ (by simp)
      · rw [HX.out]; exact HO.out.1.lst
    have hp : 0 < l.length := by omega
    have hpi : (0 : Int) < (l.length : Int) := by omega
    obtain ⟨p, hpe⟩ := own_some HI.out hp
    subst hpe
    obtain ⟨y0, y1, _, _⟩ := own_cells2 HI.out hp
    rw [← g_lt hp] at y0 y1
    simp only [Nat.zero_mul, Nat.zero_add] at y0 y1
    by_cases hd : (g l 0).at_ ≤ now
    case neg =>
      have HX := Lib.hid (HFIN.out (fun e => hd e.2))
      generalize (g l 0).at_ = x at *
      have hxn : ¬ (x : Int) ≤ (now : Int) := by omega
      have hxd : decide ((x : Int) ≤ (now : Int)) = false := decide_eq_false hxn
      generalize hm : l.length = m at *
      have HM := Lib.hid hm
      clear hm
      go_wp2
      go_ret2
      refine ⟨some ⟨p, 0, none⟩, c4, B, d, by rw [HX.out]; simp only [HM.out]; rfl, ?_, ?_, HQ.out⟩
      · rw [HX.out]; simp only [HM.out]; exact HI.out.in_ (by show m * 16 ≤ _; omega)
      · rw [HX.out]; exact HO.out.1.lst
    obtain ⟨f', hs1, hs2⟩ := due_step HF.out hp hd
    have hpl := popR_len l
    have hpo : l.length = (l.length - 1) + 1 := by omega
    have K1 := Lib.hid (fun W (o : OwnK alK W w.heap.size (some ⟨p, 0, none⟩) l.length c4 l) => apopin_any w.heap.size p l.length (l.length - 1) c4 l W o hpo (by omega))
    have HST := Lib.hid (And.intro (HD.out.trans (by rw [hs1])) hs2)
    clear hs1 hs2
    have HP0 := Lib.hid hp
    generalize g l 0 = a at *
    have hxn : (a.at_ : Int) ≤ (now : Int) := by omega
    generalize hm : l.length = m at *
    have HM := Lib.hid (And.intro hm hpl)
    clear hm hpl hpo
    have hbo : (os.length + 1) * 8 ≤ 140737488355328 := by omega
    have hsz := HQ.out.size
    go_upto_region 5 with (at_builtin
                           refine wpl_appKG numK rfl (.tmp 20) (.tmp 25) 33 rfl rfl w.heap.size B os.length d os rfl (HO.out.1.alloc _) (some ⟨wr.heap.size, 0, none⟩) 1 1 [a.id] rfl (lst_lit1 wr a.id) (fun e => by cases e) hbo (by simp; omega) ?_
                           intro A6 c6 w4 o6 g6 t6
                           have Y6 := Lib.hid (And.intro o6 (And.intro g6 t6))
                           clear o6 g6 t6)
    have HI4 := Lib.hid (OwnK.away (HI.out.alloc (.cells #[.int .i64 a.id] 3)) Y6.out.2.1 HO.out.2 (fun _ => trivial))
    have HQ4 := Lib.hid (Below.trans (HQ.out.alloc (.cells #[.int .i64 a.id] 3)) (grown_below (HO.out.1.alloc (.cells #[.int .i64 a.id] 3)) Y6.out.2.1 (by simp; omega)))
    have HAP := Lib.hid (Apt.app (HI.out.alloc (.cells #[.int .i64 a.id] 3)) HO.out.2 Y6.out.2.2)
    clear y0 y1
    go_wp2_with fail
    refine (K1.out _ HI4.out).mono ?_
    rintro e w5 ⟨rfl, o5, g5⟩
    have R := Lib.hid (And.intro o5 g5)
    clear o5 g5
    go_wp2
    go_roundw
    case rel =>
      have hpl := HM.out.2
      have hm1 := HM.out.1
      have h1 := HP0.out
      have hs := HS.out
      refine ⟨some ⟨p, 0, none⟩, A6, c4, c6, f', popR l, os ++ [a.id], by rw [hpl], by simp, ?_, ?_, ?_, ?_, HAP.out, by rw [HST.out.1]; simp, ?_⟩
      · rw [hpl]; exact R.out.1
      · rw [List.length_append]
        exact OwnK.away (A := some ⟨p, 0, none⟩) (n := 0) (c := 0) Y6.out.1 R.out.2 (fun a b e1 e2 hx => HAP.out b a e2 e1 hx.symm) (fun _ => trivial)
      · exact HST.out.2
      · rw [List.length_append]
        simp only [List.length_singleton]
        omega
      · exact Below.trans HQ4.out (only_below R.out.2 HI4.out.block_lt.1 HQ4.out.size)
    case measure =>
      have := HP0.out
      show m - 1 < m
      omega
set_option maxHeartbeats 4000000 in
theorem adrop_any (A : Option Addr) (n c : Nat) (h : List Al) (id : Int) (w : World) (hA : In_ alK w A n c h) (hn : n ≤ 800000) :
    Calls Try.prog 17 #[.slice A n c, .int .i64 id] w (RetI alK w (dropF id h [])) := by
  have hl := dropF_len id h []
  have HA := Lib.hid hA.lst
  have HL := Lib.hid hA.len
  have hlb : (dropF id h []).length ≤ 800000 := by have := hA.len; simp at hl; omega
  have HLB := Lib.hid hlb
  have HN := Lib.hid hn
  clear hA hl hlb
  go_enter Try.func17, Try.ntmps17
  go_wp2
  go_loopw [5, 10] (fun ov iv wr => ∃ (k : Nat) (A4 : Option Addr) (c4 : Nat) (acc : List Al), k ≤ n ∧ iv = .int .i64 (k : Nat) ∧ ov = .slice A4 acc.length c4 ∧ OwnK alK wr w.heap.size A4 acc.length c4 acc ∧ acc.length ≤ k ∧ dropF id h [] = dropF id (h.drop k) acc ∧ Q w wr) (fun _ i _ => n - (intOf i).toNat)
  case atStart => exact ⟨0, none, 0, [], Nat.zero_le _, rfl, rfl, OwnK.nil_ _ _ _, Nat.zero_le _, by simp, Q.refl _⟩
  case round =>
    obtain ⟨k, A4, c4, acc, hk, rfl, rfl, ho, hac, hd, hq⟩ := hrel
    have HO := Lib.hid ho
    have HQ := Lib.hid hq
    have HD := Lib.hid hd
    clear ho hq hd
    by_cases hlt : k < n
    case neg =>
      have hfin : dropF id h [] = acc := by
        rw [HD.out, List.drop_of_length_le (by rw [HL.out]; omega)]; rfl
      have HF := Lib.hid hfin
      have hkn : ¬ (k : Int) < (n : Int) := by omega
      clear hfin
      go_wp2
      go_ret
      unfold RetI
      have hlb := HLB.out
      rw [HF.out] at hlb ⊢
      exact ⟨A4, c4, rfl, HO.out.in_ (by show acc.length * 16 ≤ _; omega), HQ.out⟩
    have hkn : (k : Int) < (n : Int) := by omega
    have hkl : k < h.length := by rw [HL.out]; exact hlt
    have hcs : h.drop k = h[k] :: h.drop (k + 1) := List.drop_eq_getElem_cons hkl
    rw [hcs] at HD
    obtain ⟨ad, rfl, hab, y0, y1⟩ := load_al (HA.out.q HQ.out) hlt hkl
    generalize h[k] = a at y0 y1 HD
    have hal : acc.length ≤ 900000 := by omega
    clear hcs hkl
    have q1 := (Q.refl wr).alloc (.cells #[.int .u64 (a.at_ : Int), .int .i64 a.id] 25)
    have X := Lib.hid (And.intro (HQ.out.trans q1) (And.intro (HO.out.q q1) (Bx.new wr [.int .u64 (a.at_ : Int), .int .i64 a.id] 25)))
    clear q1
    go_upto_region 5 with (fail)
    change Hid (_ ∧ _ ∧ Bx (wr.alloc (.cells #[.int .u64 (a.at_ : Int), .int .i64 a.id] 25)) _ _) at X
    generalize (wr.alloc (.cells #[.int .u64 (a.at_ : Int), .int .i64 a.id] 25)) = w1 at X ⊢
    generalize wr.heap.size = b7 at X ⊢
    clear y0 y1
    obtain ⟨⟨x0, x1⟩, _⟩ := X.out.2.2.get2
    by_cases he : a.id = id
    · have HX := Lib.hid (HD.out.trans (drop_no he))
      clear hal
      go_wp2
      go_roundw
      case rel => exact ⟨k + 1, A4, c4, acc, by omega, by go_num, rfl, X.out.2.1, by omega, HX.out, X.out.1⟩
      case measure => simp [intOf]; omega
    · have HX := Lib.hid (HD.out.trans (drop_yes he))
      have hpl := put_len acc a
      have K1 := Lib.hid (fun W (o : OwnK alK W w.heap.size A4 acc.length c4 acc) hs => aputo_any w.heap.size A4 acc.length c4 acc a W o hal hs)
      generalize put acc a = p at K1 HX hpl
      have HPL := Lib.hid hpl
      generalize acc.length = m at *
      clear hpl
      go_wp2_with fail
      refine (K1.out _ X.out.2.1 X.out.1.size).mono ?_
      rintro e w2 ⟨A5, c5, rfl, o5, b5⟩
      have Y := Lib.hid (And.intro o5 (Below.trans X.out.1 b5))
      clear o5 b5
      go_wp2
      go_roundw
      case rel => exact ⟨k + 1, A5, c5, p, by omega, by go_num, by rw [HPL.out], by rw [HPL.out]; exact Y.out.1, by rw [HPL.out]; omega, HX.out, Y.out.2⟩
      case measure => simp [intOf]; omega
end Am
end Go.Proofs.Ytbclamfpoigneaa
