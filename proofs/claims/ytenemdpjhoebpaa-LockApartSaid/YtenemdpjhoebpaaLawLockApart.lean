/- For every row of acts: two spans that are held by two transactions never clash. No condition. -/
import Derived.Test.YtenemdpjhoebpaaLockPlay
namespace Go.Proofs.Ytenemdpjhoebpaa.lockApart
set_option maxRecDepth 100000
open Go.ChangeShapes Go.WideShapes Go.ChangeAt Go.RowKit Prm Lm Sm
set_option linter.unusedVariables false
set_option linter.unusedSimpArgs false

set_option maxHeartbeats 8000000 in
theorem walk (A : Option Addr) (n c : Nat) (l : List Ac) (w : World) (hA : In_ actK w A n c l) (hI : ∀ a ∈ l, AcIn a) :
    Calls Try.prog 5 #[.slice A n c] w fun e w' => e = .returned (.bool true) ∧ Q w w' := by
  have KP := Lib.hid (fun W q => plays_any A n c l W (hA.q q) hI)
  clear hA hI
  go_enter Try.func5, Try.ntmps5
  go_wp2_with fail
  refine (lshown_any _).mono ?_
  rintro e w1 ⟨rfl, q1⟩
  have HQ := Lib.hid q1
  clear q1
  go_wp2_with fail
  refine (KP.out _ HQ.out).mono ?_
  rintro e w2 ⟨A1, n1, c1, B1, m1, d1, s, rfl, o1, o2, ok, z2⟩
  go_upto_region 3 with (fail)
  have zb := (Q.refl w2).alloc (.cells #[.slice A1 n1 c1, .slice B1 m1 d1] 25)
  have O := Lib.hid (o1.lst.q zb)
  have N1 := Lib.hid o1.len
  have hn1 : n1 ≤ 100 := by have := ok.le; have := o1.len; omega
  have HOk := Lib.hid ok
  have HQ := Lib.hid (HQ.out.trans (z2.trans zb))
  have X : Hid (Bx (w2.alloc (.cells #[.slice A1 n1 c1, .slice B1 m1 d1] 25)) w2.heap.size [.slice A1 n1 c1, .slice B1 m1 d1]) := Lib.hid (Bx.new w2 [.slice A1 n1 c1, .slice B1 m1 d1] 25)
  clear zb z2 o1 o2 ok
  generalize w2.alloc (.cells #[.slice A1 n1 c1, .slice B1 m1 d1] 25) = W2 at *
  generalize w2.heap.size = g2 at *
  obtain ⟨⟨a0, a1⟩, a2, a3⟩ := X.out.get2
  go_wp2
  go_loopw [5] (fun i wr => ∃ k : Nat, k ≤ n1 ∧ i = .int .i64 k ∧ Q W2 wr) (fun i _ => n1 - (intOf i).toNat)
  case atStart => exact ⟨0, Nat.zero_le _, rfl, Q.refl _⟩
  case round =>
    obtain ⟨k, hk, rfl, qr⟩ := hrel
    have HR := Lib.hid qr
    clear qr a0 a1 a2 a3
    obtain ⟨⟨a0, a1⟩, a2, a3⟩ := (X.out.q HR.out).get2
    by_cases hlt : k < n1
    · have hkl : k < s.held.length := by have := N1.out; omega
      have hkn : (k : Int) < (n1 : Int) := by omega
      have QW := HR
      go_wp2
      clear HR
      go_loopw [6] (fun j wr => ∃ k2 : Nat, k2 ≤ k ∧ j = .int .i64 k2 ∧ Q W2 wr) (fun j _ => k - (intOf j).toNat)
      case atStart => exact ⟨0, Nat.zero_le _, rfl, QW.out⟩
      case round =>
        obtain ⟨k2, hk2, rfl, qr⟩ := hrel
        have HR := Lib.hid qr
        clear qr a0 a1 a2 a3 QW
        obtain ⟨⟨a0, a1⟩, a2, a3⟩ := (X.out.q HR.out).get2
        by_cases hlt2 : k2 < k
        · have hkl2 : k2 < s.held.length := by have := N1.out; omega
          have hkn2 : (k2 : Int) < (k : Int) := by omega
          have hkn3 : (k2 : Int) < (n1 : Int) := by omega
          have hw1 : WnS s.held[k].w := HOk.out.loW.1 _ (List.getElem_mem hkl)
          have hw2 : WnS s.held[k2].w := HOk.out.loW.1 _ (List.getElem_mem hkl2)
          have ha := List.pairwise_iff_getElem.1 HOk.out.ap k2 k hkl2 hkl hlt2
          have K2 := Lib.hid (fun W => rclash_any s.held[k].w s.held[k2].w W hw1 hw2)
          obtain ⟨ad, rfl, hab, y0, y1, y2, y3⟩ := load_hold (O.out.q HR.out) hlt hkl
          obtain ⟨ae, hae, hab2, e0, e1, e2, e3⟩ := load_hold (O.out.q HR.out) (show k2 < n1 by omega) hkl2
          cases hae
          generalize s.held[k] = y at y0 y1 y2 y3 K2 ha hw1
          generalize s.held[k2] = z at e0 e1 e2 e3 K2 ha hw2
          clear hw1 hw2
          unfold wnV at *
          cases hc : clash y.w z.w with
          | false =>
            rw [hc] at K2
            clear ha hc
            go_wp2
            refine wp_region_held_drew (S := Q wr) (by kernel_rfl) ?szz0 (fun hHeld => ?rzz0)
            case szz0 =>
              exact (Q.refl wr).drew
            case' rzz0 => skip
            refine wpAnyH_take (i := 0) (oi := ?ozz1) (v := ?vzz1) ?hzz1 ?azz1 ?bzz1 ?czz1 ?qzz1 ?yzz1 ?szz1 ?rzz1
            case hzz1 => simp only [List.getElem?_toArray, List.getElem?_cons_zero]; rfl
            case azz1 => kernel_rfl
            case bzz1 => kernel_rfl
            case czz1 => kernel_rfl
            case yzz1 =>
              refine Or.inl ⟨by rfl, ?_⟩
              intro w hSw
              skip
              go_simp
              try with_reducible rfl
            case qzz1 => exact fun _ _ _ h => h
            case szz1 => first | assumption | trivial
            case' rzz1 => simp only [Act.put, List.setIfInBounds_toArray, List.set_cons_zero, List.set_cons_succ]
            refine wpAnyH_take (i := 1) (oi := ?ozz2) (v := ?vzz2) ?hzz2 ?azz2 ?bzz2 ?czz2 ?qzz2 ?yzz2 ?szz2 ?rzz2
            case hzz2 => simp only [List.getElem?_toArray, List.getElem?_cons_zero, List.getElem?_cons_succ]; rfl
            case azz2 => kernel_rfl
            case bzz2 => kernel_rfl
            case czz2 => kernel_rfl
            case yzz2 =>
              refine Or.inl ⟨by rfl, ?_⟩
              intro w hSw
              have f0 := box_ hSw a0; have f1 := box_ hSw a1; have f2 := box_ hSw y0; have f3 := box_ hSw y1; have f4 := box_ hSw y2; have f5 := box_ hSw y3; have f6 := box_ hSw e0; have f7 := box_ hSw e1; have f8 := box_ hSw e2; have f9 := box_ hSw e3; clear hSw
              go_simp
              try with_reducible rfl
            case qzz2 => exact fun _ _ _ h => h
            case szz2 => first | assumption | trivial
            case' rzz2 => simp only [Act.put, List.setIfInBounds_toArray, List.set_cons_zero, List.set_cons_succ]
            refine wpAnyH_take (i := 2) (oi := ?ozz3) (v := ?vzz3) ?hzz3 ?azz3 ?bzz3 ?czz3 ?qzz3 ?yzz3 ?szz3 ?rzz3
            case hzz3 => simp only [List.getElem?_toArray, List.getElem?_cons_zero, List.getElem?_cons_succ]; rfl
            case azz3 => kernel_rfl
            case bzz3 => kernel_rfl
            case czz3 => kernel_rfl
            case yzz3 =>
              refine Or.inl ⟨by rfl, ?_⟩
              intro w hSw
              skip
              go_simp
              try with_reducible rfl
            case qzz3 => exact fun _ _ _ h => h
            case szz3 => first | assumption | trivial
            case' rzz3 => simp only [Act.put, List.setIfInBounds_toArray, List.set_cons_zero, List.set_cons_succ]
            refine wpAnyH_take (i := 3) (oi := ?ozz4) (v := ?vzz4) ?hzz4 ?azz4 ?bzz4 ?czz4 ?qzz4 ?yzz4 ?szz4 ?rzz4
            case hzz4 => simp only [List.getElem?_toArray, List.getElem?_cons_zero, List.getElem?_cons_succ]; rfl
            case azz4 => kernel_rfl
            case bzz4 => kernel_rfl
            case czz4 => kernel_rfl
            case yzz4 =>
              refine Or.inl ⟨by rfl, ?_⟩
              intro w hSw
              have f0 := box_ hSw a0; have f1 := box_ hSw a1; have f2 := box_ hSw y0; have f3 := box_ hSw y1; have f4 := box_ hSw y2; have f5 := box_ hSw y3; have f6 := box_ hSw e0; have f7 := box_ hSw e1; have f8 := box_ hSw e2; have f9 := box_ hSw e3; clear hSw
              go_simp
              try with_reducible rfl
            case qzz4 => exact fun _ _ _ h => h
            case szz4 => first | assumption | trivial
            case' rzz4 => simp only [Act.put, List.setIfInBounds_toArray, List.set_cons_zero, List.set_cons_succ]
            refine wpAnyH_take (i := 4) (oi := ?ozz5) (v := ?vzz5) ?hzz5 ?azz5 ?bzz5 ?czz5 ?qzz5 ?yzz5 ?szz5 ?rzz5
            case hzz5 => simp only [List.getElem?_toArray, List.getElem?_cons_zero, List.getElem?_cons_succ]; rfl
            case azz5 => kernel_rfl
            case bzz5 => kernel_rfl
            case czz5 => kernel_rfl
            case yzz5 =>
              refine Or.inl ⟨by rfl, ?_⟩
              intro w hSw
              skip
              go_simp
              try with_reducible rfl
            case qzz5 => exact fun _ _ _ h => h
            case szz5 => first | assumption | trivial
            case' rzz5 => simp only [Act.put, List.setIfInBounds_toArray, List.set_cons_zero, List.set_cons_succ]
            refine wpAnyH_take (i := 5) (oi := ?ozz6) (v := ?vzz6) ?hzz6 ?azz6 ?bzz6 ?czz6 ?qzz6 ?yzz6 ?szz6 ?rzz6
            case hzz6 => simp only [List.getElem?_toArray, List.getElem?_cons_zero, List.getElem?_cons_succ]; rfl
            case azz6 => kernel_rfl
            case bzz6 => kernel_rfl
            case czz6 => kernel_rfl
            case yzz6 =>
              refine Or.inl ⟨by rfl, ?_⟩
              intro w hSw
              have f0 := box_ hSw a0; have f1 := box_ hSw a1; have f2 := box_ hSw y0; have f3 := box_ hSw y1; have f4 := box_ hSw y2; have f5 := box_ hSw y3; have f6 := box_ hSw e0; have f7 := box_ hSw e1; have f8 := box_ hSw e2; have f9 := box_ hSw e3; clear hSw
              go_simp
              try with_reducible rfl
            case qzz6 => exact fun _ _ _ h => h
            case szz6 => first | assumption | trivial
            case' rzz6 => simp only [Act.put, List.setIfInBounds_toArray, List.set_cons_zero, List.set_cons_succ]
            refine wpAnyH_take (i := 6) (oi := ?ozz7) (v := ?vzz7) ?hzz7 ?azz7 ?bzz7 ?czz7 ?qzz7 ?yzz7 ?szz7 ?rzz7
            case hzz7 => simp only [List.getElem?_toArray, List.getElem?_cons_zero, List.getElem?_cons_succ]; rfl
            case azz7 => kernel_rfl
            case bzz7 => kernel_rfl
            case czz7 => kernel_rfl
            case yzz7 =>
              refine Or.inl ⟨by rfl, ?_⟩
              intro w hSw
              skip
              go_simp
              try with_reducible rfl
            case qzz7 => exact fun _ _ _ h => h
            case szz7 => first | assumption | trivial
            case' rzz7 => simp only [Act.put, List.setIfInBounds_toArray, List.set_cons_zero, List.set_cons_succ]
            refine wpAnyH_take (i := 7) (oi := ?ozz8) (v := ?vzz8) ?hzz8 ?azz8 ?bzz8 ?czz8 ?qzz8 ?yzz8 ?szz8 ?rzz8
            case hzz8 => simp only [List.getElem?_toArray, List.getElem?_cons_zero, List.getElem?_cons_succ]; rfl
            case azz8 => kernel_rfl
            case bzz8 => kernel_rfl
            case czz8 => kernel_rfl
            case yzz8 =>
              refine Or.inl ⟨by rfl, ?_⟩
              intro w hSw
              have f0 := box_ hSw a0; have f1 := box_ hSw a1; have f2 := box_ hSw y0; have f3 := box_ hSw y1; have f4 := box_ hSw y2; have f5 := box_ hSw y3; have f6 := box_ hSw e0; have f7 := box_ hSw e1; have f8 := box_ hSw e2; have f9 := box_ hSw e3; clear hSw
              go_simp
              try with_reducible rfl
            case qzz8 => exact fun _ _ _ h => h
            case szz8 => first | assumption | trivial
            case' rzz8 => simp only [Act.put, List.setIfInBounds_toArray, List.set_cons_zero, List.set_cons_succ]
            refine wpAnyH_take (i := 8) (oi := ?ozz9) (v := ?vzz9) ?hzz9 ?azz9 ?bzz9 ?czz9 ?qzz9 ?yzz9 ?szz9 ?rzz9
            case hzz9 => simp only [List.getElem?_toArray, List.getElem?_cons_zero, List.getElem?_cons_succ]; rfl
            case azz9 => kernel_rfl
            case bzz9 => kernel_rfl
            case czz9 => kernel_rfl
            case yzz9 =>
              refine Or.inl ⟨by rfl, ?_⟩
              intro w hSw
              skip
              go_simp
              try with_reducible rfl
            case qzz9 => exact fun _ _ _ h => h
            case szz9 => first | assumption | trivial
            case' rzz9 => simp only [Act.put, List.setIfInBounds_toArray, List.set_cons_zero, List.set_cons_succ]
            refine wpAnyH_take (i := 9) (oi := ?ozz10) (v := ?vzz10) ?hzz10 ?azz10 ?bzz10 ?czz10 ?qzz10 ?yzz10 ?szz10 ?rzz10
            case hzz10 => simp only [List.getElem?_toArray, List.getElem?_cons_zero, List.getElem?_cons_succ]; rfl
            case azz10 => kernel_rfl
            case bzz10 => kernel_rfl
            case czz10 => kernel_rfl
            case yzz10 =>
              refine Or.inl ⟨by rfl, ?_⟩
              intro w hSw
              have f0 := box_ hSw a0; have f1 := box_ hSw a1; have f2 := box_ hSw y0; have f3 := box_ hSw y1; have f4 := box_ hSw y2; have f5 := box_ hSw y3; have f6 := box_ hSw e0; have f7 := box_ hSw e1; have f8 := box_ hSw e2; have f9 := box_ hSw e3; clear hSw
              go_simp
              try with_reducible rfl
            case qzz10 => exact fun _ _ _ h => h
            case szz10 => first | assumption | trivial
            case' rzz10 => simp only [Act.put, List.setIfInBounds_toArray, List.set_cons_zero, List.set_cons_succ]
            refine wpAnyH_take (i := 10) (oi := ?ozz11) (v := ?vzz11) ?hzz11 ?azz11 ?bzz11 ?czz11 ?qzz11 ?yzz11 ?szz11 ?rzz11
            case hzz11 => simp only [List.getElem?_toArray, List.getElem?_cons_zero, List.getElem?_cons_succ]; rfl
            case azz11 => kernel_rfl
            case bzz11 => kernel_rfl
            case czz11 => kernel_rfl
            case yzz11 =>
              refine Or.inl ⟨by rfl, ?_⟩
              intro w hSw
              skip
              go_simp
              try with_reducible rfl
            case qzz11 => exact fun _ _ _ h => h
            case szz11 => first | assumption | trivial
            case' rzz11 => simp only [Act.put, List.setIfInBounds_toArray, List.set_cons_zero, List.set_cons_succ]
            refine wpAnyH_take (i := 11) (oi := ?ozz12) (v := ?vzz12) ?hzz12 ?azz12 ?bzz12 ?czz12 ?qzz12 ?yzz12 ?szz12 ?rzz12
            case hzz12 => simp only [List.getElem?_toArray, List.getElem?_cons_zero, List.getElem?_cons_succ]; rfl
            case azz12 => kernel_rfl
            case bzz12 => kernel_rfl
            case czz12 => kernel_rfl
            case yzz12 =>
              refine Or.inl ⟨by rfl, ?_⟩
              intro w hSw
              have f0 := box_ hSw a0; have f1 := box_ hSw a1; have f2 := box_ hSw y0; have f3 := box_ hSw y1; have f4 := box_ hSw y2; have f5 := box_ hSw y3; have f6 := box_ hSw e0; have f7 := box_ hSw e1; have f8 := box_ hSw e2; have f9 := box_ hSw e3; clear hSw
              go_simp
              try with_reducible rfl
            case qzz12 => exact fun _ _ _ h => h
            case szz12 => first | assumption | trivial
            case' rzz12 => simp only [Act.put, List.setIfInBounds_toArray, List.set_cons_zero, List.set_cons_succ]
            refine wpAnyH_ready (rs := [12]) (by kernel_rfl) (by simp) ?_
            refine AllReadyH.cons (o := ?ozz14) ?hzz14 (fun K hK => ?kzz14) ?mzz14
            case hzz14 => simp only [List.getElem?_toArray, List.getElem?_cons_zero, List.getElem?_cons_succ]; rfl
            case kzz14 =>
              go_simp
              refine (K2.out _).mono ?_
              rintro e u1 ⟨rfl, qx⟩
              go_wp2_with fail
              refine hK.out _ _ ?Szz14 (fun hHeld => ?Rzz14)
              case Szz14 =>
                exact hHeld.trans qx
              case Rzz14 =>
                clear hK K
                try simp only [Act.put, List.setIfInBounds_toArray, List.set_cons_zero, List.set_cons_succ]
                refine wpAnyH_take (i := 13) (oi := ?ozz13) (v := ?vzz13) ?hzz13 ?azz13 ?bzz13 ?czz13 ?qzz13 ?yzz13 ?szz13 ?rzz13
                case hzz13 => simp only [List.getElem?_toArray, List.getElem?_cons_zero, List.getElem?_cons_succ]; rfl
                case azz13 => kernel_rfl
                case bzz13 => kernel_rfl
                case czz13 => kernel_rfl
                case yzz13 =>
                  refine Or.inl ⟨by rfl, ?_⟩
                  intro w hSw
                  skip
                  go_simp
                  try with_reducible rfl
                case qzz13 => exact fun _ _ _ h => h
                case szz13 => first | assumption | trivial
                case' rzz13 => simp only [Act.put, List.setIfInBounds_toArray, List.set_cons_zero, List.set_cons_succ]
                refine wpAnyH_done (by kernel_rfl) ?_ _
                have HR := Lib.hid (HR.out.trans hHeld)
                have y0 := box_ hHeld y0
                have e0 := box_ hHeld e0
                have a0 := box_ hHeld a0
                have a1 := box_ hHeld a1
                clear y1 y2 y3 e1 e2 e3 hHeld
                go_wp2
                go_quiet (fail)
                go_wp2
                go_roundw
                case rel => exact ⟨k2 + 1, by omega, by go_num, HR.out.drewN _⟩
                case measure => simp [intOf]; omega
            case' mzz14 => skip
            exact AllReadyH.nil
          | true =>
            rw [hc] at K2
            have ht : y.txn = z.txn := (ha hc).symm
            have hz : (y.txn == z.txn) = true := by simpa using ht
            have hz2 : (y.txn != z.txn) = false := by simpa using ht
            clear ha hc ht
            go_wp2
            refine wp_region_held_drew (S := Q wr) (by kernel_rfl) ?szz15 (fun hHeld => ?rzz15)
            case szz15 =>
              exact (Q.refl wr).drew
            case' rzz15 => skip
            refine wpAnyH_take (i := 0) (oi := ?ozz16) (v := ?vzz16) ?hzz16 ?azz16 ?bzz16 ?czz16 ?qzz16 ?yzz16 ?szz16 ?rzz16
            case hzz16 => simp only [List.getElem?_toArray, List.getElem?_cons_zero]; rfl
            case azz16 => kernel_rfl
            case bzz16 => kernel_rfl
            case czz16 => kernel_rfl
            case yzz16 =>
              refine Or.inl ⟨by rfl, ?_⟩
              intro w hSw
              skip
              go_simp
              try with_reducible rfl
            case qzz16 => exact fun _ _ _ h => h
            case szz16 => first | assumption | trivial
            case' rzz16 => simp only [Act.put, List.setIfInBounds_toArray, List.set_cons_zero, List.set_cons_succ]
            refine wpAnyH_take (i := 1) (oi := ?ozz17) (v := ?vzz17) ?hzz17 ?azz17 ?bzz17 ?czz17 ?qzz17 ?yzz17 ?szz17 ?rzz17
            case hzz17 => simp only [List.getElem?_toArray, List.getElem?_cons_zero, List.getElem?_cons_succ]; rfl
            case azz17 => kernel_rfl
            case bzz17 => kernel_rfl
            case czz17 => kernel_rfl
            case yzz17 =>
              refine Or.inl ⟨by rfl, ?_⟩
              intro w hSw
              have f0 := box_ hSw a0; have f1 := box_ hSw a1; have f2 := box_ hSw y0; have f3 := box_ hSw y1; have f4 := box_ hSw y2; have f5 := box_ hSw y3; have f6 := box_ hSw e0; have f7 := box_ hSw e1; have f8 := box_ hSw e2; have f9 := box_ hSw e3; clear hSw
              go_simp
              try with_reducible rfl
            case qzz17 => exact fun _ _ _ h => h
            case szz17 => first | assumption | trivial
            case' rzz17 => simp only [Act.put, List.setIfInBounds_toArray, List.set_cons_zero, List.set_cons_succ]
            refine wpAnyH_take (i := 2) (oi := ?ozz18) (v := ?vzz18) ?hzz18 ?azz18 ?bzz18 ?czz18 ?qzz18 ?yzz18 ?szz18 ?rzz18
            case hzz18 => simp only [List.getElem?_toArray, List.getElem?_cons_zero, List.getElem?_cons_succ]; rfl
            case azz18 => kernel_rfl
            case bzz18 => kernel_rfl
            case czz18 => kernel_rfl
            case yzz18 =>
              refine Or.inl ⟨by rfl, ?_⟩
              intro w hSw
              skip
              go_simp
              try with_reducible rfl
            case qzz18 => exact fun _ _ _ h => h
            case szz18 => first | assumption | trivial
            case' rzz18 => simp only [Act.put, List.setIfInBounds_toArray, List.set_cons_zero, List.set_cons_succ]
            refine wpAnyH_take (i := 3) (oi := ?ozz19) (v := ?vzz19) ?hzz19 ?azz19 ?bzz19 ?czz19 ?qzz19 ?yzz19 ?szz19 ?rzz19
            case hzz19 => simp only [List.getElem?_toArray, List.getElem?_cons_zero, List.getElem?_cons_succ]; rfl
            case azz19 => kernel_rfl
            case bzz19 => kernel_rfl
            case czz19 => kernel_rfl
            case yzz19 =>
              refine Or.inl ⟨by rfl, ?_⟩
              intro w hSw
              have f0 := box_ hSw a0; have f1 := box_ hSw a1; have f2 := box_ hSw y0; have f3 := box_ hSw y1; have f4 := box_ hSw y2; have f5 := box_ hSw y3; have f6 := box_ hSw e0; have f7 := box_ hSw e1; have f8 := box_ hSw e2; have f9 := box_ hSw e3; clear hSw
              go_simp
              try with_reducible rfl
            case qzz19 => exact fun _ _ _ h => h
            case szz19 => first | assumption | trivial
            case' rzz19 => simp only [Act.put, List.setIfInBounds_toArray, List.set_cons_zero, List.set_cons_succ]
            refine wpAnyH_take (i := 4) (oi := ?ozz20) (v := ?vzz20) ?hzz20 ?azz20 ?bzz20 ?czz20 ?qzz20 ?yzz20 ?szz20 ?rzz20
            case hzz20 => simp only [List.getElem?_toArray, List.getElem?_cons_zero, List.getElem?_cons_succ]; rfl
            case azz20 => kernel_rfl
            case bzz20 => kernel_rfl
            case czz20 => kernel_rfl
            case yzz20 =>
              refine Or.inl ⟨by rfl, ?_⟩
              intro w hSw
              skip
              go_simp
              try with_reducible rfl
            case qzz20 => exact fun _ _ _ h => h
            case szz20 => first | assumption | trivial
            case' rzz20 => simp only [Act.put, List.setIfInBounds_toArray, List.set_cons_zero, List.set_cons_succ]
            refine wpAnyH_take (i := 5) (oi := ?ozz21) (v := ?vzz21) ?hzz21 ?azz21 ?bzz21 ?czz21 ?qzz21 ?yzz21 ?szz21 ?rzz21
            case hzz21 => simp only [List.getElem?_toArray, List.getElem?_cons_zero, List.getElem?_cons_succ]; rfl
            case azz21 => kernel_rfl
            case bzz21 => kernel_rfl
            case czz21 => kernel_rfl
            case yzz21 =>
              refine Or.inl ⟨by rfl, ?_⟩
              intro w hSw
              have f0 := box_ hSw a0; have f1 := box_ hSw a1; have f2 := box_ hSw y0; have f3 := box_ hSw y1; have f4 := box_ hSw y2; have f5 := box_ hSw y3; have f6 := box_ hSw e0; have f7 := box_ hSw e1; have f8 := box_ hSw e2; have f9 := box_ hSw e3; clear hSw
              go_simp
              try with_reducible rfl
            case qzz21 => exact fun _ _ _ h => h
            case szz21 => first | assumption | trivial
            case' rzz21 => simp only [Act.put, List.setIfInBounds_toArray, List.set_cons_zero, List.set_cons_succ]
            refine wpAnyH_take (i := 6) (oi := ?ozz22) (v := ?vzz22) ?hzz22 ?azz22 ?bzz22 ?czz22 ?qzz22 ?yzz22 ?szz22 ?rzz22
            case hzz22 => simp only [List.getElem?_toArray, List.getElem?_cons_zero, List.getElem?_cons_succ]; rfl
            case azz22 => kernel_rfl
            case bzz22 => kernel_rfl
            case czz22 => kernel_rfl
            case yzz22 =>
              refine Or.inl ⟨by rfl, ?_⟩
              intro w hSw
              skip
              go_simp
              try with_reducible rfl
            case qzz22 => exact fun _ _ _ h => h
            case szz22 => first | assumption | trivial
            case' rzz22 => simp only [Act.put, List.setIfInBounds_toArray, List.set_cons_zero, List.set_cons_succ]
            refine wpAnyH_take (i := 7) (oi := ?ozz23) (v := ?vzz23) ?hzz23 ?azz23 ?bzz23 ?czz23 ?qzz23 ?yzz23 ?szz23 ?rzz23
            case hzz23 => simp only [List.getElem?_toArray, List.getElem?_cons_zero, List.getElem?_cons_succ]; rfl
            case azz23 => kernel_rfl
            case bzz23 => kernel_rfl
            case czz23 => kernel_rfl
            case yzz23 =>
              refine Or.inl ⟨by rfl, ?_⟩
              intro w hSw
              have f0 := box_ hSw a0; have f1 := box_ hSw a1; have f2 := box_ hSw y0; have f3 := box_ hSw y1; have f4 := box_ hSw y2; have f5 := box_ hSw y3; have f6 := box_ hSw e0; have f7 := box_ hSw e1; have f8 := box_ hSw e2; have f9 := box_ hSw e3; clear hSw
              go_simp
              try with_reducible rfl
            case qzz23 => exact fun _ _ _ h => h
            case szz23 => first | assumption | trivial
            case' rzz23 => simp only [Act.put, List.setIfInBounds_toArray, List.set_cons_zero, List.set_cons_succ]
            refine wpAnyH_take (i := 8) (oi := ?ozz24) (v := ?vzz24) ?hzz24 ?azz24 ?bzz24 ?czz24 ?qzz24 ?yzz24 ?szz24 ?rzz24
            case hzz24 => simp only [List.getElem?_toArray, List.getElem?_cons_zero, List.getElem?_cons_succ]; rfl
            case azz24 => kernel_rfl
            case bzz24 => kernel_rfl
            case czz24 => kernel_rfl
            case yzz24 =>
              refine Or.inl ⟨by rfl, ?_⟩
              intro w hSw
              skip
              go_simp
              try with_reducible rfl
            case qzz24 => exact fun _ _ _ h => h
            case szz24 => first | assumption | trivial
            case' rzz24 => simp only [Act.put, List.setIfInBounds_toArray, List.set_cons_zero, List.set_cons_succ]
            refine wpAnyH_take (i := 9) (oi := ?ozz25) (v := ?vzz25) ?hzz25 ?azz25 ?bzz25 ?czz25 ?qzz25 ?yzz25 ?szz25 ?rzz25
            case hzz25 => simp only [List.getElem?_toArray, List.getElem?_cons_zero, List.getElem?_cons_succ]; rfl
            case azz25 => kernel_rfl
            case bzz25 => kernel_rfl
            case czz25 => kernel_rfl
            case yzz25 =>
              refine Or.inl ⟨by rfl, ?_⟩
              intro w hSw
              have f0 := box_ hSw a0; have f1 := box_ hSw a1; have f2 := box_ hSw y0; have f3 := box_ hSw y1; have f4 := box_ hSw y2; have f5 := box_ hSw y3; have f6 := box_ hSw e0; have f7 := box_ hSw e1; have f8 := box_ hSw e2; have f9 := box_ hSw e3; clear hSw
              go_simp
              try with_reducible rfl
            case qzz25 => exact fun _ _ _ h => h
            case szz25 => first | assumption | trivial
            case' rzz25 => simp only [Act.put, List.setIfInBounds_toArray, List.set_cons_zero, List.set_cons_succ]
            refine wpAnyH_take (i := 10) (oi := ?ozz26) (v := ?vzz26) ?hzz26 ?azz26 ?bzz26 ?czz26 ?qzz26 ?yzz26 ?szz26 ?rzz26
            case hzz26 => simp only [List.getElem?_toArray, List.getElem?_cons_zero, List.getElem?_cons_succ]; rfl
            case azz26 => kernel_rfl
            case bzz26 => kernel_rfl
            case czz26 => kernel_rfl
            case yzz26 =>
              refine Or.inl ⟨by rfl, ?_⟩
              intro w hSw
              skip
              go_simp
              try with_reducible rfl
            case qzz26 => exact fun _ _ _ h => h
            case szz26 => first | assumption | trivial
            case' rzz26 => simp only [Act.put, List.setIfInBounds_toArray, List.set_cons_zero, List.set_cons_succ]
            refine wpAnyH_take (i := 11) (oi := ?ozz27) (v := ?vzz27) ?hzz27 ?azz27 ?bzz27 ?czz27 ?qzz27 ?yzz27 ?szz27 ?rzz27
            case hzz27 => simp only [List.getElem?_toArray, List.getElem?_cons_zero, List.getElem?_cons_succ]; rfl
            case azz27 => kernel_rfl
            case bzz27 => kernel_rfl
            case czz27 => kernel_rfl
            case yzz27 =>
              refine Or.inl ⟨by rfl, ?_⟩
              intro w hSw
              have f0 := box_ hSw a0; have f1 := box_ hSw a1; have f2 := box_ hSw y0; have f3 := box_ hSw y1; have f4 := box_ hSw y2; have f5 := box_ hSw y3; have f6 := box_ hSw e0; have f7 := box_ hSw e1; have f8 := box_ hSw e2; have f9 := box_ hSw e3; clear hSw
              go_simp
              try with_reducible rfl
            case qzz27 => exact fun _ _ _ h => h
            case szz27 => first | assumption | trivial
            case' rzz27 => simp only [Act.put, List.setIfInBounds_toArray, List.set_cons_zero, List.set_cons_succ]
            refine wpAnyH_ready (rs := [12]) (by kernel_rfl) (by simp) ?_
            refine AllReadyH.cons (o := ?ozz29) ?hzz29 (fun K hK => ?kzz29) ?mzz29
            case hzz29 => simp only [List.getElem?_toArray, List.getElem?_cons_zero, List.getElem?_cons_succ]; rfl
            case kzz29 =>
              go_simp
              refine (K2.out _).mono ?_
              rintro e u1 ⟨rfl, qx⟩
              go_wp2_with fail
              refine hK.out _ _ ?Szz29 (fun hHeld => ?Rzz29)
              case Szz29 =>
                exact hHeld.trans qx
              case Rzz29 =>
                clear hK K
                try simp only [Act.put, List.setIfInBounds_toArray, List.set_cons_zero, List.set_cons_succ]
                refine wpAnyH_take (i := 13) (oi := ?ozz28) (v := ?vzz28) ?hzz28 ?azz28 ?bzz28 ?czz28 ?qzz28 ?yzz28 ?szz28 ?rzz28
                case hzz28 => simp only [List.getElem?_toArray, List.getElem?_cons_zero, List.getElem?_cons_succ]; rfl
                case azz28 => kernel_rfl
                case bzz28 => kernel_rfl
                case czz28 => kernel_rfl
                case yzz28 =>
                  refine Or.inl ⟨by rfl, ?_⟩
                  intro w hSw
                  skip
                  go_simp
                  try with_reducible rfl
                case qzz28 => exact fun _ _ _ h => h
                case szz28 => first | assumption | trivial
                case' rzz28 => simp only [Act.put, List.setIfInBounds_toArray, List.set_cons_zero, List.set_cons_succ]
                refine wpAnyH_done (by kernel_rfl) ?_ _
                have HR := Lib.hid (HR.out.trans hHeld)
                have y0 := box_ hHeld y0
                have e0 := box_ hHeld e0
                have a0 := box_ hHeld a0
                have a1 := box_ hHeld a1
                clear y1 y2 y3 e1 e2 e3 hHeld
                go_wp2
                go_quiet (fail)
                go_wp2
                go_roundw
                case rel => exact ⟨k2 + 1, by omega, by go_num, HR.out.drewN _⟩
                case measure => simp [intOf]; omega
            case' mzz29 => skip
            exact AllReadyH.nil
        · have hkn2 : ¬ (k2 : Int) < (k : Int) := by omega
          go_wp2
          go_roundw
          case rel => exact ⟨k + 1, by omega, by go_num, HR.out⟩
          case measure => simp [intOf]; omega
    · have hkn : ¬ (k : Int) < (n1 : Int) := by omega
      go_wp2
      go_ret
      exact ⟨rfl, HQ.out.trans HR.out⟩

theorem opened (W : World) (args : Array Value) (hn : args.size = 1) (h : ∀ (j : Nat) t v, Try.f5.params[j]? = some t → args[j]? = some v → RdV W t v) :
    Calls Try.prog 5 args W fun e W' => e = .returned (.bool true) ∧ Q W W' := by
  obtain ⟨v0, rfl⟩ := args1 hn
  rw [Try.params5] at h
  obtain ⟨A0, n0, c0, e0, r0⟩ := (h 0 48 v0 rfl rfl).slice Try.underlying48
  obtain ⟨A, n, c, l, f0, hA, hb, hI⟩ := open_acts r0
  simp only [List.cons.injEq, Value.slice.injEq, and_true] at f0
  obtain ⟨rfl, rfl, rfl⟩ := f0
  subst e0
  exact walk _ _ _ l W hA hI


set_option maxRecDepth 100000 in
theorem lifted (os : Os) (started : os.Started) (H : Type) (enc : TypeId × Value → H) :
    ReturnsInHanded {} Try.checked os 5 .any (Rows.lockApartSpec.pre6 enc Try.prog Try.f5 Rows.lockApartRow.domain false) (Rows.lockApartSpec.post enc Try.prog Try.f5 false true false false) :=
  framed 1 Try.func5 (by rw [Try.params5]; rfl) rfl (by kernel_rfl) (by kernel_rfl) (by kernel_rfl)
    (fun H ds h => by match ds, h with | [d0], _ => exact ⟨rfl, rfl, rfl⟩)
    opened os started H enc
    (ChangeSpec.witness6 (enc := enc) (C := Try.checked) false ⟨#[], #[.slice none 0 0], []⟩ 8 (by kernel_rfl) (by kernel_rfl) (by kernel_rfl) (by kernel_rfl))

theorem over : Rows.lockApartRow.holds Try.pinned (OpenSpec.ofChange Rows.lockApartSpec) :=
  OpenClaim.holds_of_wide 5 Try.f5 rfl rfl rfl rfl rfl rfl rfl ⟨rfl, rfl, rfl, rfl, rfl⟩ rfl rfl rfl rfl rfl (by kernel_rfl) Try.func5 (by kernel_rfl)
    (of_decide_eq_true (by kernel_rfl)) (by unfold Func.isWrapper; first | (rw [if_pos (by decide +kernel)]; kernel_rfl) | (rw [if_neg (by decide +kernel)]; exact ⟨rfl, rfl⟩))
    (fun os started H enc _ => lifted os started H enc)

theorem proved : Rows.LockApartSaid := over
end Go.Proofs.Ytenemdpjhoebpaa.lockApart
