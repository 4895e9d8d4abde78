/- For every row of acts: none waits behind whom nobody stands; each transaction has one claim at most; a wait is for one that holds, or waits ahead. No condition. -/
import Derived.Test.YtenemdpjhoebpaaLockPlay
namespace Go.Proofs.Ytenemdpjhoebpaa.lockWaits
set_option maxRecDepth 100000
open Go.ChangeShapes Go.WideShapes Go.ChangeAt Go.RowKit Prm Lm Sm
set_option linter.unusedVariables false
set_option linter.unusedSimpArgs false

set_option maxHeartbeats 8000000 in
theorem walk (A : Option Addr) (n c : Nat) (l : List Ac) (w : World) (hA : In_ actK w A n c l) (hI : ∀ a ∈ l, AcIn a) :
    Calls Try.prog 6 #[.slice A n c] w fun e w' => e = .returned (.bool true) ∧ Q w w' := by
  have KP := Lib.hid (fun W q => plays_any A n c l W (hA.q q) hI)
  clear hA hI
  go_enter Try.func6, Try.ntmps6
  go_wp2_with fail
  refine (lshown_any _).mono ?_
  rintro e w1 ⟨rfl, q1⟩
  have HQ := Lib.hid q1
  clear q1
  go_wp2_with fail
  refine (KP.out _ HQ.out).mono ?_
  rintro e w2 ⟨A1, n1, c1, B1, m1, d1, s, rfl, o1, o2, ok, z2⟩
  go_upto_region 3 with (fail)
  have zb := (Q.refl w2).alloc (.cells #[.slice A1 n1 c1, .slice B1 m1 d1] 25)
  have hn1 : n1 ≤ 100 := by have := ok.le; have := o1.len; omega
  have hm1 : m1 ≤ 100 := by have := ok.le; have := o2.len; omega
  have hm16 : (m1 : Int) ≤ 16 := by have := ok.wt.few; have := o2.len; omega
  have O := Lib.hid (few_in (l := s) (o1.q zb) (o2.q zb) (by omega) (by omega))
  have N1 := Lib.hid o2.len
  have HOk := Lib.hid ok
  have HQ := Lib.hid (HQ.out.trans (z2.trans zb))
  have X : Hid (Bx (w2.alloc (.cells #[.slice A1 n1 c1, .slice B1 m1 d1] 25)) w2.heap.size [.slice A1 n1 c1, .slice B1 m1 d1]) := Lib.hid (Bx.new w2 [.slice A1 n1 c1, .slice B1 m1 d1] 25)
  clear zb z2 o1 o2 ok
  generalize w2.alloc (.cells #[.slice A1 n1 c1, .slice B1 m1 d1] 25) = W2 at *
  generalize w2.heap.size = g2 at *
  obtain ⟨⟨a0, a1⟩, a2, a3⟩ := X.out.get2
  go_wp2
  go_loopw [5] (fun i wr => ∃ k : Nat, k ≤ m1 ∧ i = .int .i64 k ∧ Q W2 wr) (fun i _ => m1 - (intOf i).toNat)
  case atStart => exact ⟨0, Nat.zero_le _, rfl, Q.refl _⟩
  case round =>
    obtain ⟨k, hk, rfl, qr⟩ := hrel
    have HR := Lib.hid qr
    clear qr a0 a1 a2 a3
    obtain ⟨⟨a0, a1⟩, a2, a3⟩ := (X.out.q HR.out).get2
    by_cases hlt : k < m1
    · have hkl : k < s.queue.length := by have := N1.out; omega
      have hkn : (k : Int) < (m1 : Int) := by omega
      have KB := Lib.hid (fun W (q : Q W2 W) => blockers_any A1 B1 n1 c1 m1 d1 s s.queue[k].txn s.queue[k].w (k : Int) W (O.out.1.lst.q q) (O.out.2.q q) HOk.out.loI.1 HOk.out.loI.2 (by omega) (by omega))
      rw [Int.toNat_natCast] at KB
      have HNE := Lib.hid (show ¬ blk s s.queue[k].txn s.queue[k].w k = [] from HOk.out.wt.set k hkl)
      obtain ⟨ad, rfl, hab, y0, y1, y2, y3, y4⟩ := load_claim (O.out.2.lst.q HR.out) hlt hkl
      generalize blk s s.queue[k].txn s.queue[k].w k = bk at KB HNE
      generalize s.queue[k] = y at y0 y1 y2 y3 y4 KB
      unfold wnV at *
      go_wp2
      refine wp_region_held_drew (S := Q wr) (by kernel_rfl) ?szz30 (fun hHeld => ?rzz30)
      case szz30 =>
        exact (Q.refl wr).drew
      case' rzz30 => skip
      refine wpAnyH_take (i := 0) (oi := ?ozz31) (v := ?vzz31) ?hzz31 ?azz31 ?bzz31 ?czz31 ?qzz31 ?yzz31 ?szz31 ?rzz31
      case hzz31 => simp only [List.getElem?_toArray, List.getElem?_cons_zero]; rfl
      case azz31 => kernel_rfl
      case bzz31 => kernel_rfl
      case czz31 => kernel_rfl
      case yzz31 =>
        refine Or.inl ⟨by rfl, ?_⟩
        intro w hSw
        have f0 := box_ hSw a0; have f1 := box_ hSw a1; have f2 := box_ hSw y0; have f3 := box_ hSw y1; have f4 := box_ hSw y2; have f5 := box_ hSw y3; clear hSw
        go_simp
        try with_reducible rfl
      case qzz31 => exact fun _ _ _ h => h
      case szz31 => first | assumption | trivial
      case' rzz31 => simp only [Act.put, List.setIfInBounds_toArray, List.set_cons_zero, List.set_cons_succ]
      refine wpAnyH_take (i := 1) (oi := ?ozz32) (v := ?vzz32) ?hzz32 ?azz32 ?bzz32 ?czz32 ?qzz32 ?yzz32 ?szz32 ?rzz32
      case hzz32 => simp only [List.getElem?_toArray, List.getElem?_cons_zero, List.getElem?_cons_succ]; rfl
      case azz32 => kernel_rfl
      case bzz32 => kernel_rfl
      case czz32 => kernel_rfl
      case yzz32 =>
        refine Or.inl ⟨by rfl, ?_⟩
        intro w hSw
        skip
        go_simp
        try with_reducible rfl
      case qzz32 => exact fun _ _ _ h => h
      case szz32 => first | assumption | trivial
      case' rzz32 => simp only [Act.put, List.setIfInBounds_toArray, List.set_cons_zero, List.set_cons_succ]
      refine wpAnyH_take (i := 2) (oi := ?ozz33) (v := ?vzz33) ?hzz33 ?azz33 ?bzz33 ?czz33 ?qzz33 ?yzz33 ?szz33 ?rzz33
      case hzz33 => simp only [List.getElem?_toArray, List.getElem?_cons_zero, List.getElem?_cons_succ]; rfl
      case azz33 => kernel_rfl
      case bzz33 => kernel_rfl
      case czz33 => kernel_rfl
      case yzz33 =>
        refine Or.inl ⟨by rfl, ?_⟩
        intro w hSw
        have f0 := box_ hSw a0; have f1 := box_ hSw a1; have f2 := box_ hSw y0; have f3 := box_ hSw y1; have f4 := box_ hSw y2; have f5 := box_ hSw y3; clear hSw
        go_simp
        try with_reducible rfl
      case qzz33 => exact fun _ _ _ h => h
      case szz33 => first | assumption | trivial
      case' rzz33 => simp only [Act.put, List.setIfInBounds_toArray, List.set_cons_zero, List.set_cons_succ]
      refine wpAnyH_take (i := 3) (oi := ?ozz34) (v := ?vzz34) ?hzz34 ?azz34 ?bzz34 ?czz34 ?qzz34 ?yzz34 ?szz34 ?rzz34
      case hzz34 => simp only [List.getElem?_toArray, List.getElem?_cons_zero, List.getElem?_cons_succ]; rfl
      case azz34 => kernel_rfl
      case bzz34 => kernel_rfl
      case czz34 => kernel_rfl
      case yzz34 =>
        refine Or.inl ⟨by rfl, ?_⟩
        intro w hSw
        skip
        go_simp
        try with_reducible rfl
      case qzz34 => exact fun _ _ _ h => h
      case szz34 => first | assumption | trivial
      case' rzz34 => simp only [Act.put, List.setIfInBounds_toArray, List.set_cons_zero, List.set_cons_succ]
      refine wpAnyH_take (i := 4) (oi := ?ozz35) (v := ?vzz35) ?hzz35 ?azz35 ?bzz35 ?czz35 ?qzz35 ?yzz35 ?szz35 ?rzz35
      case hzz35 => simp only [List.getElem?_toArray, List.getElem?_cons_zero, List.getElem?_cons_succ]; rfl
      case azz35 => kernel_rfl
      case bzz35 => kernel_rfl
      case czz35 => kernel_rfl
      case yzz35 =>
        refine Or.inl ⟨by rfl, ?_⟩
        intro w hSw
        have f0 := box_ hSw a0; have f1 := box_ hSw a1; have f2 := box_ hSw y0; have f3 := box_ hSw y1; have f4 := box_ hSw y2; have f5 := box_ hSw y3; clear hSw
        go_simp
        try with_reducible rfl
      case qzz35 => exact fun _ _ _ h => h
      case szz35 => first | assumption | trivial
      case' rzz35 => simp only [Act.put, List.setIfInBounds_toArray, List.set_cons_zero, List.set_cons_succ]
      refine wpAnyH_take (i := 5) (oi := ?ozz36) (v := ?vzz36) ?hzz36 ?azz36 ?bzz36 ?czz36 ?qzz36 ?yzz36 ?szz36 ?rzz36
      case hzz36 => simp only [List.getElem?_toArray, List.getElem?_cons_zero, List.getElem?_cons_succ]; rfl
      case azz36 => kernel_rfl
      case bzz36 => kernel_rfl
      case czz36 => kernel_rfl
      case yzz36 =>
        refine Or.inl ⟨by rfl, ?_⟩
        intro w hSw
        skip
        go_simp
        try with_reducible rfl
      case qzz36 => exact fun _ _ _ h => h
      case szz36 => first | assumption | trivial
      case' rzz36 => simp only [Act.put, List.setIfInBounds_toArray, List.set_cons_zero, List.set_cons_succ]
      refine wpAnyH_take (i := 6) (oi := ?ozz37) (v := ?vzz37) ?hzz37 ?azz37 ?bzz37 ?czz37 ?qzz37 ?yzz37 ?szz37 ?rzz37
      case hzz37 => simp only [List.getElem?_toArray, List.getElem?_cons_zero, List.getElem?_cons_succ]; rfl
      case azz37 => kernel_rfl
      case bzz37 => kernel_rfl
      case czz37 => kernel_rfl
      case yzz37 =>
        refine Or.inl ⟨by rfl, ?_⟩
        intro w hSw
        have f0 := box_ hSw a0; have f1 := box_ hSw a1; have f2 := box_ hSw y0; have f3 := box_ hSw y1; have f4 := box_ hSw y2; have f5 := box_ hSw y3; clear hSw
        go_simp
        try with_reducible rfl
      case qzz37 => exact fun _ _ _ h => h
      case szz37 => first | assumption | trivial
      case' rzz37 => simp only [Act.put, List.setIfInBounds_toArray, List.set_cons_zero, List.set_cons_succ]
      refine wpAnyH_take (i := 7) (oi := ?ozz38) (v := ?vzz38) ?hzz38 ?azz38 ?bzz38 ?czz38 ?qzz38 ?yzz38 ?szz38 ?rzz38
      case hzz38 => simp only [List.getElem?_toArray, List.getElem?_cons_zero, List.getElem?_cons_succ]; rfl
      case azz38 => kernel_rfl
      case bzz38 => kernel_rfl
      case czz38 => kernel_rfl
      case yzz38 =>
        refine Or.inl ⟨by rfl, ?_⟩
        intro w hSw
        skip
        go_simp
        try with_reducible rfl
      case qzz38 => exact fun _ _ _ h => h
      case szz38 => first | assumption | trivial
      case' rzz38 => simp only [Act.put, List.setIfInBounds_toArray, List.set_cons_zero, List.set_cons_succ]
      refine wpAnyH_take (i := 8) (oi := ?ozz39) (v := ?vzz39) ?hzz39 ?azz39 ?bzz39 ?czz39 ?qzz39 ?yzz39 ?szz39 ?rzz39
      case hzz39 => simp only [List.getElem?_toArray, List.getElem?_cons_zero, List.getElem?_cons_succ]; rfl
      case azz39 => kernel_rfl
      case bzz39 => kernel_rfl
      case czz39 => kernel_rfl
      case yzz39 =>
        refine Or.inl ⟨by rfl, ?_⟩
        intro w hSw
        have f0 := box_ hSw a0; have f1 := box_ hSw a1; have f2 := box_ hSw y0; have f3 := box_ hSw y1; have f4 := box_ hSw y2; have f5 := box_ hSw y3; clear hSw
        go_simp
        try with_reducible rfl
      case qzz39 => exact fun _ _ _ h => h
      case szz39 => first | assumption | trivial
      case' rzz39 => simp only [Act.put, List.setIfInBounds_toArray, List.set_cons_zero, List.set_cons_succ]
      refine wpAnyH_take (i := 9) (oi := ?ozz40) (v := ?vzz40) ?hzz40 ?azz40 ?bzz40 ?czz40 ?qzz40 ?yzz40 ?szz40 ?rzz40
      case hzz40 => simp only [List.getElem?_toArray, List.getElem?_cons_zero, List.getElem?_cons_succ]; rfl
      case azz40 => kernel_rfl
      case bzz40 => kernel_rfl
      case czz40 => kernel_rfl
      case yzz40 =>
        refine Or.inl ⟨by rfl, ?_⟩
        intro w hSw
        skip
        go_simp
        try with_reducible rfl
      case qzz40 => exact fun _ _ _ h => h
      case szz40 => first | assumption | trivial
      case' rzz40 => simp only [Act.put, List.setIfInBounds_toArray, List.set_cons_zero, List.set_cons_succ]
      refine wpAnyH_take (i := 10) (oi := ?ozz41) (v := ?vzz41) ?hzz41 ?azz41 ?bzz41 ?czz41 ?qzz41 ?yzz41 ?szz41 ?rzz41
      case hzz41 => simp only [List.getElem?_toArray, List.getElem?_cons_zero, List.getElem?_cons_succ]; rfl
      case azz41 => kernel_rfl
      case bzz41 => kernel_rfl
      case czz41 => kernel_rfl
      case yzz41 =>
        refine Or.inl ⟨by rfl, ?_⟩
        intro w hSw
        have f0 := box_ hSw a0; have f1 := box_ hSw a1; have f2 := box_ hSw y0; have f3 := box_ hSw y1; have f4 := box_ hSw y2; have f5 := box_ hSw y3; clear hSw
        go_simp
        try with_reducible rfl
      case qzz41 => exact fun _ _ _ h => h
      case szz41 => first | assumption | trivial
      case' rzz41 => simp only [Act.put, List.setIfInBounds_toArray, List.set_cons_zero, List.set_cons_succ]
      refine wpAnyH_take (i := 11) (oi := ?ozz42) (v := ?vzz42) ?hzz42 ?azz42 ?bzz42 ?czz42 ?qzz42 ?yzz42 ?szz42 ?rzz42
      case hzz42 => simp only [List.getElem?_toArray, List.getElem?_cons_zero, List.getElem?_cons_succ]; rfl
      case azz42 => kernel_rfl
      case bzz42 => kernel_rfl
      case czz42 => kernel_rfl
      case yzz42 =>
        refine Or.inl ⟨by rfl, ?_⟩
        intro w hSw
        skip
        go_simp
        try with_reducible rfl
      case qzz42 => exact fun _ _ _ h => h
      case szz42 => first | assumption | trivial
      case' rzz42 => simp only [Act.put, List.setIfInBounds_toArray, List.set_cons_zero, List.set_cons_succ]
      refine wpAnyH_take (i := 12) (oi := ?ozz43) (v := ?vzz43) ?hzz43 ?azz43 ?bzz43 ?czz43 ?qzz43 ?yzz43 ?szz43 ?rzz43
      case hzz43 => simp only [List.getElem?_toArray, List.getElem?_cons_zero, List.getElem?_cons_succ]; rfl
      case azz43 => kernel_rfl
      case bzz43 => kernel_rfl
      case czz43 => kernel_rfl
      case yzz43 =>
        refine Or.inl ⟨by rfl, ?_⟩
        intro w hSw
        have f0 := box_ hSw a0; have f1 := box_ hSw a1; have f2 := box_ hSw y0; have f3 := box_ hSw y1; have f4 := box_ hSw y2; have f5 := box_ hSw y3; clear hSw
        go_simp
        try with_reducible rfl
      case qzz43 => exact fun _ _ _ h => h
      case szz43 => first | assumption | trivial
      case' rzz43 => simp only [Act.put, List.setIfInBounds_toArray, List.set_cons_zero, List.set_cons_succ]
      refine wpAnyH_take (i := 13) (oi := ?ozz44) (v := ?vzz44) ?hzz44 ?azz44 ?bzz44 ?czz44 ?qzz44 ?yzz44 ?szz44 ?rzz44
      case hzz44 => simp only [List.getElem?_toArray, List.getElem?_cons_zero, List.getElem?_cons_succ]; rfl
      case azz44 => kernel_rfl
      case bzz44 => kernel_rfl
      case czz44 => kernel_rfl
      case yzz44 =>
        refine Or.inl ⟨by rfl, ?_⟩
        intro w hSw
        skip
        go_simp
        try with_reducible rfl
      case qzz44 => exact fun _ _ _ h => h
      case szz44 => first | assumption | trivial
      case' rzz44 => simp only [Act.put, List.setIfInBounds_toArray, List.set_cons_zero, List.set_cons_succ]
      refine wpAnyH_ready (rs := [14]) (by kernel_rfl) (by simp) ?_
      refine AllReadyH.cons (o := ?ozz46) ?hzz46 (fun K hK => ?kzz46) ?mzz46
      case hzz46 => simp only [List.getElem?_toArray, List.getElem?_cons_zero, List.getElem?_cons_succ]; rfl
      case kzz46 =>
        go_simp
        refine (KB.out _ (HR.out.trans hHeld)).mono ?_
        rintro e u1 ⟨A7, c7, rfl, o7, q7⟩
        go_wp2_with fail
        refine hK.out _ _ ?Szz46 (fun hHeld => ?Rzz46)
        case Szz46 =>
          exact hHeld.trans q7
        case Rzz46 =>
          clear hK K
          try simp only [Act.put, List.setIfInBounds_toArray, List.set_cons_zero, List.set_cons_succ]
          refine wpAnyH_take (i := 15) (oi := ?ozz45) (v := ?vzz45) ?hzz45 ?azz45 ?bzz45 ?czz45 ?qzz45 ?yzz45 ?szz45 ?rzz45
          case hzz45 => simp only [List.getElem?_toArray, List.getElem?_cons_zero, List.getElem?_cons_succ]; rfl
          case azz45 => kernel_rfl
          case bzz45 => kernel_rfl
          case czz45 => kernel_rfl
          case yzz45 =>
            refine Or.inl ⟨by rfl, ?_⟩
            intro w hSw
            skip
            go_simp
            try with_reducible rfl
          case qzz45 => exact fun _ _ _ h => h
          case szz45 => first | assumption | trivial
          case' rzz45 => simp only [Act.put, List.setIfInBounds_toArray, List.set_cons_zero, List.set_cons_succ]
          refine wpAnyH_done (by kernel_rfl) ?_ _
          have HR := Lib.hid (HR.out.trans hHeld)
          have hnz : ((bk.length : Int) == 0) = false := by have := HNE.out; simp; exact this
          have hnz2 : ((bk.length : Int) = 0) = False := by have := HNE.out; simp; exact this
          generalize bk.length = L at hnz hnz2 ⊢
          clear y0 y1 y2 y3 hHeld o7 q7 a0 a1 a2 a3
          go_wp2
          have QW := HR
          clear HR
          go_loopw [7] (fun j wr => ∃ k2 : Nat, k2 ≤ k ∧ j = .int .i64 k2 ∧ Q W2 wr) (fun j _ => k - (intOf j).toNat)
          case atStart => exact ⟨0, Nat.zero_le _, rfl, QW.out⟩
          case round =>
            obtain ⟨k2, hk2, rfl, qr⟩ := hrel
            have HR := Lib.hid qr
            clear qr QW
            obtain ⟨⟨a0, a1⟩, a2, a3⟩ := (X.out.q HR.out).get2
            by_cases hlt2 : k2 < k
            · have hkl2 : k2 < s.queue.length := by have := N1.out; omega
              have hkn2 : (k2 : Int) < (k : Int) := by omega
              have hkn3 : (k2 : Int) < (m1 : Int) := by omega
              have ha := List.pairwise_iff_getElem.1 HOk.out.wt.one k2 k hkl2 hkl hlt2
              obtain ⟨ae, hae, hab, y0, y1, y2, y3, y4⟩ := load_claim (O.out.2.lst.q HR.out) hlt hkl
              cases hae
              obtain ⟨ae, hae, hab2, e0, e1, e2, e3, e4⟩ := load_claim (O.out.2.lst.q HR.out) (show k2 < m1 by omega) hkl2
              cases hae
              generalize s.queue[k] = y at y0 y1 y2 y3 y4 ha
              generalize s.queue[k2] = z at e0 e1 e2 e3 e4 ha
              have hz : (z.txn == y.txn) = false := by simpa using ha
              clear ha
              go_wp2
              go_quiet (fail)
              go_wp2
              go_roundw
              case rel => exact ⟨k2 + 1, by omega, by go_num, HR.out.drewN _⟩
              case measure => simp [intOf]; omega
            · have hkn2 : ¬ (k2 : Int) < (k : Int) := by omega
              go_wp2
              go_roundw
              case rel => exact ⟨k + 1, by omega, by go_num, HR.out⟩
              case measure => simp [intOf]; omega
      case' mzz46 => skip
      exact AllReadyH.nil
    · have hkn : ¬ (k : Int) < (m1 : Int) := by omega
      go_wp2
      go_ret
      exact ⟨by first | rfl | (simp; omega), HQ.out.trans HR.out⟩

theorem opened (W : World) (args : Array Value) (hn : args.size = 1) (h : ∀ (j : Nat) t v, Try.f6.params[j]? = some t → args[j]? = some v → RdV W t v) :
    Calls Try.prog 6 args W fun e W' => e = .returned (.bool true) ∧ Q W W' := by
  obtain ⟨v0, rfl⟩ := args1 hn
  rw [Try.params6] at h
  obtain ⟨A0, n0, c0, e0, r0⟩ := (h 0 48 v0 rfl rfl).slice Try.underlying48
  obtain ⟨A, n, c, l, f0, hA, hb, hI⟩ := open_acts r0
  simp only [List.cons.injEq, Value.slice.injEq, and_true] at f0
  obtain ⟨rfl, rfl, rfl⟩ := f0
  subst e0
  exact walk _ _ _ l W hA hI


set_option maxRecDepth 100000 in
theorem lifted (os : Os) (started : os.Started) (H : Type) (enc : TypeId × Value → H) :
    ReturnsInHanded {} Try.checked os 6 .any (Rows.lockWaitsSpec.pre6 enc Try.prog Try.f6 Rows.lockWaitsRow.domain false) (Rows.lockWaitsSpec.post enc Try.prog Try.f6 false true false false) :=
  framed 1 Try.func6 (by rw [Try.params6]; rfl) rfl (by kernel_rfl) (by kernel_rfl) (by kernel_rfl)
    (fun H ds h => by match ds, h with | [d0], _ => exact ⟨rfl, rfl, rfl⟩)
    opened os started H enc
    (ChangeSpec.witness6 (enc := enc) (C := Try.checked) false ⟨#[], #[.slice none 0 0], []⟩ 8 (by kernel_rfl) (by kernel_rfl) (by kernel_rfl) (by kernel_rfl))

theorem over : Rows.lockWaitsRow.holds Try.pinned (OpenSpec.ofChange Rows.lockWaitsSpec) :=
  OpenClaim.holds_of_wide 6 Try.f6 rfl rfl rfl rfl rfl rfl rfl ⟨rfl, rfl, rfl, rfl, rfl⟩ rfl rfl rfl rfl rfl (by kernel_rfl) Try.func6 (by kernel_rfl)
    (of_decide_eq_true (by kernel_rfl)) (by unfold Func.isWrapper; first | (rw [if_pos (by decide +kernel)]; kernel_rfl) | (rw [if_neg (by decide +kernel)]; exact ⟨rfl, rfl⟩))
    (fun os started H enc _ => lifted os started H enc)

theorem proved : Rows.LockWaitsSaid := over
end Go.Proofs.Ytenemdpjhoebpaa.lockWaits
