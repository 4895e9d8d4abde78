/- Contracts: the document's Decided, Do. -/
import Derived.Test.YtlbjobbmjccekaaBatchDo
import Derived.Test.YtlbjobbmjccekaaBatchMayRef
import Derived.Test.YtlbjobbmjccekaaTableRef5
namespace Go.Proofs.Ytlbjobbmjccekaa
set_option maxRecDepth 100000
open Go.RowKit Prm
set_option linter.unusedVariables false
set_option linter.unusedSimpArgs false

/-- a state that reads so, and the errno. -/
def RetSI (w : World) (s : Bm.Sta × Nat) (e : Ending) (w' : World) : Prop :=
  ∃ A n c B m d, e = .returned (.tuple #[staV A n c B m d, .int .i64 (s.2 : Int)]) ∧ In_ pairK w' A n c s.1.data ∧ In_ pairK w' B m d s.1.toks ∧ Q w w'

theorem refDecided_any (tok : ByteArray) (A B : Option Addr) (n c m d : Nat) (t : List Pr) (w : World) (hB : Lst pairK w B m t) (hm : m ≤ maxLen) :
    Calls Try.prog 23 #[staV A n c B m d, .string tok] w fun e w' => e = .returned (.tuple #[.string (find tok t).1, .bool (find tok t).2]) ∧ Q w w' := by
  have K := Lib.hid (fun W q => refFind_any tok B m d t W (hB.q q) hm)
  clear hB
  go_enter Try.func23, Try.ntmps23
  go_wp2_with fail
  refine (K.out _ ((Q.refl _).alloc _)).mono ?_
  rintro e w1 ⟨rfl, rfl⟩
  go_wp2
  go_ret2
  exact ⟨rfl, (Q.refl w).alloc _⟩

set_option maxHeartbeats 8000000 in
theorem refDo_any (k : Int) (tok : ByteArray) (A B C : Option Addr) (n c m d p q : Nat) (l t : List Pr) (ws : List Wr) (w : World) (hA : In_ pairK w A n c l) (hB : In_ pairK w B m d t) (hC : Lst writeK w C p ws) (hp : p ≤ maxLen) (hb : (n + 24) * 32 ≤ 140737488355328) (hb2 : (m + 1) * 32 ≤ 140737488355328)
    (hks : KeysIn l) (hk2 : KeysIn t) (hkw : WKeysIn ws) (hky : tok.size ≤ maxLen) :
    Calls Try.prog 20 #[staV A n c B m d, batV k tok C p q] w (RetSI w (Bm.doo ⟨l, t⟩ ⟨k, tok, ws⟩)) := by
  have KM := Lib.hid (fun W y => refMay_any k tok C p q ws W (hC.q y) hp)
  have KD := Lib.hid (fun W y => refDecided_any tok A B n c m d t W (hB.lst.q y) hB.max)
  have HA := Lib.hid hA
  have HB := Lib.hid hB
  cases hmay : Bm.may ⟨k, tok, ws⟩ with
  | false =>
    have HR := Lib.hid (show Bm.doo ⟨l, t⟩ ⟨k, tok, ws⟩ = (⟨l, t⟩, 1) by unfold Bm.doo; rw [if_pos hmay])
    rw [hmay] at KM
    clear hA hB hC hmay
    go_enter Try.func20, Try.ntmps20
    go_upto_region 1 with (fail)
    have X := Lib.hid (Ds.new w A n c B m d k tok C p q)
    generalize (((w.alloc (.cells #[.slice A n c, .slice B m d] 40)).alloc (.cells #[.int .i64 k, .string tok, .slice C p q] 24)).alloc (.cells #[.slice none 0 0, .slice none 0 0] 40)) = w2 at X ⊢
    obtain ⟨⟨c0, c1⟩, d0, d1, d2⟩ := X.out.get
    go_wp2_with fail
    refine (KM.out _ X.out.q).mono ?_
    rintro e w3 ⟨rfl, q3⟩
    have X3 := Lib.hid (X.out.step q3)
    clear q3 X c0 c1 d0 d1 d2
    obtain ⟨⟨c0, c1⟩, d0, d1, d2⟩ := X3.out.get
    obtain ⟨⟨p0, p1⟩, p2, p3⟩ := X3.out.b3.get2
    go_wp2
    obtain ⟨⟨r0, r1⟩, _⟩ := (X3.out.b3.set2 (.slice A n c) (.slice B m d)).get2
    refine bodyPost_ret (v := .tuple #[staV A n c B m d, .int .i64 1]) (by simp [results, Try.results20, go_sem, r0, r1]) rfl ?_
    rw [HR.out]
    exact ⟨A, n, c, B, m, d, rfl, HA.out.q (X3.out.q.set2 (by omega) _ _), HB.out.q (X3.out.q.set2 (by omega) _ _), X3.out.q.set2 (by omega) _ _⟩
  | true =>
    rw [hmay] at KM
    cases hf : (find tok t).2 with
    | true =>
      have HR := Lib.hid (show Bm.doo ⟨l, t⟩ ⟨k, tok, ws⟩ = (⟨l, t⟩, 8) by unfold Bm.doo; rw [if_neg (by rw [hmay]; simp), if_pos hf])
      rw [hf] at KD
      generalize (find tok t).1 = fv at KD
      clear hA hB hC hmay hf
      go_enter Try.func20, Try.ntmps20
      go_upto_region 1 with (fail)
      have X := Lib.hid (Ds.new w A n c B m d k tok C p q)
      generalize (((w.alloc (.cells #[.slice A n c, .slice B m d] 40)).alloc (.cells #[.int .i64 k, .string tok, .slice C p q] 24)).alloc (.cells #[.slice none 0 0, .slice none 0 0] 40)) = w2 at X ⊢
      obtain ⟨⟨c0, c1⟩, d0, d1, d2⟩ := X.out.get
      go_wp2_with fail
      refine (KM.out _ X.out.q).mono ?_
      rintro e w3 ⟨rfl, q3⟩
      have X3 := Lib.hid (X.out.step q3)
      clear q3 X c0 c1 d0 d1 d2
      obtain ⟨⟨c0, c1⟩, d0, d1, d2⟩ := X3.out.get
      go_wp2_with fail
      refine (KD.out _ X3.out.q).mono ?_
      rintro e w4 ⟨rfl, q4⟩
      have X4 := Lib.hid (X3.out.step q4)
      clear q4 X3 c0 c1 d0 d1 d2
      obtain ⟨⟨c0, c1⟩, d0, d1, d2⟩ := X4.out.get
      obtain ⟨⟨p0, p1⟩, p2, p3⟩ := X4.out.b3.get2
      go_wp2
      obtain ⟨⟨r0, r1⟩, _⟩ := (X4.out.b3.set2 (.slice A n c) (.slice B m d)).get2
      refine bodyPost_ret (v := .tuple #[staV A n c B m d, .int .i64 8]) (by simp [results, Try.results20, go_sem, r0, r1]) rfl ?_
      rw [HR.out]
      exact ⟨A, n, c, B, m, d, rfl, HA.out.q (X4.out.q.set2 (by omega) _ _), HB.out.q (X4.out.q.set2 (by omega) _ _), X4.out.q.set2 (by omega) _ _⟩
    | false =>
      have hp24 := Bm.may_len hmay
      have hkk := Bm.may_kind hmay
      simp only at hp24 hkk
      rw [hf] at KD
      generalize (find tok t).1 = fv at KD
      have hn := hA.len
      have hm := hB.len
      have hpl := hC.len
      have KA := Lib.hid (fun W y => refApply_any A C n c p q l ws W (hA.q y) (hC.q y) (by omega) hks hkw)
      have HSm := Lib.hid (show (apply l ws).length * 32 ≤ 140737488355328 ∧ (put t ⟨tok, Bm.word k⟩).length * 32 ≤ 140737488355328 from ⟨by have := apply_len l ws; omega, by have := put_len t ⟨tok, Bm.word k⟩; omega⟩)
      clear hp24 hn hm hpl
      rcases hkk with rfl | rfl
      · have HR := Lib.hid (show Bm.doo ⟨l, t⟩ ⟨1, tok, ws⟩ = (⟨apply l ws, put t ⟨tok, Bm.word 1⟩⟩, 0) by unfold Bm.doo; rw [if_neg (by rw [hmay]; simp), if_neg (by rw [hf]; simp)])
        have KP := Lib.hid (fun W y => trefPut_any tok (Bm.word 1) B m d t W (hB.lst.q y) hb2 hk2 hky)
        clear hA hB hC hmay hf hks hk2 hkw hky
        go_enter Try.func20, Try.ntmps20
        go_upto_region 1 with (fail)
        have X := Lib.hid (Ds.new w A n c B m d 1 tok C p q)
        generalize (((w.alloc (.cells #[.slice A n c, .slice B m d] 40)).alloc (.cells #[.int .i64 1, .string tok, .slice C p q] 24)).alloc (.cells #[.slice none 0 0, .slice none 0 0] 40)) = w2 at X ⊢
        obtain ⟨⟨c0, c1⟩, d0, d1, d2⟩ := X.out.get
        go_wp2_with fail
        refine (KM.out _ X.out.q).mono ?_
        rintro e w3 ⟨rfl, q3⟩
        have X3 := Lib.hid (X.out.step q3)
        clear q3 X c0 c1 d0 d1 d2
        obtain ⟨⟨c0, c1⟩, d0, d1, d2⟩ := X3.out.get
        go_wp2_with fail
        refine (KD.out _ X3.out.q).mono ?_
        rintro e w4 ⟨rfl, q4⟩
        have X4 := Lib.hid (X3.out.step q4)
        clear q4 X3 c0 c1 d0 d1 d2
        obtain ⟨⟨c0, c1⟩, d0, d1, d2⟩ := X4.out.get
        have HS4 := Lib.hid X4.out.l
        go_upto_region 10 with (fail)
        refine wp_region_held_drew (S := fun w' => Bx w' w.heap.size [.slice A n c, .slice B m d] ∧ Bx w' (w.heap.size + 1) [.int .i64 1, .string tok, .slice C p q]) (by kernel_rfl) ?szz17 (fun hHeld => ?rzz17)
        case szz17 =>
          exact ⟨X4.out.b1.drew, X4.out.b2.drew⟩
        case' rzz17 => skip
        refine wpAnyH_take (i := 0) (oi := ?ozz18) (v := ?vzz18) ?hzz18 ?azz18 ?bzz18 ?czz18 ?qzz18 ?yzz18 ?szz18 ?rzz18
        case hzz18 => simp only [List.getElem?_toArray, List.getElem?_cons_zero]; rfl
        case azz18 => kernel_rfl
        case bzz18 => kernel_rfl
        case czz18 => kernel_rfl
        case yzz18 =>
          refine Or.inl ⟨by rfl, ?_⟩
          intro w hSw
          have z := hSw.1.get2.1
          have zz := hSw.2.get3.1
          obtain ⟨s0, s1⟩ := z
          obtain ⟨s2, s3, s4⟩ := zz
          go_simp
          try with_reducible rfl
        case qzz18 => exact fun _ _ _ h => h
        case szz18 => first | assumption | trivial
        case' rzz18 => simp only [Act.put, List.setIfInBounds_toArray, List.set_cons_zero, List.set_cons_succ]
        refine wpAnyH_take (i := 1) (oi := ?ozz19) (v := ?vzz19) ?hzz19 ?azz19 ?bzz19 ?czz19 ?qzz19 ?yzz19 ?szz19 ?rzz19
        case hzz19 => simp only [List.getElem?_toArray, List.getElem?_cons_zero, List.getElem?_cons_succ]; rfl
        case azz19 => kernel_rfl
        case bzz19 => kernel_rfl
        case czz19 => kernel_rfl
        case yzz19 =>
          refine Or.inl ⟨by rfl, ?_⟩
          intro w hSw
          have z := hSw.1.get2.1
          have zz := hSw.2.get3.1
          obtain ⟨s0, s1⟩ := z
          obtain ⟨s2, s3, s4⟩ := zz
          go_simp
          try with_reducible rfl
        case qzz19 => exact fun _ _ _ h => h
        case szz19 => first | assumption | trivial
        case' rzz19 => simp only [Act.put, List.setIfInBounds_toArray, List.set_cons_zero, List.set_cons_succ]
        refine wpAnyH_take (i := 2) (oi := ?ozz20) (v := ?vzz20) ?hzz20 ?azz20 ?bzz20 ?czz20 ?qzz20 ?yzz20 ?szz20 ?rzz20
        case hzz20 => simp only [List.getElem?_toArray, List.getElem?_cons_zero, List.getElem?_cons_succ]; rfl
        case azz20 => kernel_rfl
        case bzz20 => kernel_rfl
        case czz20 => kernel_rfl
        case yzz20 =>
          refine Or.inl ⟨by rfl, ?_⟩
          intro w hSw
          have z := hSw.1.get2.1
          have zz := hSw.2.get3.1
          obtain ⟨s0, s1⟩ := z
          obtain ⟨s2, s3, s4⟩ := zz
          go_simp
          try with_reducible rfl
        case qzz20 => exact fun _ _ _ h => h
        case szz20 => first | assumption | trivial
        case' rzz20 => simp only [Act.put, List.setIfInBounds_toArray, List.set_cons_zero, List.set_cons_succ]
        refine wpAnyH_take (i := 3) (oi := ?ozz21) (v := ?vzz21) ?hzz21 ?azz21 ?bzz21 ?czz21 ?qzz21 ?yzz21 ?szz21 ?rzz21
        case hzz21 => simp only [List.getElem?_toArray, List.getElem?_cons_zero, List.getElem?_cons_succ]; rfl
        case azz21 => kernel_rfl
        case bzz21 => kernel_rfl
        case czz21 => kernel_rfl
        case yzz21 =>
          refine Or.inl ⟨by rfl, ?_⟩
          intro w hSw
          have z := hSw.1.get2.1
          have zz := hSw.2.get3.1
          obtain ⟨s0, s1⟩ := z
          obtain ⟨s2, s3, s4⟩ := zz
          go_simp
          try with_reducible rfl
        case qzz21 => exact fun _ _ _ h => h
        case szz21 => first | assumption | trivial
        case' rzz21 => simp only [Act.put, List.setIfInBounds_toArray, List.set_cons_zero, List.set_cons_succ]
        refine wpAnyH_take (i := 5) (oi := ?ozz22) (v := ?vzz22) ?hzz22 ?azz22 ?bzz22 ?czz22 ?qzz22 ?yzz22 ?szz22 ?rzz22
        case hzz22 => simp only [List.getElem?_toArray, List.getElem?_cons_zero, List.getElem?_cons_succ]; rfl
        case azz22 => kernel_rfl
        case bzz22 => kernel_rfl
        case czz22 => kernel_rfl
        case yzz22 =>
          refine Or.inl ⟨by rfl, ?_⟩
          intro w hSw
          have z := hSw.1.get2.1
          have zz := hSw.2.get3.1
          obtain ⟨s0, s1⟩ := z
          obtain ⟨s2, s3, s4⟩ := zz
          go_simp
          try with_reducible rfl
        case qzz22 => exact fun _ _ _ h => h
        case szz22 => first | assumption | trivial
        case' rzz22 => simp only [Act.put, List.setIfInBounds_toArray, List.set_cons_zero, List.set_cons_succ]
        refine wpAnyH_take (i := 6) (oi := ?ozz23) (v := ?vzz23) ?hzz23 ?azz23 ?bzz23 ?czz23 ?qzz23 ?yzz23 ?szz23 ?rzz23
        case hzz23 => simp only [List.getElem?_toArray, List.getElem?_cons_zero, List.getElem?_cons_succ]; rfl
        case azz23 => kernel_rfl
        case bzz23 => kernel_rfl
        case czz23 => kernel_rfl
        case yzz23 =>
          refine Or.inl ⟨by rfl, ?_⟩
          intro w hSw
          have z := hSw.1.get2.1
          have zz := hSw.2.get3.1
          obtain ⟨s0, s1⟩ := z
          obtain ⟨s2, s3, s4⟩ := zz
          go_simp
          try with_reducible rfl
        case qzz23 => exact fun _ _ _ h => h
        case szz23 => first | assumption | trivial
        case' rzz23 => simp only [Act.put, List.setIfInBounds_toArray, List.set_cons_zero, List.set_cons_succ]
        refine wpAnyH_take (i := 7) (oi := ?ozz24) (v := ?vzz24) ?hzz24 ?azz24 ?bzz24 ?czz24 ?qzz24 ?yzz24 ?szz24 ?rzz24
        case hzz24 => simp only [List.getElem?_toArray, List.getElem?_cons_zero, List.getElem?_cons_succ]; rfl
        case azz24 => kernel_rfl
        case bzz24 => kernel_rfl
        case czz24 => kernel_rfl
        case yzz24 =>
          refine Or.inl ⟨by rfl, ?_⟩
          intro w hSw
          have z := hSw.1.get2.1
          have zz := hSw.2.get3.1
          obtain ⟨s0, s1⟩ := z
          obtain ⟨s2, s3, s4⟩ := zz
          go_simp
          try with_reducible rfl
        case qzz24 => exact fun _ _ _ h => h
        case szz24 => first | assumption | trivial
        case' rzz24 => simp only [Act.put, List.setIfInBounds_toArray, List.set_cons_zero, List.set_cons_succ]
        refine wpAnyH_take (i := 8) (oi := ?ozz25) (v := ?vzz25) ?hzz25 ?azz25 ?bzz25 ?czz25 ?qzz25 ?yzz25 ?szz25 ?rzz25
        case hzz25 => simp only [List.getElem?_toArray, List.getElem?_cons_zero, List.getElem?_cons_succ]; rfl
        case azz25 => kernel_rfl
        case bzz25 => kernel_rfl
        case czz25 => kernel_rfl
        case yzz25 =>
          refine Or.inl ⟨by rfl, ?_⟩
          intro w hSw
          have z := hSw.1.get2.1
          have zz := hSw.2.get3.1
          obtain ⟨s0, s1⟩ := z
          obtain ⟨s2, s3, s4⟩ := zz
          go_simp
          try with_reducible rfl
        case qzz25 => exact fun _ _ _ h => h
        case szz25 => first | assumption | trivial
        case' rzz25 => simp only [Act.put, List.setIfInBounds_toArray, List.set_cons_zero, List.set_cons_succ]
        refine wpAnyH_take (i := 9) (oi := ?ozz26) (v := ?vzz26) ?hzz26 ?azz26 ?bzz26 ?czz26 ?qzz26 ?yzz26 ?szz26 ?rzz26
        case hzz26 => simp only [List.getElem?_toArray, List.getElem?_cons_zero, List.getElem?_cons_succ]; rfl
        case azz26 => kernel_rfl
        case bzz26 => kernel_rfl
        case czz26 => kernel_rfl
        case yzz26 =>
          refine Or.inl ⟨by rfl, ?_⟩
          intro w hSw
          have z := hSw.1.get2.1
          have zz := hSw.2.get3.1
          obtain ⟨s0, s1⟩ := z
          obtain ⟨s2, s3, s4⟩ := zz
          go_simp
          try with_reducible rfl
        case qzz26 => exact fun _ _ _ h => h
        case szz26 => first | assumption | trivial
        case' rzz26 => simp only [Act.put, List.setIfInBounds_toArray, List.set_cons_zero, List.set_cons_succ]
        refine wpAnyH_ready (rs := [4]) (by kernel_rfl) (by simp) ?_
        refine AllReadyH.cons (o := ?ozz31) ?hzz31 (fun K hK => ?kzz31) ?mzz31
        case hzz31 => simp only [List.getElem?_toArray, List.getElem?_cons_zero, List.getElem?_cons_succ]; rfl
        case kzz31 =>
          go_simp
          refine (KA.out _ X4.out.q.drew).mono ?_
          rintro e w5 ⟨A5, c5, rfl, o5, y5⟩
          have HS5 := Lib.hid (show w.heap.size + 1 + 1 + 1 ≤ w5.heap.size from ((X4.out.step (Q.refl _).drew).step y5).l)
          go_wp2_with fail
          refine hK.out _ _ ?Szz31 (fun hHeld => ?Rzz31)
          case Szz31 =>
            exact ⟨hHeld.1.q y5, hHeld.2.q y5⟩
          case Rzz31 =>
            clear hK K
            try simp only [Act.put, List.setIfInBounds_toArray, List.set_cons_zero, List.set_cons_succ]
            have hC := hHeld
            refine wpAnyH_ready (rs := [10]) (by kernel_rfl) (by simp) ?_
            refine AllReadyH.cons (o := ?ozz30) ?hzz30 (fun K hK => ?kzz30) ?mzz30
            case hzz30 => simp only [List.getElem?_toArray, List.getElem?_cons_zero, List.getElem?_cons_succ]; rfl
            case kzz30 =>
              go_simp
              refine (KP.out _ (X4.out.q.drew.trans y5)).mono ?_
              rintro e w7 ⟨A7, c7, rfl, o7, y7⟩
              have X7 := Lib.hid (((X4.out.step (Q.refl _).drew).step y5).step y7)
              have HO := Lib.hid (o5.q y7)
              have HT := Lib.hid o7
              clear o5 o7 y5 y7
              go_wp2_with fail
              refine hK.out _ _ ?Szz30 (fun hHeld => ?Rzz30)
              case Szz30 =>
                exact ⟨X7.out.b1, X7.out.b2⟩
              case Rzz30 =>
                clear hK K
                try simp only [Act.put, List.setIfInBounds_toArray, List.set_cons_zero, List.set_cons_succ]
                refine wpAnyH_take (i := 11) (oi := ?ozz27) (v := ?vzz27) ?hzz27 ?azz27 ?bzz27 ?czz27 ?qzz27 ?yzz27 ?szz27 ?rzz27
                case hzz27 => simp only [List.getElem?_toArray, List.getElem?_cons_zero, List.getElem?_cons_succ]; rfl
                case azz27 => kernel_rfl
                case bzz27 => kernel_rfl
                case czz27 => kernel_rfl
                case yzz27 =>
                  refine Or.inl ⟨by rfl, ?_⟩
                  intro w hSw
                  have z := hSw.1.get2.1
                  have zz := hSw.2.get3.1
                  obtain ⟨s0, s1⟩ := z
                  obtain ⟨s2, s3, s4⟩ := zz
                  go_simp
                  try with_reducible rfl
                case qzz27 => exact fun _ _ _ h => h
                case szz27 => first | assumption | trivial
                case' rzz27 => simp only [Act.put, List.setIfInBounds_toArray, List.set_cons_zero, List.set_cons_succ]
                refine wpAnyH_ready (rs := [12]) (by kernel_rfl) (by simp) ?_
                refine AllReadyH.cons (o := ?ozz29) ?hzz29 (fun K hK => ?kzz29) ?mzz29
                case hzz29 => simp only [List.getElem?_toArray, List.getElem?_cons_zero, List.getElem?_cons_succ]; rfl
                case kzz29 =>
                  obtain ⟨⟨p0, p1⟩, p2, p3⟩ := X7.out.b3.get2
                  go_simp
                  refine hK.out _ _ ?Szz29 (fun hHeld => ?Rzz29)
                  case Szz29 =>
                    exact ⟨X7.out.b1.far2 (by omega) _ _, X7.out.b2.far2 (by omega) _ _⟩
                  case Rzz29 =>
                    clear hK K
                    try simp only [Act.put, List.setIfInBounds_toArray, List.set_cons_zero, List.set_cons_succ]
                    refine wpAnyH_take (i := 13) (oi := ?ozz28) (v := ?vzz28) ?hzz28 ?azz28 ?bzz28 ?czz28 ?qzz28 ?yzz28 ?szz28 ?rzz28
                    case hzz28 => simp only [List.getElem?_toArray, List.getElem?_cons_zero, List.getElem?_cons_succ]; rfl
                    case azz28 => kernel_rfl
                    case bzz28 => kernel_rfl
                    case czz28 => kernel_rfl
                    case yzz28 =>
                      refine Or.inl ⟨by rfl, ?_⟩
                      intro w hSw
                      have z := hSw.1.get2.1
                      have zz := hSw.2.get3.1
                      obtain ⟨s0, s1⟩ := z
                      obtain ⟨s2, s3, s4⟩ := zz
                      go_simp
                      try with_reducible rfl
                    case qzz28 => exact fun _ _ _ h => h
                    case szz28 => first | assumption | trivial
                    case' rzz28 => simp only [Act.put, List.setIfInBounds_toArray, List.set_cons_zero, List.set_cons_succ]
                    refine wpAnyH_done (by kernel_rfl) ?_ _
                    obtain ⟨⟨r0, r1⟩, _⟩ := (X7.out.b3.set2 (.slice A5 (apply l ws).length c5) (.slice A7 (put t ⟨tok, Bm.word 1⟩).length c7)).get2
                    go_wp2
                    refine bodyPost_ret (v := .tuple #[staV A5 (apply l ws).length c5 A7 (put t ⟨tok, Bm.word 1⟩).length c7, .int .i64 0]) (by simp [results, Try.results20, go_sem, r0, r1]) rfl ?_
                    rw [HR.out]
                    exact ⟨A5, _, c5, A7, _, c7, rfl, ((HO.out.set2 (b := w.heap.size + 1 + 1) (by have := HS4.out; simp only [World.size_drew]; omega) _ _).lower (b2 := w.heap.size) (by have := HS4.out; simp only [World.size_drew]; omega)).in_ HSm.out.1, ((HT.out.set2 (b := w.heap.size + 1 + 1) (by have := HS5.out; omega) _ _).lower (b2 := w.heap.size) (by have := HS5.out; omega)).in_ HSm.out.2, X7.out.q.set2 (by omega) _ _⟩
                case' mzz29 => skip
                exact AllReadyH.nil
            case' mzz30 => skip
            exact AllReadyH.nil
        case' mzz31 => skip
        exact AllReadyH.nil
      · have HR := Lib.hid (show Bm.doo ⟨l, t⟩ ⟨2, tok, ws⟩ = (⟨apply l ws, put t ⟨tok, Bm.word 2⟩⟩, 0) by unfold Bm.doo; rw [if_neg (by rw [hmay]; simp), if_neg (by rw [hf]; simp)])
        have KP := Lib.hid (fun W y => trefPut_any tok (Bm.word 2) B m d t W (hB.lst.q y) hb2 hk2 hky)
        clear hA hB hC hmay hf hks hk2 hkw hky
        go_enter Try.func20, Try.ntmps20
        go_upto_region 1 with (fail)
        have X := Lib.hid (Ds.new w A n c B m d 2 tok C p q)
        generalize (((w.alloc (.cells #[.slice A n c, .slice B m d] 40)).alloc (.cells #[.int .i64 2, .string tok, .slice C p q] 24)).alloc (.cells #[.slice none 0 0, .slice none 0 0] 40)) = w2 at X ⊢
        obtain ⟨⟨c0, c1⟩, d0, d1, d2⟩ := X.out.get
        go_wp2_with fail
        refine (KM.out _ X.out.q).mono ?_
        rintro e w3 ⟨rfl, q3⟩
        have X3 := Lib.hid (X.out.step q3)
        clear q3 X c0 c1 d0 d1 d2
        obtain ⟨⟨c0, c1⟩, d0, d1, d2⟩ := X3.out.get
        go_wp2_with fail
        refine (KD.out _ X3.out.q).mono ?_
        rintro e w4 ⟨rfl, q4⟩
        have X4 := Lib.hid (X3.out.step q4)
        clear q4 X3 c0 c1 d0 d1 d2
        obtain ⟨⟨c0, c1⟩, d0, d1, d2⟩ := X4.out.get
        have HS4 := Lib.hid X4.out.l
        go_upto_region 10 with (fail)
        refine wp_region_held_drew (S := fun w' => Bx w' w.heap.size [.slice A n c, .slice B m d] ∧ Bx w' (w.heap.size + 1) [.int .i64 2, .string tok, .slice C p q]) (by kernel_rfl) ?szz32 (fun hHeld => ?rzz32)
        case szz32 =>
          exact ⟨X4.out.b1.drew, X4.out.b2.drew⟩
        case' rzz32 => skip
        refine wpAnyH_take (i := 0) (oi := ?ozz33) (v := ?vzz33) ?hzz33 ?azz33 ?bzz33 ?czz33 ?qzz33 ?yzz33 ?szz33 ?rzz33
        case hzz33 => simp only [List.getElem?_toArray, List.getElem?_cons_zero]; rfl
        case azz33 => kernel_rfl
        case bzz33 => kernel_rfl
        case czz33 => kernel_rfl
        case yzz33 =>
          refine Or.inl ⟨by rfl, ?_⟩
          intro w hSw
          have z := hSw.1.get2.1
          have zz := hSw.2.get3.1
          obtain ⟨s0, s1⟩ := z
          obtain ⟨s2, s3, s4⟩ := zz
          go_simp
          try with_reducible rfl
        case qzz33 => exact fun _ _ _ h => h
        case szz33 => first | assumption | trivial
        case' rzz33 => simp only [Act.put, List.setIfInBounds_toArray, List.set_cons_zero, List.set_cons_succ]
        refine wpAnyH_take (i := 1) (oi := ?ozz34) (v := ?vzz34) ?hzz34 ?azz34 ?bzz34 ?czz34 ?qzz34 ?yzz34 ?szz34 ?rzz34
        case hzz34 => simp only [List.getElem?_toArray, List.getElem?_cons_zero, List.getElem?_cons_succ]; rfl
        case azz34 => kernel_rfl
        case bzz34 => kernel_rfl
        case czz34 => kernel_rfl
        case yzz34 =>
          refine Or.inl ⟨by rfl, ?_⟩
          intro w hSw
          have z := hSw.1.get2.1
          have zz := hSw.2.get3.1
          obtain ⟨s0, s1⟩ := z
          obtain ⟨s2, s3, s4⟩ := zz
          go_simp
          try with_reducible rfl
        case qzz34 => exact fun _ _ _ h => h
        case szz34 => first | assumption | trivial
        case' rzz34 => simp only [Act.put, List.setIfInBounds_toArray, List.set_cons_zero, List.set_cons_succ]
        refine wpAnyH_take (i := 2) (oi := ?ozz35) (v := ?vzz35) ?hzz35 ?azz35 ?bzz35 ?czz35 ?qzz35 ?yzz35 ?szz35 ?rzz35
        case hzz35 => simp only [List.getElem?_toArray, List.getElem?_cons_zero, List.getElem?_cons_succ]; rfl
        case azz35 => kernel_rfl
        case bzz35 => kernel_rfl
        case czz35 => kernel_rfl
        case yzz35 =>
          refine Or.inl ⟨by rfl, ?_⟩
          intro w hSw
          have z := hSw.1.get2.1
          have zz := hSw.2.get3.1
          obtain ⟨s0, s1⟩ := z
          obtain ⟨s2, s3, s4⟩ := zz
          go_simp
          try with_reducible rfl
        case qzz35 => exact fun _ _ _ h => h
        case szz35 => first | assumption | trivial
        case' rzz35 => simp only [Act.put, List.setIfInBounds_toArray, List.set_cons_zero, List.set_cons_succ]
        refine wpAnyH_take (i := 3) (oi := ?ozz36) (v := ?vzz36) ?hzz36 ?azz36 ?bzz36 ?czz36 ?qzz36 ?yzz36 ?szz36 ?rzz36
        case hzz36 => simp only [List.getElem?_toArray, List.getElem?_cons_zero, List.getElem?_cons_succ]; rfl
        case azz36 => kernel_rfl
        case bzz36 => kernel_rfl
        case czz36 => kernel_rfl
        case yzz36 =>
          refine Or.inl ⟨by rfl, ?_⟩
          intro w hSw
          have z := hSw.1.get2.1
          have zz := hSw.2.get3.1
          obtain ⟨s0, s1⟩ := z
          obtain ⟨s2, s3, s4⟩ := zz
          go_simp
          try with_reducible rfl
        case qzz36 => exact fun _ _ _ h => h
        case szz36 => first | assumption | trivial
        case' rzz36 => simp only [Act.put, List.setIfInBounds_toArray, List.set_cons_zero, List.set_cons_succ]
        refine wpAnyH_take (i := 5) (oi := ?ozz37) (v := ?vzz37) ?hzz37 ?azz37 ?bzz37 ?czz37 ?qzz37 ?yzz37 ?szz37 ?rzz37
        case hzz37 => simp only [List.getElem?_toArray, List.getElem?_cons_zero, List.getElem?_cons_succ]; rfl
        case azz37 => kernel_rfl
        case bzz37 => kernel_rfl
        case czz37 => kernel_rfl
        case yzz37 =>
          refine Or.inl ⟨by rfl, ?_⟩
          intro w hSw
          have z := hSw.1.get2.1
          have zz := hSw.2.get3.1
          obtain ⟨s0, s1⟩ := z
          obtain ⟨s2, s3, s4⟩ := zz
          go_simp
          try with_reducible rfl
        case qzz37 => exact fun _ _ _ h => h
        case szz37 => first | assumption | trivial
        case' rzz37 => simp only [Act.put, List.setIfInBounds_toArray, List.set_cons_zero, List.set_cons_succ]
        refine wpAnyH_take (i := 6) (oi := ?ozz38) (v := ?vzz38) ?hzz38 ?azz38 ?bzz38 ?czz38 ?qzz38 ?yzz38 ?szz38 ?rzz38
        case hzz38 => simp only [List.getElem?_toArray, List.getElem?_cons_zero, List.getElem?_cons_succ]; rfl
        case azz38 => kernel_rfl
        case bzz38 => kernel_rfl
        case czz38 => kernel_rfl
        case yzz38 =>
          refine Or.inl ⟨by rfl, ?_⟩
          intro w hSw
          have z := hSw.1.get2.1
          have zz := hSw.2.get3.1
          obtain ⟨s0, s1⟩ := z
          obtain ⟨s2, s3, s4⟩ := zz
          go_simp
          try with_reducible rfl
        case qzz38 => exact fun _ _ _ h => h
        case szz38 => first | assumption | trivial
        case' rzz38 => simp only [Act.put, List.setIfInBounds_toArray, List.set_cons_zero, List.set_cons_succ]
        refine wpAnyH_take (i := 7) (oi := ?ozz39) (v := ?vzz39) ?hzz39 ?azz39 ?bzz39 ?czz39 ?qzz39 ?yzz39 ?szz39 ?rzz39
        case hzz39 => simp only [List.getElem?_toArray, List.getElem?_cons_zero, List.getElem?_cons_succ]; rfl
        case azz39 => kernel_rfl
        case bzz39 => kernel_rfl
        case czz39 => kernel_rfl
        case yzz39 =>
          refine Or.inl ⟨by rfl, ?_⟩
          intro w hSw
          have z := hSw.1.get2.1
          have zz := hSw.2.get3.1
          obtain ⟨s0, s1⟩ := z
          obtain ⟨s2, s3, s4⟩ := zz
          go_simp
          try with_reducible rfl
        case qzz39 => exact fun _ _ _ h => h
        case szz39 => first | assumption | trivial
        case' rzz39 => simp only [Act.put, List.setIfInBounds_toArray, List.set_cons_zero, List.set_cons_succ]
        refine wpAnyH_take (i := 8) (oi := ?ozz40) (v := ?vzz40) ?hzz40 ?azz40 ?bzz40 ?czz40 ?qzz40 ?yzz40 ?szz40 ?rzz40
        case hzz40 => simp only [List.getElem?_toArray, List.getElem?_cons_zero, List.getElem?_cons_succ]; rfl
        case azz40 => kernel_rfl
        case bzz40 => kernel_rfl
        case czz40 => kernel_rfl
        case yzz40 =>
          refine Or.inl ⟨by rfl, ?_⟩
          intro w hSw
          have z := hSw.1.get2.1
          have zz := hSw.2.get3.1
          obtain ⟨s0, s1⟩ := z
          obtain ⟨s2, s3, s4⟩ := zz
          go_simp
          try with_reducible rfl
        case qzz40 => exact fun _ _ _ h => h
        case szz40 => first | assumption | trivial
        case' rzz40 => simp only [Act.put, List.setIfInBounds_toArray, List.set_cons_zero, List.set_cons_succ]
        refine wpAnyH_take (i := 9) (oi := ?ozz41) (v := ?vzz41) ?hzz41 ?azz41 ?bzz41 ?czz41 ?qzz41 ?yzz41 ?szz41 ?rzz41
        case hzz41 => simp only [List.getElem?_toArray, List.getElem?_cons_zero, List.getElem?_cons_succ]; rfl
        case azz41 => kernel_rfl
        case bzz41 => kernel_rfl
        case czz41 => kernel_rfl
        case yzz41 =>
          refine Or.inl ⟨by rfl, ?_⟩
          intro w hSw
          have z := hSw.1.get2.1
          have zz := hSw.2.get3.1
          obtain ⟨s0, s1⟩ := z
          obtain ⟨s2, s3, s4⟩ := zz
          go_simp
          try with_reducible rfl
        case qzz41 => exact fun _ _ _ h => h
        case szz41 => first | assumption | trivial
        case' rzz41 => simp only [Act.put, List.setIfInBounds_toArray, List.set_cons_zero, List.set_cons_succ]
        refine wpAnyH_ready (rs := [4]) (by kernel_rfl) (by simp) ?_
        refine AllReadyH.cons (o := ?ozz46) ?hzz46 (fun K hK => ?kzz46) ?mzz46
        case hzz46 => simp only [List.getElem?_toArray, List.getElem?_cons_zero, List.getElem?_cons_succ]; rfl
        case kzz46 =>
          go_simp
          refine (KA.out _ X4.out.q.drew).mono ?_
          rintro e w5 ⟨A5, c5, rfl, o5, y5⟩
          have HS5 := Lib.hid (show w.heap.size + 1 + 1 + 1 ≤ w5.heap.size from ((X4.out.step (Q.refl _).drew).step y5).l)
          go_wp2_with fail
          refine hK.out _ _ ?Szz46 (fun hHeld => ?Rzz46)
          case Szz46 =>
            exact ⟨hHeld.1.q y5, hHeld.2.q y5⟩
          case Rzz46 =>
            clear hK K
            try simp only [Act.put, List.setIfInBounds_toArray, List.set_cons_zero, List.set_cons_succ]
            have hC := hHeld
            refine wpAnyH_ready (rs := [10]) (by kernel_rfl) (by simp) ?_
            refine AllReadyH.cons (o := ?ozz45) ?hzz45 (fun K hK => ?kzz45) ?mzz45
            case hzz45 => simp only [List.getElem?_toArray, List.getElem?_cons_zero, List.getElem?_cons_succ]; rfl
            case kzz45 =>
              go_simp
              refine (KP.out _ (X4.out.q.drew.trans y5)).mono ?_
              rintro e w7 ⟨A7, c7, rfl, o7, y7⟩
              have X7 := Lib.hid (((X4.out.step (Q.refl _).drew).step y5).step y7)
              have HO := Lib.hid (o5.q y7)
              have HT := Lib.hid o7
              clear o5 o7 y5 y7
              go_wp2_with fail
              refine hK.out _ _ ?Szz45 (fun hHeld => ?Rzz45)
              case Szz45 =>
                exact ⟨X7.out.b1, X7.out.b2⟩
              case Rzz45 =>
                clear hK K
                try simp only [Act.put, List.setIfInBounds_toArray, List.set_cons_zero, List.set_cons_succ]
                refine wpAnyH_take (i := 11) (oi := ?ozz42) (v := ?vzz42) ?hzz42 ?azz42 ?bzz42 ?czz42 ?qzz42 ?yzz42 ?szz42 ?rzz42
                case hzz42 => simp only [List.getElem?_toArray, List.getElem?_cons_zero, List.getElem?_cons_succ]; rfl
                case azz42 => kernel_rfl
                case bzz42 => kernel_rfl
                case czz42 => kernel_rfl
                case yzz42 =>
                  refine Or.inl ⟨by rfl, ?_⟩
                  intro w hSw
                  have z := hSw.1.get2.1
                  have zz := hSw.2.get3.1
                  obtain ⟨s0, s1⟩ := z
                  obtain ⟨s2, s3, s4⟩ := zz
                  go_simp
                  try with_reducible rfl
                case qzz42 => exact fun _ _ _ h => h
                case szz42 => first | assumption | trivial
                case' rzz42 => simp only [Act.put, List.setIfInBounds_toArray, List.set_cons_zero, List.set_cons_succ]
                refine wpAnyH_ready (rs := [12]) (by kernel_rfl) (by simp) ?_
                refine AllReadyH.cons (o := ?ozz44) ?hzz44 (fun K hK => ?kzz44) ?mzz44
                case hzz44 => simp only [List.getElem?_toArray, List.getElem?_cons_zero, List.getElem?_cons_succ]; rfl
                case kzz44 =>
                  obtain ⟨⟨p0, p1⟩, p2, p3⟩ := X7.out.b3.get2
                  go_simp
                  refine hK.out _ _ ?Szz44 (fun hHeld => ?Rzz44)
                  case Szz44 =>
                    exact ⟨X7.out.b1.far2 (by omega) _ _, X7.out.b2.far2 (by omega) _ _⟩
                  case Rzz44 =>
                    clear hK K
                    try simp only [Act.put, List.setIfInBounds_toArray, List.set_cons_zero, List.set_cons_succ]
                    refine wpAnyH_take (i := 13) (oi := ?ozz43) (v := ?vzz43) ?hzz43 ?azz43 ?bzz43 ?czz43 ?qzz43 ?yzz43 ?szz43 ?rzz43
                    case hzz43 => simp only [List.getElem?_toArray, List.getElem?_cons_zero, List.getElem?_cons_succ]; rfl
                    case azz43 => kernel_rfl
                    case bzz43 => kernel_rfl
                    case czz43 => kernel_rfl
                    case yzz43 =>
                      refine Or.inl ⟨by rfl, ?_⟩
                      intro w hSw
                      have z := hSw.1.get2.1
                      have zz := hSw.2.get3.1
                      obtain ⟨s0, s1⟩ := z
                      obtain ⟨s2, s3, s4⟩ := zz
                      go_simp
                      try with_reducible rfl
                    case qzz43 => exact fun _ _ _ h => h
                    case szz43 => first | assumption | trivial
                    case' rzz43 => simp only [Act.put, List.setIfInBounds_toArray, List.set_cons_zero, List.set_cons_succ]
                    refine wpAnyH_done (by kernel_rfl) ?_ _
                    obtain ⟨⟨r0, r1⟩, _⟩ := (X7.out.b3.set2 (.slice A5 (apply l ws).length c5) (.slice A7 (put t ⟨tok, Bm.word 2⟩).length c7)).get2
                    go_wp2
                    refine bodyPost_ret (v := .tuple #[staV A5 (apply l ws).length c5 A7 (put t ⟨tok, Bm.word 2⟩).length c7, .int .i64 0]) (by simp [results, Try.results20, go_sem, r0, r1]) rfl ?_
                    rw [HR.out]
                    exact ⟨A5, _, c5, A7, _, c7, rfl, ((HO.out.set2 (b := w.heap.size + 1 + 1) (by have := HS4.out; simp only [World.size_drew]; omega) _ _).lower (b2 := w.heap.size) (by have := HS4.out; simp only [World.size_drew]; omega)).in_ HSm.out.1, ((HT.out.set2 (b := w.heap.size + 1 + 1) (by have := HS5.out; omega) _ _).lower (b2 := w.heap.size) (by have := HS5.out; omega)).in_ HSm.out.2, X7.out.q.set2 (by omega) _ _⟩
                case' mzz44 => skip
                exact AllReadyH.nil
            case' mzz45 => skip
            exact AllReadyH.nil
        case' mzz46 => skip
        exact AllReadyH.nil
end Go.Proofs.Ytlbjobbmjccekaa
