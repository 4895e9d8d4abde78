/- WalRefCut, WalRefRec, Frame, Bulk: merged. -/
import Derived.Test.YtggbdhnjogalgaaGreatDoorR7
import Derived.Test.YtggbdhnjogalgaaGreatDoorR4
import Derived.Test.YtggbdhnjogalgaaGreatDoorR6
import Derived.Test.YtggbdhnjogalgaaGreatDoorR1
import Derived.SizedLaws
import Derived.Carry
import Derived.Deep.Slices
import Derived.ChangeMaps5
/- Contract: the document's cut of a log's segment. -/
namespace Go.Proofs.YtggbdhnjogalgaaGreatDoor
set_option maxRecDepth 100000
open Go.RowKit Dkm Wm
set_option linter.unusedVariables false
set_option linter.unusedSimpArgs false

/-- behind a step of the cut. -/
def Cr (w : World) (A0 : Option Addr) (n0 : Nat) (x : Dk × Int) (s8 : Value) (wx : World) : Prop := ∃ A n c, s8 = .int .i64 x.2 ∧ Sv w A n c x.1 wx ∧ (A = A0 ∧ n = n0 ∨ Far w A)

set_option maxRecDepth 100000 in
set_option maxHeartbeats 16000000 in
theorem refCut_any (seg : Int) (s : ByteArray) (A : Option Addr) (n c : Nat) (d : Dk) (w : World) (hd : Dsk w A n c d.fs) (hB : Bnd 2305843009213693952 d) (hs : s.size ≤ 2305843009213693952) (h1 : segOk seg) :
    Calls Tryz.prog 26 #[dkv A n c d.room d.fuse d.off, .int .i64 seg, .string s] w fun e w' => RetDK w A n (cutM d seg s).1 (cutM d seg s).2 e w' := by
  have B1 := hB.cut1
  have B2 := hB.cut2 (by omega) s
  have B3 := hB.cut3 (by omega) s
  have B4 := hB.cut4 (by omega) seg s
  have mx : ∀ (d : Dk), Bnd 2305843009213693952 d → ∀ f ∈ d.fs, f.sf.size + f.wt.size ≤ maxLen := fun _ h f hf => Nat.le_trans (h.sum f hf) (by unfold maxLen; omega)
  have C1 := Lib.hid (show cut1 d = if (hit freshB d.fs).2 then del d freshB else (d, 0) from rfl)
  have C2 := Lib.hid (show cut2 d s = if (cut1 d).2 = 0 then appd (cut1 d).1 freshB s else cut1 d from rfl)
  have C3 := Lib.hid (show cut3 d s = if (cut2 d s).2 = 0 then syn (cut2 d s).1 freshB else cut2 d s from rfl)
  have C4 := Lib.hid (show cut4 d seg s = if (cut3 d s).2 = 0 then ren (cut3 d s).1 freshB (namB seg) else cut3 d s from rfl)
  have C5 := Lib.hid (show (if (cut4 d seg s).2 = 0 then dels (fuelOf (seg + 1)) (cut4 d seg s).1 (seg + 1) else cut4 d seg s) = cutM d seg s from rfl)
  generalize cutM d seg s = x5 at C5 ⊢
  generalize cut4 d seg s = x4 at C4 C5 B4
  generalize cut3 d s = x3 at C3 C4 B3
  generalize cut2 d s = x2 at C2 C3 B2
  generalize cut1 d = x1 at C1 C2 B1
  have KF := Lib.hid (fun w hf => ref_find freshB A n c d.room d.fuse d.off d.fs w hf hd.max)
  have KD := Lib.hid (fun A n c w hd => ref_del_any freshB A n c d w hd (mx _ hB) hB.fuse.2)
  have KA := Lib.hid (fun A n c w hd => ref_append_any freshB s A n c x1.1 w hd B1.sum hs B1.room.2 B1.fuse.2)
  have KY := Lib.hid (fun A n c w hd => ref_sync_any freshB A n c x2.1 w hd (mx _ B2))
  have KRN := Lib.hid (fun A n c w hd => ref_ren_any freshB (namB seg) A n c x3.1 w hd (mx _ B3) B3.fuse.2)
  have KN := Lib.hid (fun W => refName_any seg W (by have := h1.1; omega) (by have := h1.2; omega))
  have MX := Lib.hid mx
  have HB4 := Lib.hid B4
  have X0 := Lib.hid (Sv.new w hd)
  have r0 := h1.1
  have r1 := h1.2
  clear hd hB hs h1 B1 B2 B3 B4 mx
  change Hid (∀ w, Files w A n d.fs → Calls _ _ #[dkv A n c d.room d.fuse d.off, .string ⟨#[119, 46, 110, 101, 119]⟩] w _) at KF
  generalize hit freshB d.fs = xh at KF C1
  obtain ⟨⟨xn, xs, xt⟩, b⟩ := xh
  generalize del d freshB = xd at KD C1
  change Hid (∀ A n c w, Dsk w A n c d.fs → Calls _ _ #[dkv A n c d.room d.fuse d.off, .string ⟨#[119, 46, 110, 101, 119]⟩] w _) at KD
  change Hid (∀ A n c w, Dsk w A n c x1.1.fs → Calls _ _ #[dkv A n c x1.1.room x1.1.fuse x1.1.off, .string ⟨#[119, 46, 110, 101, 119]⟩, .string s] w _) at KA
  change Hid (∀ A n c w, Dsk w A n c x2.1.fs → Calls _ _ #[dkv A n c x2.1.room x2.1.fuse x2.1.off, .string ⟨#[119, 46, 110, 101, 119]⟩] w _) at KY
  change Hid (∀ A n c w, Dsk w A n c x3.1.fs → Calls _ _ #[dkv A n c x3.1.room x3.1.fuse x3.1.off, .string ⟨#[119, 46, 110, 101, 119]⟩, .string (namB seg)] w _) at KRN
  generalize namB seg = nmb at KN KRN C4
  go_enter Tryz.func26, Tryz.ntmps26
  go_wp2_with fail
  generalize (w.alloc (.cells #[.slice A n c, .int .i64 d.room, .int .i64 d.fuse, .bool d.off] 24)).alloc (.cells #[.slice none 0 0, .int .i64 0, .int .i64 0, .bool false] 24) = W at X0 ⊢
  refine (KF.out _ X0.out.dsk.files).mono ?_
  rintro e w1 ⟨rfl, q1⟩
  have X := Lib.hid (X0.out.step (q1.alloc (.cells #[.string xn, .string xs, .string xt] 42)))
  clear q1 X0
  go_upto_if 19 with (fail)
  generalize w1.alloc (.cells #[.string xn, .string xs, .string xt] 42) = W1 at X ⊢
  go_cut [8] (fun s8 wx => Cr w A n x1 s8 wx)
  case first =>
    cases b
    · go_wp2_with fail
      go_meet
      exact ⟨A, n, c, by rw [C1.out]; rfl, by rw [C1.out]; exact X.out, .inl ⟨rfl, rfl⟩⟩
    · obtain ⟨⟨e0, e1, e2, e3⟩, f0, f1, f2', f3⟩ := X.out.sb.get
      go_wp2_with fail
      refine (KD.out A n c _ X.out.dsk).mono ?_
      rintro e w2 ⟨A9, n9, c9, rfl, ho, hf, q2⟩
      have P := Lib.hid (And.intro (X.out.putK (d5 := xd.1) q2 ho hf) (X.out.farK (.inl ⟨rfl, rfl⟩) hf))
      clear e0 e1 e2 e3 f0 f1 f2' f3
      obtain ⟨⟨e0, e1, e2, e3⟩, f0, f1, f2', f3⟩ := (X.out.sb.step q2).get
      clear ho hf q2
      go_wp2_with fail
      go_meet
      exact ⟨A9, n9, c9, by rw [C1.out]; rfl, by rw [C1.out]; exact P.out.1, P.out.2⟩
  case rest =>
    obtain ⟨A1, n1, c1, rfl, v1, r1⟩ := hcut
    generalize wc = W1 at v1 ⊢
    have V1 := Lib.hid v1
    have R1 := Lib.hid r1
    clear v1 r1
    go_upto_if 26 with (fail)
    go_cut [8] (fun s8 wx => Cr w A n x2 s8 wx)
    case first =>
      by_cases g : x1.2 = 0
      · have CC := C2.out
        rw [if_pos g] at CC
        have HC0 := Lib.hid CC
        have i7 : (x1.2 == 0) = true := by simpa using g
        clear CC
        obtain ⟨⟨e0, e1, e2, e3⟩, f0, f1, f2', f3⟩ := V1.out.sb.get
        go_wp2_with fail
        refine (KA.out _ _ _ _ V1.out.dsk).mono ?_
        rintro e w2 ⟨A9, n9, c9, rfl, ho, hf, q2⟩
        rw [← HC0.out] at ho
        have P := Lib.hid (And.intro (V1.out.putK (d5 := x2.1) q2 ho hf) (V1.out.farK R1.out hf))
        clear e0 e1 e2 e3 f0 f1 f2' f3
        obtain ⟨⟨e0, e1, e2, e3⟩, f0, f1, f2', f3⟩ := (V1.out.sb.step q2).get
        clear ho hf q2
        go_wp2_with fail
        go_meet
        exact ⟨A9, n9, c9, by rw [HC0.out], by have := P.out.1; rw [← HC0.out]; exact this, P.out.2⟩
      · have CC := C2.out
        rw [if_neg g] at CC
        have HC0 := Lib.hid CC
        have i7 : (x1.2 == 0) = false := by simpa using g
        clear CC
        go_wp2_with fail
        go_meet
        exact ⟨_, _, _, by rw [HC0.out], by rw [HC0.out]; exact V1.out, R1.out⟩
    case rest =>
      obtain ⟨A2, n2, c2, rfl, v2, r2⟩ := hcut
      generalize wc = W2 at v2 ⊢
      have V2 := Lib.hid v2
      have R2 := Lib.hid r2
      clear v2 r2
      go_upto_if 34 with (fail)
      go_cut [8] (fun s8 wx => Cr w A n x3 s8 wx)
      case first =>
        by_cases g : x2.2 = 0
        · have CC := C3.out
          rw [if_pos g] at CC
          have HC0 := Lib.hid CC
          have i7 : (x2.2 == 0) = true := by simpa using g
          clear CC
          obtain ⟨⟨e0, e1, e2, e3⟩, f0, f1, f2', f3⟩ := V2.out.sb.get
          go_wp2_with fail
          refine (KY.out _ _ _ _ V2.out.dsk).mono ?_
          rintro e w2 ⟨A9, n9, c9, rfl, ho, hf, q2⟩
          rw [← HC0.out] at ho
          have P := Lib.hid (And.intro (V2.out.putK (d5 := x3.1) q2 ho hf) (V2.out.farK R2.out hf))
          clear e0 e1 e2 e3 f0 f1 f2' f3
          obtain ⟨⟨e0, e1, e2, e3⟩, f0, f1, f2', f3⟩ := (V2.out.sb.step q2).get
          clear ho hf q2
          go_wp2_with fail
          go_meet
          exact ⟨A9, n9, c9, by rw [HC0.out], by have := P.out.1; rw [← HC0.out]; exact this, P.out.2⟩
        · have CC := C3.out
          rw [if_neg g] at CC
          have HC0 := Lib.hid CC
          have i7 : (x2.2 == 0) = false := by simpa using g
          clear CC
          go_wp2_with fail
          go_meet
          exact ⟨_, _, _, by rw [HC0.out], by rw [HC0.out]; exact V2.out, R2.out⟩
      case rest =>
        obtain ⟨A3, n3, c3, rfl, v3, r3⟩ := hcut
        generalize wc = W3 at v3 ⊢
        have V3 := Lib.hid v3
        have R3 := Lib.hid r3
        clear v3 r3
        go_upto_if 41 with (fail)
        go_cut [8] (fun s8 wx => Cr w A n x4 s8 wx)
        case first =>
          by_cases g : x3.2 = 0
          · have CC := C4.out
            rw [if_pos g] at CC
            have HC0 := Lib.hid CC
            have i7 : (x3.2 == 0) = true := by simpa using g
            clear CC
            obtain ⟨⟨e0, e1, e2, e3⟩, f0, f1, f2', f3⟩ := V3.out.sb.get
            go_upto_region 10 with (fail)
            refine wp_region_heldL 7 (Q W3) (by kernel_rfl) ?szz0 (fun hHeld => ?rzz0)
            case szz0 =>
              exact (Q.refl W3).drew
            case' rzz0 => skip
            generalize hgen : W3.drew = D0 at hHeld ⊢
            clear hgen
            refine wpAnyL_take (i := 0) (oi := ?ozz1) (v := ?vzz1) ?hzz1 ?azz1 ?bzz1 ?czz1 ?kzz1 ?qzz1 ?yzz1 ?szz1 ?rzz1
            case hzz1 => simp only [List.getElem?_toArray, List.getElem?_cons_zero]; rfl
            case azz1 => kernel_rfl
            case bzz1 => kernel_rfl
            case czz1 => kernel_rfl
            case kzz1 => kernel_rfl
            case yzz1 =>
              refine Or.inl ⟨by rfl, ?_⟩
              intro w hSw
              have x0 := box_ hSw e0; have x1' := box_ hSw e1; have x2' := box_ hSw e2; have x3' := box_ hSw e3; clear hSw
              go_simp
              try with_reducible rfl
            case qzz1 => exact fun _ _ _ h => h
            case szz1 => first | assumption | trivial
            case' rzz1 => simp only [Act.put, List.setIfInBounds_toArray, List.set_cons_zero, List.set_cons_succ]
            refine wpAnyL_take (i := 1) (oi := ?ozz2) (v := ?vzz2) ?hzz2 ?azz2 ?bzz2 ?czz2 ?kzz2 ?qzz2 ?yzz2 ?szz2 ?rzz2
            case hzz2 => simp only [List.getElem?_toArray, List.getElem?_cons_zero, List.getElem?_cons_succ]; rfl
            case azz2 => kernel_rfl
            case bzz2 => kernel_rfl
            case czz2 => kernel_rfl
            case kzz2 => kernel_rfl
            case yzz2 =>
              refine Or.inl ⟨by rfl, ?_⟩
              intro w hSw
              skip
              go_simp
              try with_reducible rfl
            case qzz2 => exact fun _ _ _ h => h
            case szz2 => first | assumption | trivial
            case' rzz2 => simp only [Act.put, List.setIfInBounds_toArray, List.set_cons_zero, List.set_cons_succ]
            refine wpAnyL_ready (rs := [2]) (by kernel_rfl) (by simp) ?_
            refine AllReadyL.cons (o := ?ozz12) ?hzz12 (fun K hK => ?kzz12) ?mzz12
            case hzz12 => simp only [List.getElem?_toArray, List.getElem?_cons_zero, List.getElem?_cons_succ]; rfl
            case kzz12 =>
              go_simp
              refine (KN.out _).mono ?_
              rintro e v2 ⟨rfl, q2⟩
              go_wp2_with fail
              refine hK.out _ _ ?Szz12 (fun hHeld => ?Rzz12)
              case Szz12 =>
                exact hHeld.trans q2
              case Rzz12 =>
                clear hK K
                try simp only [Act.put, List.setIfInBounds_toArray, List.set_cons_zero, List.set_cons_succ]
                refine wpAnyL_ready (rs := [3]) (by kernel_rfl) (by simp) ?_
                refine AllReadyL.cons (o := ?ozz11) ?hzz11 (fun K hK => ?kzz11) ?mzz11
                case hzz11 => simp only [List.getElem?_toArray, List.getElem?_cons_zero, List.getElem?_cons_succ]; rfl
                case kzz11 =>
                  go_simp
                  refine (KRN.out _ _ _ _ (V3.out.dsk.q hHeld)).mono ?_
                  rintro e v3 ⟨A3, n3, c3, rfl, hd3, hf3, q3⟩
                  have HO := Lib.hid (And.intro hd3 (hf3.imp id (fun h ad e => Nat.le_trans hHeld.size (h ad e))))
                  clear hd3 hf3
                  go_wp2_with fail
                  refine hK.out _ _ ?Szz11 (fun hHeld => ?Rzz11)
                  case Szz11 =>
                    exact hHeld.trans q3
                  case Rzz11 =>
                    clear hK K
                    try simp only [Act.put, List.setIfInBounds_toArray, List.set_cons_zero, List.set_cons_succ]
                    refine wpAnyL_take (i := 4) (oi := ?ozz3) (v := ?vzz3) ?hzz3 ?azz3 ?bzz3 ?czz3 ?kzz3 ?qzz3 ?yzz3 ?szz3 ?rzz3
                    case hzz3 => simp only [List.getElem?_toArray, List.getElem?_cons_zero, List.getElem?_cons_succ]; rfl
                    case azz3 => kernel_rfl
                    case bzz3 => kernel_rfl
                    case czz3 => kernel_rfl
                    case kzz3 => kernel_rfl
                    case yzz3 =>
                      refine Or.inl ⟨by rfl, ?_⟩
                      intro w hSw
                      skip
                      go_simp
                      try with_reducible rfl
                    case qzz3 => exact fun _ _ _ h => h
                    case szz3 => first | assumption | trivial
                    case' rzz3 => simp only [Act.put, List.setIfInBounds_toArray, List.set_cons_zero, List.set_cons_succ]
                    refine wpAnyL_take (i := 5) (oi := ?ozz4) (v := ?vzz4) ?hzz4 ?azz4 ?bzz4 ?czz4 ?kzz4 ?qzz4 ?yzz4 ?szz4 ?rzz4
                    case hzz4 => simp only [List.getElem?_toArray, List.getElem?_cons_zero, List.getElem?_cons_succ]; rfl
                    case azz4 => kernel_rfl
                    case bzz4 => kernel_rfl
                    case czz4 => kernel_rfl
                    case kzz4 => kernel_rfl
                    case yzz4 =>
                      refine Or.inl ⟨by rfl, ?_⟩
                      intro w hSw
                      skip
                      go_simp
                      try with_reducible rfl
                    case qzz4 => exact fun _ _ _ h => h
                    case szz4 => first | assumption | trivial
                    case' rzz4 => simp only [Act.put, List.setIfInBounds_toArray, List.set_cons_zero, List.set_cons_succ]
                    refine wpAnyL_ready (rs := [6, 7]) (by kernel_rfl) (by simp) ?_
                    refine AllReadyL.cons (o := ?ozz9) ?hzz9 (fun K hK => ?kzz9) ?mzz9
                    case hzz9 => simp only [List.getElem?_toArray, List.getElem?_cons_zero, List.getElem?_cons_succ]; rfl
                    case kzz9 =>
                      go_simp
                      refine hK.out _ _ ?Szz9 (fun hHeld => ?Rzz9)
                      case Szz9 =>
                        exact hHeld
                      case Rzz9 =>
                        clear hK K
                        try simp only [Act.put, List.setIfInBounds_toArray, List.set_cons_zero, List.set_cons_succ]
                        refine wpAnyL_ready (rs := [7]) (by kernel_rfl) (by simp) ?_
                        refine AllReadyL.consK (o := ?ozz6) ?hzz6 ?lzz6 (fun K hK => ?kzz6) ?mzz6
                        case hzz6 => simp only [List.getElem?_toArray, List.getElem?_cons_zero, List.getElem?_cons_succ]; rfl
                        case lzz6 => kernel_rfl
                        case kzz6 =>
                          have HZ := Lib.hid hHeld
                          obtain ⟨⟨b0, b1, b2, b3⟩, g0, g1, g2, g3⟩ := (V3.out.step HZ.out).sb.get
                          have HC := Lib.hid (And.intro (V3.out.putK (d5 := (ren x3.1 freshB nmb).1) HZ.out HO.out.1 HO.out.2) (V3.out.farK R3.out HO.out.2))
                          go_simp
                          refine hK.out _ _ ?Rzz6
                          case Rzz6 =>
                            clear hK K
                            try simp only [Act.put, List.setIfInBounds_toArray, List.set_cons_zero, List.set_cons_succ]
                            refine wpAnyH_take (i := 8) (oi := ?ozz5) (v := ?vzz5) ?hzz5 ?azz5 ?bzz5 ?czz5 ?qzz5 ?yzz5 ?szz5 ?rzz5
                            case hzz5 => simp only [List.getElem?_toArray, List.getElem?_cons_zero, List.getElem?_cons_succ]; rfl
                            case azz5 => kernel_rfl
                            case bzz5 => kernel_rfl
                            case czz5 => kernel_rfl
                            case yzz5 =>
                              refine Or.inl ⟨by rfl, ?_⟩
                              intro w hSw
                              skip
                              go_simp
                              try with_reducible rfl
                            case qzz5 => exact fun _ _ _ h => h
                            case szz5 => first | assumption | trivial
                            case' rzz5 => simp only [Act.put, List.setIfInBounds_toArray, List.set_cons_zero, List.set_cons_succ]
                            refine wpAnyH_done (by kernel_rfl) ?_ _
                            go_wp2_with fail
                            go_meet
                            exact ⟨A3, n3, c3, by rw [HC0.out], by rw [HC0.out]; exact HC.out.1, HC.out.2⟩
                        case' mzz6 => skip
                        exact AllReadyL.nil
                    case' mzz9 => skip
                    refine AllReadyL.consK (o := ?ozz10) ?hzz10 ?lzz10 (fun K hK => ?kzz10) ?mzz10
                    case hzz10 => simp only [List.getElem?_toArray, List.getElem?_cons_zero, List.getElem?_cons_succ]; rfl
                    case lzz10 => kernel_rfl
                    case kzz10 =>
                      have HZ := Lib.hid hHeld
                      obtain ⟨⟨b0, b1, b2, b3⟩, g0, g1, g2, g3⟩ := (V3.out.step HZ.out).sb.get
                      have HC := Lib.hid (And.intro (V3.out.putK (d5 := (ren x3.1 freshB nmb).1) HZ.out HO.out.1 HO.out.2) (V3.out.farK R3.out HO.out.2))
                      go_simp
                      refine hK.out _ _ ?Rzz10
                      case Rzz10 =>
                        clear hK K
                        try simp only [Act.put, List.setIfInBounds_toArray, List.set_cons_zero, List.set_cons_succ]
                        refine wpAnyH_take (i := 6) (oi := ?ozz7) (v := ?vzz7) ?hzz7 ?azz7 ?bzz7 ?czz7 ?qzz7 ?yzz7 ?szz7 ?rzz7
                        case hzz7 => simp only [List.getElem?_toArray, List.getElem?_cons_zero, List.getElem?_cons_succ]; rfl
                        case azz7 => kernel_rfl
                        case bzz7 => kernel_rfl
                        case czz7 => kernel_rfl
                        case yzz7 =>
                          refine Or.inl ⟨by rfl, ?_⟩
                          intro w hSw
                          skip
                          go_simp
                          try with_reducible rfl
                        case qzz7 => exact fun _ _ _ h => h
                        case szz7 => first | assumption | trivial
                        case' rzz7 => simp only [Act.put, List.setIfInBounds_toArray, List.set_cons_zero, List.set_cons_succ]
                        refine wpAnyH_take (i := 8) (oi := ?ozz8) (v := ?vzz8) ?hzz8 ?azz8 ?bzz8 ?czz8 ?qzz8 ?yzz8 ?szz8 ?rzz8
                        case hzz8 => simp only [List.getElem?_toArray, List.getElem?_cons_zero, List.getElem?_cons_succ]; rfl
                        case azz8 => kernel_rfl
                        case bzz8 => kernel_rfl
                        case czz8 => kernel_rfl
                        case yzz8 =>
                          refine Or.inl ⟨by rfl, ?_⟩
                          intro w hSw
                          skip
                          go_simp
                          try with_reducible rfl
                        case qzz8 => exact fun _ _ _ h => h
                        case szz8 => first | assumption | trivial
                        case' rzz8 => simp only [Act.put, List.setIfInBounds_toArray, List.set_cons_zero, List.set_cons_succ]
                        refine wpAnyH_done (by kernel_rfl) ?_ _
                        go_wp2_with fail
                        go_meet
                        exact ⟨A3, n3, c3, by rw [HC0.out], by rw [HC0.out]; exact HC.out.1, HC.out.2⟩
                    case' mzz10 => skip
                    exact AllReadyL.nil
                case' mzz11 => skip
                exact AllReadyL.nil
            case' mzz12 => skip
            exact AllReadyL.nil
          · have CC := C4.out
            rw [if_neg g] at CC
            have HC0 := Lib.hid CC
            have i7 : (x3.2 == 0) = false := by simpa using g
            clear CC
            go_wp2_with fail
            go_meet
            exact ⟨_, _, _, by rw [HC0.out], by rw [HC0.out]; exact V3.out, R3.out⟩
        case rest =>
          obtain ⟨A4, n4, c4, rfl, v4, r4⟩ := hcut
          generalize wc = W4 at v4 ⊢
          have V4 := Lib.hid v4
          have R4 := Lib.hid r4
          clear v4 r4
          have C5' := C5
          go_wp2
          go_loopw [8, 11] (fun s8 s11 wr => ∃ (k : Int) (A5 : Option Addr) (n5 c5 : Nat) (x : Dk × Int), s11 = .int .i64 k ∧ s8 = .int .i64 x.2 ∧ 1 ≤ k ∧ k ≤ 1000001 ∧ Sv w A5 n5 c5 x.1 wr ∧ (A5 = A ∧ n5 = n ∨ Far w A5) ∧ Bnd 2305843009213693952 x.1 ∧ (if x.2 = 0 then dels (fuelOf k) x.1 k else x) = x5) (fun _ i _ => (1000001 - intOf i).toNat)
          case atStart => exact ⟨seg + 1, A4, n4, c4, x4, by first | rfl | simp, rfl, by omega, by omega, V4.out, R4.out, HB4.out, C5.out⟩
          case round =>
            obtain ⟨k, A5, n5, c5, ⟨xl, xe⟩, rfl, rfl, hk1, hk2, hv, hf, hb, hx⟩ := hrel
            simp only at hv hb hx
            have V5 := Lib.hid hv
            have RF := Lib.hid hf
            have HB := Lib.hid hb
            have HX := Lib.hid hx
            clear hv hf hb hx C5' V4 R4
            generalize wr = W5 at V5 ⊢
            have KNK := Lib.hid (fun W => refName_any k W (by omega) (by omega))
            have KFK := Lib.hid (fun W hf => ref_find (namB k) A5 n5 c5 xl.room xl.fuse xl.off xl.fs W hf V5.out.dsk.max)
            have KDK := Lib.hid (fun A n c W hd => ref_del_any (namB k) A n c xl W hd (MX.out _ HB.out) HB.out.fuse.2)
            have HBD := Lib.hid (HB.out.del (namB k))
            obtain ⟨⟨e0, e1, e2, e3⟩, f0, f1, f2', f3⟩ := V5.out.sb.get
            by_cases g0 : xe = 0
            · subst g0
              by_cases g1 : k ≤ 1000000
              · have DM := Lib.hid (dels_more (x := (xl, 0)) (k := k) rfl ⟨hk1, g1⟩)
                have DE := Lib.hid (dels_end (x := (xl, 0)) (k := k))
                generalize namB k = nmk at KNK KFK KDK HBD DM DE
                generalize hit nmk xl.fs = xk at KFK DM DE
                obtain ⟨⟨kn, ks, kt⟩, b⟩ := xk
                simp only at DM DE
                generalize del xl nmk = y at KDK HBD DM
                go_upto_region 14 with (fail)
                go_cut [13] (fun s13 wx => Cf W5 b s13 wx)
                case first =>
                  refine wp_region_heldL 8 (Q W5) (by kernel_rfl) ?szz26 (fun hHeld => ?rzz26)
                  case szz26 =>
                    exact (Q.refl W5).drew
                  case' rzz26 => skip
                  generalize hgen : W5.drew = D0 at hHeld ⊢
                  clear hgen
                  refine wpAnyL_take (i := 0) (oi := ?ozz27) (v := ?vzz27) ?hzz27 ?azz27 ?bzz27 ?czz27 ?kzz27 ?qzz27 ?yzz27 ?szz27 ?rzz27
                  case hzz27 => simp only [List.getElem?_toArray, List.getElem?_cons_zero]; rfl
                  case azz27 => kernel_rfl
                  case bzz27 => kernel_rfl
                  case czz27 => kernel_rfl
                  case kzz27 => kernel_rfl
                  case yzz27 =>
                    refine Or.inl ⟨by rfl, ?_⟩
                    intro w hSw
                    have x0 := box_ hSw e0; have x1' := box_ hSw e1; have x2' := box_ hSw e2; have x3' := box_ hSw e3; clear hSw
                    go_simp
                    try with_reducible rfl
                  case qzz27 => exact fun _ _ _ h => h
                  case szz27 => first | assumption | trivial
                  case' rzz27 => simp only [Act.put, List.setIfInBounds_toArray, List.set_cons_zero, List.set_cons_succ]
                  refine wpAnyL_take (i := 1) (oi := ?ozz28) (v := ?vzz28) ?hzz28 ?azz28 ?bzz28 ?czz28 ?kzz28 ?qzz28 ?yzz28 ?szz28 ?rzz28
                  case hzz28 => simp only [List.getElem?_toArray, List.getElem?_cons_zero, List.getElem?_cons_succ]; rfl
                  case azz28 => kernel_rfl
                  case bzz28 => kernel_rfl
                  case czz28 => kernel_rfl
                  case kzz28 => kernel_rfl
                  case yzz28 =>
                    refine Or.inl ⟨by rfl, ?_⟩
                    intro w hSw
                    skip
                    go_simp
                    try with_reducible rfl
                  case qzz28 => exact fun _ _ _ h => h
                  case szz28 => first | assumption | trivial
                  case' rzz28 => simp only [Act.put, List.setIfInBounds_toArray, List.set_cons_zero, List.set_cons_succ]
                  refine wpAnyL_ready (rs := [2, 7]) (by kernel_rfl) (by simp) ?_
                  refine AllReadyL.cons (o := ?ozz63) ?hzz63 (fun K hK => ?kzz63) ?mzz63
                  case hzz63 => simp only [List.getElem?_toArray, List.getElem?_cons_zero, List.getElem?_cons_succ]; rfl
                  case kzz63 =>
                    go_simp
                    refine (KNK.out _).mono ?_
                    rintro e v2 ⟨rfl, q2⟩
                    go_wp2_with fail
                    refine hK.out _ _ ?Szz63 (fun hHeld => ?Rzz63)
                    case Szz63 =>
                      exact hHeld.trans q2
                    case Rzz63 =>
                      clear hK K
                      try simp only [Act.put, List.setIfInBounds_toArray, List.set_cons_zero, List.set_cons_succ]
                      refine wpAnyL_ready (rs := [3, 7]) (by kernel_rfl) (by simp) ?_
                      refine AllReadyL.cons (o := ?ozz51) ?hzz51 (fun K hK => ?kzz51) ?mzz51
                      case hzz51 => simp only [List.getElem?_toArray, List.getElem?_cons_zero, List.getElem?_cons_succ]; rfl
                      case kzz51 =>
                        go_simp
                        refine (KFK.out _ (V5.out.dsk.q hHeld).files).mono ?_
                        rintro e v3 ⟨rfl, q3⟩
                        go_wp2_with fail
                        refine hK.out _ _ ?Szz51 (fun hHeld => ?Rzz51)
                        case Szz51 =>
                          exact hHeld.trans q3
                        case Rzz51 =>
                          clear hK K
                          try simp only [Act.put, List.setIfInBounds_toArray, List.set_cons_zero, List.set_cons_succ]
                          refine wpAnyL_take (i := 4) (oi := ?ozz29) (v := ?vzz29) ?hzz29 ?azz29 ?bzz29 ?czz29 ?kzz29 ?qzz29 ?yzz29 ?szz29 ?rzz29
                          case hzz29 => simp only [List.getElem?_toArray, List.getElem?_cons_zero, List.getElem?_cons_succ]; rfl
                          case azz29 => kernel_rfl
                          case bzz29 => kernel_rfl
                          case czz29 => kernel_rfl
                          case kzz29 => kernel_rfl
                          case yzz29 =>
                            refine Or.inl ⟨by rfl, ?_⟩
                            intro w hSw
                            skip
                            go_simp
                            try with_reducible rfl
                          case qzz29 => exact fun _ _ _ h => h
                          case szz29 => first | assumption | trivial
                          case' rzz29 => simp only [Act.put, List.setIfInBounds_toArray, List.set_cons_zero, List.set_cons_succ]
                          refine wpAnyL_take (i := 5) (oi := ?ozz30) (v := ?vzz30) ?hzz30 ?azz30 ?bzz30 ?czz30 ?kzz30 ?qzz30 ?yzz30 ?szz30 ?rzz30
                          case hzz30 => simp only [List.getElem?_toArray, List.getElem?_cons_zero, List.getElem?_cons_succ]; rfl
                          case azz30 => kernel_rfl
                          case bzz30 => kernel_rfl
                          case czz30 => kernel_rfl
                          case kzz30 => kernel_rfl
                          case yzz30 =>
                            refine Or.inl ⟨by rfl, ?_⟩
                            intro w hSw
                            skip
                            go_simp
                            try with_reducible rfl
                          case qzz30 => exact fun _ _ _ h => h
                          case szz30 => first | assumption | trivial
                          case' rzz30 => simp only [Act.put, List.setIfInBounds_toArray, List.set_cons_zero, List.set_cons_succ]
                          refine wpAnyL_ready (rs := [6, 7]) (by kernel_rfl) (by simp) ?_
                          refine AllReadyL.cons (o := ?ozz40) ?hzz40 (fun K hK => ?kzz40) ?mzz40
                          case hzz40 => simp only [List.getElem?_toArray, List.getElem?_cons_zero, List.getElem?_cons_succ]; rfl
                          case kzz40 =>
                            go_simp
                            refine hK.out _ _ ?Szz40 (fun hHeld => ?Rzz40)
                            case Szz40 =>
                              exact hHeld
                            case Rzz40 =>
                              clear hK K
                              try simp only [Act.put, List.setIfInBounds_toArray, List.set_cons_zero, List.set_cons_succ]
                              refine wpAnyL_ready (rs := [7]) (by kernel_rfl) (by simp) ?_
                              refine AllReadyL.cons (o := ?ozz33) ?hzz33 (fun K hK => ?kzz33) ?mzz33
                              case hzz33 => simp only [List.getElem?_toArray, List.getElem?_cons_zero, List.getElem?_cons_succ]; rfl
                              case kzz33 =>
                                go_simp
                                have BX := Lib.hid (Bx.new v3 [.string ⟨#[]⟩, .string ⟨#[]⟩, .string ⟨#[]⟩] 42)
                                have hnb : W5.heap.size ≤ v3.heap.size := hHeld.size
                                have qa := (Q.refl v3).alloc (.cells #[.string ⟨#[]⟩, .string ⟨#[]⟩, .string ⟨#[]⟩] 42)
                                have BX : Hid (Bx (v3.alloc (.cells #[.string ⟨#[]⟩, .string ⟨#[]⟩, .string ⟨#[]⟩] 42)) v3.heap.size [.string ⟨#[]⟩, .string ⟨#[]⟩, .string ⟨#[]⟩]) := Lib.hid BX.out
                                generalize v3.alloc (.cells #[.string ⟨#[]⟩, .string ⟨#[]⟩, .string ⟨#[]⟩] 42) = Y0 at BX qa ⊢
                                generalize v3.heap.size = nb at BX hnb ⊢
                                refine hK.out _ _ ?Szz33 (fun hHeld => ?Rzz33)
                                case Szz33 =>
                                  exact hHeld.trans qa
                                case Rzz33 =>
                                  clear hK K
                                  try simp only [Act.put, List.setIfInBounds_toArray, List.set_cons_zero, List.set_cons_succ]
                                  refine wpAnyL_ready (rs := [8]) (by kernel_rfl) (by simp) ?_
                                  refine AllReadyL.consK (o := ?ozz32) ?hzz32 ?lzz32 (fun K hK => ?kzz32) ?mzz32
                                  case hzz32 => simp only [List.getElem?_toArray, List.getElem?_cons_zero, List.getElem?_cons_succ]; rfl
                                  case lzz32 => kernel_rfl
                                  case kzz32 =>
                                    have HZ := Lib.hid hHeld
                                    obtain ⟨⟨b0, b1, b2⟩, g0, g1, g2⟩ := BX.out.get3
                                    go_simp
                                    refine hK.out _ _ ?Rzz32
                                    case Rzz32 =>
                                      clear hK K
                                      try simp only [Act.put, List.setIfInBounds_toArray, List.set_cons_zero, List.set_cons_succ]
                                      refine wpAnyH_take (i := 9) (oi := ?ozz31) (v := ?vzz31) ?hzz31 ?azz31 ?bzz31 ?czz31 ?qzz31 ?yzz31 ?szz31 ?rzz31
                                      case hzz31 => simp only [List.getElem?_toArray, List.getElem?_cons_zero, List.getElem?_cons_succ]; rfl
                                      case azz31 => kernel_rfl
                                      case bzz31 => kernel_rfl
                                      case czz31 => kernel_rfl
                                      case yzz31 =>
                                        refine Or.inl ⟨by rfl, ?_⟩
                                        intro w hSw
                                        skip
                                        go_simp
                                        try with_reducible rfl
                                      case qzz31 => exact fun _ _ _ h => h
                                      case szz31 => first | assumption | trivial
                                      case' rzz31 => simp only [Act.put, List.setIfInBounds_toArray, List.set_cons_zero, List.set_cons_succ]
                                      refine wpAnyH_done (by kernel_rfl) ?_ _
                                      go_wp2_with fail
                                      go_meet
                                      exact ⟨rfl, ((HZ.out.setCell (p := ⟨nb, 0, none⟩) hnb _).setCell (p := ⟨nb, 1, none⟩) hnb _).setCell (p := ⟨nb, 2, none⟩) hnb _⟩
                                  case' mzz32 => skip
                                  exact AllReadyL.nil
                              case' mzz33 => skip
                              exact AllReadyL.nil
                          case' mzz40 => skip
                          refine AllReadyL.cons (o := ?ozz41) ?hzz41 (fun K hK => ?kzz41) ?mzz41
                          case hzz41 => simp only [List.getElem?_toArray, List.getElem?_cons_zero, List.getElem?_cons_succ]; rfl
                          case kzz41 =>
                            go_simp
                            have BX := Lib.hid (Bx.new v3 [.string ⟨#[]⟩, .string ⟨#[]⟩, .string ⟨#[]⟩] 42)
                            have hnb : W5.heap.size ≤ v3.heap.size := hHeld.size
                            have qa := (Q.refl v3).alloc (.cells #[.string ⟨#[]⟩, .string ⟨#[]⟩, .string ⟨#[]⟩] 42)
                            have BX : Hid (Bx (v3.alloc (.cells #[.string ⟨#[]⟩, .string ⟨#[]⟩, .string ⟨#[]⟩] 42)) v3.heap.size [.string ⟨#[]⟩, .string ⟨#[]⟩, .string ⟨#[]⟩]) := Lib.hid BX.out
                            generalize v3.alloc (.cells #[.string ⟨#[]⟩, .string ⟨#[]⟩, .string ⟨#[]⟩] 42) = Y1 at BX qa ⊢
                            generalize v3.heap.size = nb at BX hnb ⊢
                            refine hK.out _ _ ?Szz41 (fun hHeld => ?Rzz41)
                            case Szz41 =>
                              exact hHeld.trans qa
                            case Rzz41 =>
                              clear hK K
                              try simp only [Act.put, List.setIfInBounds_toArray, List.set_cons_zero, List.set_cons_succ]
                              refine wpAnyL_ready (rs := [6, 8]) (by kernel_rfl) (by simp) ?_
                              refine AllReadyL.cons (o := ?ozz38) ?hzz38 (fun K hK => ?kzz38) ?mzz38
                              case hzz38 => simp only [List.getElem?_toArray, List.getElem?_cons_zero, List.getElem?_cons_succ]; rfl
                              case kzz38 =>
                                go_simp
                                refine hK.out _ _ ?Szz38 (fun hHeld => ?Rzz38)
                                case Szz38 =>
                                  exact hHeld
                                case Rzz38 =>
                                  clear hK K
                                  try simp only [Act.put, List.setIfInBounds_toArray, List.set_cons_zero, List.set_cons_succ]
                                  refine wpAnyL_ready (rs := [8]) (by kernel_rfl) (by simp) ?_
                                  refine AllReadyL.consK (o := ?ozz35) ?hzz35 ?lzz35 (fun K hK => ?kzz35) ?mzz35
                                  case hzz35 => simp only [List.getElem?_toArray, List.getElem?_cons_zero, List.getElem?_cons_succ]; rfl
                                  case lzz35 => kernel_rfl
                                  case kzz35 =>
                                    have HZ := Lib.hid hHeld
                                    obtain ⟨⟨b0, b1, b2⟩, g0, g1, g2⟩ := BX.out.get3
                                    go_simp
                                    refine hK.out _ _ ?Rzz35
                                    case Rzz35 =>
                                      clear hK K
                                      try simp only [Act.put, List.setIfInBounds_toArray, List.set_cons_zero, List.set_cons_succ]
                                      refine wpAnyH_take (i := 9) (oi := ?ozz34) (v := ?vzz34) ?hzz34 ?azz34 ?bzz34 ?czz34 ?qzz34 ?yzz34 ?szz34 ?rzz34
                                      case hzz34 => simp only [List.getElem?_toArray, List.getElem?_cons_zero, List.getElem?_cons_succ]; rfl
                                      case azz34 => kernel_rfl
                                      case bzz34 => kernel_rfl
                                      case czz34 => kernel_rfl
                                      case yzz34 =>
                                        refine Or.inl ⟨by rfl, ?_⟩
                                        intro w hSw
                                        skip
                                        go_simp
                                        try with_reducible rfl
                                      case qzz34 => exact fun _ _ _ h => h
                                      case szz34 => first | assumption | trivial
                                      case' rzz34 => simp only [Act.put, List.setIfInBounds_toArray, List.set_cons_zero, List.set_cons_succ]
                                      refine wpAnyH_done (by kernel_rfl) ?_ _
                                      go_wp2_with fail
                                      go_meet
                                      exact ⟨rfl, ((HZ.out.setCell (p := ⟨nb, 0, none⟩) hnb _).setCell (p := ⟨nb, 1, none⟩) hnb _).setCell (p := ⟨nb, 2, none⟩) hnb _⟩
                                  case' mzz35 => skip
                                  exact AllReadyL.nil
                              case' mzz38 => skip
                              refine AllReadyL.consK (o := ?ozz39) ?hzz39 ?lzz39 (fun K hK => ?kzz39) ?mzz39
                              case hzz39 => simp only [List.getElem?_toArray, List.getElem?_cons_zero, List.getElem?_cons_succ]; rfl
                              case lzz39 => kernel_rfl
                              case kzz39 =>
                                have HZ := Lib.hid hHeld
                                obtain ⟨⟨b0, b1, b2⟩, g0, g1, g2⟩ := BX.out.get3
                                go_simp
                                refine hK.out _ _ ?Rzz39
                                case Rzz39 =>
                                  clear hK K
                                  try simp only [Act.put, List.setIfInBounds_toArray, List.set_cons_zero, List.set_cons_succ]
                                  refine wpAnyH_take (i := 6) (oi := ?ozz36) (v := ?vzz36) ?hzz36 ?azz36 ?bzz36 ?czz36 ?qzz36 ?yzz36 ?szz36 ?rzz36
                                  case hzz36 => simp only [List.getElem?_toArray, List.getElem?_cons_zero, List.getElem?_cons_succ]; rfl
                                  case azz36 => kernel_rfl
                                  case bzz36 => kernel_rfl
                                  case czz36 => kernel_rfl
                                  case yzz36 =>
                                    refine Or.inl ⟨by rfl, ?_⟩
                                    intro w hSw
                                    skip
                                    go_simp
                                    try with_reducible rfl
                                  case qzz36 => exact fun _ _ _ h => h
                                  case szz36 => first | assumption | trivial
                                  case' rzz36 => simp only [Act.put, List.setIfInBounds_toArray, List.set_cons_zero, List.set_cons_succ]
                                  refine wpAnyH_take (i := 9) (oi := ?ozz37) (v := ?vzz37) ?hzz37 ?azz37 ?bzz37 ?czz37 ?qzz37 ?yzz37 ?szz37 ?rzz37
                                  case hzz37 => simp only [List.getElem?_toArray, List.getElem?_cons_zero, List.getElem?_cons_succ]; rfl
                                  case azz37 => kernel_rfl
                                  case bzz37 => kernel_rfl
                                  case czz37 => kernel_rfl
                                  case yzz37 =>
                                    refine Or.inl ⟨by rfl, ?_⟩
                                    intro w hSw
                                    skip
                                    go_simp
                                    try with_reducible rfl
                                  case qzz37 => exact fun _ _ _ h => h
                                  case szz37 => first | assumption | trivial
                                  case' rzz37 => simp only [Act.put, List.setIfInBounds_toArray, List.set_cons_zero, List.set_cons_succ]
                                  refine wpAnyH_done (by kernel_rfl) ?_ _
                                  go_wp2_with fail
                                  go_meet
                                  exact ⟨rfl, ((HZ.out.setCell (p := ⟨nb, 0, none⟩) hnb _).setCell (p := ⟨nb, 1, none⟩) hnb _).setCell (p := ⟨nb, 2, none⟩) hnb _⟩
                              case' mzz39 => skip
                              exact AllReadyL.nil
                          case' mzz41 => skip
                          exact AllReadyL.nil
                      case' mzz51 => skip
                      refine AllReadyL.cons (o := ?ozz52) ?hzz52 (fun K hK => ?kzz52) ?mzz52
                      case hzz52 => simp only [List.getElem?_toArray, List.getElem?_cons_zero, List.getElem?_cons_succ]; rfl
                      case kzz52 =>
                        go_simp
                        have BX := Lib.hid (Bx.new v2 [.string ⟨#[]⟩, .string ⟨#[]⟩, .string ⟨#[]⟩] 42)
                        have hnb : W5.heap.size ≤ v2.heap.size := hHeld.size
                        have qa := (Q.refl v2).alloc (.cells #[.string ⟨#[]⟩, .string ⟨#[]⟩, .string ⟨#[]⟩] 42)
                        have BX : Hid (Bx (v2.alloc (.cells #[.string ⟨#[]⟩, .string ⟨#[]⟩, .string ⟨#[]⟩] 42)) v2.heap.size [.string ⟨#[]⟩, .string ⟨#[]⟩, .string ⟨#[]⟩]) := Lib.hid BX.out
                        generalize v2.alloc (.cells #[.string ⟨#[]⟩, .string ⟨#[]⟩, .string ⟨#[]⟩] 42) = Y2 at BX qa ⊢
                        generalize v2.heap.size = nb at BX hnb ⊢
                        refine hK.out _ _ ?Szz52 (fun hHeld => ?Rzz52)
                        case Szz52 =>
                          exact hHeld.trans qa
                        case Rzz52 =>
                          clear hK K
                          try simp only [Act.put, List.setIfInBounds_toArray, List.set_cons_zero, List.set_cons_succ]
                          refine wpAnyL_ready (rs := [3]) (by kernel_rfl) (by simp) ?_
                          refine AllReadyL.cons (o := ?ozz50) ?hzz50 (fun K hK => ?kzz50) ?mzz50
                          case hzz50 => simp only [List.getElem?_toArray, List.getElem?_cons_zero, List.getElem?_cons_succ]; rfl
                          case kzz50 =>
                            go_simp
                            refine (KFK.out _ (V5.out.dsk.q hHeld).files).mono ?_
                            rintro e v3 ⟨rfl, q3⟩
                            have BX := Lib.hid (BX.out.q q3)
                            go_wp2_with fail
                            refine hK.out _ _ ?Szz50 (fun hHeld => ?Rzz50)
                            case Szz50 =>
                              exact hHeld.trans q3
                            case Rzz50 =>
                              clear hK K
                              try simp only [Act.put, List.setIfInBounds_toArray, List.set_cons_zero, List.set_cons_succ]
                              refine wpAnyL_take (i := 4) (oi := ?ozz42) (v := ?vzz42) ?hzz42 ?azz42 ?bzz42 ?czz42 ?kzz42 ?qzz42 ?yzz42 ?szz42 ?rzz42
                              case hzz42 => simp only [List.getElem?_toArray, List.getElem?_cons_zero, List.getElem?_cons_succ]; rfl
                              case azz42 => kernel_rfl
                              case bzz42 => kernel_rfl
                              case czz42 => kernel_rfl
                              case kzz42 => kernel_rfl
                              case yzz42 =>
                                refine Or.inl ⟨by rfl, ?_⟩
                                intro w hSw
                                skip
                                go_simp
                                try with_reducible rfl
                              case qzz42 => exact fun _ _ _ h => h
                              case szz42 => first | assumption | trivial
                              case' rzz42 => simp only [Act.put, List.setIfInBounds_toArray, List.set_cons_zero, List.set_cons_succ]
                              refine wpAnyL_take (i := 5) (oi := ?ozz43) (v := ?vzz43) ?hzz43 ?azz43 ?bzz43 ?czz43 ?kzz43 ?qzz43 ?yzz43 ?szz43 ?rzz43
                              case hzz43 => simp only [List.getElem?_toArray, List.getElem?_cons_zero, List.getElem?_cons_succ]; rfl
                              case azz43 => kernel_rfl
                              case bzz43 => kernel_rfl
                              case czz43 => kernel_rfl
                              case kzz43 => kernel_rfl
                              case yzz43 =>
                                refine Or.inl ⟨by rfl, ?_⟩
                                intro w hSw
                                skip
                                go_simp
                                try with_reducible rfl
                              case qzz43 => exact fun _ _ _ h => h
                              case szz43 => first | assumption | trivial
                              case' rzz43 => simp only [Act.put, List.setIfInBounds_toArray, List.set_cons_zero, List.set_cons_succ]
                              refine wpAnyL_ready (rs := [6, 8]) (by kernel_rfl) (by simp) ?_
                              refine AllReadyL.cons (o := ?ozz48) ?hzz48 (fun K hK => ?kzz48) ?mzz48
                              case hzz48 => simp only [List.getElem?_toArray, List.getElem?_cons_zero, List.getElem?_cons_succ]; rfl
                              case kzz48 =>
                                go_simp
                                refine hK.out _ _ ?Szz48 (fun hHeld => ?Rzz48)
                                case Szz48 =>
                                  exact hHeld
                                case Rzz48 =>
                                  clear hK K
                                  try simp only [Act.put, List.setIfInBounds_toArray, List.set_cons_zero, List.set_cons_succ]
                                  refine wpAnyL_ready (rs := [8]) (by kernel_rfl) (by simp) ?_
                                  refine AllReadyL.consK (o := ?ozz45) ?hzz45 ?lzz45 (fun K hK => ?kzz45) ?mzz45
                                  case hzz45 => simp only [List.getElem?_toArray, List.getElem?_cons_zero, List.getElem?_cons_succ]; rfl
                                  case lzz45 => kernel_rfl
                                  case kzz45 =>
                                    have HZ := Lib.hid hHeld
                                    obtain ⟨⟨b0, b1, b2⟩, g0, g1, g2⟩ := BX.out.get3
                                    go_simp
                                    refine hK.out _ _ ?Rzz45
                                    case Rzz45 =>
                                      clear hK K
                                      try simp only [Act.put, List.setIfInBounds_toArray, List.set_cons_zero, List.set_cons_succ]
                                      refine wpAnyH_take (i := 9) (oi := ?ozz44) (v := ?vzz44) ?hzz44 ?azz44 ?bzz44 ?czz44 ?qzz44 ?yzz44 ?szz44 ?rzz44
                                      case hzz44 => simp only [List.getElem?_toArray, List.getElem?_cons_zero, List.getElem?_cons_succ]; rfl
                                      case azz44 => kernel_rfl
                                      case bzz44 => kernel_rfl
                                      case czz44 => kernel_rfl
                                      case yzz44 =>
                                        refine Or.inl ⟨by rfl, ?_⟩
                                        intro w hSw
                                        skip
                                        go_simp
                                        try with_reducible rfl
                                      case qzz44 => exact fun _ _ _ h => h
                                      case szz44 => first | assumption | trivial
                                      case' rzz44 => simp only [Act.put, List.setIfInBounds_toArray, List.set_cons_zero, List.set_cons_succ]
                                      refine wpAnyH_done (by kernel_rfl) ?_ _
                                      go_wp2_with fail
                                      go_meet
                                      exact ⟨rfl, ((HZ.out.setCell (p := ⟨nb, 0, none⟩) hnb _).setCell (p := ⟨nb, 1, none⟩) hnb _).setCell (p := ⟨nb, 2, none⟩) hnb _⟩
                                  case' mzz45 => skip
                                  exact AllReadyL.nil
                              case' mzz48 => skip
                              refine AllReadyL.consK (o := ?ozz49) ?hzz49 ?lzz49 (fun K hK => ?kzz49) ?mzz49
                              case hzz49 => simp only [List.getElem?_toArray, List.getElem?_cons_zero, List.getElem?_cons_succ]; rfl
                              case lzz49 => kernel_rfl
                              case kzz49 =>
                                have HZ := Lib.hid hHeld
                                obtain ⟨⟨b0, b1, b2⟩, g0, g1, g2⟩ := BX.out.get3
                                go_simp
                                refine hK.out _ _ ?Rzz49
                                case Rzz49 =>
                                  clear hK K
                                  try simp only [Act.put, List.setIfInBounds_toArray, List.set_cons_zero, List.set_cons_succ]
                                  refine wpAnyH_take (i := 6) (oi := ?ozz46) (v := ?vzz46) ?hzz46 ?azz46 ?bzz46 ?czz46 ?qzz46 ?yzz46 ?szz46 ?rzz46
                                  case hzz46 => simp only [List.getElem?_toArray, List.getElem?_cons_zero, List.getElem?_cons_succ]; rfl
                                  case azz46 => kernel_rfl
                                  case bzz46 => kernel_rfl
                                  case czz46 => kernel_rfl
                                  case yzz46 =>
                                    refine Or.inl ⟨by rfl, ?_⟩
                                    intro w hSw
                                    skip
                                    go_simp
                                    try with_reducible rfl
                                  case qzz46 => exact fun _ _ _ h => h
                                  case szz46 => first | assumption | trivial
                                  case' rzz46 => simp only [Act.put, List.setIfInBounds_toArray, List.set_cons_zero, List.set_cons_succ]
                                  refine wpAnyH_take (i := 9) (oi := ?ozz47) (v := ?vzz47) ?hzz47 ?azz47 ?bzz47 ?czz47 ?qzz47 ?yzz47 ?szz47 ?rzz47
                                  case hzz47 => simp only [List.getElem?_toArray, List.getElem?_cons_zero, List.getElem?_cons_succ]; rfl
                                  case azz47 => kernel_rfl
                                  case bzz47 => kernel_rfl
                                  case czz47 => kernel_rfl
                                  case yzz47 =>
                                    refine Or.inl ⟨by rfl, ?_⟩
                                    intro w hSw
                                    skip
                                    go_simp
                                    try with_reducible rfl
                                  case qzz47 => exact fun _ _ _ h => h
                                  case szz47 => first | assumption | trivial
                                  case' rzz47 => simp only [Act.put, List.setIfInBounds_toArray, List.set_cons_zero, List.set_cons_succ]
                                  refine wpAnyH_done (by kernel_rfl) ?_ _
                                  go_wp2_with fail
                                  go_meet
                                  exact ⟨rfl, ((HZ.out.setCell (p := ⟨nb, 0, none⟩) hnb _).setCell (p := ⟨nb, 1, none⟩) hnb _).setCell (p := ⟨nb, 2, none⟩) hnb _⟩
                              case' mzz49 => skip
                              exact AllReadyL.nil
                          case' mzz50 => skip
                          exact AllReadyL.nil
                      case' mzz52 => skip
                      exact AllReadyL.nil
                  case' mzz63 => skip
                  refine AllReadyL.cons (o := ?ozz64) ?hzz64 (fun K hK => ?kzz64) ?mzz64
                  case hzz64 => simp only [List.getElem?_toArray, List.getElem?_cons_zero, List.getElem?_cons_succ]; rfl
                  case kzz64 =>
                    go_simp
                    have BX := Lib.hid (Bx.new D0 [.string ⟨#[]⟩, .string ⟨#[]⟩, .string ⟨#[]⟩] 42)
                    have hnb : W5.heap.size ≤ D0.heap.size := hHeld.size
                    have qa := (Q.refl D0).alloc (.cells #[.string ⟨#[]⟩, .string ⟨#[]⟩, .string ⟨#[]⟩] 42)
                    have BX : Hid (Bx (D0.alloc (.cells #[.string ⟨#[]⟩, .string ⟨#[]⟩, .string ⟨#[]⟩] 42)) D0.heap.size [.string ⟨#[]⟩, .string ⟨#[]⟩, .string ⟨#[]⟩]) := Lib.hid BX.out
                    generalize D0.alloc (.cells #[.string ⟨#[]⟩, .string ⟨#[]⟩, .string ⟨#[]⟩] 42) = Y3 at BX qa ⊢
                    generalize D0.heap.size = nb at BX hnb ⊢
                    refine hK.out _ _ ?Szz64 (fun hHeld => ?Rzz64)
                    case Szz64 =>
                      exact hHeld.trans qa
                    case Rzz64 =>
                      clear hK K
                      try simp only [Act.put, List.setIfInBounds_toArray, List.set_cons_zero, List.set_cons_succ]
                      refine wpAnyL_ready (rs := [2]) (by kernel_rfl) (by simp) ?_
                      refine AllReadyL.cons (o := ?ozz62) ?hzz62 (fun K hK => ?kzz62) ?mzz62
                      case hzz62 => simp only [List.getElem?_toArray, List.getElem?_cons_zero, List.getElem?_cons_succ]; rfl
                      case kzz62 =>
                        go_simp
                        refine (KNK.out _).mono ?_
                        rintro e v2 ⟨rfl, q2⟩
                        have BX := Lib.hid (BX.out.q q2)
                        go_wp2_with fail
                        refine hK.out _ _ ?Szz62 (fun hHeld => ?Rzz62)
                        case Szz62 =>
                          exact hHeld.trans q2
                        case Rzz62 =>
                          clear hK K
                          try simp only [Act.put, List.setIfInBounds_toArray, List.set_cons_zero, List.set_cons_succ]
                          refine wpAnyL_ready (rs := [3]) (by kernel_rfl) (by simp) ?_
                          refine AllReadyL.cons (o := ?ozz61) ?hzz61 (fun K hK => ?kzz61) ?mzz61
                          case hzz61 => simp only [List.getElem?_toArray, List.getElem?_cons_zero, List.getElem?_cons_succ]; rfl
                          case kzz61 =>
                            go_simp
                            refine (KFK.out _ (V5.out.dsk.q hHeld).files).mono ?_
                            rintro e v3 ⟨rfl, q3⟩
                            have BX := Lib.hid (BX.out.q q3)
                            go_wp2_with fail
                            refine hK.out _ _ ?Szz61 (fun hHeld => ?Rzz61)
                            case Szz61 =>
                              exact hHeld.trans q3
                            case Rzz61 =>
                              clear hK K
                              try simp only [Act.put, List.setIfInBounds_toArray, List.set_cons_zero, List.set_cons_succ]
                              refine wpAnyL_take (i := 4) (oi := ?ozz53) (v := ?vzz53) ?hzz53 ?azz53 ?bzz53 ?czz53 ?kzz53 ?qzz53 ?yzz53 ?szz53 ?rzz53
                              case hzz53 => simp only [List.getElem?_toArray, List.getElem?_cons_zero, List.getElem?_cons_succ]; rfl
                              case azz53 => kernel_rfl
                              case bzz53 => kernel_rfl
                              case czz53 => kernel_rfl
                              case kzz53 => kernel_rfl
                              case yzz53 =>
                                refine Or.inl ⟨by rfl, ?_⟩
                                intro w hSw
                                skip
                                go_simp
                                try with_reducible rfl
                              case qzz53 => exact fun _ _ _ h => h
                              case szz53 => first | assumption | trivial
                              case' rzz53 => simp only [Act.put, List.setIfInBounds_toArray, List.set_cons_zero, List.set_cons_succ]
                              refine wpAnyL_take (i := 5) (oi := ?ozz54) (v := ?vzz54) ?hzz54 ?azz54 ?bzz54 ?czz54 ?kzz54 ?qzz54 ?yzz54 ?szz54 ?rzz54
                              case hzz54 => simp only [List.getElem?_toArray, List.getElem?_cons_zero, List.getElem?_cons_succ]; rfl
                              case azz54 => kernel_rfl
                              case bzz54 => kernel_rfl
                              case czz54 => kernel_rfl
                              case kzz54 => kernel_rfl
                              case yzz54 =>
                                refine Or.inl ⟨by rfl, ?_⟩
                                intro w hSw
                                skip
                                go_simp
                                try with_reducible rfl
                              case qzz54 => exact fun _ _ _ h => h
                              case szz54 => first | assumption | trivial
                              case' rzz54 => simp only [Act.put, List.setIfInBounds_toArray, List.set_cons_zero, List.set_cons_succ]
                              refine wpAnyL_ready (rs := [6, 8]) (by kernel_rfl) (by simp) ?_
                              refine AllReadyL.cons (o := ?ozz59) ?hzz59 (fun K hK => ?kzz59) ?mzz59
                              case hzz59 => simp only [List.getElem?_toArray, List.getElem?_cons_zero, List.getElem?_cons_succ]; rfl
                              case kzz59 =>
                                go_simp
                                refine hK.out _ _ ?Szz59 (fun hHeld => ?Rzz59)
                                case Szz59 =>
                                  exact hHeld
                                case Rzz59 =>
                                  clear hK K
                                  try simp only [Act.put, List.setIfInBounds_toArray, List.set_cons_zero, List.set_cons_succ]
                                  refine wpAnyL_ready (rs := [8]) (by kernel_rfl) (by simp) ?_
                                  refine AllReadyL.consK (o := ?ozz56) ?hzz56 ?lzz56 (fun K hK => ?kzz56) ?mzz56
                                  case hzz56 => simp only [List.getElem?_toArray, List.getElem?_cons_zero, List.getElem?_cons_succ]; rfl
                                  case lzz56 => kernel_rfl
                                  case kzz56 =>
                                    have HZ := Lib.hid hHeld
                                    obtain ⟨⟨b0, b1, b2⟩, g0, g1, g2⟩ := BX.out.get3
                                    go_simp
                                    refine hK.out _ _ ?Rzz56
                                    case Rzz56 =>
                                      clear hK K
                                      try simp only [Act.put, List.setIfInBounds_toArray, List.set_cons_zero, List.set_cons_succ]
                                      refine wpAnyH_take (i := 9) (oi := ?ozz55) (v := ?vzz55) ?hzz55 ?azz55 ?bzz55 ?czz55 ?qzz55 ?yzz55 ?szz55 ?rzz55
                                      case hzz55 => simp only [List.getElem?_toArray, List.getElem?_cons_zero, List.getElem?_cons_succ]; rfl
                                      case azz55 => kernel_rfl
                                      case bzz55 => kernel_rfl
                                      case czz55 => kernel_rfl
                                      case yzz55 =>
                                        refine Or.inl ⟨by rfl, ?_⟩
                                        intro w hSw
                                        skip
                                        go_simp
                                        try with_reducible rfl
                                      case qzz55 => exact fun _ _ _ h => h
                                      case szz55 => first | assumption | trivial
                                      case' rzz55 => simp only [Act.put, List.setIfInBounds_toArray, List.set_cons_zero, List.set_cons_succ]
                                      refine wpAnyH_done (by kernel_rfl) ?_ _
                                      go_wp2_with fail
                                      go_meet
                                      exact ⟨rfl, ((HZ.out.setCell (p := ⟨nb, 0, none⟩) hnb _).setCell (p := ⟨nb, 1, none⟩) hnb _).setCell (p := ⟨nb, 2, none⟩) hnb _⟩
                                  case' mzz56 => skip
                                  exact AllReadyL.nil
                              case' mzz59 => skip
                              refine AllReadyL.consK (o := ?ozz60) ?hzz60 ?lzz60 (fun K hK => ?kzz60) ?mzz60
                              case hzz60 => simp only [List.getElem?_toArray, List.getElem?_cons_zero, List.getElem?_cons_succ]; rfl
                              case lzz60 => kernel_rfl
                              case kzz60 =>
                                have HZ := Lib.hid hHeld
                                obtain ⟨⟨b0, b1, b2⟩, g0, g1, g2⟩ := BX.out.get3
                                go_simp
                                refine hK.out _ _ ?Rzz60
                                case Rzz60 =>
                                  clear hK K
                                  try simp only [Act.put, List.setIfInBounds_toArray, List.set_cons_zero, List.set_cons_succ]
                                  refine wpAnyH_take (i := 6) (oi := ?ozz57) (v := ?vzz57) ?hzz57 ?azz57 ?bzz57 ?czz57 ?qzz57 ?yzz57 ?szz57 ?rzz57
                                  case hzz57 => simp only [List.getElem?_toArray, List.getElem?_cons_zero, List.getElem?_cons_succ]; rfl
                                  case azz57 => kernel_rfl
                                  case bzz57 => kernel_rfl
                                  case czz57 => kernel_rfl
                                  case yzz57 =>
                                    refine Or.inl ⟨by rfl, ?_⟩
                                    intro w hSw
                                    skip
                                    go_simp
                                    try with_reducible rfl
                                  case qzz57 => exact fun _ _ _ h => h
                                  case szz57 => first | assumption | trivial
                                  case' rzz57 => simp only [Act.put, List.setIfInBounds_toArray, List.set_cons_zero, List.set_cons_succ]
                                  refine wpAnyH_take (i := 9) (oi := ?ozz58) (v := ?vzz58) ?hzz58 ?azz58 ?bzz58 ?czz58 ?qzz58 ?yzz58 ?szz58 ?rzz58
                                  case hzz58 => simp only [List.getElem?_toArray, List.getElem?_cons_zero, List.getElem?_cons_succ]; rfl
                                  case azz58 => kernel_rfl
                                  case bzz58 => kernel_rfl
                                  case czz58 => kernel_rfl
                                  case yzz58 =>
                                    refine Or.inl ⟨by rfl, ?_⟩
                                    intro w hSw
                                    skip
                                    go_simp
                                    try with_reducible rfl
                                  case qzz58 => exact fun _ _ _ h => h
                                  case szz58 => first | assumption | trivial
                                  case' rzz58 => simp only [Act.put, List.setIfInBounds_toArray, List.set_cons_zero, List.set_cons_succ]
                                  refine wpAnyH_done (by kernel_rfl) ?_ _
                                  go_wp2_with fail
                                  go_meet
                                  exact ⟨rfl, ((HZ.out.setCell (p := ⟨nb, 0, none⟩) hnb _).setCell (p := ⟨nb, 1, none⟩) hnb _).setCell (p := ⟨nb, 2, none⟩) hnb _⟩
                              case' mzz60 => skip
                              exact AllReadyL.nil
                          case' mzz61 => skip
                          exact AllReadyL.nil
                      case' mzz62 => skip
                      exact AllReadyL.nil
                  case' mzz64 => skip
                  exact AllReadyL.nil
                case rest =>
                  obtain ⟨rfl, q6⟩ := hcut
                  have V6 := Lib.hid (V5.out.step q6)
                  clear e0 e1 e2 e3 f0 f1 f2' f3
                  generalize wc = W6 at V6 q6 ⊢
                  clear q6
                  obtain ⟨⟨e0, e1, e2, e3⟩, f0, f1, f2', f3⟩ := V6.out.sb.get
                  cases b with
                  | false =>
                    have HQ := Lib.hid (show x5 = (xl, 0) from HX.out.symm.trans (DE.out (.inr (fun h => by cases h.2))))
                    have F := Lib.hid (V6.out.endK RF.out (0) (.slice A5 n5 c5) (.int .i64 xl.room) (.int .i64 xl.fuse) (.bool xl.off))
                    obtain ⟨⟨s0, s1, s2, s3⟩, h0, h1, h2, h3⟩ := V6.out.sb.getR
                    go_wp2
                    (try rw [Exit.noGoto_ret])
                    refine bodyPost_ret (v := .tuple #[dkv A5 n5 c5 xl.room xl.fuse xl.off, .int .i64 (0)]) (by simp [results, Tryz.results26, go_sem, s0, s1, s2, s3]) rfl ?_
                    rw [HQ.out]
                    exact F.out
                  | true =>
                    have HQ := Lib.hid ((DM.out rfl).symm.trans HX.out)
                    go_upto_region 17 with (fail)
                    refine wp_region_heldL 7 (Q W6) (by kernel_rfl) ?szz13 (fun hHeld => ?rzz13)
                    case szz13 =>
                      exact (Q.refl W6).drew
                    case' rzz13 => skip
                    generalize hgen : W6.drew = D0 at hHeld ⊢
                    clear hgen
                    refine wpAnyL_take (i := 0) (oi := ?ozz14) (v := ?vzz14) ?hzz14 ?azz14 ?bzz14 ?czz14 ?kzz14 ?qzz14 ?yzz14 ?szz14 ?rzz14
                    case hzz14 => simp only [List.getElem?_toArray, List.getElem?_cons_zero]; rfl
                    case azz14 => kernel_rfl
                    case bzz14 => kernel_rfl
                    case czz14 => kernel_rfl
                    case kzz14 => kernel_rfl
                    case yzz14 =>
                      refine Or.inl ⟨by rfl, ?_⟩
                      intro w hSw
                      have x0 := box_ hSw e0; have x1' := box_ hSw e1; have x2' := box_ hSw e2; have x3' := box_ hSw e3; clear hSw
                      go_simp
                      try with_reducible rfl
                    case qzz14 => exact fun _ _ _ h => h
                    case szz14 => first | assumption | trivial
                    case' rzz14 => simp only [Act.put, List.setIfInBounds_toArray, List.set_cons_zero, List.set_cons_succ]
                    refine wpAnyL_take (i := 1) (oi := ?ozz15) (v := ?vzz15) ?hzz15 ?azz15 ?bzz15 ?czz15 ?kzz15 ?qzz15 ?yzz15 ?szz15 ?rzz15
                    case hzz15 => simp only [List.getElem?_toArray, List.getElem?_cons_zero, List.getElem?_cons_succ]; rfl
                    case azz15 => kernel_rfl
                    case bzz15 => kernel_rfl
                    case czz15 => kernel_rfl
                    case kzz15 => kernel_rfl
                    case yzz15 =>
                      refine Or.inl ⟨by rfl, ?_⟩
                      intro w hSw
                      skip
                      go_simp
                      try with_reducible rfl
                    case qzz15 => exact fun _ _ _ h => h
                    case szz15 => first | assumption | trivial
                    case' rzz15 => simp only [Act.put, List.setIfInBounds_toArray, List.set_cons_zero, List.set_cons_succ]
                    refine wpAnyL_ready (rs := [2]) (by kernel_rfl) (by simp) ?_
                    refine AllReadyL.cons (o := ?ozz25) ?hzz25 (fun K hK => ?kzz25) ?mzz25
                    case hzz25 => simp only [List.getElem?_toArray, List.getElem?_cons_zero, List.getElem?_cons_succ]; rfl
                    case kzz25 =>
                      go_simp
                      refine (KNK.out _).mono ?_
                      rintro e v2 ⟨rfl, q2⟩
                      go_wp2_with fail
                      refine hK.out _ _ ?Szz25 (fun hHeld => ?Rzz25)
                      case Szz25 =>
                        exact hHeld.trans q2
                      case Rzz25 =>
                        clear hK K
                        try simp only [Act.put, List.setIfInBounds_toArray, List.set_cons_zero, List.set_cons_succ]
                        refine wpAnyL_ready (rs := [3]) (by kernel_rfl) (by simp) ?_
                        refine AllReadyL.cons (o := ?ozz24) ?hzz24 (fun K hK => ?kzz24) ?mzz24
                        case hzz24 => simp only [List.getElem?_toArray, List.getElem?_cons_zero, List.getElem?_cons_succ]; rfl
                        case kzz24 =>
                          go_simp
                          refine (KDK.out _ _ _ _ (V6.out.dsk.q hHeld)).mono ?_
                          rintro e v3 ⟨A3, n3, c3, rfl, hd3, hf3, q3⟩
                          have HO := Lib.hid (And.intro hd3 (hf3.imp id (fun h ad e => Nat.le_trans hHeld.size (h ad e))))
                          clear hd3 hf3
                          go_wp2_with fail
                          refine hK.out _ _ ?Szz24 (fun hHeld => ?Rzz24)
                          case Szz24 =>
                            exact hHeld.trans q3
                          case Rzz24 =>
                            clear hK K
                            try simp only [Act.put, List.setIfInBounds_toArray, List.set_cons_zero, List.set_cons_succ]
                            refine wpAnyL_take (i := 4) (oi := ?ozz16) (v := ?vzz16) ?hzz16 ?azz16 ?bzz16 ?czz16 ?kzz16 ?qzz16 ?yzz16 ?szz16 ?rzz16
                            case hzz16 => simp only [List.getElem?_toArray, List.getElem?_cons_zero, List.getElem?_cons_succ]; rfl
                            case azz16 => kernel_rfl
                            case bzz16 => kernel_rfl
                            case czz16 => kernel_rfl
                            case kzz16 => kernel_rfl
                            case yzz16 =>
                              refine Or.inl ⟨by rfl, ?_⟩
                              intro w hSw
                              skip
                              go_simp
                              try with_reducible rfl
                            case qzz16 => exact fun _ _ _ h => h
                            case szz16 => first | assumption | trivial
                            case' rzz16 => simp only [Act.put, List.setIfInBounds_toArray, List.set_cons_zero, List.set_cons_succ]
                            refine wpAnyL_take (i := 5) (oi := ?ozz17) (v := ?vzz17) ?hzz17 ?azz17 ?bzz17 ?czz17 ?kzz17 ?qzz17 ?yzz17 ?szz17 ?rzz17
                            case hzz17 => simp only [List.getElem?_toArray, List.getElem?_cons_zero, List.getElem?_cons_succ]; rfl
                            case azz17 => kernel_rfl
                            case bzz17 => kernel_rfl
                            case czz17 => kernel_rfl
                            case kzz17 => kernel_rfl
                            case yzz17 =>
                              refine Or.inl ⟨by rfl, ?_⟩
                              intro w hSw
                              skip
                              go_simp
                              try with_reducible rfl
                            case qzz17 => exact fun _ _ _ h => h
                            case szz17 => first | assumption | trivial
                            case' rzz17 => simp only [Act.put, List.setIfInBounds_toArray, List.set_cons_zero, List.set_cons_succ]
                            refine wpAnyL_ready (rs := [6, 7]) (by kernel_rfl) (by simp) ?_
                            refine AllReadyL.cons (o := ?ozz22) ?hzz22 (fun K hK => ?kzz22) ?mzz22
                            case hzz22 => simp only [List.getElem?_toArray, List.getElem?_cons_zero, List.getElem?_cons_succ]; rfl
                            case kzz22 =>
                              go_simp
                              refine hK.out _ _ ?Szz22 (fun hHeld => ?Rzz22)
                              case Szz22 =>
                                exact hHeld
                              case Rzz22 =>
                                clear hK K
                                try simp only [Act.put, List.setIfInBounds_toArray, List.set_cons_zero, List.set_cons_succ]
                                refine wpAnyL_ready (rs := [7]) (by kernel_rfl) (by simp) ?_
                                refine AllReadyL.consK (o := ?ozz19) ?hzz19 ?lzz19 (fun K hK => ?kzz19) ?mzz19
                                case hzz19 => simp only [List.getElem?_toArray, List.getElem?_cons_zero, List.getElem?_cons_succ]; rfl
                                case lzz19 => kernel_rfl
                                case kzz19 =>
                                  have HZ := Lib.hid hHeld
                                  obtain ⟨⟨b0, b1, b2, b3⟩, g0, g1, g2, g3⟩ := (V6.out.step HZ.out).sb.get
                                  have HC := Lib.hid (And.intro (V6.out.putK (d5 := y.1) HZ.out HO.out.1 HO.out.2) (V6.out.farK RF.out HO.out.2))
                                  go_simp
                                  refine hK.out _ _ ?Rzz19
                                  case Rzz19 =>
                                    clear hK K
                                    try simp only [Act.put, List.setIfInBounds_toArray, List.set_cons_zero, List.set_cons_succ]
                                    refine wpAnyH_take (i := 8) (oi := ?ozz18) (v := ?vzz18) ?hzz18 ?azz18 ?bzz18 ?czz18 ?qzz18 ?yzz18 ?szz18 ?rzz18
                                    case hzz18 => simp only [List.getElem?_toArray, List.getElem?_cons_zero, List.getElem?_cons_succ]; rfl
                                    case azz18 => kernel_rfl
                                    case bzz18 => kernel_rfl
                                    case czz18 => kernel_rfl
                                    case yzz18 =>
                                      refine Or.inl ⟨by rfl, ?_⟩
                                      intro w hSw
                                      skip
                                      go_simp
                                      try with_reducible rfl
                                    case qzz18 => exact fun _ _ _ h => h
                                    case szz18 => first | assumption | trivial
                                    case' rzz18 => simp only [Act.put, List.setIfInBounds_toArray, List.set_cons_zero, List.set_cons_succ]
                                    refine wpAnyH_done (by kernel_rfl) ?_ _
                                    generalize ((((v3.setCell ⟨w.heap.size, 0, none⟩ (.slice A3 n3 c3)).setCell ⟨w.heap.size, 1, none⟩ (.int .i64 y.1.room)).setCell ⟨w.heap.size, 2, none⟩ (.int .i64 y.1.fuse)).setCell ⟨w.heap.size, 3, none⟩ (.bool y.1.off)) = W8 at HC ⊢
                                    go_wp2
                                    go_roundw
                                    case rel => exact ⟨k + 1, A3, n3, c3, y, by first | rfl | go_num, rfl, by omega, by omega, HC.out.1, HC.out.2, HBD.out, HQ.out⟩
                                    case measure => simp [intOf]; omega
                                case' mzz19 => skip
                                exact AllReadyL.nil
                            case' mzz22 => skip
                            refine AllReadyL.consK (o := ?ozz23) ?hzz23 ?lzz23 (fun K hK => ?kzz23) ?mzz23
                            case hzz23 => simp only [List.getElem?_toArray, List.getElem?_cons_zero, List.getElem?_cons_succ]; rfl
                            case lzz23 => kernel_rfl
                            case kzz23 =>
                              have HZ := Lib.hid hHeld
                              obtain ⟨⟨b0, b1, b2, b3⟩, g0, g1, g2, g3⟩ := (V6.out.step HZ.out).sb.get
                              have HC := Lib.hid (And.intro (V6.out.putK (d5 := y.1) HZ.out HO.out.1 HO.out.2) (V6.out.farK RF.out HO.out.2))
                              go_simp
                              refine hK.out _ _ ?Rzz23
                              case Rzz23 =>
                                clear hK K
                                try simp only [Act.put, List.setIfInBounds_toArray, List.set_cons_zero, List.set_cons_succ]
                                refine wpAnyH_take (i := 6) (oi := ?ozz20) (v := ?vzz20) ?hzz20 ?azz20 ?bzz20 ?czz20 ?qzz20 ?yzz20 ?szz20 ?rzz20
                                case hzz20 => simp only [List.getElem?_toArray, List.getElem?_cons_zero, List.getElem?_cons_succ]; rfl
                                case azz20 => kernel_rfl
                                case bzz20 => kernel_rfl
                                case czz20 => kernel_rfl
                                case yzz20 =>
                                  refine Or.inl ⟨by rfl, ?_⟩
                                  intro w hSw
                                  skip
                                  go_simp
                                  try with_reducible rfl
                                case qzz20 => exact fun _ _ _ h => h
                                case szz20 => first | assumption | trivial
                                case' rzz20 => simp only [Act.put, List.setIfInBounds_toArray, List.set_cons_zero, List.set_cons_succ]
                                refine wpAnyH_take (i := 8) (oi := ?ozz21) (v := ?vzz21) ?hzz21 ?azz21 ?bzz21 ?czz21 ?qzz21 ?yzz21 ?szz21 ?rzz21
                                case hzz21 => simp only [List.getElem?_toArray, List.getElem?_cons_zero, List.getElem?_cons_succ]; rfl
                                case azz21 => kernel_rfl
                                case bzz21 => kernel_rfl
                                case czz21 => kernel_rfl
                                case yzz21 =>
                                  refine Or.inl ⟨by rfl, ?_⟩
                                  intro w hSw
                                  skip
                                  go_simp
                                  try with_reducible rfl
                                case qzz21 => exact fun _ _ _ h => h
                                case szz21 => first | assumption | trivial
                                case' rzz21 => simp only [Act.put, List.setIfInBounds_toArray, List.set_cons_zero, List.set_cons_succ]
                                refine wpAnyH_done (by kernel_rfl) ?_ _
                                generalize ((((v3.setCell ⟨w.heap.size, 0, none⟩ (.slice A3 n3 c3)).setCell ⟨w.heap.size, 1, none⟩ (.int .i64 y.1.room)).setCell ⟨w.heap.size, 2, none⟩ (.int .i64 y.1.fuse)).setCell ⟨w.heap.size, 3, none⟩ (.bool y.1.off)) = W8 at HC ⊢
                                go_wp2
                                go_roundw
                                case rel => exact ⟨k + 1, A3, n3, c3, y, by first | rfl | go_num, rfl, by omega, by omega, HC.out.1, HC.out.2, HBD.out, HQ.out⟩
                                case measure => simp [intOf]; omega
                            case' mzz23 => skip
                            exact AllReadyL.nil
                        case' mzz24 => skip
                        exact AllReadyL.nil
                    case' mzz25 => skip
                    exact AllReadyL.nil
              · have HQ := Lib.hid (show x5 = (xl, 0) from HX.out.symm.trans (dels_end (x := (xl, 0)) (k := k) (.inr (fun h => g1 h.1.2))))
                have F := Lib.hid (V5.out.endK RF.out (0) (.slice A5 n5 c5) (.int .i64 xl.room) (.int .i64 xl.fuse) (.bool xl.off))
                obtain ⟨⟨s0, s1, s2, s3⟩, h0, h1, h2, h3⟩ := V5.out.sb.getR
                go_wp2
                (try rw [Exit.noGoto_ret])
                refine bodyPost_ret (v := .tuple #[dkv A5 n5 c5 xl.room xl.fuse xl.off, .int .i64 (0)]) (by simp [results, Tryz.results26, go_sem, s0, s1, s2, s3]) rfl ?_
                rw [HQ.out]
                exact F.out
            · have i7 : (xe == 0) = false := by simpa using g0
              have HQ := Lib.hid (show x5 = (xl, xe) from HX.out.symm.trans (dels_end (x := (xl, xe)) (k := k) (.inl g0)))
              by_cases g1 : k ≤ 1000000
              all_goals
                have F := Lib.hid (V5.out.endK RF.out (xe) (.slice A5 n5 c5) (.int .i64 xl.room) (.int .i64 xl.fuse) (.bool xl.off))
                obtain ⟨⟨s0, s1, s2, s3⟩, h0, h1, h2, h3⟩ := V5.out.sb.getR
                go_wp2
                (try rw [Exit.noGoto_ret])
                refine bodyPost_ret (v := .tuple #[dkv A5 n5 c5 xl.room xl.fuse xl.off, .int .i64 (xe)]) (by simp [results, Tryz.results26, go_sem, s0, s1, s2, s3]) rfl ?_
                rw [HQ.out]
                exact F.out
end Go.Proofs.YtggbdhnjogalgaaGreatDoor

/- Contract: the document's Recover of a log. -/
namespace Go.Proofs.YtggbdhnjogalgaaGreatDoor
set_option maxRecDepth 100000
open Go.RowKit Dkm Wm
set_option linter.unusedVariables false
set_option linter.unusedSimpArgs false

/-- what the document's Recover tells: the disk's list is the one that came in, or of its own. -/
def RetRK (w : World) (A0 : Option Addr) (n0 : Nat) (x : Dk × List (List UInt8) × Int × Int) (e : Ending) (w' : World) : Prop :=
  ∃ A n c L ln lc, e = .returned (.tuple #[dkv A n c x.1.room x.1.fuse x.1.off, .slice L ln lc, .int .i64 x.2.2.1, .int .i64 x.2.2.2]) ∧ Dsk w' A n c x.1.fs ∧ (A = A0 ∧ n = n0 ∨ Far w A) ∧ OwnS w' w.heap.size L ln lc x.2.1 ∧ Q w w'
theorem endRK {w wr : World} {A A0 : Option Addr} {n n0 c : Nat} {d : Dk} {L : Option Addr} {m lc : Nat} {rs : List (List UInt8)} (q : Q w wr) (hres : Bx wr (w.heap.size + 1) [.slice none 0 0, .int .i64 0, .int .i64 0, .bool false]) (hd : Dsk wr A n c d.fs) (hf : A = A0 ∧ n = n0 ∨ Far w A) (hl : OwnS wr (w.heap.size + 2) L m lc rs) (seg er : Int) (x y z u : Value) :
    RetRK w A0 n0 (d, rs, seg, er) (.returned (.tuple #[dkv A n c d.room d.fuse d.off, .slice L m lc, .int .i64 seg, .int .i64 er])) ((((wr.setCell ⟨w.heap.size + 1, 0, none⟩ x).setCell ⟨w.heap.size + 1, 1, none⟩ y).setCell ⟨w.heap.size + 1, 2, none⟩ z).setCell ⟨w.heap.size + 1, 3, none⟩ u) :=
  ⟨A, n, c, L, m, lc, rfl, hd.odd4 hres (by intro u hu s e; subst e; simp at hu) _ _ _ _, hf, (hl.set4 (b := w.heap.size + 1) (by omega) _ _ _ _).lower (by omega), q.set4 (b := w.heap.size + 1) (by omega) _ _ _ _⟩

set_option maxHeartbeats 4000000 in
theorem refRec_bad (from_ : Int) (A : Option Addr) (n c : Nat) (d : Dk) (w : World) (hd : Dsk w A n c d.fs) (h1 : ¬ segOk from_) :
    Calls Tryz.prog 7 #[dkv A n c d.room d.fuse d.off, .int .i64 from_] w fun e w' => RetRK w A n (d, [], from_, 1) e w' := by
  have HD := Lib.hid hd
  have P := Lib.hid (Sb.new w A n c d.room d.fuse d.off)
  by_cases h2 : from_ < 1
  case' neg => have h3 : 1000000 < from_ := Int.lt_of_not_ge (fun h => h1 ⟨by omega, h⟩)
  all_goals
    clear h1 hd
    go_enter Tryz.func7, Tryz.ntmps7
    go_upto_region 1 with (fail)
    generalize (w.alloc (.cells #[.slice A n c, .int .i64 d.room, .int .i64 d.fuse, .bool d.off] 24)).alloc (.cells #[.slice none 0 0, .int .i64 0, .int .i64 0, .bool false] 24) = W at P ⊢
    obtain ⟨⟨e0, e1, e2, e3⟩, f0, f1, f2', f3⟩ := P.out.get
    have F := Lib.hid (endRK (d := d) (A0 := A) (n0 := n) P.out.q P.out.res (HD.out.q P.out.q) (.inl ⟨rfl, rfl⟩) (ownS_nil _ _) (from_) (1) (.slice A n c) (.int .i64 d.room) (.int .i64 d.fuse) (.bool d.off))
    obtain ⟨⟨s0, s1, s2, s3⟩, h0, h1, h2, h3⟩ := P.out.getR
    go_wp2
    (try rw [Exit.noGoto_ret])
    refine bodyPost_ret (v := .tuple #[dkv A n c d.room d.fuse d.off, .slice none 0 0, .int .i64 (from_), .int .i64 (1)]) (by simp [results, Tryz.results7, go_sem, s0, s1, s2, s3]) rfl ?_
    exact F.out

def Cx2 (w : World) (a b s t : Value) (wx : World) : Prop := s = a ∧ t = b ∧ Q w wx
/-- at the head of a round. -/
def Rr4 (w : World) (A : Option Addr) (n c : Nat) (d : Dk) (from_ : Int) (x : Dk × List (List UInt8) × Int × Int) (s8 s9 s10 : Value) (wr : World) : Prop :=
  ∃ (k last : Int) (rs : List (List UInt8)) (L : Option Addr) (ln lc : Nat), s8 = .slice L ln lc ∧ s9 = .int .i64 last ∧ s10 = .int .i64 k ∧ 1 ≤ k ∧ k ≤ 1000001 ∧ Sb w A n c d.room d.fuse d.off wr ∧
    OwnS wr (w.heap.size + 2) L ln lc rs ∧ ln ≤ (k - 1).toNat * 524288 ∧ recF (fuelOf k) d from_ k rs last = x

set_option maxRecDepth 100000 in
set_option maxHeartbeats 16000000 in
theorem refRec_good (from_ : Int) (A : Option Addr) (n c : Nat) (d : Dk) (w : World) (hd : Dsk w A n c d.fs) (hB : Bnd 2097152 d) (h1 : segOk from_) :
    Calls Tryz.prog 7 #[dkv A n c d.room d.fuse d.off, .int .i64 from_] w fun e w' => RetRK w A n (recM d from_) e w' := by
  have HD := Lib.hid hd
  have HB := Lib.hid hB
  have HM := Lib.hid (mx21 hB)
  have P := Lib.hid (Sb.new w A n c d.room d.fuse d.off)
  have hx : recF (fuelOf from_) d from_ from_ [] from_ = recM d from_ := by unfold recM; rw [if_neg (by simpa using h1)]
  generalize recM d from_ = x at hx ⊢
  have HX := Lib.hid hx
  have r0 := h1.1
  have r1 := h1.2
  have r2 : ¬ from_ < 1 := by omega
  have r3 : ¬ 1000000 < from_ := by omega
  clear hd hB h1 hx
  go_enter Tryz.func7, Tryz.ntmps7
  go_wp2
  generalize (w.alloc (.cells #[.slice A n c, .int .i64 d.room, .int .i64 d.fuse, .bool d.off] 24)).alloc (.cells #[.slice none 0 0, .int .i64 0, .int .i64 0, .bool false] 24) = W at P ⊢
  go_loopw [8, 9, 10] (Rr4 w A n c d from_ x) (fun _ _ s10 _ => (1000002 - intOf s10).toNat)
  case atStart => exact ⟨from_, from_, [], none, 0, 0, rfl, rfl, rfl, by omega, by omega, P.out, ownS_nil _ _, Nat.zero_le _, HX.out⟩
  case round =>
    obtain ⟨k, last, rs, L, ln, lc, rfl, rfl, rfl, hk1, hk2, hv, hol, hrl, hxx⟩ := hrel
    have V := Lib.hid hv
    have OL := Lib.hid hol
    have HXX := Lib.hid hxx
    have HRL := Lib.hid hrl
    clear hv hol hxx hrl P
    generalize wr = W8 at V OL ⊢
    obtain ⟨⟨e0, e1, e2, e3⟩, f0, f1, f2', f3⟩ := V.out.get
    by_cases g1 : k ≤ 1000000
    case neg =>
      have HQ := Lib.hid (show x = (d, rs, last, 0) from HXX.out.symm.trans (recF_end (.inl (fun h => g1 h.2))))
      have F := Lib.hid (endRK (d := d) (A0 := A) (n0 := n) V.out.q V.out.res (HD.out.q V.out.q) (.inl ⟨rfl, rfl⟩) (OL.out) (last) (0) (.slice A n c) (.int .i64 d.room) (.int .i64 d.fuse) (.bool d.off))
      obtain ⟨⟨s0, s1, s2, s3⟩, h0, h1, h2, h3⟩ := V.out.getR
      go_wp2
      (try rw [Exit.noGoto_ret])
      refine bodyPost_ret (v := .tuple #[dkv A n c d.room d.fuse d.off, .slice L ln lc, .int .i64 (last), .int .i64 (0)]) (by simp [results, Tryz.results7, go_sem, s0, s1, s2, s3]) rfl ?_
      rw [HQ.out]
      exact F.out
    have G1 : Hid (segOk k) := Lib.hid ⟨hk1, g1⟩
    have KN := Lib.hid (fun W => refName_any k W (by omega) (by omega))
    have KR := Lib.hid (fun w hf => ref_read (namB k) A n c d.room d.fuse d.off d.fs w hf HD.out.max HM.out)
    have hsz := redd_size (namB k) d.fs HB.out.sum
    have hcs : (redd (namB k) d.fs).2 = 0 ∨ (redd (namB k) d.fs).2 = 7 := by unfold redd; split <;> simp
    obtain ⟨r, hr⟩ : ∃ r, r = redd (namB k) d.fs := ⟨_, rfl⟩
    rw [← hr] at KR hsz hcs
    have HR := Lib.hid hr
    clear hr
    obtain ⟨s, se⟩ := r
    have hsz' : s.size ≤ 2097152 := hsz
    simp only at KR hcs
    clear hsz
    generalize namB k = nmk at KN KR
    go_upto_region 8 with (fail)
    go_cut [11, 12] (fun s11 s12 wx => Cx2 W8 (.string s) (.int .i64 se) s11 s12 wx)
    case first =>
      refine wp_region_held_drew (S := Q W8) (by kernel_rfl) ?szz0 (fun hHeld => ?rzz0)
      case szz0 =>
        exact (Q.refl W8).drew
      case' rzz0 => skip
      generalize hgen : W8.drew = D0 at hHeld ⊢
      clear hgen
      refine wpAnyH_take (i := 0) (oi := ?ozz1) (v := ?vzz1) ?hzz1 ?azz1 ?bzz1 ?czz1 ?qzz1 ?yzz1 ?szz1 ?rzz1
      case hzz1 => simp only [List.getElem?_toArray, List.getElem?_cons_zero]; rfl
      case azz1 => kernel_rfl
      case bzz1 => kernel_rfl
      case czz1 => kernel_rfl
      case yzz1 =>
        refine Or.inl ⟨by rfl, ?_⟩
        intro w hSw
        have x0 := box_ hSw e0; have x1 := box_ hSw e1; have x2 := box_ hSw e2; have x3 := box_ hSw e3; clear hSw
        go_simp
        try with_reducible rfl
      case qzz1 => exact fun _ _ _ h => h
      case szz1 => first | assumption | trivial
      case' rzz1 => simp only [Act.put, List.setIfInBounds_toArray, List.set_cons_zero, List.set_cons_succ]
      refine wpAnyH_take (i := 1) (oi := ?ozz2) (v := ?vzz2) ?hzz2 ?azz2 ?bzz2 ?czz2 ?qzz2 ?yzz2 ?szz2 ?rzz2
      case hzz2 => simp only [List.getElem?_toArray, List.getElem?_cons_zero, List.getElem?_cons_succ]; rfl
      case azz2 => kernel_rfl
      case bzz2 => kernel_rfl
      case czz2 => kernel_rfl
      case yzz2 =>
        refine Or.inl ⟨by rfl, ?_⟩
        intro w hSw
        skip
        go_simp
        try with_reducible rfl
      case qzz2 => exact fun _ _ _ h => h
      case szz2 => first | assumption | trivial
      case' rzz2 => simp only [Act.put, List.setIfInBounds_toArray, List.set_cons_zero, List.set_cons_succ]
      refine wpAnyH_ready (rs := [2]) (by kernel_rfl) (by simp) ?_
      refine AllReadyH.cons (o := ?ozz12) ?hzz12 (fun K hK => ?kzz12) ?mzz12
      case hzz12 => simp only [List.getElem?_toArray, List.getElem?_cons_zero, List.getElem?_cons_succ]; rfl
      case kzz12 =>
        go_simp
        refine (KN.out _).mono ?_
        rintro e v2 ⟨rfl, q2⟩
        go_wp2_with fail
        refine hK.out _ _ ?Szz12 (fun hHeld => ?Rzz12)
        case Szz12 =>
          exact hHeld.trans q2
        case Rzz12 =>
          clear hK K
          try simp only [Act.put, List.setIfInBounds_toArray, List.set_cons_zero, List.set_cons_succ]
          refine wpAnyH_ready (rs := [3]) (by kernel_rfl) (by simp) ?_
          refine AllReadyH.cons (o := ?ozz11) ?hzz11 (fun K hK => ?kzz11) ?mzz11
          case hzz11 => simp only [List.getElem?_toArray, List.getElem?_cons_zero, List.getElem?_cons_succ]; rfl
          case kzz11 =>
            go_simp
            refine (KR.out _ (HD.out.q (V.out.q.trans hHeld)).files).mono ?_
            rintro e v3 ⟨rfl, q3⟩
            go_wp2_with fail
            refine hK.out _ _ ?Szz11 (fun hHeld => ?Rzz11)
            case Szz11 =>
              exact hHeld.trans q3
            case Rzz11 =>
              clear hK K
              try simp only [Act.put, List.setIfInBounds_toArray, List.set_cons_zero, List.set_cons_succ]
              refine wpAnyH_take (i := 4) (oi := ?ozz3) (v := ?vzz3) ?hzz3 ?azz3 ?bzz3 ?czz3 ?qzz3 ?yzz3 ?szz3 ?rzz3
              case hzz3 => simp only [List.getElem?_toArray, List.getElem?_cons_zero, List.getElem?_cons_succ]; rfl
              case azz3 => kernel_rfl
              case bzz3 => kernel_rfl
              case czz3 => kernel_rfl
              case yzz3 =>
                refine Or.inl ⟨by rfl, ?_⟩
                intro w hSw
                skip
                go_simp
                try with_reducible rfl
              case qzz3 => exact fun _ _ _ h => h
              case szz3 => first | assumption | trivial
              case' rzz3 => simp only [Act.put, List.setIfInBounds_toArray, List.set_cons_zero, List.set_cons_succ]
              refine wpAnyH_take (i := 5) (oi := ?ozz4) (v := ?vzz4) ?hzz4 ?azz4 ?bzz4 ?czz4 ?qzz4 ?yzz4 ?szz4 ?rzz4
              case hzz4 => simp only [List.getElem?_toArray, List.getElem?_cons_zero, List.getElem?_cons_succ]; rfl
              case azz4 => kernel_rfl
              case bzz4 => kernel_rfl
              case czz4 => kernel_rfl
              case yzz4 =>
                refine Or.inl ⟨by rfl, ?_⟩
                intro w hSw
                skip
                go_simp
                try with_reducible rfl
              case qzz4 => exact fun _ _ _ h => h
              case szz4 => first | assumption | trivial
              case' rzz4 => simp only [Act.put, List.setIfInBounds_toArray, List.set_cons_zero, List.set_cons_succ]
              refine wpAnyH_ready (rs := [6, 7]) (by kernel_rfl) (by simp) ?_
              refine AllReadyH.cons (o := ?ozz9) ?hzz9 (fun K hK => ?kzz9) ?mzz9
              case hzz9 => simp only [List.getElem?_toArray, List.getElem?_cons_zero, List.getElem?_cons_succ]; rfl
              case kzz9 =>
                go_simp
                refine hK.out _ _ ?Szz9 (fun hHeld => ?Rzz9)
                case Szz9 =>
                  exact hHeld
                case Rzz9 =>
                  clear hK K
                  try simp only [Act.put, List.setIfInBounds_toArray, List.set_cons_zero, List.set_cons_succ]
                  refine wpAnyH_take (i := 7) (oi := ?ozz5) (v := ?vzz5) ?hzz5 ?azz5 ?bzz5 ?czz5 ?qzz5 ?yzz5 ?szz5 ?rzz5
                  case hzz5 => simp only [List.getElem?_toArray, List.getElem?_cons_zero, List.getElem?_cons_succ]; rfl
                  case azz5 => kernel_rfl
                  case bzz5 => kernel_rfl
                  case czz5 => kernel_rfl
                  case yzz5 =>
                    refine Or.inl ⟨by rfl, ?_⟩
                    intro w hSw
                    skip
                    go_simp
                    try with_reducible rfl
                  case qzz5 => exact fun _ _ _ h => h
                  case szz5 => first | assumption | trivial
                  case' rzz5 => simp only [Act.put, List.setIfInBounds_toArray, List.set_cons_zero, List.set_cons_succ]
                  refine wpAnyH_take (i := 8) (oi := ?ozz6) (v := ?vzz6) ?hzz6 ?azz6 ?bzz6 ?czz6 ?qzz6 ?yzz6 ?szz6 ?rzz6
                  case hzz6 => simp only [List.getElem?_toArray, List.getElem?_cons_zero, List.getElem?_cons_succ]; rfl
                  case azz6 => kernel_rfl
                  case bzz6 => kernel_rfl
                  case czz6 => kernel_rfl
                  case yzz6 =>
                    refine Or.inl ⟨by rfl, ?_⟩
                    intro w hSw
                    skip
                    go_simp
                    try with_reducible rfl
                  case qzz6 => exact fun _ _ _ h => h
                  case szz6 => first | assumption | trivial
                  case' rzz6 => simp only [Act.put, List.setIfInBounds_toArray, List.set_cons_zero, List.set_cons_succ]
                  refine wpAnyH_done (by kernel_rfl) ?_ _
                  go_wp2_with fail
                  go_meet
                  exact ⟨rfl, rfl, hHeld⟩
              case' mzz9 => skip
              refine AllReadyH.cons (o := ?ozz10) ?hzz10 (fun K hK => ?kzz10) ?mzz10
              case hzz10 => simp only [List.getElem?_toArray, List.getElem?_cons_zero, List.getElem?_cons_succ]; rfl
              case kzz10 =>
                go_simp
                refine hK.out _ _ ?Szz10 (fun hHeld => ?Rzz10)
                case Szz10 =>
                  exact hHeld
                case Rzz10 =>
                  clear hK K
                  try simp only [Act.put, List.setIfInBounds_toArray, List.set_cons_zero, List.set_cons_succ]
                  refine wpAnyH_take (i := 6) (oi := ?ozz7) (v := ?vzz7) ?hzz7 ?azz7 ?bzz7 ?czz7 ?qzz7 ?yzz7 ?szz7 ?rzz7
                  case hzz7 => simp only [List.getElem?_toArray, List.getElem?_cons_zero, List.getElem?_cons_succ]; rfl
                  case azz7 => kernel_rfl
                  case bzz7 => kernel_rfl
                  case czz7 => kernel_rfl
                  case yzz7 =>
                    refine Or.inl ⟨by rfl, ?_⟩
                    intro w hSw
                    skip
                    go_simp
                    try with_reducible rfl
                  case qzz7 => exact fun _ _ _ h => h
                  case szz7 => first | assumption | trivial
                  case' rzz7 => simp only [Act.put, List.setIfInBounds_toArray, List.set_cons_zero, List.set_cons_succ]
                  refine wpAnyH_take (i := 8) (oi := ?ozz8) (v := ?vzz8) ?hzz8 ?azz8 ?bzz8 ?czz8 ?qzz8 ?yzz8 ?szz8 ?rzz8
                  case hzz8 => simp only [List.getElem?_toArray, List.getElem?_cons_zero, List.getElem?_cons_succ]; rfl
                  case azz8 => kernel_rfl
                  case bzz8 => kernel_rfl
                  case czz8 => kernel_rfl
                  case yzz8 =>
                    refine Or.inl ⟨by rfl, ?_⟩
                    intro w hSw
                    skip
                    go_simp
                    try with_reducible rfl
                  case qzz8 => exact fun _ _ _ h => h
                  case szz8 => first | assumption | trivial
                  case' rzz8 => simp only [Act.put, List.setIfInBounds_toArray, List.set_cons_zero, List.set_cons_succ]
                  refine wpAnyH_done (by kernel_rfl) ?_ _
                  go_wp2_with fail
                  go_meet
                  exact ⟨rfl, rfl, hHeld⟩
              case' mzz10 => skip
              exact AllReadyH.nil
          case' mzz11 => skip
          exact AllReadyH.nil
      case' mzz12 => skip
      exact AllReadyH.nil
    case rest =>
    obtain ⟨rfl, rfl, q9⟩ := hcut
    generalize wc = W9 at q9 ⊢
    have U0 := Lib.hid (V.out.step q9)
    have UL0 := Lib.hid (OL.out.q q9)
    clear e0 e1 e2 e3 f0 f1 f2' f3 V OL KN KR q9
    rcases hcs with he | he
    case inr =>
      subst he
      have HQ := Lib.hid (show x = (d, rs, last, 0) from HXX.out.symm.trans (recF_end (.inr (by rw [← HR.out]; simp))))
      obtain ⟨⟨e0, e1, e2, e3⟩, f0, f1, f2', f3⟩ := U0.out.get
      have F := Lib.hid (endRK (d := d) (A0 := A) (n0 := n) U0.out.q U0.out.res (HD.out.q U0.out.q) (.inl ⟨rfl, rfl⟩) (UL0.out) (last) (0) (.slice A n c) (.int .i64 d.room) (.int .i64 d.fuse) (.bool d.off))
      obtain ⟨⟨s0, s1, s2, s3⟩, h0, h1, h2, h3⟩ := U0.out.getR
      go_wp2
      (try rw [Exit.noGoto_ret])
      refine bodyPost_ret (v := .tuple #[dkv A n c d.room d.fuse d.off, .slice L ln lc, .int .i64 (last), .int .i64 (0)]) (by simp [results, Tryz.results7, go_sem, s0, s1, s2, s3]) rfl ?_
      rw [HQ.out]
      exact F.out
    subst he
    have hsl := scn_len s.data.toList
    rw [size_list] at hsl
    have KSC := Lib.hid (fun w => refScan_any s w (by unfold maxLen; omega) (by omega))
    have hus := used_le s.data.toList
    rw [size_list] at hus
    have hrest : (scn s.data.toList).2 = [] ↔ used s.data.toList = s.size := by
      have h1 := congrArg List.length (scd s.data.toList).eq
      rw [List.length_append, size_list, ← used_flat] at h1
      rw [← List.length_eq_zero_iff]; omega
    have htk := take_used s.data.toList
    have HRS := Lib.hid hrest
    have HTK := Lib.hid htk
    obtain ⟨ms, hms⟩ : ∃ ms, ms = (scn s.data.toList).1 := ⟨_, rfl⟩
    obtain ⟨us, hus2⟩ : ∃ us, us = used s.data.toList := ⟨_, rfl⟩
    rw [← hms, ← hus2] at KSC
    rw [← hms] at hsl
    rw [← hus2] at hus
    have HMS := Lib.hid (And.intro hms hus2)
    clear hrest htk hms hus2
    have HSL := Lib.hid hsl
    clear hsl
    go_wp2_with fail
    refine (KSC.out _).mono ?_
    rintro e w6 ⟨M, mn, mc, rfl, hm, q6⟩
    have hmn : ms.length = mn := hm.len
    subst hmn
    have U := Lib.hid (U0.out.step q6)
    have UL := Lib.hid (UL0.out.q q6)
    have hmb : w.heap.size + 2 ≤ W9.heap.size := by have := U0.out.res.lt; omega
    have OM := Lib.hid (hm.lower hmb)
    clear hmb
    have hMn := Lib.hid hm.nil
    clear q6 hm U0 UL0
    have hbw : w.heap.size + 2 ≤ w6.heap.size := by have := U.out.res.lt; omega
    have HB16 := Lib.hid (show (ln + ms.length) * 16 ≤ 140737488355328 by have h1 := HRL.out; have h2 := HSL.out; omega)
    by_cases gn : us = s.size
    · have hz : (scn s.data.toList).2 = [] := HRS.out.2 (by rw [← HMS.out.2]; exact gn)
      have HX2 := Lib.hid ((recF_more G1.out HR.out.symm hz).symm.trans HXX.out)
      have i1 : ¬ us < s.size := by omega
      clear hz gn
      go_wp2_with (at_builtin
                   refine wpl_appSS rfl (.tmp 49) (.tmp 50) rfl (w.heap.size + 2) L ln lc rs rfl UL.out M ms.length mc ms rfl OM.out.strs hMn.out HB16.out hbw ?_
                   intro L2 lc2 w7 ho7 hg7 hb7)
      have V2 := Lib.hid (U.out.grown UL.out hg7 hb7)
      clear U UL
      go_roundw
      case rel =>
        refine ⟨k + 1, k, rs ++ ms, L2, ln + ms.length, lc2, rfl, rfl, by first | rfl | go_num, by omega, by omega, V2.out, ho7, ?_, ?_⟩
        · have h1 := HRL.out; have h2 := HSL.out; omega
        · rw [HMS.out.1]; exact HX2.out
      case measure => simp [intOf]; omega
    · have hz : (scn s.data.toList).2 ≠ [] := fun h => gn (by rw [HMS.out.2]; exact HRS.out.1 h)
      have hex : s.extract 0 us = ⟨(flat (scn s.data.toList).1).toArray⟩ := by
        rw [extract_list, HMS.out.2, HTK.out]; simp
      have hes : (s.extract 0 us).size ≤ 2305843009213693952 := by rw [ByteArray.size_extract]; omega
      have KC := Lib.hid (fun A n c w hd => refCut_any k (s.extract 0 us) A n c d w hd (HB.out.more (by omega)) hes G1.out)
      obtain ⟨y, hy⟩ : ∃ y, y = cutM d k (s.extract 0 us) := ⟨_, rfl⟩
      have HX2 := Lib.hid ((recF_cut G1.out HR.out.symm hz (y := y) (by rw [hy, hex])).symm.trans HXX.out)
      rw [← hy] at KC
      rw [← HMS.out.1] at HX2
      have i1 : us < s.size := by omega
      clear hz hex hes hy gn
      obtain ⟨yd, ye⟩ := y
      simp only at KC HX2
      go_upto_region 15 with (at_builtin
                              refine wpl_appSS rfl (.tmp 49) (.tmp 50) rfl (w.heap.size + 2) L ln lc rs rfl UL.out M ms.length mc ms rfl OM.out.strs hMn.out HB16.out hbw ?_
                              intro L2 lc2 w7 ho7 hg7 hb7)
      have V2 := Lib.hid (U.out.grown UL.out hg7 hb7)
      have OL2 := Lib.hid ho7
      clear U UL hg7 hb7 ho7 HB16 OM hMn
      generalize w7 = W15 at V2 OL2 ⊢
      obtain ⟨⟨e0, e1, e2, e3⟩, f0, f1, f2', f3⟩ := V2.out.get
      go_cut [15, 16] (fun s15 s16 wx => Cb W15 A n yd ye s15 s16 wx)
      case first =>
        refine wp_region_heldL 10 (Q W15) (by kernel_rfl) ?szz13 (fun hHeld => ?rzz13)
        case szz13 =>
          exact (Q.refl W15).drew
        case' rzz13 => skip
        generalize hgen : W15.drew = D0 at hHeld ⊢
        clear hgen
        refine wpAnyL_take (i := 0) (oi := ?ozz14) (v := ?vzz14) ?hzz14 ?azz14 ?bzz14 ?czz14 ?kzz14 ?qzz14 ?yzz14 ?szz14 ?rzz14
        case hzz14 => simp only [List.getElem?_toArray, List.getElem?_cons_zero]; rfl
        case azz14 => kernel_rfl
        case bzz14 => kernel_rfl
        case czz14 => kernel_rfl
        case kzz14 => kernel_rfl
        case yzz14 =>
          refine Or.inl ⟨by rfl, ?_⟩
          intro w hSw
          have x0 := box_ hSw e0; have x1 := box_ hSw e1; have x2 := box_ hSw e2; have x3 := box_ hSw e3; clear hSw
          go_simp
          try with_reducible rfl
        case qzz14 => exact fun _ _ _ h => h
        case szz14 => first | assumption | trivial
        case' rzz14 => simp only [Act.put, List.setIfInBounds_toArray, List.set_cons_zero, List.set_cons_succ]
        refine wpAnyL_take (i := 1) (oi := ?ozz15) (v := ?vzz15) ?hzz15 ?azz15 ?bzz15 ?czz15 ?kzz15 ?qzz15 ?yzz15 ?szz15 ?rzz15
        case hzz15 => simp only [List.getElem?_toArray, List.getElem?_cons_zero, List.getElem?_cons_succ]; rfl
        case azz15 => kernel_rfl
        case bzz15 => kernel_rfl
        case czz15 => kernel_rfl
        case kzz15 => kernel_rfl
        case yzz15 =>
          refine Or.inl ⟨by rfl, ?_⟩
          intro w hSw
          skip
          go_simp
          try with_reducible rfl
        case qzz15 => exact fun _ _ _ h => h
        case szz15 => first | assumption | trivial
        case' rzz15 => simp only [Act.put, List.setIfInBounds_toArray, List.set_cons_zero, List.set_cons_succ]
        refine wpAnyL_take (i := 2) (oi := ?ozz16) (v := ?vzz16) ?hzz16 ?azz16 ?bzz16 ?czz16 ?kzz16 ?qzz16 ?yzz16 ?szz16 ?rzz16
        case hzz16 => simp only [List.getElem?_toArray, List.getElem?_cons_zero, List.getElem?_cons_succ]; rfl
        case azz16 => kernel_rfl
        case bzz16 => kernel_rfl
        case czz16 => kernel_rfl
        case kzz16 => kernel_rfl
        case yzz16 =>
          refine Or.inl ⟨by rfl, ?_⟩
          intro w hSw
          skip
          go_simp
          try with_reducible rfl
        case qzz16 => exact fun _ _ _ h => h
        case szz16 => first | assumption | trivial
        case' rzz16 => simp only [Act.put, List.setIfInBounds_toArray, List.set_cons_zero, List.set_cons_succ]
        refine wpAnyL_take (i := 3) (oi := ?ozz17) (v := ?vzz17) ?hzz17 ?azz17 ?bzz17 ?czz17 ?kzz17 ?qzz17 ?yzz17 ?szz17 ?rzz17
        case hzz17 => simp only [List.getElem?_toArray, List.getElem?_cons_zero, List.getElem?_cons_succ]; rfl
        case azz17 => kernel_rfl
        case bzz17 => kernel_rfl
        case czz17 => kernel_rfl
        case kzz17 => kernel_rfl
        case yzz17 =>
          refine Or.inl ⟨by rfl, ?_⟩
          intro w hSw
          skip
          go_simp
          try with_reducible rfl
        case qzz17 => exact fun _ _ _ h => h
        case szz17 => first | assumption | trivial
        case' rzz17 => simp only [Act.put, List.setIfInBounds_toArray, List.set_cons_zero, List.set_cons_succ]
        refine wpAnyL_take (i := 4) (oi := ?ozz18) (v := ?vzz18) ?hzz18 ?azz18 ?bzz18 ?czz18 ?kzz18 ?qzz18 ?yzz18 ?szz18 ?rzz18
        case hzz18 => simp only [List.getElem?_toArray, List.getElem?_cons_zero, List.getElem?_cons_succ]; rfl
        case azz18 => kernel_rfl
        case bzz18 => kernel_rfl
        case czz18 => kernel_rfl
        case kzz18 => kernel_rfl
        case yzz18 =>
          refine Or.inl ⟨by rfl, ?_⟩
          intro w hSw
          skip
          go_simp
          try with_reducible rfl
        case qzz18 => exact fun _ _ _ h => h
        case szz18 => first | assumption | trivial
        case' rzz18 => simp only [Act.put, List.setIfInBounds_toArray, List.set_cons_zero, List.set_cons_succ]
        refine wpAnyL_ready (rs := [5, 9]) (by kernel_rfl) (by simp) ?_
        refine AllReadyL.cons (o := ?ozz41) ?hzz41 (fun K hK => ?kzz41) ?mzz41
        case hzz41 => simp only [List.getElem?_toArray, List.getElem?_cons_zero, List.getElem?_cons_succ]; rfl
        case kzz41 =>
          go_simp
          refine (KC.out _ _ _ _ (HD.out.q (V2.out.q.trans hHeld))).mono ?_
          rintro e v3 ⟨A3, n3, c3, rfl, hd3, hf3, q3⟩
          have HO := Lib.hid (And.intro hd3 (hf3.imp id (fun h ad e => Nat.le_trans hHeld.size (h ad e))))
          clear hd3 hf3
          go_wp2_with fail
          refine hK.out _ _ ?Szz41 (fun hHeld => ?Rzz41)
          case Szz41 =>
            exact hHeld.trans q3
          case Rzz41 =>
            clear hK K
            try simp only [Act.put, List.setIfInBounds_toArray, List.set_cons_zero, List.set_cons_succ]
            refine wpAnyL_take (i := 6) (oi := ?ozz19) (v := ?vzz19) ?hzz19 ?azz19 ?bzz19 ?czz19 ?kzz19 ?qzz19 ?yzz19 ?szz19 ?rzz19
            case hzz19 => simp only [List.getElem?_toArray, List.getElem?_cons_zero, List.getElem?_cons_succ]; rfl
            case azz19 => kernel_rfl
            case bzz19 => kernel_rfl
            case czz19 => kernel_rfl
            case kzz19 => kernel_rfl
            case yzz19 =>
              refine Or.inl ⟨by rfl, ?_⟩
              intro w hSw
              skip
              go_simp
              try with_reducible rfl
            case qzz19 => exact fun _ _ _ h => h
            case szz19 => first | assumption | trivial
            case' rzz19 => simp only [Act.put, List.setIfInBounds_toArray, List.set_cons_zero, List.set_cons_succ]
            refine wpAnyL_take (i := 7) (oi := ?ozz20) (v := ?vzz20) ?hzz20 ?azz20 ?bzz20 ?czz20 ?kzz20 ?qzz20 ?yzz20 ?szz20 ?rzz20
            case hzz20 => simp only [List.getElem?_toArray, List.getElem?_cons_zero, List.getElem?_cons_succ]; rfl
            case azz20 => kernel_rfl
            case bzz20 => kernel_rfl
            case czz20 => kernel_rfl
            case kzz20 => kernel_rfl
            case yzz20 =>
              refine Or.inl ⟨by rfl, ?_⟩
              intro w hSw
              skip
              go_simp
              try with_reducible rfl
            case qzz20 => exact fun _ _ _ h => h
            case szz20 => first | assumption | trivial
            case' rzz20 => simp only [Act.put, List.setIfInBounds_toArray, List.set_cons_zero, List.set_cons_succ]
            refine wpAnyL_ready (rs := [8, 9]) (by kernel_rfl) (by simp) ?_
            refine AllReadyL.cons (o := ?ozz30) ?hzz30 (fun K hK => ?kzz30) ?mzz30
            case hzz30 => simp only [List.getElem?_toArray, List.getElem?_cons_zero, List.getElem?_cons_succ]; rfl
            case kzz30 =>
              go_simp
              refine hK.out _ _ ?Szz30 (fun hHeld => ?Rzz30)
              case Szz30 =>
                exact hHeld
              case Rzz30 =>
                clear hK K
                try simp only [Act.put, List.setIfInBounds_toArray, List.set_cons_zero, List.set_cons_succ]
                refine wpAnyL_ready (rs := [9]) (by kernel_rfl) (by simp) ?_
                refine AllReadyL.cons (o := ?ozz23) ?hzz23 (fun K hK => ?kzz23) ?mzz23
                case hzz23 => simp only [List.getElem?_toArray, List.getElem?_cons_zero, List.getElem?_cons_succ]; rfl
                case kzz23 =>
                  go_simp
                  have BX := Lib.hid (Bx.new v3 [.slice none 0 0, .int .i64 0, .int .i64 0, .bool false] 24)
                  have hnb : W15.heap.size ≤ v3.heap.size := hHeld.size
                  have qa := (Q.refl v3).alloc (.cells #[.slice none 0 0, .int .i64 0, .int .i64 0, .bool false] 24)
                  have BX : Hid (Bx (v3.alloc (.cells #[.slice none 0 0, .int .i64 0, .int .i64 0, .bool false] 24)) v3.heap.size [.slice none 0 0, .int .i64 0, .int .i64 0, .bool false]) := Lib.hid BX.out
                  generalize v3.alloc (.cells #[.slice none 0 0, .int .i64 0, .int .i64 0, .bool false] 24) = Y0 at BX qa ⊢
                  generalize v3.heap.size = nb at BX hnb ⊢
                  refine hK.out _ _ ?Szz23 (fun hHeld => ?Rzz23)
                  case Szz23 =>
                    exact hHeld.trans qa
                  case Rzz23 =>
                    clear hK K
                    try simp only [Act.put, List.setIfInBounds_toArray, List.set_cons_zero, List.set_cons_succ]
                    refine wpAnyL_ready (rs := [10]) (by kernel_rfl) (by simp) ?_
                    refine AllReadyL.consK (o := ?ozz22) ?hzz22 ?lzz22 (fun K hK => ?kzz22) ?mzz22
                    case hzz22 => simp only [List.getElem?_toArray, List.getElem?_cons_zero, List.getElem?_cons_succ]; rfl
                    case lzz22 => kernel_rfl
                    case kzz22 =>
                      have HZ := Lib.hid hHeld
                      obtain ⟨⟨b0, b1, b2, b3⟩, g0, g1, g2, g3⟩ := BX.out.get4
                      have HC := Lib.hid (Cb.mk (A0 := A) (n0 := n) (r := yd) (er := ye) HZ.out (HO.out.1.q (by first | exact Q.refl _ | exact qa)) HO.out.2 BX.out hnb)
                      go_simp
                      refine hK.out _ _ ?Rzz22
                      case Rzz22 =>
                        clear hK K
                        try simp only [Act.put, List.setIfInBounds_toArray, List.set_cons_zero, List.set_cons_succ]
                        refine wpAnyH_take (i := 11) (oi := ?ozz21) (v := ?vzz21) ?hzz21 ?azz21 ?bzz21 ?czz21 ?qzz21 ?yzz21 ?szz21 ?rzz21
                        case hzz21 => simp only [List.getElem?_toArray, List.getElem?_cons_zero, List.getElem?_cons_succ]; rfl
                        case azz21 => kernel_rfl
                        case bzz21 => kernel_rfl
                        case czz21 => kernel_rfl
                        case yzz21 =>
                          refine Or.inl ⟨by rfl, ?_⟩
                          intro w hSw
                          skip
                          go_simp
                          try with_reducible rfl
                        case qzz21 => exact fun _ _ _ h => h
                        case szz21 => first | assumption | trivial
                        case' rzz21 => simp only [Act.put, List.setIfInBounds_toArray, List.set_cons_zero, List.set_cons_succ]
                        refine wpAnyH_done (by kernel_rfl) ?_ _
                        go_wp2_with fail
                        go_meet
                        exact HC.out
                    case' mzz22 => skip
                    exact AllReadyL.nil
                case' mzz23 => skip
                exact AllReadyL.nil
            case' mzz30 => skip
            refine AllReadyL.cons (o := ?ozz31) ?hzz31 (fun K hK => ?kzz31) ?mzz31
            case hzz31 => simp only [List.getElem?_toArray, List.getElem?_cons_zero, List.getElem?_cons_succ]; rfl
            case kzz31 =>
              go_simp
              have BX := Lib.hid (Bx.new v3 [.slice none 0 0, .int .i64 0, .int .i64 0, .bool false] 24)
              have hnb : W15.heap.size ≤ v3.heap.size := hHeld.size
              have qa := (Q.refl v3).alloc (.cells #[.slice none 0 0, .int .i64 0, .int .i64 0, .bool false] 24)
              have BX : Hid (Bx (v3.alloc (.cells #[.slice none 0 0, .int .i64 0, .int .i64 0, .bool false] 24)) v3.heap.size [.slice none 0 0, .int .i64 0, .int .i64 0, .bool false]) := Lib.hid BX.out
              generalize v3.alloc (.cells #[.slice none 0 0, .int .i64 0, .int .i64 0, .bool false] 24) = Y1 at BX qa ⊢
              generalize v3.heap.size = nb at BX hnb ⊢
              refine hK.out _ _ ?Szz31 (fun hHeld => ?Rzz31)
              case Szz31 =>
                exact hHeld.trans qa
              case Rzz31 =>
                clear hK K
                try simp only [Act.put, List.setIfInBounds_toArray, List.set_cons_zero, List.set_cons_succ]
                refine wpAnyL_ready (rs := [8, 10]) (by kernel_rfl) (by simp) ?_
                refine AllReadyL.cons (o := ?ozz28) ?hzz28 (fun K hK => ?kzz28) ?mzz28
                case hzz28 => simp only [List.getElem?_toArray, List.getElem?_cons_zero, List.getElem?_cons_succ]; rfl
                case kzz28 =>
                  go_simp
                  refine hK.out _ _ ?Szz28 (fun hHeld => ?Rzz28)
                  case Szz28 =>
                    exact hHeld
                  case Rzz28 =>
                    clear hK K
                    try simp only [Act.put, List.setIfInBounds_toArray, List.set_cons_zero, List.set_cons_succ]
                    refine wpAnyL_ready (rs := [10]) (by kernel_rfl) (by simp) ?_
                    refine AllReadyL.consK (o := ?ozz25) ?hzz25 ?lzz25 (fun K hK => ?kzz25) ?mzz25
                    case hzz25 => simp only [List.getElem?_toArray, List.getElem?_cons_zero, List.getElem?_cons_succ]; rfl
                    case lzz25 => kernel_rfl
                    case kzz25 =>
                      have HZ := Lib.hid hHeld
                      obtain ⟨⟨b0, b1, b2, b3⟩, g0, g1, g2, g3⟩ := BX.out.get4
                      have HC := Lib.hid (Cb.mk (A0 := A) (n0 := n) (r := yd) (er := ye) HZ.out (HO.out.1.q (by first | exact Q.refl _ | exact qa)) HO.out.2 BX.out hnb)
                      go_simp
                      refine hK.out _ _ ?Rzz25
                      case Rzz25 =>
                        clear hK K
                        try simp only [Act.put, List.setIfInBounds_toArray, List.set_cons_zero, List.set_cons_succ]
                        refine wpAnyH_take (i := 11) (oi := ?ozz24) (v := ?vzz24) ?hzz24 ?azz24 ?bzz24 ?czz24 ?qzz24 ?yzz24 ?szz24 ?rzz24
                        case hzz24 => simp only [List.getElem?_toArray, List.getElem?_cons_zero, List.getElem?_cons_succ]; rfl
                        case azz24 => kernel_rfl
                        case bzz24 => kernel_rfl
                        case czz24 => kernel_rfl
                        case yzz24 =>
                          refine Or.inl ⟨by rfl, ?_⟩
                          intro w hSw
                          skip
                          go_simp
                          try with_reducible rfl
                        case qzz24 => exact fun _ _ _ h => h
                        case szz24 => first | assumption | trivial
                        case' rzz24 => simp only [Act.put, List.setIfInBounds_toArray, List.set_cons_zero, List.set_cons_succ]
                        refine wpAnyH_done (by kernel_rfl) ?_ _
                        go_wp2_with fail
                        go_meet
                        exact HC.out
                    case' mzz25 => skip
                    exact AllReadyL.nil
                case' mzz28 => skip
                refine AllReadyL.consK (o := ?ozz29) ?hzz29 ?lzz29 (fun K hK => ?kzz29) ?mzz29
                case hzz29 => simp only [List.getElem?_toArray, List.getElem?_cons_zero, List.getElem?_cons_succ]; rfl
                case lzz29 => kernel_rfl
                case kzz29 =>
                  have HZ := Lib.hid hHeld
                  obtain ⟨⟨b0, b1, b2, b3⟩, g0, g1, g2, g3⟩ := BX.out.get4
                  have HC := Lib.hid (Cb.mk (A0 := A) (n0 := n) (r := yd) (er := ye) HZ.out (HO.out.1.q (by first | exact Q.refl _ | exact qa)) HO.out.2 BX.out hnb)
                  go_simp
                  refine hK.out _ _ ?Rzz29
                  case Rzz29 =>
                    clear hK K
                    try simp only [Act.put, List.setIfInBounds_toArray, List.set_cons_zero, List.set_cons_succ]
                    refine wpAnyH_take (i := 8) (oi := ?ozz26) (v := ?vzz26) ?hzz26 ?azz26 ?bzz26 ?czz26 ?qzz26 ?yzz26 ?szz26 ?rzz26
                    case hzz26 => simp only [List.getElem?_toArray, List.getElem?_cons_zero, List.getElem?_cons_succ]; rfl
                    case azz26 => kernel_rfl
                    case bzz26 => kernel_rfl
                    case czz26 => kernel_rfl
                    case yzz26 =>
                      refine Or.inl ⟨by rfl, ?_⟩
                      intro w hSw
                      skip
                      go_simp
                      try with_reducible rfl
                    case qzz26 => exact fun _ _ _ h => h
                    case szz26 => first | assumption | trivial
                    case' rzz26 => simp only [Act.put, List.setIfInBounds_toArray, List.set_cons_zero, List.set_cons_succ]
                    refine wpAnyH_take (i := 11) (oi := ?ozz27) (v := ?vzz27) ?hzz27 ?azz27 ?bzz27 ?czz27 ?qzz27 ?yzz27 ?szz27 ?rzz27
                    case hzz27 => simp only [List.getElem?_toArray, List.getElem?_cons_zero, List.getElem?_cons_succ]; rfl
                    case azz27 => kernel_rfl
                    case bzz27 => kernel_rfl
                    case czz27 => kernel_rfl
                    case yzz27 =>
                      refine Or.inl ⟨by rfl, ?_⟩
                      intro w hSw
                      skip
                      go_simp
                      try with_reducible rfl
                    case qzz27 => exact fun _ _ _ h => h
                    case szz27 => first | assumption | trivial
                    case' rzz27 => simp only [Act.put, List.setIfInBounds_toArray, List.set_cons_zero, List.set_cons_succ]
                    refine wpAnyH_done (by kernel_rfl) ?_ _
                    go_wp2_with fail
                    go_meet
                    exact HC.out
                case' mzz29 => skip
                exact AllReadyL.nil
            case' mzz31 => skip
            exact AllReadyL.nil
        case' mzz41 => skip
        refine AllReadyL.cons (o := ?ozz42) ?hzz42 (fun K hK => ?kzz42) ?mzz42
        case hzz42 => simp only [List.getElem?_toArray, List.getElem?_cons_zero, List.getElem?_cons_succ]; rfl
        case kzz42 =>
          go_simp
          have BX := Lib.hid (Bx.new D0 [.slice none 0 0, .int .i64 0, .int .i64 0, .bool false] 24)
          have hnb : W15.heap.size ≤ D0.heap.size := hHeld.size
          have qa := (Q.refl D0).alloc (.cells #[.slice none 0 0, .int .i64 0, .int .i64 0, .bool false] 24)
          have BX : Hid (Bx (D0.alloc (.cells #[.slice none 0 0, .int .i64 0, .int .i64 0, .bool false] 24)) D0.heap.size [.slice none 0 0, .int .i64 0, .int .i64 0, .bool false]) := Lib.hid BX.out
          generalize D0.alloc (.cells #[.slice none 0 0, .int .i64 0, .int .i64 0, .bool false] 24) = Y2 at BX qa ⊢
          generalize D0.heap.size = nb at BX hnb ⊢
          refine hK.out _ _ ?Szz42 (fun hHeld => ?Rzz42)
          case Szz42 =>
            exact hHeld.trans qa
          case Rzz42 =>
            clear hK K
            try simp only [Act.put, List.setIfInBounds_toArray, List.set_cons_zero, List.set_cons_succ]
            refine wpAnyL_ready (rs := [5]) (by kernel_rfl) (by simp) ?_
            refine AllReadyL.cons (o := ?ozz40) ?hzz40 (fun K hK => ?kzz40) ?mzz40
            case hzz40 => simp only [List.getElem?_toArray, List.getElem?_cons_zero, List.getElem?_cons_succ]; rfl
            case kzz40 =>
              go_simp
              refine (KC.out _ _ _ _ (HD.out.q (V2.out.q.trans hHeld))).mono ?_
              rintro e v3 ⟨A3, n3, c3, rfl, hd3, hf3, q3⟩
              have HO := Lib.hid (And.intro hd3 (hf3.imp id (fun h ad e => Nat.le_trans hHeld.size (h ad e))))
              clear hd3 hf3
              have BX := Lib.hid (BX.out.q q3)
              go_wp2_with fail
              refine hK.out _ _ ?Szz40 (fun hHeld => ?Rzz40)
              case Szz40 =>
                exact hHeld.trans q3
              case Rzz40 =>
                clear hK K
                try simp only [Act.put, List.setIfInBounds_toArray, List.set_cons_zero, List.set_cons_succ]
                refine wpAnyL_take (i := 6) (oi := ?ozz32) (v := ?vzz32) ?hzz32 ?azz32 ?bzz32 ?czz32 ?kzz32 ?qzz32 ?yzz32 ?szz32 ?rzz32
                case hzz32 => simp only [List.getElem?_toArray, List.getElem?_cons_zero, List.getElem?_cons_succ]; rfl
                case azz32 => kernel_rfl
                case bzz32 => kernel_rfl
                case czz32 => kernel_rfl
                case kzz32 => kernel_rfl
                case yzz32 =>
                  refine Or.inl ⟨by rfl, ?_⟩
                  intro w hSw
                  skip
                  go_simp
                  try with_reducible rfl
                case qzz32 => exact fun _ _ _ h => h
                case szz32 => first | assumption | trivial
                case' rzz32 => simp only [Act.put, List.setIfInBounds_toArray, List.set_cons_zero, List.set_cons_succ]
                refine wpAnyL_take (i := 7) (oi := ?ozz33) (v := ?vzz33) ?hzz33 ?azz33 ?bzz33 ?czz33 ?kzz33 ?qzz33 ?yzz33 ?szz33 ?rzz33
                case hzz33 => simp only [List.getElem?_toArray, List.getElem?_cons_zero, List.getElem?_cons_succ]; rfl
                case azz33 => kernel_rfl
                case bzz33 => kernel_rfl
                case czz33 => kernel_rfl
                case kzz33 => kernel_rfl
                case yzz33 =>
                  refine Or.inl ⟨by rfl, ?_⟩
                  intro w hSw
                  skip
                  go_simp
                  try with_reducible rfl
                case qzz33 => exact fun _ _ _ h => h
                case szz33 => first | assumption | trivial
                case' rzz33 => simp only [Act.put, List.setIfInBounds_toArray, List.set_cons_zero, List.set_cons_succ]
                refine wpAnyL_ready (rs := [8, 10]) (by kernel_rfl) (by simp) ?_
                refine AllReadyL.cons (o := ?ozz38) ?hzz38 (fun K hK => ?kzz38) ?mzz38
                case hzz38 => simp only [List.getElem?_toArray, List.getElem?_cons_zero, List.getElem?_cons_succ]; rfl
                case kzz38 =>
                  go_simp
                  refine hK.out _ _ ?Szz38 (fun hHeld => ?Rzz38)
                  case Szz38 =>
                    exact hHeld
                  case Rzz38 =>
                    clear hK K
                    try simp only [Act.put, List.setIfInBounds_toArray, List.set_cons_zero, List.set_cons_succ]
                    refine wpAnyL_ready (rs := [10]) (by kernel_rfl) (by simp) ?_
                    refine AllReadyL.consK (o := ?ozz35) ?hzz35 ?lzz35 (fun K hK => ?kzz35) ?mzz35
                    case hzz35 => simp only [List.getElem?_toArray, List.getElem?_cons_zero, List.getElem?_cons_succ]; rfl
                    case lzz35 => kernel_rfl
                    case kzz35 =>
                      have HZ := Lib.hid hHeld
                      obtain ⟨⟨b0, b1, b2, b3⟩, g0, g1, g2, g3⟩ := BX.out.get4
                      have HC := Lib.hid (Cb.mk (A0 := A) (n0 := n) (r := yd) (er := ye) HZ.out (HO.out.1.q (by first | exact Q.refl _ | exact qa)) HO.out.2 BX.out hnb)
                      go_simp
                      refine hK.out _ _ ?Rzz35
                      case Rzz35 =>
                        clear hK K
                        try simp only [Act.put, List.setIfInBounds_toArray, List.set_cons_zero, List.set_cons_succ]
                        refine wpAnyH_take (i := 11) (oi := ?ozz34) (v := ?vzz34) ?hzz34 ?azz34 ?bzz34 ?czz34 ?qzz34 ?yzz34 ?szz34 ?rzz34
                        case hzz34 => simp only [List.getElem?_toArray, List.getElem?_cons_zero, List.getElem?_cons_succ]; rfl
                        case azz34 => kernel_rfl
                        case bzz34 => kernel_rfl
                        case czz34 => kernel_rfl
                        case yzz34 =>
                          refine Or.inl ⟨by rfl, ?_⟩
                          intro w hSw
                          skip
                          go_simp
                          try with_reducible rfl
                        case qzz34 => exact fun _ _ _ h => h
                        case szz34 => first | assumption | trivial
                        case' rzz34 => simp only [Act.put, List.setIfInBounds_toArray, List.set_cons_zero, List.set_cons_succ]
                        refine wpAnyH_done (by kernel_rfl) ?_ _
                        go_wp2_with fail
                        go_meet
                        exact HC.out
                    case' mzz35 => skip
                    exact AllReadyL.nil
                case' mzz38 => skip
                refine AllReadyL.consK (o := ?ozz39) ?hzz39 ?lzz39 (fun K hK => ?kzz39) ?mzz39
                case hzz39 => simp only [List.getElem?_toArray, List.getElem?_cons_zero, List.getElem?_cons_succ]; rfl
                case lzz39 => kernel_rfl
                case kzz39 =>
                  have HZ := Lib.hid hHeld
                  obtain ⟨⟨b0, b1, b2, b3⟩, g0, g1, g2, g3⟩ := BX.out.get4
                  have HC := Lib.hid (Cb.mk (A0 := A) (n0 := n) (r := yd) (er := ye) HZ.out (HO.out.1.q (by first | exact Q.refl _ | exact qa)) HO.out.2 BX.out hnb)
                  go_simp
                  refine hK.out _ _ ?Rzz39
                  case Rzz39 =>
                    clear hK K
                    try simp only [Act.put, List.setIfInBounds_toArray, List.set_cons_zero, List.set_cons_succ]
                    refine wpAnyH_take (i := 8) (oi := ?ozz36) (v := ?vzz36) ?hzz36 ?azz36 ?bzz36 ?czz36 ?qzz36 ?yzz36 ?szz36 ?rzz36
                    case hzz36 => simp only [List.getElem?_toArray, List.getElem?_cons_zero, List.getElem?_cons_succ]; rfl
                    case azz36 => kernel_rfl
                    case bzz36 => kernel_rfl
                    case czz36 => kernel_rfl
                    case yzz36 =>
                      refine Or.inl ⟨by rfl, ?_⟩
                      intro w hSw
                      skip
                      go_simp
                      try with_reducible rfl
                    case qzz36 => exact fun _ _ _ h => h
                    case szz36 => first | assumption | trivial
                    case' rzz36 => simp only [Act.put, List.setIfInBounds_toArray, List.set_cons_zero, List.set_cons_succ]
                    refine wpAnyH_take (i := 11) (oi := ?ozz37) (v := ?vzz37) ?hzz37 ?azz37 ?bzz37 ?czz37 ?qzz37 ?yzz37 ?szz37 ?rzz37
                    case hzz37 => simp only [List.getElem?_toArray, List.getElem?_cons_zero, List.getElem?_cons_succ]; rfl
                    case azz37 => kernel_rfl
                    case bzz37 => kernel_rfl
                    case czz37 => kernel_rfl
                    case yzz37 =>
                      refine Or.inl ⟨by rfl, ?_⟩
                      intro w hSw
                      skip
                      go_simp
                      try with_reducible rfl
                    case qzz37 => exact fun _ _ _ h => h
                    case szz37 => first | assumption | trivial
                    case' rzz37 => simp only [Act.put, List.setIfInBounds_toArray, List.set_cons_zero, List.set_cons_succ]
                    refine wpAnyH_done (by kernel_rfl) ?_ _
                    go_wp2_with fail
                    go_meet
                    exact HC.out
                case' mzz39 => skip
                exact AllReadyL.nil
            case' mzz40 => skip
            exact AllReadyL.nil
        case' mzz42 => skip
        exact AllReadyL.nil
      case rest =>
        obtain ⟨g, A3, n3, c3, rfl, rfl, hg, hbx, hd3, hf3, q8⟩ := hcut
        have Y := Lib.hid (V2.out.step q8)
        have YL := Lib.hid (OL2.out.q q8)
        have HD3 := Lib.hid hd3
        have HF3 := Lib.hid (show A3 = A ∧ n3 = n ∨ Far w A3 from hf3.imp id (fun h ad e => Nat.le_trans V2.out.q.size (h ad e)))
        clear e0 e1 e2 e3 f0 f1 f2' f3
        obtain ⟨⟨b0, b1, b2, b3⟩, _⟩ := hbx.get4
        clear hbx hd3 hf3 q8
        by_cases hye : ye = 0
        · subst hye
          have HQ := Lib.hid (show x = (yd, rs ++ ms, k, 0) from HX2.out.symm.trans (if_neg (by simp)))
          have F := Lib.hid (endRK (d := yd) (A0 := A) (n0 := n) Y.out.q Y.out.res (HD3.out) (HF3.out) (YL.out) (k) (0) (.slice A3 n3 c3) (.int .i64 yd.room) (.int .i64 yd.fuse) (.bool yd.off))
          obtain ⟨⟨s0, s1, s2, s3⟩, h0, h1, h2, h3⟩ := Y.out.getR
          go_wp2
          (try rw [Exit.noGoto_ret])
          refine bodyPost_ret (v := .tuple #[dkv A3 n3 c3 yd.room yd.fuse yd.off, .slice L2 (ln + ms.length) lc2, .int .i64 (k), .int .i64 (0)]) (by simp [results, Tryz.results7, go_sem, s0, s1, s2, s3]) rfl ?_
          rw [HQ.out]
          exact F.out
        · have i5 : (ye == 0) = false := by simpa using hye
          have i6 : (ye != 0) = true := by simpa using hye
          have HQ := Lib.hid (show x = (yd, [], from_, ye) from HX2.out.symm.trans (if_pos hye))
          clear hye
          have F := Lib.hid (endRK (d := yd) (A0 := A) (n0 := n) Y.out.q Y.out.res (HD3.out) (HF3.out) (ownS_nil _ _) (from_) (ye) (.slice A3 n3 c3) (.int .i64 yd.room) (.int .i64 yd.fuse) (.bool yd.off))
          obtain ⟨⟨s0, s1, s2, s3⟩, h0, h1, h2, h3⟩ := Y.out.getR
          go_wp2
          (try rw [Exit.noGoto_ret])
          refine bodyPost_ret (v := .tuple #[dkv A3 n3 c3 yd.room yd.fuse yd.off, .slice none 0 0, .int .i64 (from_), .int .i64 (ye)]) (by simp [results, Tryz.results7, go_sem, s0, s1, s2, s3]) rfl ?_
          rw [HQ.out]
          exact F.out
end Go.Proofs.YtggbdhnjogalgaaGreatDoor

/- The frame of every law: what an argument reads as (with its sizes), opened by its type; a walk under that reading gives the given statement. -/
namespace Go.Proofs.YtggbdhnjogalgaaGreatDoor
set_option maxRecDepth 100000
open Go.ChangeShapes Go.WideShapes Go.ChangeAt Go.RowKit
set_option linter.unusedVariables false

/-- the cells cs read as something of type t, and no part of it is beyond the reach. -/
def Rd (w : World) (t : TypeId) (cs : List Value) : Prop :=
  ∃ (H : Type) (enc : TypeId × Value → H) (n : Nat) (d : DataW H) (ps : List MemPlace), DataW.trod enc Tryz.prog w 0 (fun _ => true) true n t cs = some (d, ps) ∧ ∀ x ∈ d.weights Tryz.prog t, x ≤ 140737488351232

theorem Rd.int {w : World} {t : TypeId} {cs : List Value} {k : IntKind} (h : Rd w t cs) (ht : Tryz.prog.underlying t = some (.int k)) : ∃ n, cs = [.int k n] ∧ (Lit.int k n).wf = true := by
  obtain ⟨H, enc, n, d, ps, ht', hw⟩ := h
  obtain ⟨m, rfl, _, hm⟩ := DataW.trod_int ht ht'
  exact ⟨m, rfl, hm⟩
theorem Rd.bool {w : World} {t : TypeId} {cs : List Value} (h : Rd w t cs) (ht : Tryz.prog.underlying t = some .bool) : ∃ b, cs = [.bool b] := by
  obtain ⟨H, enc, n, d, ps, ht', hw⟩ := h
  obtain ⟨m, rfl, _⟩ := DataW.trod_bool ht ht'
  exact ⟨m, rfl⟩
theorem Rd.string {w : World} {t : TypeId} {cs : List Value} (h : Rd w t cs) (ht : Tryz.prog.underlying t = some .string) : ∃ s : ByteArray, cs = [.string s] ∧ s.size ≤ 140737488351232 := by
  obtain ⟨H, enc, n, d, ps, ht', hw⟩ := h
  obtain ⟨s, rfl, hx, hm⟩ := DataW.trod_string ht ht'
  injection hx with h1 h2
  subst h1
  have := hw s.data.toList.length (by simp [DataW.weights])
  exact ⟨s, rfl, by simpa using this⟩
theorem Rd.struct {w : World} {t : TypeId} {cs : List Value} {fs : Array Field} (h : Rd w t cs) (ht : Tryz.prog.underlying t = some (.struct fs)) :
    cs.length = Tryz.prog.cellsOf t ∧ ∀ (i : Nat) (f : Field), fs[i]? = some f → Rd w f.type ((cs.drop f.offset).take (Tryz.prog.cellsOf f.type)) := by
  obtain ⟨H, enc, n, d, ps, ht', hw⟩ := h
  obtain ⟨xs, m, rfl, hx, hl, hlen, hg⟩ := DataW.trod_struct ht ht'
  injection hx with h1 h2
  subst h1
  refine ⟨hl, fun i f hi => ?_⟩
  have hil : i < fs.size := (Array.getElem?_eq_some_iff.1 hi).1
  have hxi : xs[i]? = some xs[i] := List.getElem?_eq_getElem (by omega)
  refine ⟨H, enc, m, xs[i].1, xs[i].2, (hg i f hi).trans hxi, fun x hx => hw x ?_⟩
  simp only [DataW.weights, ht]
  exact DataW.weights_mem_each (j := i) (t := f.type) (d := xs[i].1) (by simp [hi]) (by simp [hxi]) x hx
theorem Rd.field {w : World} {t : TypeId} {cs : List Value} {fs : Array Field} (h : Rd w t cs) (ht : Tryz.prog.underlying t = some (.struct fs)) (i : Nat) {ty : TypeId} (off k : Nat) (hi : (fs[i]?).map (fun f => (f.type, f.offset)) = some (ty, off)) (hk : Tryz.prog.cellsOf ty = k) :
    Rd w ty ((cs.drop off).take k) := by
  obtain ⟨f, hf, he⟩ := Option.map_eq_some_iff.1 hi
  injection he with e1 e2
  subst e1 e2 hk
  exact (h.struct ht).2 i f hf
theorem weightsAll_mem {H : Type} {P : Program} {e : TypeId} {d : DataW H} : ∀ {l : List (DataW H)}, d ∈ l → ∀ x ∈ d.weights P e, x ∈ DataW.weightsAll P e l
  | d0 :: l, hd, x, hx => by
    simp only [DataW.weightsAll, List.mem_append]
    rcases List.mem_cons.1 hd with rfl | hd
    · exact .inl hx
    · exact .inr (weightsAll_mem hd x hx)
theorem Rd.slice {w : World} {t e : TypeId} {cs : List Value} (h : Rd w t cs) (ht : Tryz.prog.underlying t = some (.slice e)) :
    cs = [.slice none 0 0] ∨ ∃ (a : Addr) (len cap : Nat), cs = [.slice (some a) len cap] ∧ len ≤ cap ∧ cap ≤ maxLen ∧ cap * Tryz.prog.bytesOf e ≤ 140737488351232 ∧
      ∀ i, i < cap → ∃ cs', w.cells? 0 (a.add (i * Tryz.prog.cellsOf e)) (Tryz.prog.cellsOf e) = some cs' ∧ Rd w e cs' := by
  obtain ⟨H, enc, n, d, ps, ht', hw⟩ := h
  rcases Deep.open_slice ht ht' with ⟨h0, _⟩ | ⟨a, len, cap, m, n', D, Pl, hcs, hb, hl, hm, hmm, hx, hi⟩
  · exact .inl h0
  · right
    simp only [if_true] at hmm
    subst hmm
    injection hx with h1 h2
    subst h1
    simp only [DataW.weights, ht] at hw
    refine ⟨a, len, m, hcs, hl, hm, ?_, fun i hi' => ?_⟩
    · have := hw _ (List.mem_cons_self ..)
      simp only [List.length_map, List.length_range] at this
      rwa [show len + (m - len) = m by omega] at this
    · obtain ⟨cs', hc, htr⟩ := hi i hi'
      refine ⟨cs', hc, H, enc, n', D i, Pl i, htr, fun x hx => hw x (List.mem_cons_of_mem _ (List.mem_append.2 ?_))⟩
      by_cases hlt : i < len
      · exact .inl (weightsAll_mem (List.mem_map.2 ⟨i, by simpa using hlt, rfl⟩) x hx)
      · exact .inr (weightsAll_mem (List.mem_map.2 ⟨i - len, by simp; omega, by rw [show len + (i - len) = i by omega]⟩) x hx)

/-- the value v, an argument, reads so. -/
def RdV (w : World) (t : TypeId) (v : Value) : Prop := (∃ base, Value.okWide Tryz.prog w .any base t v) ∧ Rd w t v.cells.toList
theorem RdV.int {w : World} {t : TypeId} {v : Value} {k : IntKind} (h : RdV w t v) (ht : Tryz.prog.underlying t = some (.int k)) : ∃ n, v = .int k n ∧ (Lit.int k n).wf = true := by
  obtain ⟨⟨b, ho⟩, hr⟩ := h
  obtain ⟨n, rfl⟩ := okWide_int ht ho
  obtain ⟨m, e, hm⟩ := hr.int ht
  simp [Value.cells] at e
  subst e
  exact ⟨n, rfl, hm⟩
theorem RdV.bool {w : World} {t : TypeId} {v : Value} (h : RdV w t v) (ht : Tryz.prog.underlying t = some .bool) : ∃ b, v = .bool b := by
  obtain ⟨⟨b, ho⟩, hr⟩ := h
  obtain ⟨n, rfl⟩ := okWide_bool ht ho
  exact ⟨n, rfl⟩
theorem RdV.string {w : World} {t : TypeId} {v : Value} (h : RdV w t v) (ht : Tryz.prog.underlying t = some .string) : ∃ s : ByteArray, v = .string s ∧ s.size ≤ 140737488351232 := by
  obtain ⟨⟨b, ho⟩, hr⟩ := h
  obtain ⟨n, rfl⟩ := okWide_string ht ho
  obtain ⟨m, e, hm⟩ := hr.string ht
  simp [Value.cells] at e
  subst e
  exact ⟨n, rfl, hm⟩
theorem RdV.struct {w : World} {t : TypeId} {v : Value} {fs : Array Field} (h : RdV w t v) (ht : Tryz.prog.underlying t = some (.struct fs)) : ∃ cs : List Value, v = .agg cs.toArray ∧ Rd w t cs := by
  obtain ⟨⟨b, ho⟩, hr⟩ := h
  obtain ⟨cs, rfl, _⟩ := okWide_struct ht ho
  exact ⟨cs.toList, rfl, hr⟩
theorem RdV.slice {w : World} {t e : TypeId} {v : Value} (h : RdV w t v) (ht : Tryz.prog.underlying t = some (.slice e)) : ∃ A n c, v = .slice A n c ∧ Rd w t [.slice A n c] := by
  obtain ⟨⟨b, ho⟩, hr⟩ := h
  obtain ⟨A, n, c, rfl⟩ := okWide_slice ht ho
  exact ⟨A, n, c, rfl, hr⟩

theorem args1 {a : Array Value} (h : a.size = 1) : ∃ x, a = #[x] := by
  obtain ⟨l⟩ := a
  match l, h with
  | [x], _ => exact ⟨x, rfl⟩
theorem args3 {a : Array Value} (h : a.size = 3) : ∃ x y z, a = #[x, y, z] := by
  obtain ⟨l⟩ := a
  match l, h with
  | [x, y, z], _ => exact ⟨x, y, z, rfl⟩
theorem laidOut_ : laidOutB Tryz.prog = true := by kernel_rfl
theorem ownKnob_ : ownKnob Tryz.prog.godebug = none := by kernel_rfl

theorem trodAll_keep {H : Type} {enc : TypeId × Value → H} {W W' : World} (hb : Q W W') : ∀ (ts : List TypeId) (vs : List Value) (ds : List (DataW H)) (ps : List MemPlace), (∀ t ∈ ts, Tryz.prog.readableRec t = true ∧ t < Tryz.prog.types.size) →
    DataW.TrodAll enc Tryz.prog W 0 (fun _ => true) true ts vs ds ps → (∀ x ∈ ps, x.block < W.heap.size) → DataW.TrodAll enc Tryz.prog W' 0 (fun b => decide (b < W.heap.size)) true ts vs ds ps
  | [], vs, ds, ps, _, h, _ => by
    obtain ⟨rfl, rfl, rfl⟩ := trodAll_nil h
    exact trodAll_mk0
  | t :: ts, vs, ds, ps, ht, h, hlt => by
    obtain ⟨v, vs', d, ds', p, q, rfl, rfl, rfl, h1, h2⟩ := trodAll_cons h
    exact ⟨p, q, Below.trod laidOut_ (ht t (by simp)).1 (ht t (by simp)).2 h1 hb.below (fun x hx => hlt x (by simp [hx])), trodAll_keep hb ts vs' ds' q (fun u hu => ht u (by simp [hu])) h2 (fun x hx => hlt x (by simp [hx])), rfl⟩

theorem trodAll_len {H : Type} {enc : TypeId × Value → H} {W : World} : ∀ (ts : List TypeId) (vs : List Value) (ds : List (DataW H)) (ps : List MemPlace), DataW.TrodAll enc Tryz.prog W 0 (fun _ => true) true ts vs ds ps → vs.length = ts.length ∧ ds.length = ts.length ∧
    ∀ (j : Nat) t v, ts[j]? = some t → vs[j]? = some v → ∃ d p, ds[j]? = some d ∧ DataW.Trod enc Tryz.prog W 0 (fun _ => true) true t v d p
  | [], vs, ds, ps, h => by
    obtain ⟨rfl, rfl, rfl⟩ := trodAll_nil h
    exact ⟨rfl, rfl, fun j t v hj => by simp at hj⟩
  | t :: ts, vs, ds, ps, h => by
    obtain ⟨v, vs', d, ds', p, q, rfl, rfl, rfl, h1, h2⟩ := trodAll_cons h
    obtain ⟨e1, e2, h3⟩ := trodAll_len ts vs' ds' q h2
    refine ⟨by simp [e1], by simp [e2], fun j t' v' hj hv => ?_⟩
    cases j with
    | zero =>
      simp only [List.getElem?_cons_zero, Option.some.injEq] at hj hv
      subst hj hv
      exact ⟨d, p, rfl, h1⟩
    | succ j => exact h3 j t' v' (by simpa using hj) (by simpa using hv)

end Go.Proofs.YtggbdhnjogalgaaGreatDoor

/- What a law's arguments read as, where their bulk is bounded; a walk under that reading gives what the row asks. -/
namespace Go.Proofs.YtggbdhnjogalgaaGreatDoor
set_option maxRecDepth 100000
open Go.ChangeShapes Go.WideShapes Go.ChangeAt Go.RowKit
set_option linter.unusedVariables false

/-- the cells cs read as something of type t of a bulk of at most 2^20. -/
def RdU (w : World) (t : TypeId) (cs : List Value) : Prop :=
  ∃ (H : Type) (enc : TypeId × Value → H) (n : Nat) (d : DataW H) (ps : List MemPlace), DataW.trod enc Tryz.prog w 0 (fun _ => true) true n t cs = some (d, ps) ∧ Rows.uptoBulk d ≤ 1048576
theorem bulk_one {H : Type} (d : DataW H) : 1 ≤ Rows.uptoBulk d := by
  cases d with
  | lit l => cases l <;> simp [Rows.uptoBulk]
  | nil => simp [Rows.uptoBulk]
  | ptr d => simp [Rows.uptoBulk]
  | slice elems spare => simp [Rows.uptoBulk]
  | agg parts => simp [Rows.uptoBulk]
  | iface t d => simp [Rows.uptoBulk]
  | map entries => simp [Rows.uptoBulk]
  | held h => simp [Rows.uptoBulk]
theorem bulk_part {H : Type} {d : DataW H} {l : List (DataW H)} (h : d ∈ l) : Rows.uptoBulk d ≤ Rows.uptoBulkAll l := by
  induction l with
  | nil => cases h
  | cons x r ih =>
    simp only [Rows.uptoBulkAll]
    cases List.mem_cons.1 h with
    | inl e => subst e; omega
    | inr e => have := ih e; omega
theorem bulk_len {H : Type} (l : List (DataW H)) : l.length ≤ Rows.uptoBulkAll l := by
  induction l with
  | nil => simp [Rows.uptoBulkAll]
  | cons x r ih => have := bulk_one x; simp only [Rows.uptoBulkAll, List.length_cons]; omega
theorem RdU.string {w : World} {t : TypeId} {s : ByteArray} (h : RdU w t [.string s]) (ht : Tryz.prog.underlying t = some .string) : s.size ≤ 1048576 := by
  obtain ⟨H, enc, n, d, ps, ht', hw⟩ := h
  obtain ⟨s', e, hx, hm⟩ := DataW.trod_string ht ht'
  injection hx with h1 h2
  subst h1
  simp only [List.cons.injEq, Value.string.injEq, and_true] at e
  subst e
  simp only [Rows.uptoBulk] at hw
  have : s.data.toList.length = s.size := by simp
  omega
theorem RdU.field {w : World} {t : TypeId} {cs : List Value} {fs : Array Field} (h : RdU w t cs) (ht : Tryz.prog.underlying t = some (.struct fs)) (i : Nat) {ty : TypeId} (off k : Nat) (hi : (fs[i]?).map (fun f => (f.type, f.offset)) = some (ty, off)) (hk : Tryz.prog.cellsOf ty = k) :
    RdU w ty ((cs.drop off).take k) := by
  obtain ⟨f, hf, he⟩ := Option.map_eq_some_iff.1 hi
  injection he with e1 e2
  subst e1 e2 hk
  obtain ⟨H, enc, n, d, ps, ht', hw⟩ := h
  obtain ⟨xs, m, rfl, hx, hl, hlen, hg⟩ := DataW.trod_struct ht ht'
  injection hx with h1 h2
  subst h1
  have hil : i < fs.size := (Array.getElem?_eq_some_iff.1 hf).1
  have hxi : xs[i]? = some xs[i] := List.getElem?_eq_getElem (by omega)
  refine ⟨H, enc, m, xs[i].1, xs[i].2, (hg i f hf).trans hxi, ?_⟩
  simp only [Rows.uptoBulk] at hw
  have := bulk_part (l := xs.map (·.1)) (List.mem_map.2 ⟨xs[i], List.getElem_mem _, rfl⟩)
  omega
theorem RdU.slice {w : World} {t e : TypeId} {a : Addr} {len cap : Nat} (h : RdU w t [.slice (some a) len cap]) (ht : Tryz.prog.underlying t = some (.slice e)) :
    cap ≤ 1048576 ∧ ∀ i, i < cap → ∃ cs', w.cells? 0 (a.add (i * Tryz.prog.cellsOf e)) (Tryz.prog.cellsOf e) = some cs' ∧ RdU w e cs' := by
  obtain ⟨H, enc, n, d, ps, ht', hw⟩ := h
  rcases Deep.open_slice ht ht' with ⟨h0, _⟩ | ⟨a', len', cap', m, n', D, Pl, hcs, hb, hl, hm, hmm, hx, hi⟩
  · simp at h0
  · simp only [List.cons.injEq, Value.slice.injEq, Option.some.injEq, and_true] at hcs
    obtain ⟨rfl, rfl, rfl⟩ := hcs
    simp only [if_true] at hmm
    subst hmm
    injection hx with h1 h2
    subst h1
    simp only [Rows.uptoBulk] at hw
    have l1 := bulk_len ((List.range len).map D)
    have l2 := bulk_len ((List.range (m - len)).map fun i => D (len + i))
    refine ⟨by simp only [List.length_map, List.length_range] at l1 l2; omega, fun i hi' => ?_⟩
    obtain ⟨cs', hc, htr⟩ := hi i hi'
    refine ⟨cs', hc, H, enc, n', D i, Pl i, htr, ?_⟩
    by_cases hlt : i < len
    · have := bulk_part (l := (List.range len).map D) (List.mem_map.2 ⟨i, by simpa using hlt, rfl⟩)
      omega
    · have := bulk_part (d := D i) (l := (List.range (m - len)).map fun i => D (len + i)) (List.mem_map.2 ⟨i - len, by simp; omega, by rw [show len + (i - len) = i by omega]⟩)
      omega

theorem RdU.cap {w : World} {t e : TypeId} {a : Addr} {len cap : Nat} (h : RdU w t [.slice (some a) len cap]) (ht : Tryz.prog.underlying t = some (.slice e)) : cap ≤ 1048576 := (h.slice ht).1
/-- A walk of a law in one world, whatever its arguments read as, gives what its row asks; 'up': its second form. -/
theorem coreU {f : FuncId} {fn : Func} {s : ChangeSpec} (up : Bool) (n : Nat) (hn : fn.params.size = n) (hvars : s.vars = []) (hrt : fn.resultTypes = #[4])
    (hread0 : fn.params.toList.all (fun t => Tryz.prog.readableRec t && decide (t < Tryz.prog.types.size)) = true)
    (hs : ∀ (H : Type) (ds : List (DataW H)), ds.length = n → (s.fn H ds).results = [.lit (.bool true)] ∧ (s.fn H ds).args = ds ∧ (s.fn H ds).vars = [])
    (H : Type) (enc : TypeId × Value → H) (W : World) (base : Nat) (args : Array Value) (ds gs : List (DataW H)) (before : List MemPlace)
    (hval : ∀ (j : Nat) t v, fn.params[j]? = some t → args[j]? = some v → Value.okWide Tryz.prog W .any base t v)
    (hW : DataW.Whole enc Tryz.prog fn.params.toList s.vars false W args.toList ds gs before)
    (hcond : up = true → Rows.uptoBulkAll (ds ++ gs) ≤ 1048576)
    (hsz : (DataW.weightsEach Tryz.prog (fn.params.toList ++ s.plain.varTypes Tryz.prog) (ds ++ gs)).all (· ≤ reachBytes) = true)
    (walk : args.size = n → (∀ (j : Nat) t v, fn.params[j]? = some t → args[j]? = some v → RdV W t v ∧ (up = true → RdU W t v.cells.toList)) → Calls Tryz.prog f args W fun e W' => e = .returned (.bool true) ∧ Q W W') :
    Calls Tryz.prog f args W fun e W' => ∃ v, e = .returned v ∧ s.post enc Tryz.prog fn false true false false W args v W' := by
  have hread : ∀ t ∈ fn.params.toList, Tryz.prog.readableRec t = true ∧ t < Tryz.prog.types.size := fun t ht => by
    have := List.all_eq_true.1 hread0 t ht
    simpa using this
  have hW' := hW
  have hlt : ∀ x ∈ before, x.block < W.heap.size := fun x hx => by simpa using hW.lt x hx
  obtain ⟨p, q, hA, hV, rfl, hfz, hnd⟩ := hW
  rw [hvars] at hV
  obtain ⟨rfl, rfl⟩ := trodVars_none hV
  obtain ⟨e1, e2, h3⟩ := trodAll_len _ _ _ _ hA
  have hps : fn.params.toList.length = n := by simpa using hn
  have hds : ds.length = n := by omega
  have hsz2 : ∀ x ∈ DataW.weightsEach Tryz.prog (fn.params.toList ++ s.plain.varTypes Tryz.prog) (ds ++ []), x ≤ 140737488351232 := fun x hx => by
    have := List.all_eq_true.1 hsz x hx
    simpa [reachBytes] using of_decide_eq_true this
  refine (walk (by rw [← hps, ← e1]; simp) (fun j t v hj hv => ?_)).mono fun e W' ⟨he, hg⟩ => ?_
  · obtain ⟨d, p', hd, fuel, htr⟩ := h3 j t v (by simpa using hj) (by simpa using hv)
    have hjl : j < n := by
      have := (Array.getElem?_eq_some_iff.1 hj).1; omega
    refine ⟨⟨⟨base, hval j t v hj hv⟩, H, enc, fuel, d, p', htr, fun x hx => hsz2 x (DataW.weights_mem_each (j := j) (t := t) (d := d) ?_ (by simpa using hd) x hx)⟩, fun hup => ⟨H, enc, fuel, d, p', htr, ?_⟩⟩
    · rw [List.getElem?_append_left (by omega)]
      simpa using hj
    · have h1 := hcond hup
      have h2 := bulk_part (d := d) (l := ds ++ []) (List.mem_append_left _ (List.mem_of_getElem? hd))
      omega
  · subst he
    simp only [List.append_nil] at hW' hlt
    obtain ⟨a1, a2, a3⟩ := hs H ds hds
    refine ⟨_, rfl, ds, [], p, [], p, [], hW', ?_, ?_, ?_, hg.below.frame _, fun h => by cases h⟩
    · rw [List.append_nil, a1, hrt]
      exact trodAll_mk1 (shut_bool Tryz.underlying4 _)
    · rw [List.append_nil, a2]
      exact trodAll_keep hg _ _ _ _ hread hA hlt
    · rw [List.append_nil, a3, hvars]
      rfl
end Go.Proofs.YtggbdhnjogalgaaGreatDoor
