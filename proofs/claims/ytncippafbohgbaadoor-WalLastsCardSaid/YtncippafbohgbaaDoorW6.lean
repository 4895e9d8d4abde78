/- WalCut, WalScan, WalScan2: merged. -/
import Derived.Test.YtncippafbohgbaaDoorW5
import Derived.Test.YtncippafbohgbaaDoorW2
import Derived.Deep.DeepCutAuto
import Derived.Test.YtncippafbohgbaaDoorW1
import Derived.RangeFuncBox
import Derived.RangeFuncNested
import Derived.RangeFuncBound
import Derived.RangeFuncCalls
import Derived.RangeFuncLeaves
import Derived.Shelf.Abstract
import Derived.Shelf.RegionOpen
import Derived.WalkKit
import Derived.OwnWalkIn
import Derived.TacticsInMore
import Derived.LoopNIn
import Derived.LoopIn
import Derived.Maps.AppendAt
/- The contract of wal.cut. -/
namespace Go.Proofs.YtncippafbohgbaaDoor
set_option maxRecDepth 100000
open Go.RowKit Dkm Wm
set_option linter.unusedVariables false

section
variable {w wr : World} {A : Option Addr} {n c : Nat} {d : Dk}
theorem Sv.endW (h : Sv w A n c d wr) (hf : Far w A) (vs : List Value) (x y z u : Value) :
    RetW w d vs (.returned (.tuple (dkv A n c d.room d.fuse d.off :: vs).toArray)) ((((wr.setCell ⟨w.heap.size + 1, 0, none⟩ x).setCell ⟨w.heap.size + 1, 1, none⟩ y).setCell ⟨w.heap.size + 1, 2, none⟩ z).setCell ⟨w.heap.size + 1, 3, none⟩ u) :=
  ⟨A, n, c, rfl, (((h.dsk.away1 (fun hn ad e => (h.away hn ad e).2) 0 _).away1 (fun hn ad e => (h.away hn ad e).2) 1 _).away1 (fun hn ad e => (h.away hn ad e).2) 2 _).away1 (fun hn ad e => (h.away hn ad e).2) 3 _, hf, h.sb.q.set4 (b := w.heap.size + 1) (by omega) _ _ _ _⟩
end
/-- behind a step of the cut. -/
def Cs (w : World) (x : Dk × Int) (far : Prop) (s8 : Value) (wx : World) : Prop := ∃ A n c, s8 = .int .i64 x.2 ∧ Sv w A n c x.1 wx ∧ (far → Far w A)

theorem dels_end {x : Dk × Int} {k : Int} (h : x.2 ≠ 0 ∨ ¬ (segOk k ∧ (hit (namB k) x.1.fs).2 = true)) : (if x.2 = 0 then dels (fuelOf k) x.1 k else x) = x := by
  by_cases h0 : x.2 = 0
  · rw [if_pos h0]
    have e : (x.1, (0 : Int)) = x := by rw [← h0]
    rcases h with h | h
    · exact absurd h0 h
    · cases hf : fuelOf k with
      | zero => exact e
      | succ m => unfold dels; rw [if_neg h]; exact e
  · rw [if_neg h0]
theorem dels_more {x : Dk × Int} {k : Int} (h0 : x.2 = 0) (h1 : segOk k) (h2 : (hit (namB k) x.1.fs).2 = true) :
    (if x.2 = 0 then dels (fuelOf k) x.1 k else x) = (if (del x.1 (namB k)).2 = 0 then dels (fuelOf (k + 1)) (del x.1 (namB k)).1 (k + 1) else del x.1 (namB k)) := by
  have hf : fuelOf k = fuelOf (k + 1) + 1 := by have := h1.2; unfold fuelOf; omega
  rw [if_pos h0, hf]
  conv => lhs; unfold dels
  rw [if_pos ⟨h1, h2⟩]

set_option maxHeartbeats 8000000 in
theorem cut_any (seg : Int) (s : ByteArray) (A : Option Addr) (n c : Nat) (d : Dk) (w : World) (hT : Tab w) (hd : Dsk w A n c d.fs) (hB : Bnd 2305843009213693952 d) (hs : s.size ≤ 2305843009213693952) (h1 : segOk seg) :
    Calls Tryd.prog 20 #[dkv A n c d.room d.fuse d.off, .int .i64 seg, .string s] w fun e w' => RetW w (cutM d seg s).1 [.int .i64 (cutM d seg s).2] e w' := by
  have HT := Lib.hid hT
  have HN := Lib.hid hd.max
  have B1 := hB.cut1
  have B2 := hB.cut2 (by omega) s
  have B3 := hB.cut3 (by omega) s
  have B4 := hB.cut4 (by omega) seg s
  have BD := hB.del freshB
  have mx : ∀ {d : Dk}, Bnd 2305843009213693952 d → ∀ f ∈ d.fs, f.sf.size + f.wt.size ≤ maxLen := fun h f hf => Nat.le_trans (h.sum f hf) (by unfold maxLen; omega)
  have C1 := Lib.hid (show cut1 d = if (hit freshB d.fs).2 then del d freshB else (d, 0) from rfl)
  have C2 := Lib.hid (show cut2 d s = if (cut1 d).2 = 0 then appd (cut1 d).1 freshB s else cut1 d from rfl)
  have C3 := Lib.hid (show cut3 d s = if (cut2 d s).2 = 0 then syn (cut2 d s).1 freshB else cut2 d s from rfl)
  have C4 := Lib.hid (show cut4 d seg s = if (cut3 d s).2 = 0 then ren (cut3 d s).1 freshB (namB seg) else cut3 d s from rfl)
  have C5 := Lib.hid (show cutM d seg s = if (cut4 d seg s).2 = 0 then dels (fuelOf (seg + 1)) (cut4 d seg s).1 (seg + 1) else cut4 d seg s from rfl)
  generalize cutM d seg s = x5 at C5 ⊢
  generalize cut4 d seg s = x4 at C4 C5 B4
  generalize cut3 d s = x3 at C3 C4 B3
  generalize cut2 d s = x2 at C2 C3 B2
  generalize cut1 d = x1 at C1 C2 B1
  have KD := Lib.hid (fun A n c w hd => del_any freshB A n c d w hd (mx hB) hB.fuse.2)
  have KH := Lib.hid (fun w hf => has_any freshB A n c d.room d.fuse d.off d.fs w hf HN.out)
  have KA := Lib.hid (fun A n c w hd => append_any freshB s A n c x1.1 w hd B1.sum hs B1.room.2 B1.fuse.2)
  have KY := Lib.hid (fun A n c w hd => sync_any freshB A n c x2.1 w hd (mx B2))
  have KRN := Lib.hid (fun A n c w hd => ren_any freshB (namB seg) A n c x3.1 w hd (mx B3) B3.fuse.2)
  have KN := Lib.hid (name_any seg)
  have HB1 := Lib.hid B1
  have HB2 := Lib.hid B2
  have HB3 := Lib.hid B3
  have HB4 := Lib.hid B4
  have HBD := Lib.hid BD
  have HD := Lib.hid hd
  have r0 := h1.1
  have r1 := h1.2
  clear hT hd hB hs h1 B1 B2 B3 B4 BD
  generalize (hit freshB d.fs).2 = b at KH C1
  generalize del d freshB = xd at KD C1 HBD
  change Hid (∀ w, Files w A n d.fs → Calls _ _ #[dkv A n c d.room d.fuse d.off, .string ⟨#[119, 46, 110, 101, 119]⟩] w fun e w' => e = .returned (.bool b) ∧ Q w w') at KH
  go_enter Tryd.func20, Tryd.ntmps20
  go_wp2_with fail
  refine (KH.out _ (HD.out.files.q (((Q.refl _).alloc _).alloc _))).mono ?_
  rintro e w1 ⟨rfl, q1⟩
  have X := Lib.hid ((Sv.new w HD.out).step q1)
  clear q1
  go_upto_if 10 with (fail)
  go_cut [8] (fun s8 wx => Cs w x1 (x1.2 ≠ 0) s8 wx)
  case first =>
    cases b
    · go_wp2_with fail
      go_meet
      exact ⟨A, n, c, by rw [C1.out]; rfl, by rw [C1.out]; exact X.out, fun h => absurd (by rw [C1.out]; rfl) h⟩
    · obtain ⟨⟨e0, e1, e2, e3⟩, f0, f1, f2', f3⟩ := X.out.sb.get
      go_wp2_with fail
      refine (KD.out A n c _ X.out.dsk).mono ?_
      rintro e w2 ⟨A2, n2, c2, rfl, ho, q2⟩
      have P := X.out.put q2 ho (few_own ho HBD.out)
      clear e0 e1 e2 e3 f0 f1 f2' f3
      obtain ⟨⟨e0, e1, e2, e3⟩, f0, f1, f2', f3⟩ := (X.out.sb.step q2).get
      clear ho q2
      have P := Lib.hid P
      go_wp2_with fail
      go_meet
      exact ⟨A2, n2, c2, by rw [C1.out]; rfl, by rw [C1.out]; exact P.out.1, fun _ => P.out.2⟩
  case rest =>
    obtain ⟨A1, n1, c1, rfl, v1, r1'⟩ := hcut
    have V1 := Lib.hid v1
    have R1 := Lib.hid r1'
    clear v1 r1'
    go_upto_if 17 with (fail)
    go_cut [8] (fun s8 wx => Cs w x2 True s8 wx)
    case first =>
      by_cases g : x1.2 = 0
      · have CC := C2.out
        rw [if_pos g] at CC
        have HC := Lib.hid CC
        clear CC
        obtain ⟨⟨e0, e1, e2, e3⟩, f0, f1, f2', f3⟩ := V1.out.sb.get
        go_wp2_with fail
        refine (KA.out _ _ _ _ V1.out.dsk).mono ?_
        rintro e w2 ⟨A2, n2, c2, rfl, ho, q2⟩
        rw [← HC.out] at ho
        have P := V1.out.put q2 ho (few_own ho HB2.out)
        clear e0 e1 e2 e3 f0 f1 f2' f3
        obtain ⟨⟨e0, e1, e2, e3⟩, f0, f1, f2', f3⟩ := (V1.out.sb.step q2).get
        clear ho q2
        have P := Lib.hid P
        go_wp2_with fail
        go_meet
        rw [← HC.out]
        exact ⟨A2, n2, c2, rfl, P.out.1, fun _ => P.out.2⟩
      · have CC := C2.out
        rw [if_neg g] at CC
        have HC := Lib.hid CC
        clear CC
        go_wp2_with fail
        go_meet
        rw [HC.out]
        exact ⟨A1, n1, c1, rfl, V1.out, fun _ => R1.out g⟩
    case rest =>
      obtain ⟨A2, n2, c2, rfl, v2, r2'⟩ := hcut
      have V2 := Lib.hid v2
      have R2 := Lib.hid r2'
      clear v2 r2'
      go_upto_if 25 with (fail)
      go_cut [8] (fun s8 wx => Cs w x3 True s8 wx)
      case first =>
        by_cases g : x2.2 = 0
        · have CC := C3.out
          rw [if_pos g] at CC
          have HC := Lib.hid CC
          clear CC
          obtain ⟨⟨e0, e1, e2, e3⟩, f0, f1, f2', f3⟩ := V2.out.sb.get
          go_wp2_with fail
          refine (KY.out _ _ _ _ V2.out.dsk).mono ?_
          rintro e w2 ⟨A2, n2, c2, rfl, ho, q2⟩
          rw [← HC.out] at ho
          have P := V2.out.put q2 ho (few_own ho HB3.out)
          clear e0 e1 e2 e3 f0 f1 f2' f3
          obtain ⟨⟨e0, e1, e2, e3⟩, f0, f1, f2', f3⟩ := (V2.out.sb.step q2).get
          clear ho q2
          have P := Lib.hid P
          go_wp2_with fail
          go_meet
          rw [← HC.out]
          exact ⟨A2, n2, c2, rfl, P.out.1, fun _ => P.out.2⟩
        · have CC := C3.out
          rw [if_neg g] at CC
          have HC := Lib.hid CC
          clear CC
          go_wp2_with fail
          go_meet
          rw [HC.out]
          exact ⟨A2, n2, c2, rfl, V2.out, fun _ => R2.out trivial⟩
      case rest =>
        obtain ⟨A3, n3, c3, rfl, v3, r3'⟩ := hcut
        have V3 := Lib.hid v3
        have R3 := Lib.hid r3'
        clear v3 r3'
        go_upto_if 32 with (fail)
        go_cut [8] (fun s8 wx => Cs w x4 True s8 wx)
        case first =>
          by_cases g : x3.2 = 0
          · have CC := C4.out
            rw [if_pos g] at CC
            have HC := Lib.hid CC
            clear CC
            have KR2 := Lib.hid (fun A n c w hd => by have h := KRN.out A n c w hd; rw [← HC.out] at h; exact h)
            clear KRN
            have KRN := KR2
            clear KR2
            generalize wc = W at V3 ⊢
            have S3 := Lib.hid V3.out.sb
            have DW := Lib.hid V3.out.dsk
            obtain ⟨⟨e0, e1, e2, e3⟩, f0, f1, f2', f3⟩ := V3.out.sb.get
            go_upto_region 9 with (fail)
            have QW := Lib.hid (Q.refl W)
            refine wp_region_heldL 7 (Q W) (by kernel_rfl) ?szz0 (fun hHeld => ?rzz0)
            case szz0 =>
              exact (Q.refl W).drew
            case' rzz0 => skip
            refine wpAnyL_take (i := 0) (oi := ?ozz1) (v := ?vzz1) ?hzz1 ?azz1 ?bzz1 ?czz1 ?kzz1 ?qzz1 ?yzz1 ?szz1 ?rzz1
            case hzz1 => simp only [List.getElem?_toArray, List.getElem?_cons_zero]; rfl
            case azz1 => kernel_rfl
            case bzz1 => kernel_rfl
            case czz1 => kernel_rfl
            case kzz1 => kernel_rfl
            case yzz1 =>
              refine Or.inl ⟨by rfl, ?_⟩
              intro w hSw
              have x0 := box_ hSw e0; have x1 := box_ hSw e1; have x2 := box_ hSw e2; have x3 := box_ hSw e3; clear hSw
              go_simp
              try with_reducible rfl
            case qzz1 => exact fun _ _ _ h => h
            case szz1 => first | assumption | trivial
            case' rzz1 => simp only [Act.put, List.setIfInBounds_toArray, List.set_cons_zero, List.set_cons_succ]
            refine wpAnyL_take (i := 1) (oi := ?ozz2) (v := ?vzz2) ?hzz2 ?azz2 ?bzz2 ?czz2 ?kzz2 ?qzz2 ?yzz2 ?szz2 ?rzz2
            case hzz2 => simp only [List.getElem?_toArray, List.getElem?_cons_zero, List.getElem?_cons_succ]; rfl
            case azz2 => kernel_rfl
            case bzz2 => kernel_rfl
            case czz2 => kernel_rfl
            case kzz2 => kernel_rfl
            case yzz2 =>
              refine Or.inl ⟨by rfl, ?_⟩
              intro w hSw
              skip
              go_simp
              try with_reducible rfl
            case qzz2 => exact fun _ _ _ h => h
            case szz2 => first | assumption | trivial
            case' rzz2 => simp only [Act.put, List.setIfInBounds_toArray, List.set_cons_zero, List.set_cons_succ]
            refine wpAnyL_ready (rs := [2]) (by kernel_rfl) (by simp) ?_
            refine AllReadyL.cons (o := ?ozz12) ?hzz12 (fun K hK => ?kzz12) ?mzz12
            case hzz12 => simp only [List.getElem?_toArray, List.getElem?_cons_zero, List.getElem?_cons_succ]; rfl
            case kzz12 =>
              go_simp
              refine (KN.out _ (HT.out.q (S3.out.q.trans hHeld))).mono ?_
              rintro e w3 ⟨rfl, q3⟩
              go_wp2_with fail
              refine hK.out _ _ ?Szz12 (fun hHeld => ?Rzz12)
              case Szz12 =>
                exact hHeld.trans q3
              case Rzz12 =>
                clear hK K
                try simp only [Act.put, List.setIfInBounds_toArray, List.set_cons_zero, List.set_cons_succ]
                refine wpAnyL_ready (rs := [3]) (by kernel_rfl) (by simp) ?_
                refine AllReadyL.cons (o := ?ozz11) ?hzz11 (fun K hK => ?kzz11) ?mzz11
                case hzz11 => simp only [List.getElem?_toArray, List.getElem?_cons_zero, List.getElem?_cons_succ]; rfl
                case kzz11 =>
                  go_simp
                  refine (KRN.out _ _ _ _ (DW.out.q hHeld)).mono ?_
                  rintro e w5 ⟨A5, n5, c5, rfl, ho, q5⟩
                  obtain ⟨⟨x0, x1, x2, x3⟩, y0, y1, y2, y3⟩ := ((S3.out.step hHeld).step q5).get
                  have Z5 := Lib.hid (And.intro ho (And.intro hHeld q5))
                  go_wp2_with fail
                  refine hK.out _ _ ?Szz11 (fun hHeld => ?Rzz11)
                  case Szz11 =>
                    exact hHeld.trans q5
                  case Rzz11 =>
                    clear hK K
                    try simp only [Act.put, List.setIfInBounds_toArray, List.set_cons_zero, List.set_cons_succ]
                    refine wpAnyL_take (i := 4) (oi := ?ozz3) (v := ?vzz3) ?hzz3 ?azz3 ?bzz3 ?czz3 ?kzz3 ?qzz3 ?yzz3 ?szz3 ?rzz3
                    case hzz3 => simp only [List.getElem?_toArray, List.getElem?_cons_zero, List.getElem?_cons_succ]; rfl
                    case azz3 => kernel_rfl
                    case bzz3 => kernel_rfl
                    case czz3 => kernel_rfl
                    case kzz3 => kernel_rfl
                    case yzz3 =>
                      refine Or.inl ⟨by rfl, ?_⟩
                      intro w hSw
                      skip
                      go_simp
                      try with_reducible rfl
                    case qzz3 => exact fun _ _ _ h => h
                    case szz3 => first | assumption | trivial
                    case' rzz3 => simp only [Act.put, List.setIfInBounds_toArray, List.set_cons_zero, List.set_cons_succ]
                    refine wpAnyL_take (i := 5) (oi := ?ozz4) (v := ?vzz4) ?hzz4 ?azz4 ?bzz4 ?czz4 ?kzz4 ?qzz4 ?yzz4 ?szz4 ?rzz4
                    case hzz4 => simp only [List.getElem?_toArray, List.getElem?_cons_zero, List.getElem?_cons_succ]; rfl
                    case azz4 => kernel_rfl
                    case bzz4 => kernel_rfl
                    case czz4 => kernel_rfl
                    case kzz4 => kernel_rfl
                    case yzz4 =>
                      refine Or.inl ⟨by rfl, ?_⟩
                      intro w hSw
                      skip
                      go_simp
                      try with_reducible rfl
                    case qzz4 => exact fun _ _ _ h => h
                    case szz4 => first | assumption | trivial
                    case' rzz4 => simp only [Act.put, List.setIfInBounds_toArray, List.set_cons_zero, List.set_cons_succ]
                    refine wpAnyL_ready (rs := [6, 7]) (by kernel_rfl) (by simp) ?_
                    refine AllReadyL.cons (o := ?ozz9) ?hzz9 (fun K hK => ?kzz9) ?mzz9
                    case hzz9 => simp only [List.getElem?_toArray, List.getElem?_cons_zero, List.getElem?_cons_succ]; rfl
                    case kzz9 =>
                      go_simp
                      refine hK.out _ _ ?Szz9 (fun hHeld => ?Rzz9)
                      case Szz9 =>
                        exact hHeld
                      case Rzz9 =>
                        clear hK K
                        try simp only [Act.put, List.setIfInBounds_toArray, List.set_cons_zero, List.set_cons_succ]
                        refine wpAnyL_ready (rs := [7]) (by kernel_rfl) (by simp) ?_
                        refine AllReadyL.consK (o := ?ozz6) ?hzz6 ?lzz6 (fun K hK => ?kzz6) ?mzz6
                        case hzz6 => simp only [List.getElem?_toArray, List.getElem?_cons_zero, List.getElem?_cons_succ]; rfl
                        case lzz6 => kernel_rfl
                        case kzz6 =>
                          go_simp
                          refine hK.out _ _ ?Rzz6
                          case Rzz6 =>
                            clear hK K
                            try simp only [Act.put, List.setIfInBounds_toArray, List.set_cons_zero, List.set_cons_succ]
                            refine wpAnyH_take (i := 8) (oi := ?ozz5) (v := ?vzz5) ?hzz5 ?azz5 ?bzz5 ?czz5 ?qzz5 ?yzz5 ?szz5 ?rzz5
                            case hzz5 => simp only [List.getElem?_toArray, List.getElem?_cons_zero, List.getElem?_cons_succ]; rfl
                            case azz5 => kernel_rfl
                            case bzz5 => kernel_rfl
                            case czz5 => kernel_rfl
                            case yzz5 =>
                              refine Or.inl ⟨by rfl, ?_⟩
                              intro w hSw
                              skip
                              go_simp
                              try with_reducible rfl
                            case qzz5 => exact fun _ _ _ h => h
                            case szz5 => first | assumption | trivial
                            case' rzz5 => simp only [Act.put, List.setIfInBounds_toArray, List.set_cons_zero, List.set_cons_succ]
                            refine wpAnyH_done (by kernel_rfl) ?_ _
                            have P := (V3.out.step Z5.out.2.1).put Z5.out.2.2 Z5.out.1 (few_own Z5.out.1 HB4.out)
                            have P := Lib.hid P
                            go_wp2_with fail
                            go_meet
                            exact ⟨A5, n5, c5, rfl, P.out.1, fun _ => P.out.2⟩
                        case' mzz6 => skip
                        exact AllReadyL.nil
                    case' mzz9 => skip
                    refine AllReadyL.consK (o := ?ozz10) ?hzz10 ?lzz10 (fun K hK => ?kzz10) ?mzz10
                    case hzz10 => simp only [List.getElem?_toArray, List.getElem?_cons_zero, List.getElem?_cons_succ]; rfl
                    case lzz10 => kernel_rfl
                    case kzz10 =>
                      go_simp
                      refine hK.out _ _ ?Rzz10
                      case Rzz10 =>
                        clear hK K
                        try simp only [Act.put, List.setIfInBounds_toArray, List.set_cons_zero, List.set_cons_succ]
                        refine wpAnyH_take (i := 6) (oi := ?ozz7) (v := ?vzz7) ?hzz7 ?azz7 ?bzz7 ?czz7 ?qzz7 ?yzz7 ?szz7 ?rzz7
                        case hzz7 => simp only [List.getElem?_toArray, List.getElem?_cons_zero, List.getElem?_cons_succ]; rfl
                        case azz7 => kernel_rfl
                        case bzz7 => kernel_rfl
                        case czz7 => kernel_rfl
                        case yzz7 =>
                          refine Or.inl ⟨by rfl, ?_⟩
                          intro w hSw
                          skip
                          go_simp
                          try with_reducible rfl
                        case qzz7 => exact fun _ _ _ h => h
                        case szz7 => first | assumption | trivial
                        case' rzz7 => simp only [Act.put, List.setIfInBounds_toArray, List.set_cons_zero, List.set_cons_succ]
                        refine wpAnyH_take (i := 8) (oi := ?ozz8) (v := ?vzz8) ?hzz8 ?azz8 ?bzz8 ?czz8 ?qzz8 ?yzz8 ?szz8 ?rzz8
                        case hzz8 => simp only [List.getElem?_toArray, List.getElem?_cons_zero, List.getElem?_cons_succ]; rfl
                        case azz8 => kernel_rfl
                        case bzz8 => kernel_rfl
                        case czz8 => kernel_rfl
                        case yzz8 =>
                          refine Or.inl ⟨by rfl, ?_⟩
                          intro w hSw
                          skip
                          go_simp
                          try with_reducible rfl
                        case qzz8 => exact fun _ _ _ h => h
                        case szz8 => first | assumption | trivial
                        case' rzz8 => simp only [Act.put, List.setIfInBounds_toArray, List.set_cons_zero, List.set_cons_succ]
                        refine wpAnyH_done (by kernel_rfl) ?_ _
                        have P := (V3.out.step Z5.out.2.1).put Z5.out.2.2 Z5.out.1 (few_own Z5.out.1 HB4.out)
                        have P := Lib.hid P
                        go_wp2_with fail
                        go_meet
                        exact ⟨A5, n5, c5, rfl, P.out.1, fun _ => P.out.2⟩
                    case' mzz10 => skip
                    exact AllReadyL.nil
                case' mzz11 => skip
                exact AllReadyL.nil
            case' mzz12 => skip
            exact AllReadyL.nil
          · have CC := C4.out
            rw [if_neg g] at CC
            have HC := Lib.hid CC
            clear CC
            go_wp2_with fail
            go_meet
            rw [HC.out]
            exact ⟨A3, n3, c3, rfl, V3.out, fun _ => R3.out trivial⟩
        case rest =>
          obtain ⟨A4, n4, c4, rfl, v4, r4'⟩ := hcut
          have V4 := Lib.hid v4
          have R4 := Lib.hid (r4' trivial)
          clear v4 r4' KRN KA KY KD KH
          go_wp2
          go_loopw [1, 8] (fun s1 s8 wr => ∃ (k : Int) (A5 : Option Addr) (n5 c5 : Nat) (x : Dk × Int), s1 = .int .i64 k ∧ s8 = .int .i64 x.2 ∧ 1 ≤ k ∧ k ≤ 1000001 ∧ Sv w A5 n5 c5 x.1 wr ∧ Far w A5 ∧ Bnd 2305843009213693952 x.1 ∧ x5 = if x.2 = 0 then dels (fuelOf k) x.1 k else x) (fun s1 _ _ => (1000002 - intOf s1).toNat)
          case atStart => exact ⟨seg + 1, A4, n4, c4, x4, by simp, rfl, by omega, by omega, V4.out, R4.out, HB4.out, C5.out⟩
          case round =>
            obtain ⟨k, A5, n5, c5, x, rfl, rfl, hk1, hk2, hv, hf, hb, hx⟩ := hrel
            have V := Lib.hid hv
            have HF := Lib.hid hf
            have HB := Lib.hid hb
            have HX := Lib.hid hx
            clear hv hf hb hx
            generalize wr = W at V ⊢
            have KNK := Lib.hid (name_any k)
            have KHK := Lib.hid (fun w hf => has_any (namB k) A5 n5 c5 x.1.room x.1.fuse x.1.off x.1.fs w hf V.out.dsk.max)
            obtain ⟨⟨e0, e1, e2, e3⟩, f0, f1, f2', f3⟩ := V.out.sb.get
            by_cases g0 : x.2 = 0
            · by_cases g1 : segOk k
              · have G1 := Lib.hid g1
                have KUK := Lib.hid (numbered_yes k g1)
                cases g2 : (hit (namB k) x.1.fs).2
                · rw [g2] at KHK
                  have G2 := Lib.hid g2
                  clear g1 g2
                  go_upto_region 11 with (fail)
                  go_region_held3 (fun w' => w'.cell? ⟨w.heap.size, 0, none⟩ = some (.slice A5 n5 c5) ∧ w'.cell? ⟨w.heap.size, 1, none⟩ = some (.int .i64 x.1.room) ∧ w'.cell? ⟨w.heap.size, 2, none⟩ = some (.int .i64 x.1.fuse) ∧ w'.cell? ⟨w.heap.size, 3, none⟩ = some (.bool x.1.off))
                    (first
                      | go_keep
                      | (go_split_ands
                         (repeat' apply And.intro) <;> exact box_ ‹Q _ _› (by assumption)))
                    (first
                      | (go_at_call 16
                         (with_reducible refine (KUK.out _).mono ?_)
                         rintro e w2 ⟨rfl, q2⟩)
                      | (go_at_call 18
                         (with_reducible refine (KNK.out _ (HT.out.q (V.out.sb.q.trans ((Q.refl W).drew.trans q2)))).mono ?_)
                         rintro e w3 ⟨rfl, q3⟩)
                      | (go_at_call 24
                         (with_reducible refine (KHK.out _ (V.out.dsk.files.q (((Q.refl W).drew.trans q2).trans q3))).mono ?_)
                         rintro e w4 ⟨rfl, q4⟩))
                  have U := Lib.hid (V.out.step ((((Q.refl W).drew.trans q2).trans q3).trans q4))
                  clear e0 e1 e2 e3 f0 f1 f2' f3 V q2 q3 q4
                  obtain ⟨⟨s0, s1, s2, s3⟩, h0, h1, h2, h3⟩ := U.out.sb.getR
                  obtain ⟨⟨e0, e1, e2, e3⟩, f0, f1, f2', f3⟩ := U.out.sb.get
                  go_wp2
                  refine bodyPost_ret (v := .tuple #[dkv A5 n5 c5 x.1.room x.1.fuse x.1.off, .int .i64 0]) (by simp [results, Tryd.results20, go_sem, s0, s1, s2, s3]) rfl ?_
                  have ex := HX.out
                  rw [dels_end (.inr (fun h => by rw [G2.out] at h; exact absurd h.2 (by simp)))] at ex
                  rw [ex, g0]
                  have e0' : [Value.int .i64 x.2] = [.int .i64 0] := by rw [g0]
                  exact e0' ▸ U.out.endW HF.out [.int .i64 x.2] _ _ _ _
                · rw [g2] at KHK
                  have G2 := Lib.hid g2
                  have KDK := Lib.hid (fun A n c w hd => del_any (namB k) A n c x.1 w hd (mx HB.out) HB.out.fuse.2)
                  have HB2' := Lib.hid (HB.out.del (namB k))
                  have HX2 := Lib.hid (HX.out.trans (dels_more g0 g1 g2))
                  clear g1 g2 HX
                  generalize del x.1 (namB k) = y at KDK HB2' HX2
                  go_upto_region 11 with (fail)
                  go_region_held3 (fun w' => w'.cell? ⟨w.heap.size, 0, none⟩ = some (.slice A5 n5 c5) ∧ w'.cell? ⟨w.heap.size, 1, none⟩ = some (.int .i64 x.1.room) ∧ w'.cell? ⟨w.heap.size, 2, none⟩ = some (.int .i64 x.1.fuse) ∧ w'.cell? ⟨w.heap.size, 3, none⟩ = some (.bool x.1.off))
                    (first
                      | go_keep
                      | (go_split_ands
                         (repeat' apply And.intro) <;> exact box_ ‹Q _ _› (by assumption)))
                    (first
                      | (go_at_call 16
                         (with_reducible refine (KUK.out _).mono ?_)
                         rintro e w2 ⟨rfl, q2⟩)
                      | (go_at_call 18
                         (with_reducible refine (KNK.out _ (HT.out.q (V.out.sb.q.trans ((Q.refl W).drew.trans q2)))).mono ?_)
                         rintro e w3 ⟨rfl, q3⟩)
                      | (go_at_call 24
                         (with_reducible refine (KHK.out _ (V.out.dsk.files.q (((Q.refl W).drew.trans q2).trans q3))).mono ?_)
                         rintro e w4 ⟨rfl, q4⟩))
                  have U := Lib.hid (V.out.step ((((Q.refl W).drew.trans q2).trans q3).trans q4))
                  clear e0 e1 e2 e3 f0 f1 f2' f3 V q2 q3 q4
                  generalize w4 = W at U ⊢
                  have SU := Lib.hid U.out.sb
                  have DU := Lib.hid U.out.dsk
                  obtain ⟨⟨e0, e1, e2, e3⟩, f0, f1, f2', f3⟩ := U.out.sb.get
                  go_upto_region 13 with (fail)
                  have QW := Lib.hid (Q.refl W)
                  refine wp_region_heldL 7 (Q W) (by kernel_rfl) ?szz13 (fun hHeld => ?rzz13)
                  case szz13 =>
                    exact (Q.refl W).drew
                  case' rzz13 => skip
                  refine wpAnyL_take (i := 0) (oi := ?ozz14) (v := ?vzz14) ?hzz14 ?azz14 ?bzz14 ?czz14 ?kzz14 ?qzz14 ?yzz14 ?szz14 ?rzz14
                  case hzz14 => simp only [List.getElem?_toArray, List.getElem?_cons_zero]; rfl
                  case azz14 => kernel_rfl
                  case bzz14 => kernel_rfl
                  case czz14 => kernel_rfl
                  case kzz14 => kernel_rfl
                  case yzz14 =>
                    refine Or.inl ⟨by rfl, ?_⟩
                    intro w hSw
                    have x0 := box_ hSw e0; have x1 := box_ hSw e1; have x2 := box_ hSw e2; have x3 := box_ hSw e3; clear hSw
                    go_simp
                    try with_reducible rfl
                  case qzz14 => exact fun _ _ _ h => h
                  case szz14 => first | assumption | trivial
                  case' rzz14 => simp only [Act.put, List.setIfInBounds_toArray, List.set_cons_zero, List.set_cons_succ]
                  refine wpAnyL_take (i := 1) (oi := ?ozz15) (v := ?vzz15) ?hzz15 ?azz15 ?bzz15 ?czz15 ?kzz15 ?qzz15 ?yzz15 ?szz15 ?rzz15
                  case hzz15 => simp only [List.getElem?_toArray, List.getElem?_cons_zero, List.getElem?_cons_succ]; rfl
                  case azz15 => kernel_rfl
                  case bzz15 => kernel_rfl
                  case czz15 => kernel_rfl
                  case kzz15 => kernel_rfl
                  case yzz15 =>
                    refine Or.inl ⟨by rfl, ?_⟩
                    intro w hSw
                    skip
                    go_simp
                    try with_reducible rfl
                  case qzz15 => exact fun _ _ _ h => h
                  case szz15 => first | assumption | trivial
                  case' rzz15 => simp only [Act.put, List.setIfInBounds_toArray, List.set_cons_zero, List.set_cons_succ]
                  refine wpAnyL_ready (rs := [2]) (by kernel_rfl) (by simp) ?_
                  refine AllReadyL.cons (o := ?ozz25) ?hzz25 (fun K hK => ?kzz25) ?mzz25
                  case hzz25 => simp only [List.getElem?_toArray, List.getElem?_cons_zero, List.getElem?_cons_succ]; rfl
                  case kzz25 =>
                    go_simp
                    refine (KNK.out _ (HT.out.q (SU.out.q.trans hHeld))).mono ?_
                    rintro e w3 ⟨rfl, q3⟩
                    go_wp2_with fail
                    refine hK.out _ _ ?Szz25 (fun hHeld => ?Rzz25)
                    case Szz25 =>
                      exact hHeld.trans q3
                    case Rzz25 =>
                      clear hK K
                      try simp only [Act.put, List.setIfInBounds_toArray, List.set_cons_zero, List.set_cons_succ]
                      refine wpAnyL_ready (rs := [3]) (by kernel_rfl) (by simp) ?_
                      refine AllReadyL.cons (o := ?ozz24) ?hzz24 (fun K hK => ?kzz24) ?mzz24
                      case hzz24 => simp only [List.getElem?_toArray, List.getElem?_cons_zero, List.getElem?_cons_succ]; rfl
                      case kzz24 =>
                        go_simp
                        refine (KDK.out _ _ _ _ (DU.out.q hHeld)).mono ?_
                        rintro e w5 ⟨A5, n5, c5, rfl, ho, q5⟩
                        obtain ⟨⟨x0, x1, x2, x3⟩, y0, y1, y2, y3⟩ := ((SU.out.step hHeld).step q5).get
                        have Z5 := Lib.hid (And.intro ho (And.intro hHeld q5))
                        go_wp2_with fail
                        refine hK.out _ _ ?Szz24 (fun hHeld => ?Rzz24)
                        case Szz24 =>
                          exact hHeld.trans q5
                        case Rzz24 =>
                          clear hK K
                          try simp only [Act.put, List.setIfInBounds_toArray, List.set_cons_zero, List.set_cons_succ]
                          refine wpAnyL_take (i := 4) (oi := ?ozz16) (v := ?vzz16) ?hzz16 ?azz16 ?bzz16 ?czz16 ?kzz16 ?qzz16 ?yzz16 ?szz16 ?rzz16
                          case hzz16 => simp only [List.getElem?_toArray, List.getElem?_cons_zero, List.getElem?_cons_succ]; rfl
                          case azz16 => kernel_rfl
                          case bzz16 => kernel_rfl
                          case czz16 => kernel_rfl
                          case kzz16 => kernel_rfl
                          case yzz16 =>
                            refine Or.inl ⟨by rfl, ?_⟩
                            intro w hSw
                            skip
                            go_simp
                            try with_reducible rfl
                          case qzz16 => exact fun _ _ _ h => h
                          case szz16 => first | assumption | trivial
                          case' rzz16 => simp only [Act.put, List.setIfInBounds_toArray, List.set_cons_zero, List.set_cons_succ]
                          refine wpAnyL_take (i := 5) (oi := ?ozz17) (v := ?vzz17) ?hzz17 ?azz17 ?bzz17 ?czz17 ?kzz17 ?qzz17 ?yzz17 ?szz17 ?rzz17
                          case hzz17 => simp only [List.getElem?_toArray, List.getElem?_cons_zero, List.getElem?_cons_succ]; rfl
                          case azz17 => kernel_rfl
                          case bzz17 => kernel_rfl
                          case czz17 => kernel_rfl
                          case kzz17 => kernel_rfl
                          case yzz17 =>
                            refine Or.inl ⟨by rfl, ?_⟩
                            intro w hSw
                            skip
                            go_simp
                            try with_reducible rfl
                          case qzz17 => exact fun _ _ _ h => h
                          case szz17 => first | assumption | trivial
                          case' rzz17 => simp only [Act.put, List.setIfInBounds_toArray, List.set_cons_zero, List.set_cons_succ]
                          refine wpAnyL_ready (rs := [6, 7]) (by kernel_rfl) (by simp) ?_
                          refine AllReadyL.cons (o := ?ozz22) ?hzz22 (fun K hK => ?kzz22) ?mzz22
                          case hzz22 => simp only [List.getElem?_toArray, List.getElem?_cons_zero, List.getElem?_cons_succ]; rfl
                          case kzz22 =>
                            go_simp
                            refine hK.out _ _ ?Szz22 (fun hHeld => ?Rzz22)
                            case Szz22 =>
                              exact hHeld
                            case Rzz22 =>
                              clear hK K
                              try simp only [Act.put, List.setIfInBounds_toArray, List.set_cons_zero, List.set_cons_succ]
                              refine wpAnyL_ready (rs := [7]) (by kernel_rfl) (by simp) ?_
                              refine AllReadyL.consK (o := ?ozz19) ?hzz19 ?lzz19 (fun K hK => ?kzz19) ?mzz19
                              case hzz19 => simp only [List.getElem?_toArray, List.getElem?_cons_zero, List.getElem?_cons_succ]; rfl
                              case lzz19 => kernel_rfl
                              case kzz19 =>
                                go_simp
                                refine hK.out _ _ ?Rzz19
                                case Rzz19 =>
                                  clear hK K
                                  try simp only [Act.put, List.setIfInBounds_toArray, List.set_cons_zero, List.set_cons_succ]
                                  refine wpAnyH_take (i := 8) (oi := ?ozz18) (v := ?vzz18) ?hzz18 ?azz18 ?bzz18 ?czz18 ?qzz18 ?yzz18 ?szz18 ?rzz18
                                  case hzz18 => simp only [List.getElem?_toArray, List.getElem?_cons_zero, List.getElem?_cons_succ]; rfl
                                  case azz18 => kernel_rfl
                                  case bzz18 => kernel_rfl
                                  case czz18 => kernel_rfl
                                  case yzz18 =>
                                    refine Or.inl ⟨by rfl, ?_⟩
                                    intro w hSw
                                    skip
                                    go_simp
                                    try with_reducible rfl
                                  case qzz18 => exact fun _ _ _ h => h
                                  case szz18 => first | assumption | trivial
                                  case' rzz18 => simp only [Act.put, List.setIfInBounds_toArray, List.set_cons_zero, List.set_cons_succ]
                                  refine wpAnyH_done (by kernel_rfl) ?_ _
                                  have P := Lib.hid ((U.out.step Z5.out.2.1).put Z5.out.2.2 Z5.out.1 (few_own Z5.out.1 HB2'.out))
                                  have hk3 : k ≤ 1000000 := G1.out.2
                                  go_wp2_with fail
                                  go_roundw
                                  case rel => exact ⟨k + 1, A5, n5, c5, y, by simp, rfl, by omega, by omega, P.out.1, P.out.2, HB2'.out, HX2.out⟩
                                  case measure => simp [intOf]; omega
                              case' mzz19 => skip
                              exact AllReadyL.nil
                          case' mzz22 => skip
                          refine AllReadyL.consK (o := ?ozz23) ?hzz23 ?lzz23 (fun K hK => ?kzz23) ?mzz23
                          case hzz23 => simp only [List.getElem?_toArray, List.getElem?_cons_zero, List.getElem?_cons_succ]; rfl
                          case lzz23 => kernel_rfl
                          case kzz23 =>
                            go_simp
                            refine hK.out _ _ ?Rzz23
                            case Rzz23 =>
                              clear hK K
                              try simp only [Act.put, List.setIfInBounds_toArray, List.set_cons_zero, List.set_cons_succ]
                              refine wpAnyH_take (i := 6) (oi := ?ozz20) (v := ?vzz20) ?hzz20 ?azz20 ?bzz20 ?czz20 ?qzz20 ?yzz20 ?szz20 ?rzz20
                              case hzz20 => simp only [List.getElem?_toArray, List.getElem?_cons_zero, List.getElem?_cons_succ]; rfl
                              case azz20 => kernel_rfl
                              case bzz20 => kernel_rfl
                              case czz20 => kernel_rfl
                              case yzz20 =>
                                refine Or.inl ⟨by rfl, ?_⟩
                                intro w hSw
                                skip
                                go_simp
                                try with_reducible rfl
                              case qzz20 => exact fun _ _ _ h => h
                              case szz20 => first | assumption | trivial
                              case' rzz20 => simp only [Act.put, List.setIfInBounds_toArray, List.set_cons_zero, List.set_cons_succ]
                              refine wpAnyH_take (i := 8) (oi := ?ozz21) (v := ?vzz21) ?hzz21 ?azz21 ?bzz21 ?czz21 ?qzz21 ?yzz21 ?szz21 ?rzz21
                              case hzz21 => simp only [List.getElem?_toArray, List.getElem?_cons_zero, List.getElem?_cons_succ]; rfl
                              case azz21 => kernel_rfl
                              case bzz21 => kernel_rfl
                              case czz21 => kernel_rfl
                              case yzz21 =>
                                refine Or.inl ⟨by rfl, ?_⟩
                                intro w hSw
                                skip
                                go_simp
                                try with_reducible rfl
                              case qzz21 => exact fun _ _ _ h => h
                              case szz21 => first | assumption | trivial
                              case' rzz21 => simp only [Act.put, List.setIfInBounds_toArray, List.set_cons_zero, List.set_cons_succ]
                              refine wpAnyH_done (by kernel_rfl) ?_ _
                              have P := Lib.hid ((U.out.step Z5.out.2.1).put Z5.out.2.2 Z5.out.1 (few_own Z5.out.1 HB2'.out))
                              have hk3 : k ≤ 1000000 := G1.out.2
                              go_wp2_with fail
                              go_roundw
                              case rel => exact ⟨k + 1, A5, n5, c5, y, by simp, rfl, by omega, by omega, P.out.1, P.out.2, HB2'.out, HX2.out⟩
                              case measure => simp [intOf]; omega
                          case' mzz23 => skip
                          exact AllReadyL.nil
                      case' mzz24 => skip
                      exact AllReadyL.nil
                  case' mzz25 => skip
                  exact AllReadyL.nil
              · have KUK := Lib.hid (numbered_no k g1)
                have G1 := Lib.hid g1
                clear g1
                go_upto_region 11 with (fail)
                refine wp_region_held_drew (S := fun _ => True) (by kernel_rfl) ?szz26 (fun hHeld => ?rzz26)
                case szz26 =>
                  trivial
                case' rzz26 => skip
                refine wpAnyH_take (i := 0) (oi := ?ozz27) (v := ?vzz27) ?hzz27 ?azz27 ?bzz27 ?czz27 ?qzz27 ?yzz27 ?szz27 ?rzz27
                case hzz27 => simp only [List.getElem?_toArray, List.getElem?_cons_zero]; rfl
                case azz27 => kernel_rfl
                case bzz27 => kernel_rfl
                case czz27 => kernel_rfl
                case yzz27 =>
                  refine Or.inl ⟨by rfl, ?_⟩
                  intro w hSw
                  skip
                  go_simp
                  try with_reducible rfl
                case qzz27 => exact fun _ _ _ h => h
                case szz27 => first | assumption | trivial
                case' rzz27 => simp only [Act.put, List.setIfInBounds_toArray, List.set_cons_zero, List.set_cons_succ]
                refine wpAnyH_take (i := 1) (oi := ?ozz28) (v := ?vzz28) ?hzz28 ?azz28 ?bzz28 ?czz28 ?qzz28 ?yzz28 ?szz28 ?rzz28
                case hzz28 => simp only [List.getElem?_toArray, List.getElem?_cons_zero, List.getElem?_cons_succ]; rfl
                case azz28 => kernel_rfl
                case bzz28 => kernel_rfl
                case czz28 => kernel_rfl
                case yzz28 =>
                  refine Or.inl ⟨by rfl, ?_⟩
                  intro w hSw
                  skip
                  go_simp
                  try with_reducible rfl
                case qzz28 => exact fun _ _ _ h => h
                case szz28 => first | assumption | trivial
                case' rzz28 => simp only [Act.put, List.setIfInBounds_toArray, List.set_cons_zero, List.set_cons_succ]
                refine wpAnyH_take (i := 2) (oi := ?ozz29) (v := ?vzz29) ?hzz29 ?azz29 ?bzz29 ?czz29 ?qzz29 ?yzz29 ?szz29 ?rzz29
                case hzz29 => simp only [List.getElem?_toArray, List.getElem?_cons_zero, List.getElem?_cons_succ]; rfl
                case azz29 => kernel_rfl
                case bzz29 => kernel_rfl
                case czz29 => kernel_rfl
                case yzz29 =>
                  refine Or.inl ⟨by rfl, ?_⟩
                  intro w hSw
                  skip
                  go_simp
                  try with_reducible rfl
                case qzz29 => exact fun _ _ _ h => h
                case szz29 => first | assumption | trivial
                case' rzz29 => simp only [Act.put, List.setIfInBounds_toArray, List.set_cons_zero, List.set_cons_succ]
                refine wpAnyH_take (i := 3) (oi := ?ozz30) (v := ?vzz30) ?hzz30 ?azz30 ?bzz30 ?czz30 ?qzz30 ?yzz30 ?szz30 ?rzz30
                case hzz30 => simp only [List.getElem?_toArray, List.getElem?_cons_zero, List.getElem?_cons_succ]; rfl
                case azz30 => kernel_rfl
                case bzz30 => kernel_rfl
                case czz30 => kernel_rfl
                case yzz30 =>
                  refine Or.inl ⟨by rfl, ?_⟩
                  intro w hSw
                  skip
                  go_simp
                  try with_reducible rfl
                case qzz30 => exact fun _ _ _ h => h
                case szz30 => first | assumption | trivial
                case' rzz30 => simp only [Act.put, List.setIfInBounds_toArray, List.set_cons_zero, List.set_cons_succ]
                refine wpAnyH_ready (rs := [4]) (by kernel_rfl) (by simp) ?_
                refine AllReadyH.cons (o := ?ozz38) ?hzz38 (fun K hK => ?kzz38) ?mzz38
                case hzz38 => simp only [List.getElem?_toArray, List.getElem?_cons_zero, List.getElem?_cons_succ]; rfl
                case kzz38 =>
                  go_simp
                  refine (KUK.out _).mono ?_
                  rintro e w2 ⟨rfl, q2⟩
                  go_wp2_with fail
                  refine hK.out _ _ ?Szz38 (fun hHeld => ?Rzz38)
                  case Szz38 =>
                    trivial
                  case Rzz38 =>
                    clear hK K
                    try simp only [Act.put, List.setIfInBounds_toArray, List.set_cons_zero, List.set_cons_succ]
                    refine wpAnyH_take (i := 5) (oi := ?ozz31) (v := ?vzz31) ?hzz31 ?azz31 ?bzz31 ?czz31 ?qzz31 ?yzz31 ?szz31 ?rzz31
                    case hzz31 => simp only [List.getElem?_toArray, List.getElem?_cons_zero, List.getElem?_cons_succ]; rfl
                    case azz31 => kernel_rfl
                    case bzz31 => kernel_rfl
                    case czz31 => kernel_rfl
                    case yzz31 =>
                      refine Or.inl ⟨by rfl, ?_⟩
                      intro w hSw
                      skip
                      go_simp
                      try with_reducible rfl
                    case qzz31 => exact fun _ _ _ h => h
                    case szz31 => first | assumption | trivial
                    case' rzz31 => simp only [Act.put, List.setIfInBounds_toArray, List.set_cons_zero, List.set_cons_succ]
                    refine wpAnyH_take (i := 6) (oi := ?ozz32) (v := ?vzz32) ?hzz32 ?azz32 ?bzz32 ?czz32 ?qzz32 ?yzz32 ?szz32 ?rzz32
                    case hzz32 => simp only [List.getElem?_toArray, List.getElem?_cons_zero, List.getElem?_cons_succ]; rfl
                    case azz32 => kernel_rfl
                    case bzz32 => kernel_rfl
                    case czz32 => kernel_rfl
                    case yzz32 =>
                      refine Or.inl ⟨by rfl, ?_⟩
                      intro w hSw
                      skip
                      go_simp
                      try with_reducible rfl
                    case qzz32 => exact fun _ _ _ h => h
                    case szz32 => first | assumption | trivial
                    case' rzz32 => simp only [Act.put, List.setIfInBounds_toArray, List.set_cons_zero, List.set_cons_succ]
                    refine wpAnyH_take (i := 7) (oi := ?ozz33) (v := undef) ?hzz33 ?azz33 ?bzz33 ?czz33 ?qzz33 ?yzz33 ?szz33 ?rzz33
                    case hzz33 => simp only [List.getElem?_toArray, List.getElem?_cons_zero, List.getElem?_cons_succ]; rfl
                    case azz33 => kernel_rfl
                    case bzz33 => kernel_rfl
                    case czz33 => kernel_rfl
                    case yzz33 => exact Or.inr ⟨by rfl, rfl⟩
                    case qzz33 => exact fun _ _ _ h => h
                    case szz33 => first | assumption | trivial
                    case' rzz33 => simp only [Act.put, List.setIfInBounds_toArray, List.set_cons_zero, List.set_cons_succ]
                    refine wpAnyH_take (i := 8) (oi := ?ozz34) (v := undef) ?hzz34 ?azz34 ?bzz34 ?czz34 ?qzz34 ?yzz34 ?szz34 ?rzz34
                    case hzz34 => simp only [List.getElem?_toArray, List.getElem?_cons_zero, List.getElem?_cons_succ]; rfl
                    case azz34 => kernel_rfl
                    case bzz34 => kernel_rfl
                    case czz34 => kernel_rfl
                    case yzz34 => exact Or.inr ⟨by rfl, rfl⟩
                    case qzz34 => exact fun _ _ _ h => h
                    case szz34 => first | assumption | trivial
                    case' rzz34 => simp only [Act.put, List.setIfInBounds_toArray, List.set_cons_zero, List.set_cons_succ]
                    refine wpAnyH_take (i := 9) (oi := ?ozz35) (v := undef) ?hzz35 ?azz35 ?bzz35 ?czz35 ?qzz35 ?yzz35 ?szz35 ?rzz35
                    case hzz35 => simp only [List.getElem?_toArray, List.getElem?_cons_zero, List.getElem?_cons_succ]; rfl
                    case azz35 => kernel_rfl
                    case bzz35 => kernel_rfl
                    case czz35 => kernel_rfl
                    case yzz35 => exact Or.inr ⟨by rfl, rfl⟩
                    case qzz35 => exact fun _ _ _ h => h
                    case szz35 => first | assumption | trivial
                    case' rzz35 => simp only [Act.put, List.setIfInBounds_toArray, List.set_cons_zero, List.set_cons_succ]
                    refine wpAnyH_take (i := 10) (oi := ?ozz36) (v := undef) ?hzz36 ?azz36 ?bzz36 ?czz36 ?qzz36 ?yzz36 ?szz36 ?rzz36
                    case hzz36 => simp only [List.getElem?_toArray, List.getElem?_cons_zero, List.getElem?_cons_succ]; rfl
                    case azz36 => kernel_rfl
                    case bzz36 => kernel_rfl
                    case czz36 => kernel_rfl
                    case yzz36 => exact Or.inr ⟨by rfl, rfl⟩
                    case qzz36 => exact fun _ _ _ h => h
                    case szz36 => first | assumption | trivial
                    case' rzz36 => simp only [Act.put, List.setIfInBounds_toArray, List.set_cons_zero, List.set_cons_succ]
                    refine wpAnyH_take (i := 11) (oi := ?ozz37) (v := ?vzz37) ?hzz37 ?azz37 ?bzz37 ?czz37 ?qzz37 ?yzz37 ?szz37 ?rzz37
                    case hzz37 => simp only [List.getElem?_toArray, List.getElem?_cons_zero, List.getElem?_cons_succ]; rfl
                    case azz37 => kernel_rfl
                    case bzz37 => kernel_rfl
                    case czz37 => kernel_rfl
                    case yzz37 =>
                      refine Or.inl ⟨by rfl, ?_⟩
                      intro w hSw
                      skip
                      go_simp
                      try with_reducible rfl
                    case qzz37 => exact fun _ _ _ h => h
                    case szz37 => first | assumption | trivial
                    case' rzz37 => simp only [Act.put, List.setIfInBounds_toArray, List.set_cons_zero, List.set_cons_succ]
                    refine wpAnyH_done (by kernel_rfl) ?_ _
                    have U := Lib.hid (V.out.step ((Q.refl W).drew.trans q2))
                    clear e0 e1 e2 e3 f0 f1 f2' f3 V q2
                    obtain ⟨⟨s0, s1, s2, s3⟩, h0, h1, h2, h3⟩ := U.out.sb.getR
                    obtain ⟨⟨e0, e1, e2, e3⟩, f0, f1, f2', f3⟩ := U.out.sb.get
                    go_wp2
                    refine bodyPost_ret (v := .tuple #[dkv A5 n5 c5 x.1.room x.1.fuse x.1.off, .int .i64 0]) (by simp [results, Tryd.results20, go_sem, s0, s1, s2, s3]) rfl ?_
                    have ex := HX.out
                    rw [dels_end (.inr (fun h => G1.out h.1))] at ex
                    rw [ex, g0]
                    have e0' : [Value.int .i64 x.2] = [.int .i64 0] := by rw [g0]
                    exact e0' ▸ U.out.endW HF.out [.int .i64 x.2] _ _ _ _
                case' mzz38 => skip
                exact AllReadyH.nil
            · have G0 := Lib.hid g0
              have KUK := Lib.hid (numbered_yes)
              go_upto_region 11 with (fail)
              refine wp_region_held_drew (S := fun _ => True) (by kernel_rfl) ?szz39 (fun hHeld => ?rzz39)
              case szz39 =>
                trivial
              case' rzz39 => skip
              refine wpAnyH_take (i := 0) (oi := ?ozz40) (v := ?vzz40) ?hzz40 ?azz40 ?bzz40 ?czz40 ?qzz40 ?yzz40 ?szz40 ?rzz40
              case hzz40 => simp only [List.getElem?_toArray, List.getElem?_cons_zero]; rfl
              case azz40 => kernel_rfl
              case bzz40 => kernel_rfl
              case czz40 => kernel_rfl
              case yzz40 =>
                refine Or.inl ⟨by rfl, ?_⟩
                intro w hSw
                skip
                go_simp
                try with_reducible rfl
              case qzz40 => exact fun _ _ _ h => h
              case szz40 => first | assumption | trivial
              case' rzz40 => simp only [Act.put, List.setIfInBounds_toArray, List.set_cons_zero, List.set_cons_succ]
              refine wpAnyH_take (i := 1) (oi := ?ozz41) (v := ?vzz41) ?hzz41 ?azz41 ?bzz41 ?czz41 ?qzz41 ?yzz41 ?szz41 ?rzz41
              case hzz41 => simp only [List.getElem?_toArray, List.getElem?_cons_zero, List.getElem?_cons_succ]; rfl
              case azz41 => kernel_rfl
              case bzz41 => kernel_rfl
              case czz41 => kernel_rfl
              case yzz41 =>
                refine Or.inl ⟨by rfl, ?_⟩
                intro w hSw
                have hz : (x.2 == 0) = false := (by simpa using g0); have hz2 : decide (x.2 = 0) = false := (by simpa using g0)
                go_simp
                try with_reducible rfl
              case qzz41 => exact fun _ _ _ h => h
              case szz41 => first | assumption | trivial
              case' rzz41 => simp only [Act.put, List.setIfInBounds_toArray, List.set_cons_zero, List.set_cons_succ]
              refine wpAnyH_take (i := 2) (oi := ?ozz42) (v := ?vzz42) ?hzz42 ?azz42 ?bzz42 ?czz42 ?qzz42 ?yzz42 ?szz42 ?rzz42
              case hzz42 => simp only [List.getElem?_toArray, List.getElem?_cons_zero, List.getElem?_cons_succ]; rfl
              case azz42 => kernel_rfl
              case bzz42 => kernel_rfl
              case czz42 => kernel_rfl
              case yzz42 =>
                refine Or.inl ⟨by rfl, ?_⟩
                intro w hSw
                skip
                go_simp
                try with_reducible rfl
              case qzz42 => exact fun _ _ _ h => h
              case szz42 => first | assumption | trivial
              case' rzz42 => simp only [Act.put, List.setIfInBounds_toArray, List.set_cons_zero, List.set_cons_succ]
              refine wpAnyH_take (i := 3) (oi := ?ozz43) (v := undef) ?hzz43 ?azz43 ?bzz43 ?czz43 ?qzz43 ?yzz43 ?szz43 ?rzz43
              case hzz43 => simp only [List.getElem?_toArray, List.getElem?_cons_zero, List.getElem?_cons_succ]; rfl
              case azz43 => kernel_rfl
              case bzz43 => kernel_rfl
              case czz43 => kernel_rfl
              case yzz43 => exact Or.inr ⟨by rfl, rfl⟩
              case qzz43 => exact fun _ _ _ h => h
              case szz43 => first | assumption | trivial
              case' rzz43 => simp only [Act.put, List.setIfInBounds_toArray, List.set_cons_zero, List.set_cons_succ]
              refine wpAnyH_take (i := 4) (oi := ?ozz44) (v := undef) ?hzz44 ?azz44 ?bzz44 ?czz44 ?qzz44 ?yzz44 ?szz44 ?rzz44
              case hzz44 => simp only [List.getElem?_toArray, List.getElem?_cons_zero, List.getElem?_cons_succ]; rfl
              case azz44 => kernel_rfl
              case bzz44 => kernel_rfl
              case czz44 => kernel_rfl
              case yzz44 => exact Or.inr ⟨by rfl, rfl⟩
              case qzz44 => exact fun _ _ _ h => h
              case szz44 => first | assumption | trivial
              case' rzz44 => simp only [Act.put, List.setIfInBounds_toArray, List.set_cons_zero, List.set_cons_succ]
              refine wpAnyH_take (i := 5) (oi := ?ozz45) (v := ?vzz45) ?hzz45 ?azz45 ?bzz45 ?czz45 ?qzz45 ?yzz45 ?szz45 ?rzz45
              case hzz45 => simp only [List.getElem?_toArray, List.getElem?_cons_zero, List.getElem?_cons_succ]; rfl
              case azz45 => kernel_rfl
              case bzz45 => kernel_rfl
              case czz45 => kernel_rfl
              case yzz45 =>
                refine Or.inl ⟨by rfl, ?_⟩
                intro w hSw
                skip
                go_simp
                try with_reducible rfl
              case qzz45 => exact fun _ _ _ h => h
              case szz45 => first | assumption | trivial
              case' rzz45 => simp only [Act.put, List.setIfInBounds_toArray, List.set_cons_zero, List.set_cons_succ]
              refine wpAnyH_take (i := 6) (oi := ?ozz46) (v := ?vzz46) ?hzz46 ?azz46 ?bzz46 ?czz46 ?qzz46 ?yzz46 ?szz46 ?rzz46
              case hzz46 => simp only [List.getElem?_toArray, List.getElem?_cons_zero, List.getElem?_cons_succ]; rfl
              case azz46 => kernel_rfl
              case bzz46 => kernel_rfl
              case czz46 => kernel_rfl
              case yzz46 =>
                refine Or.inl ⟨by rfl, ?_⟩
                intro w hSw
                skip
                go_simp
                try with_reducible rfl
              case qzz46 => exact fun _ _ _ h => h
              case szz46 => first | assumption | trivial
              case' rzz46 => simp only [Act.put, List.setIfInBounds_toArray, List.set_cons_zero, List.set_cons_succ]
              refine wpAnyH_take (i := 7) (oi := ?ozz47) (v := undef) ?hzz47 ?azz47 ?bzz47 ?czz47 ?qzz47 ?yzz47 ?szz47 ?rzz47
              case hzz47 => simp only [List.getElem?_toArray, List.getElem?_cons_zero, List.getElem?_cons_succ]; rfl
              case azz47 => kernel_rfl
              case bzz47 => kernel_rfl
              case czz47 => kernel_rfl
              case yzz47 => exact Or.inr ⟨by rfl, rfl⟩
              case qzz47 => exact fun _ _ _ h => h
              case szz47 => first | assumption | trivial
              case' rzz47 => simp only [Act.put, List.setIfInBounds_toArray, List.set_cons_zero, List.set_cons_succ]
              refine wpAnyH_take (i := 8) (oi := ?ozz48) (v := undef) ?hzz48 ?azz48 ?bzz48 ?czz48 ?qzz48 ?yzz48 ?szz48 ?rzz48
              case hzz48 => simp only [List.getElem?_toArray, List.getElem?_cons_zero, List.getElem?_cons_succ]; rfl
              case azz48 => kernel_rfl
              case bzz48 => kernel_rfl
              case czz48 => kernel_rfl
              case yzz48 => exact Or.inr ⟨by rfl, rfl⟩
              case qzz48 => exact fun _ _ _ h => h
              case szz48 => first | assumption | trivial
              case' rzz48 => simp only [Act.put, List.setIfInBounds_toArray, List.set_cons_zero, List.set_cons_succ]
              refine wpAnyH_take (i := 9) (oi := ?ozz49) (v := undef) ?hzz49 ?azz49 ?bzz49 ?czz49 ?qzz49 ?yzz49 ?szz49 ?rzz49
              case hzz49 => simp only [List.getElem?_toArray, List.getElem?_cons_zero, List.getElem?_cons_succ]; rfl
              case azz49 => kernel_rfl
              case bzz49 => kernel_rfl
              case czz49 => kernel_rfl
              case yzz49 => exact Or.inr ⟨by rfl, rfl⟩
              case qzz49 => exact fun _ _ _ h => h
              case szz49 => first | assumption | trivial
              case' rzz49 => simp only [Act.put, List.setIfInBounds_toArray, List.set_cons_zero, List.set_cons_succ]
              refine wpAnyH_take (i := 10) (oi := ?ozz50) (v := undef) ?hzz50 ?azz50 ?bzz50 ?czz50 ?qzz50 ?yzz50 ?szz50 ?rzz50
              case hzz50 => simp only [List.getElem?_toArray, List.getElem?_cons_zero, List.getElem?_cons_succ]; rfl
              case azz50 => kernel_rfl
              case bzz50 => kernel_rfl
              case czz50 => kernel_rfl
              case yzz50 => exact Or.inr ⟨by rfl, rfl⟩
              case qzz50 => exact fun _ _ _ h => h
              case szz50 => first | assumption | trivial
              case' rzz50 => simp only [Act.put, List.setIfInBounds_toArray, List.set_cons_zero, List.set_cons_succ]
              refine wpAnyH_take (i := 11) (oi := ?ozz51) (v := ?vzz51) ?hzz51 ?azz51 ?bzz51 ?czz51 ?qzz51 ?yzz51 ?szz51 ?rzz51
              case hzz51 => simp only [List.getElem?_toArray, List.getElem?_cons_zero, List.getElem?_cons_succ]; rfl
              case azz51 => kernel_rfl
              case bzz51 => kernel_rfl
              case czz51 => kernel_rfl
              case yzz51 =>
                refine Or.inl ⟨by rfl, ?_⟩
                intro w hSw
                skip
                go_simp
                try with_reducible rfl
              case qzz51 => exact fun _ _ _ h => h
              case szz51 => first | assumption | trivial
              case' rzz51 => simp only [Act.put, List.setIfInBounds_toArray, List.set_cons_zero, List.set_cons_succ]
              refine wpAnyH_done (by kernel_rfl) ?_ _
              have U := Lib.hid (V.out.step (Q.refl W).drew)
              clear e0 e1 e2 e3 f0 f1 f2' f3
              obtain ⟨⟨s0, s1, s2, s3⟩, h0, h1, h2, h3⟩ := V.out.sb.getR
              obtain ⟨⟨e0, e1, e2, e3⟩, f0, f1, f2', f3⟩ := V.out.sb.get
              go_wp2
              refine bodyPost_ret (v := .tuple #[dkv A5 n5 c5 x.1.room x.1.fuse x.1.off, .int .i64 x.2]) (by simp [results, Tryd.results20, go_sem, s0, s1, s2, s3]) rfl ?_
              have ex := HX.out
              rw [dels_end (.inl G0.out)] at ex
              rw [ex]
              exact U.out.endW HF.out [.int .i64 x.2] _ _ _ _
end Go.Proofs.YtncippafbohgbaaDoor

/- Contracts: wal.records, its iterator, wal.Scan. -/
namespace Go.Proofs.YtncippafbohgbaaDoor
set_option maxRecDepth 100000
open Go.RowKit Go.Shelf
set_option linter.unusedVariables false
attribute [local go_sem] Oper.semAt_some

/-! ### What comes, in plain mathematics -/
abbrev Pr := ByteArray × Int
def encP (x : Pr) : Array Value := #[.string x.1, .int .i64 x.2]
def bs (r : List UInt8) : ByteArray := ⟨r.toArray⟩
theorem list_bs (l : List UInt8) : (bs l).data.toList = l := rfl
theorem bs_size (l : List UInt8) : (bs l).size = l.length := by show l.toArray.size = _; simp
def prs : Nat → List (List UInt8) → List Pr
  | _, [] => []
  | o, r :: rs => (bs r, ((o + (sld r).length : Nat) : Int)) :: prs (o + (sld r).length) rs
theorem prs_snoc (r : List UInt8) : ∀ (us : List (List UInt8)) (o : Nat), prs o (us ++ [r]) = prs o us ++ [(bs r, ((o + (flat us).length + (sld r).length : Nat) : Int))]
  | [], o => by simp [prs, flat_nil]
  | u :: us, o => by
    simp only [List.cons_append, prs, prs_snoc r us, flat_cons, List.length_append]
    rw [show o + (sld u).length + (flat us).length + (sld r).length = o + ((sld u).length + (flat us).length) + (sld r).length by omega]
theorem prs_len : ∀ (rs : List (List UInt8)) (o : Nat), (prs o rs).length = rs.length
  | [], _ => rfl
  | r :: rs, o => by simp [prs, prs_len rs]
theorem prs_fst : ∀ (rs : List (List UInt8)) (o : Nat), (prs o rs).map (fun x => Value.string x.1) = rs.map (fun r => Value.string (bs r))
  | [], _ => rfl
  | r :: rs, o => by simp [prs, prs_fst rs]
def lastE (l : List Pr) : Int := (l.getLast?.map (·.2)).getD 0
theorem lastE_snoc (l : List Pr) (x : Pr) : lastE (l ++ [x]) = x.2 := by simp [lastE]
theorem lastE_prs (rs : List (List UInt8)) : lastE (prs 0 rs) = ((flat rs).length : Int) := by
  rcases List.eq_nil_or_concat rs with rfl | ⟨us, r, rfl⟩
  · rfl
  · rw [List.concat_eq_append, prs_snoc, lastE_snoc, flat_app, flat_cons, flat_nil]
    simp only [List.length_append, List.append_nil]
    omega

def strSize : Value → Nat
  | .string s => s.size
  | _ => 0
theorem grown_q {w w' : World} (h : Q w w') : w.grownBy w' none := ⟨h.below.os, h.below.tape, h.below.output, h.below.size, fun k hk _ => h.below.block k hk⟩

theorem records_any (s : ByteArray) (w : World) :
    Calls Tryd.prog 28 #[.string s] w fun e w' => e = .returned (.func (.func 41) #[] #[.pointer (some ⟨w.heap.size, 0, none⟩)]) ∧ w' = w.alloc (.cells #[.string s] 9) := by
  go_enter Tryd.func28, Tryd.ntmps28
  go_wp2
  go_ret
  exact ⟨rfl, rfl⟩

/-- what a round keeps: the text's box. -/
def KpB (b : Nat) (W W' : World) : Prop := ∀ v, W.cell? ⟨b, 0, none⟩ = some v → W'.cell? ⟨b, 0, none⟩ = some v
theorem kpB_t {b : Nat} {A B C : World} (h : KpB b A B) (k : KpB b B C) : KpB b A C := fun v hv => k v (h v hv)
theorem kpB_b {b : Nat} {w : World} (hb : b < w.heap.size) (W : World) (l : Nat) (o o' : Obj) (hl : w.heap.size ≤ l) (h : W.heap[l]? = some o) (_ : o.isCells = false) (_ : o.isWalk = false) : KpB b W (W.putObj l o') := fun v hv => by
  have e : (W.putObj l o').heap[b]? = W.heap[b]? := World.putObj_heap_other (by omega)
  simp only [World.cell?] at hv ⊢
  rw [e]; exact hv

set_option maxHeartbeats 1000000 in
theorem iter_any (n : Nat) (hn : 1 ≤ n) (l b : Nat) (s : ByteArray) (hs : s.size ≤ maxLen) (J Jx : List Pr → World → Prop) (W : World) (hJ : AbidesFrom W.heap.size J)
    (hY : ∀ pre x W1, J pre W1 → pre.length < (scn s.data.toList).1.length → YieldAt Fence.wide (n - 1) Tryd.prog l (encP x) W1 fun e W' =>
      (e = .returned (.bool true) ∧ J (pre ++ [x]) W' ∧ KpB b W1 W') ∨ (e = .returned (.bool false) ∧ Jx (pre ++ [x]) W'))
    (hc : W.cell? ⟨b, 0, none⟩ = some (.string s)) (hb : b < W.heap.size) (h0 : J [] W) :
    CallsIn Fence.wide n Tryd.prog 41 #[.func (.yield l) #[] #[], .pointer (some ⟨b, 0, none⟩)] W fun e W' => (∃ v, e = .returned v) ∧
      ((∃ ys, ys = prs 0 (scn s.data.toList).1 ∧ J ys W') ∨ (∃ pre, True ∧ Jx pre W')) := by
  refine callsIn_of_wp Tryd.func41 rfl trivial ?_ rfl
  simp only [Tryd.ntmps41, List.size_toArray, List.length_cons, List.length_nil, Nat.reduceAdd, Nat.reduceSub, Array.replicate_succ, Array.replicate_zero, List.push_toArray, List.append_toArray, List.nil_append, List.cons_append]
  have hS0 := scd s.data.toList
  have HY := Lib.hid hY
  have HJ := Lib.hid hJ
  have H0 := Lib.hid h0
  have HS := Lib.hid hs
  clear hY hJ h0
  gi_wp2
  gi_loopw [3] (fun p wr => ∃ us vs, p = .string (bs (flat vs ++ (scn s.data.toList).2)) ∧ (scn s.data.toList).1 = us ++ vs ∧ J (prs 0 us) wr ∧ wr.cell? ⟨b, 0, none⟩ = some (.string s)) (fun p _ => strSize p)
  case atStart =>
    exact ⟨[], (scn s.data.toList).1, by rw [← hS0.eq]; rfl, rfl, H0.out, hc⟩
  case round =>
    obtain ⟨us, vs, rfl, hx, hJs, hcs⟩ := hrel
    have hlen : (flat vs ++ (scn s.data.toList).2).length ≤ s.size := by
      have h1 := congrArg List.length hS0.eq
      rw [hx, flat_app, size_list] at h1
      simp only [List.length_append] at h1 ⊢
      omega
    have hO := sopen_any (bs (flat vs ++ (scn s.data.toList).2)) 2048 wr (by rw [bs_size]; have := HS.out; omega) (by omega) (by omega)
    rw [list_bs] at hO
    have hblt : b < wr.heap.size := block_lt_of_cell hcs
    cases vs with
    | nil =>
      rw [flat_nil, List.nil_append] at hO
      rw [flat_nil, List.nil_append]
      have hno := hS0.no
      generalize (scn s.data.toList).2 = t at hO hno
      generalize topen t 2048 = r at hO hno
      obtain ⟨x, y, k⟩ := r
      simp only [ttR] at hO
      have hk : ((k : Int) != 0) = true := by simpa using hno
      have hx' : prs 0 us = prs 0 (scn s.data.toList).1 := by rw [hx, List.append_nil]
      gi_wp2_with (fail)
      refine ⟨trivial, ?_⟩
      refine (callsIn_wide.2 hO).mono ?_
      rintro e W2 ⟨rfl, q2⟩
      have hJ2 : J (prs 0 us) W2 := HJ.out _ _ _ none hJs (grown_q q2) (by intro r e; cases e)
      gi_wp2
      refine ⟨fun _ h => (by cases h), ?_⟩
      gi_wp2
      refine bodyPost_ret (results_none rfl _ _ _) rfl ?_
      exact ⟨⟨_, rfl⟩, .inl ⟨_, hx', hJ2⟩⟩
    | cons r vs =>
      have hr : r.length ≤ 2048 := hS0.le r (by rw [hx]; simp)
      rw [flat_cons, List.append_assoc] at hO hlen ⊢
      rw [open_one r _ hr] at hO
      simp only [ttR] at hO
      have h4 := sld_four r
      have hBs := bs_size (flat vs ++ (scn s.data.toList).2)
      have hend : (s.size : Int) - ((bs (flat vs ++ (scn s.data.toList).2)).size : Int) = ((0 + (flat us).length + (sld r).length : Nat) : Int) := by
        have h1 := congrArg List.length hS0.eq
        rw [hx, flat_app, flat_cons, size_list] at h1
        rw [bs_size]
        simp only [List.length_append] at h1 ⊢
        omega
      have hend2 : wrap64 ((s.size : Int) - ((bs (flat vs ++ (scn s.data.toList).2)).size : Int)) = ((0 + (flat us).length + (sld r).length : Nat) : Int) := by
        rw [hend]; have h2 := HS.out; have h3 := congrArg List.length hS0.eq
        rw [hx, flat_app, flat_cons, size_list] at h3
        simp only [List.length_append] at h3
        unfold maxLen at h2; unfold wrap64; omega
      have HE := Lib.hid hend2
      clear hend hend2
      have hBle : (bs (flat vs ++ (scn s.data.toList).2)).size ≤ s.size := by rw [hBs]; simp only [List.length_append] at hlen ⊢; omega
      change Calls _ _ _ _ fun e w' => e = .returned (.tuple #[.string (bs r), .string (bs (flat vs ++ (scn s.data.toList).2)), .int .i64 0]) ∧ Q wr w' at hO
      have HL := Lib.hid (And.intro hlen (And.intro hBs hx))
      have hms : strSize (.string (bs (flat vs ++ (scn s.data.toList).2))) < strSize (.string (bs (sld r ++ (flat vs ++ (scn s.data.toList).2)))) := by
        simp only [strSize, bs_size, List.length_append]; omega
      clear hlen hBs hx
      gi_wp2_with (fail)
      refine ⟨trivial, ?_⟩
      refine (callsIn_wide.2 hO).mono ?_
      rintro e W2 ⟨rfl, q2⟩
      have hJ2 : J (prs 0 us) W2 := HJ.out _ _ _ none hJs (grown_q q2) (by intro r e; cases e)
      have hc2 : W2.cell? ⟨b, 0, none⟩ = some (.string s) := (q2.below.cell (p := ⟨b, 0, none⟩) hblt).trans hcs
      obtain ⟨fn, tmps, assign, body, hy, hR⟩ := HY.out (prs 0 us) (bs r, wrap64 ((s.size : Int) - ((bs (flat vs ++ (scn s.data.toList).2)).size : Int))) W2 hJ2 (by rw [prs_len, HL.out.2.2]; simp)
      dsimp only [encP] at hy
      gi_wp2
      refine hR.mono ?_
      rintro e W3 (⟨rfl, hJ3, hk3⟩ | ⟨rfl, hJx3⟩)
      · have hc3 : W3.cell? ⟨b, 0, none⟩ = some (.string s) := hk3 _ hc2
        have HM := Lib.hid hms
        clear hms
        gi_wp2
        go_roundw
        case rel => exact ⟨us ++ [r], vs, rfl, by rw [HL.out.2.2]; simp, by rw [prs_snoc, ← HE.out]; exact hJ3, hc3⟩
        case measure => exact HM.out
      · gi_wp2
        refine bodyPost_ret (results_none rfl _ _ _) rfl ?_
        exact ⟨⟨_, rfl⟩, .inr ⟨_, trivial, hJx3⟩⟩

theorem stops_any (n : Nat) (hn : 1 ≤ n) (b : Nat) (s : ByteArray) (hs : s.size ≤ maxLen) (w : World) (hb : b < w.heap.size) (hc : w.cell? ⟨b, 0, none⟩ = some (.string s)) :
    SeqStopsK Fence.wide n Tryd.prog 41 #[.pointer (some ⟨b, 0, none⟩)] encP (KpB b) (fun ys => ys = prs 0 (scn s.data.toList).1) (fun _ => True) (scn s.data.toList).1.length w := fun l J Jx W hW hJ hJx hY h0 =>
  iter_any n hn l b s hs J Jx W hJ hY ((hW.cell (p := ⟨b, 0, none⟩) hb).trans hc) (Nat.lt_of_lt_of_le hb hW.size) h0
end Go.Proofs.YtncippafbohgbaaDoor

/- The contract of wal.Scan. -/
namespace Go.Proofs.YtncippafbohgbaaDoor
set_option maxRecDepth 100000
open Go.RowKit Go.Shelf
set_option linter.unusedVariables false
attribute [local go_sem] Oper.semAt_some

theorem infoS : (Tryd.prog.info? 9).map (fun i => (i.zero, i.size, i.bytes)) = some (some (.string ⟨#[]⟩), 1, 16) := by kernel_rfl
theorem row_lower {w : World} {base b2 size n : Nat} {e : TypeId} {v : Value} {xs : List Value} (h : w.ownsRow base e size v n xs) (hb : b2 ≤ base) : w.ownsRow b2 e size v n xs := by
  refine ⟨h.1, ?_⟩
  rcases h.2 with h0 | ⟨g, cap, cur, e, hg, hh, r⟩
  · exact .inl h0
  · exact .inr ⟨g, cap, cur, e, by omega, hh, r⟩
/-- a block below the base lies as it lay, behind an append and stores elsewhere. -/
theorem cell_app {W w1 : World} {n₀ b B : Nat} {e : TypeId} {size k : Nat} {v v' u : Value} {xs : List Value} {tmp : Obj} (hrow : W.ownsRow n₀ e size v k xs) (hb : b < n₀) (hgrow : (W.alloc tmp).grownBy w1 v.ownBlock)
    (hB : B ≠ b) (hu : W.cell? ⟨b, 0, none⟩ = some u) : (w1.setCell ⟨B, 0, none⟩ v').cell? ⟨b, 0, none⟩ = some u := by
  have hlt : b < W.heap.size := block_lt_of_cell hu
  have h1 : (W.alloc tmp).cell? ⟨b, 0, none⟩ = some u := (((Below.refl _ W).alloc (Nat.le_refl _) tmp).cell (p := ⟨b, 0, none⟩) hlt).trans hu
  have h2 : w1.heap[b]? = (W.alloc tmp).heap[b]? := hgrow.block b (by simp; omega) (fun ej => by
    rcases hrow.2 with ⟨rfl, _⟩ | ⟨g, cap, cur, rfl, hg, _, _⟩
    · simp [Value.ownBlock] at ej
    · have : b = g := by simpa [Value.ownBlock] using ej
      omega)
  rw [World.cell?_setCell_other _ _ _ _ (by intro x; injection x with x; exact hB x)]
  simp only [World.cell?] at h1 ⊢
  rw [h2]; exact h1

/-- a list of texts in memory of the call's own. -/
def OwnS (w : World) (base : Nat) (A : Option Addr) (n c : Nat) (rs : List (List UInt8)) : Prop := w.ownsRow base 9 1 (.slice A n c) n (rs.map fun r => Value.string (bs r))

set_option maxHeartbeats 2000000 in
theorem scan_any (s : ByteArray) (w : World) (hs : s.size ≤ maxLen) (hbig : (scn s.data.toList).1.length * 16 ≤ 140737488355328) :
    Calls Tryd.prog 19 #[.string s] w fun e w' => ∃ A n c, e = .returned (.tuple #[.slice A n c, .int .i64 (used s.data.toList)]) ∧ OwnS w' w.heap.size A n c (scn s.data.toList).1 ∧ Q w w' := by
  obtain ⟨i0, hi, hz0, hz1, hz2⟩ := info_parts infoS
  refine (callsIn_wide (n := 6)).1 ?_
  refine callsIn_of_wp_marks Tryd.func19 rfl trivial ?_ rfl
  simp only [Tryd.ntmps19, List.size_toArray, List.length_cons, List.length_nil, Nat.reduceAdd, Nat.reduceSub, Array.replicate_succ, Array.replicate_zero, List.push_toArray, List.append_toArray, List.nil_append, List.cons_append]
  gi_wp2_with (refine ⟨trivial, ?_⟩; gi_at_call 28; refine (callsIn_wide.2 (records_any s _)).mono ?_; rintro e w' ⟨rfl, rfl⟩)
  have b1 := Boxed.new w 29 (.slice none 0 0)
  have b2 := Boxed.new (w.alloc (.cells #[.slice none 0 0] 29)) 3 (.int .i64 0)
  have b3 := Boxed.new ((w.alloc (.cells #[.slice none 0 0] 29)).alloc (.cells #[.int .i64 0] 3)) 9 (.string s)
  rw [World.size_alloc] at b2 b3
  rw [World.size_alloc] at b3
  have hml : (scn s.data.toList).1.length ≤ maxLen := by unfold maxLen; omega
  have hB0 : Below w.heap.size w (((w.alloc (.cells #[.slice none 0 0] 29)).alloc (.cells #[.int .i64 0] 3)).alloc (.cells #[.string s] 9)) := (((Q.refl w).alloc _).alloc _).alloc _
  refine wpIn_rangeFunc_ownG rfl (by omega) (gf := 41) (lb := #[.pointer (some ⟨w.heap.size + 1 + 1, 0, none⟩)]) rfl trivial (enters_of Tryd.func41 (by kernel_rfl) rfl)
    (stops_any (6 - 1) (by omega) (w.heap.size + 1 + 1) s hs _ (by simp) b3.cell) kpB_t (kpB_b (by simp)) (Below.refl _ _) (fun _ => rfl)
    (fun pre W => (∃ v, Boxed W w.heap.size 29 v ∧ W.ownsRow (w.heap.size + 3) 9 1 v pre.length (pre.map fun x => Value.string x.1) ∧ True) ∧ Boxed W (w.heap.size + 1) 3 (.int .i64 (lastE pre)) ∧ Below w.heap.size (((w.alloc (.cells #[.slice none 0 0] 29)).alloc (.cells #[.int .i64 0] 3)).alloc (.cells #[.string s] 9)) W)
    (fun _ _ _ => False)
    (OwnFrom.and (Own.from (holdsRow_own (w.heap.size + 3) w.heap.size 29 9 1 (fun pre : List Pr => pre.length) (fun pre => pre.map fun x => Value.string x.1) (fun _ _ => True)) _) (OwnFrom.and (Own.from (boxed_own (w.heap.size + 1) 3 (fun pre : List Pr => .int .i64 (lastE pre))) _) (ownFrom_below (by simp; omega) (by simp; omega))))
    (fun _ _ _ _ _ hs _ _ => hs)
    ⟨⟨_, (b1.alloc _).alloc _, World.ownsRow_nil _ _ _ _, trivial⟩, b2.alloc _, Below.refl _ _⟩
    (fun x => { tmps := #[.string s, undef, .slice none 0 0, .int .i64 0, .pointer (some ⟨w.heap.size, 0, none⟩), .pointer (some ⟨w.heap.size + 1, 0, none⟩), .string x.1, .int .i64 x.2, .string s, .func (.func 41) #[] #[.pointer (some ⟨w.heap.size + 1 + 1, 0, none⟩)], .string x.1, .int .i64 x.2, undef, undef, undef, undef, undef, undef, undef], defers := [] }) ?assign ?body ?done ?stop
  case assign =>
    intro l x W K hK
    simp only [encP]
    gi_wp2
    exact hK
  case body =>
    rintro l pre x W ⟨⟨v, hv, hrow, _⟩, hn, hB⟩ hlt
    have hc := hv.cell
    have hBs := hB.size
    have hwl := hn.lt
    have hle3 : w.heap.size + 3 ≤ W.heap.size := by have := hB.size; simp at this; omega
    have hBw : w.heap.size ≤ W.heap.size := by omega
    clear hBs
    gi_wp2_with (gi_at_builtin; refine wpListIn_append_own _ rfl _ _ 29 rfl (w.heap.size + 3) 9 i0 (.string ⟨#[]⟩) 1 16 Tryd.underlying29 hi hz0 hz1 hz2 rfl (by decide) _ _ _ rfl (hrow.alloc _) ⟨W.heap.size, 0, none⟩ 1 1 [.string x.1] rfl rfl (cell_one_new _ _ _) (by simp [Value.oneCell']) (by omega) (by omega) (by simp; omega) ?_; intro v' w1 hown' hgrow _; obtain ⟨g', cap', rfl⟩ := ownsRow_succ hown'; obtain ⟨hv1, hv2, hr2, hk2, hb2⟩ := hv.appended (by decide) (row_lower hrow (b2 := w.heap.size) (by omega)) hBw (Nat.le_refl _) (row_lower hown' (b2 := w.heap.size) (by omega)) hgrow; have hc1 := hv1.cell; have hf1 := hv1.frozen; have hn1 : Boxed w1 (w.heap.size + 1) 3 (.int .i64 (lastE pre)) := (hn.alloc _).kept hgrow (hn.not_row (by decide) hrow); have hc2 := hn1.cell; have hf2 := hn1.frozen)
    have hkp : KpB (w.heap.size + 1 + 1) W _ := fun u hu => cell_app (v' := Value.slice (some ⟨g', 0, none⟩) (pre.length + 1) cap') hrow (by omega) hgrow (B := w.heap.size) (by omega) hu
    have hn2 := (hn1.other (B' := w.heap.size) (by omega) (Value.slice (some ⟨g', 0, none⟩) (pre.length + 1) cap')).set (.int .i64 x.2)
    have hr3 : w1.ownsRow (w.heap.size + 3) 9 1 (Value.slice (some ⟨g', 0, none⟩) (pre.length + 1) cap') (pre.length + 1) (List.map (fun x => Value.string x.1) pre ++ [.string x.1]) := hown'
    have hr4 := (hr3.kept (grownBy_setCell' w1 w.heap.size (Value.slice (some ⟨g', 0, none⟩) (pre.length + 1) cap')) (.inr (hv1.not_row (by decide) hr3).symm))
    have hv3 := hv2.other (B' := w.heap.size + 1) (by omega) (.int .i64 x.2)
    have hr5 := hr4.kept (grownBy_setCell' _ (w.heap.size + 1) (.int .i64 x.2)) (.inr ((hn1.other (B' := w.heap.size) (by omega) (Value.slice (some ⟨g', 0, none⟩) (pre.length + 1) cap')).not_row (by decide) hr4).symm)
    refine ⟨(hk2.trans (KeepsOthers.setCell _ _ _)).from _, fun u hu => ?_, ⟨_, hv3, by simpa using hr5, trivial⟩, by rw [lastE_snoc]; exact hn2, hB.trans (hb2.setCell (p := ⟨w.heap.size + 1, 0, none⟩) (Nat.le_succ _) _)⟩
    rw [World.cell?_setCell_other _ _ _ _ (by intro z; injection z with z; omega)]
    exact hkp u hu
  case done =>
    rintro D ys W hD rfl ⟨⟨v, hv, hrow, _⟩, hn, hB⟩ hK
    obtain ⟨A, c, rfl⟩ : ∃ A c, v = .slice A (prs 0 (scn s.data.toList).1).length c := by
      rcases hrow.2 with ⟨e, h0⟩ | ⟨g, cap, cur, e, _⟩
      · exact ⟨none, 0, by rw [e, h0]⟩
      · exact ⟨_, _, e⟩
    have hc := hv.cell
    have hc2 := hn.cell
    have hQ : Q w W := hB0.trans hB
    have hO : OwnS W w.heap.size A (prs 0 (scn s.data.toList).1).length c (scn s.data.toList).1 := by
      unfold OwnS
      rw [← prs_fst _ 0]
      exact row_lower hrow (by omega)
    have hE : lastE (prs 0 (scn s.data.toList).1) = (used s.data.toList : Int) := by rw [lastE_prs, used_flat]
    rw [hE] at hc2
    have hDw : w.heap.size ≤ D := by simp at hD; omega
    clear hE hrow hv hn hB hD
    gi_wp2
    gi_region
    gi_wp2
    refine ⟨by simp, .inl ⟨_, _, rfl, run_takeDeferred hK, ?_⟩⟩
    exact ⟨_, results_tmp2 rfl _ _ _, A, _, c, rfl, ownsRow_putObj (hO : World.ownsRow W.drew _ _ _ _ _ _) _ hK rfl, hQ.drew.below.trans (belowK_b (w := w) (Nat.le_refl _) W.drew D _ _ hDw hK rfl rfl)⟩
  case stop =>
    rintro D c pre W _ _ h _
    exact h.elim
end Go.Proofs.YtncippafbohgbaaDoor
