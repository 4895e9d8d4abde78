/- WalCut, WalDrop, Kind, NumK, DiskApart, DiskWhole, DiskUniq, PresM: merged. -/
import Derived.Test.YtggbdhnjogalgaaGreatDoorZ4
import Derived.Test.YtggbdhnjogalgaaGreatDoorZ2
import Derived.Deep.DeepCutAuto
import Derived.Test.YtggbdhnjogalgaaGreatDoorZ1
import Derived.Maps.AppendAt
import Derived.Laws.AppendOwnNone
import Derived.Test.YtggbdhnjogalgaaGreatDoorZ3
import Derived.Lib.SlicesCompact
import Derived.Lib.AtoiAllCases
import Derived.Lib.Strings
/- The contract of wal.cut. -/
namespace Go.Proofs.YtggbdhnjogalgaaGreatDoor
set_option maxRecDepth 100000
open Go.RowKit Dkm Wm
set_option linter.unusedVariables false

section
variable {w wr : World} {A : Option Addr} {n c : Nat} {d : Dk}
theorem Sv.endW (h : Sv w A n c d wr) (hf : Far w A) (vs : List Value) (x y z u : Value) :
    RetW w d vs (.returned (.tuple (dkv A n c d.room d.fuse d.off :: vs).toArray)) ((((wr.setCell ⟨w.heap.size + 1, 0, none⟩ x).setCell ⟨w.heap.size + 1, 1, none⟩ y).setCell ⟨w.heap.size + 1, 2, none⟩ z).setCell ⟨w.heap.size + 1, 3, none⟩ u) :=
  ⟨A, n, c, rfl, (((h.dsk.away1 (fun hn ad e => (h.away hn ad e).2) 0 _).away1 (fun hn ad e => (h.away hn ad e).2) 1 _).away1 (fun hn ad e => (h.away hn ad e).2) 2 _).away1 (fun hn ad e => (h.away hn ad e).2) 3 _, hf, h.sb.q.set4 (b := w.heap.size + 1) (by omega) _ _ _ _⟩
end
/-- behind a step of the cut. -/
def Cs (w : World) (x : Dk × Int) (far : Prop) (s8 : Value) (wx : World) : Prop := ∃ A n c, s8 = .int .i64 x.2 ∧ Sv w A n c x.1 wx ∧ (far → Far w A)

theorem dels_end {x : Dk × Int} {k : Int} (h : x.2 ≠ 0 ∨ ¬ (segOk k ∧ (hit (namB k) x.1.fs).2 = true)) : (if x.2 = 0 then dels (fuelOf k) x.1 k else x) = x := by
  by_cases h0 : x.2 = 0
  · rw [if_pos h0]
    have e : (x.1, (0 : Int)) = x := by rw [← h0]
    rcases h with h | h
    · exact absurd h0 h
    · cases hf : fuelOf k with
      | zero => exact e
      | succ m => unfold dels; rw [if_neg h]; exact e
  · rw [if_neg h0]
theorem dels_more {x : Dk × Int} {k : Int} (h0 : x.2 = 0) (h1 : segOk k) (h2 : (hit (namB k) x.1.fs).2 = true) :
    (if x.2 = 0 then dels (fuelOf k) x.1 k else x) = (if (del x.1 (namB k)).2 = 0 then dels (fuelOf (k + 1)) (del x.1 (namB k)).1 (k + 1) else del x.1 (namB k)) := by
  have hf : fuelOf k = fuelOf (k + 1) + 1 := by have := h1.2; unfold fuelOf; omega
  rw [if_pos h0, hf]
  conv => lhs; unfold dels
  rw [if_pos ⟨h1, h2⟩]

set_option maxHeartbeats 8000000 in
theorem cut_any (seg : Int) (s : ByteArray) (A : Option Addr) (n c : Nat) (d : Dk) (w : World) (hT : Tab w) (hd : Dsk w A n c d.fs) (hB : Bnd 2305843009213693952 d) (hs : s.size ≤ 2305843009213693952) (h1 : segOk seg) :
    Calls Tryz.prog 22 #[dkv A n c d.room d.fuse d.off, .int .i64 seg, .string s] w fun e w' => RetW w (cutM d seg s).1 [.int .i64 (cutM d seg s).2] e w' := by
  have HT := Lib.hid hT
  have HN := Lib.hid hd.max
  have B1 := hB.cut1
  have B2 := hB.cut2 (by omega) s
  have B3 := hB.cut3 (by omega) s
  have B4 := hB.cut4 (by omega) seg s
  have BD := hB.del freshB
  have mx : ∀ {d : Dk}, Bnd 2305843009213693952 d → ∀ f ∈ d.fs, f.sf.size + f.wt.size ≤ maxLen := fun h f hf => Nat.le_trans (h.sum f hf) (by unfold maxLen; omega)
  have C1 := Lib.hid (show cut1 d = if (hit freshB d.fs).2 then del d freshB else (d, 0) from rfl)
  have C2 := Lib.hid (show cut2 d s = if (cut1 d).2 = 0 then appd (cut1 d).1 freshB s else cut1 d from rfl)
  have C3 := Lib.hid (show cut3 d s = if (cut2 d s).2 = 0 then syn (cut2 d s).1 freshB else cut2 d s from rfl)
  have C4 := Lib.hid (show cut4 d seg s = if (cut3 d s).2 = 0 then ren (cut3 d s).1 freshB (namB seg) else cut3 d s from rfl)
  have C5 := Lib.hid (show cutM d seg s = if (cut4 d seg s).2 = 0 then dels (fuelOf (seg + 1)) (cut4 d seg s).1 (seg + 1) else cut4 d seg s from rfl)
  generalize cutM d seg s = x5 at C5 ⊢
  generalize cut4 d seg s = x4 at C4 C5 B4
  generalize cut3 d s = x3 at C3 C4 B3
  generalize cut2 d s = x2 at C2 C3 B2
  generalize cut1 d = x1 at C1 C2 B1
  have KD := Lib.hid (fun A n c w hd => del_any freshB A n c d w hd (mx hB) hB.fuse.2)
  have KH := Lib.hid (fun w hf => has_any freshB A n c d.room d.fuse d.off d.fs w hf HN.out)
  have KA := Lib.hid (fun A n c w hd => append_any freshB s A n c x1.1 w hd B1.sum hs B1.room.2 B1.fuse.2)
  have KY := Lib.hid (fun A n c w hd => sync_any freshB A n c x2.1 w hd (mx B2))
  have KRN := Lib.hid (fun A n c w hd => ren_any freshB (namB seg) A n c x3.1 w hd (mx B3) B3.fuse.2)
  have KN := Lib.hid (name_any seg)
  have HB1 := Lib.hid B1
  have HB2 := Lib.hid B2
  have HB3 := Lib.hid B3
  have HB4 := Lib.hid B4
  have HBD := Lib.hid BD
  have HD := Lib.hid hd
  have r0 := h1.1
  have r1 := h1.2
  clear hT hd hB hs h1 B1 B2 B3 B4 BD
  generalize (hit freshB d.fs).2 = b at KH C1
  generalize del d freshB = xd at KD C1 HBD
  change Hid (∀ w, Files w A n d.fs → Calls _ _ #[dkv A n c d.room d.fuse d.off, .string ⟨#[119, 46, 110, 101, 119]⟩] w fun e w' => e = .returned (.bool b) ∧ Q w w') at KH
  go_enter Tryz.func22, Tryz.ntmps22
  go_wp2_with fail
  refine (KH.out _ (HD.out.files.q (((Q.refl _).alloc _).alloc _))).mono ?_
  rintro e w1 ⟨rfl, q1⟩
  have X := Lib.hid ((Sv.new w HD.out).step q1)
  clear q1
  go_upto_if 10 with (fail)
  go_cut [8] (fun s8 wx => Cs w x1 (x1.2 ≠ 0) s8 wx)
  case first =>
    cases b
    · go_wp2_with fail
      go_meet
      exact ⟨A, n, c, by rw [C1.out]; rfl, by rw [C1.out]; exact X.out, fun h => absurd (by rw [C1.out]; rfl) h⟩
    · obtain ⟨⟨e0, e1, e2, e3⟩, f0, f1, f2', f3⟩ := X.out.sb.get
      go_wp2_with fail
      refine (KD.out A n c _ X.out.dsk).mono ?_
      rintro e w2 ⟨A2, n2, c2, rfl, ho, q2⟩
      have P := X.out.put q2 ho (few_own ho HBD.out)
      clear e0 e1 e2 e3 f0 f1 f2' f3
      obtain ⟨⟨e0, e1, e2, e3⟩, f0, f1, f2', f3⟩ := (X.out.sb.step q2).get
      clear ho q2
      have P := Lib.hid P
      go_wp2_with fail
      go_meet
      exact ⟨A2, n2, c2, by rw [C1.out]; rfl, by rw [C1.out]; exact P.out.1, fun _ => P.out.2⟩
  case rest =>
    obtain ⟨A1, n1, c1, rfl, v1, r1'⟩ := hcut
    have V1 := Lib.hid v1
    have R1 := Lib.hid r1'
    clear v1 r1'
    go_upto_if 17 with (fail)
    go_cut [8] (fun s8 wx => Cs w x2 True s8 wx)
    case first =>
      by_cases g : x1.2 = 0
      · have CC := C2.out
        rw [if_pos g] at CC
        have HC := Lib.hid CC
        clear CC
        obtain ⟨⟨e0, e1, e2, e3⟩, f0, f1, f2', f3⟩ := V1.out.sb.get
        go_wp2_with fail
        refine (KA.out _ _ _ _ V1.out.dsk).mono ?_
        rintro e w2 ⟨A2, n2, c2, rfl, ho, q2⟩
        rw [← HC.out] at ho
        have P := V1.out.put q2 ho (few_own ho HB2.out)
        clear e0 e1 e2 e3 f0 f1 f2' f3
        obtain ⟨⟨e0, e1, e2, e3⟩, f0, f1, f2', f3⟩ := (V1.out.sb.step q2).get
        clear ho q2
        have P := Lib.hid P
        go_wp2_with fail
        go_meet
        rw [← HC.out]
        exact ⟨A2, n2, c2, rfl, P.out.1, fun _ => P.out.2⟩
      · have CC := C2.out
        rw [if_neg g] at CC
        have HC := Lib.hid CC
        clear CC
        go_wp2_with fail
        go_meet
        rw [HC.out]
        exact ⟨A1, n1, c1, rfl, V1.out, fun _ => R1.out g⟩
    case rest =>
      obtain ⟨A2, n2, c2, rfl, v2, r2'⟩ := hcut
      have V2 := Lib.hid v2
      have R2 := Lib.hid r2'
      clear v2 r2'
      go_upto_if 25 with (fail)
      go_cut [8] (fun s8 wx => Cs w x3 True s8 wx)
      case first =>
        by_cases g : x2.2 = 0
        · have CC := C3.out
          rw [if_pos g] at CC
          have HC := Lib.hid CC
          clear CC
          obtain ⟨⟨e0, e1, e2, e3⟩, f0, f1, f2', f3⟩ := V2.out.sb.get
          go_wp2_with fail
          refine (KY.out _ _ _ _ V2.out.dsk).mono ?_
          rintro e w2 ⟨A2, n2, c2, rfl, ho, q2⟩
          rw [← HC.out] at ho
          have P := V2.out.put q2 ho (few_own ho HB3.out)
          clear e0 e1 e2 e3 f0 f1 f2' f3
          obtain ⟨⟨e0, e1, e2, e3⟩, f0, f1, f2', f3⟩ := (V2.out.sb.step q2).get
          clear ho q2
          have P := Lib.hid P
          go_wp2_with fail
          go_meet
          rw [← HC.out]
          exact ⟨A2, n2, c2, rfl, P.out.1, fun _ => P.out.2⟩
        · have CC := C3.out
          rw [if_neg g] at CC
          have HC := Lib.hid CC
          clear CC
          go_wp2_with fail
          go_meet
          rw [HC.out]
          exact ⟨A2, n2, c2, rfl, V2.out, fun _ => R2.out trivial⟩
      case rest =>
        obtain ⟨A3, n3, c3, rfl, v3, r3'⟩ := hcut
        have V3 := Lib.hid v3
        have R3 := Lib.hid r3'
        clear v3 r3'
        go_upto_if 32 with (fail)
        go_cut [8] (fun s8 wx => Cs w x4 True s8 wx)
        case first =>
          by_cases g : x3.2 = 0
          · have CC := C4.out
            rw [if_pos g] at CC
            have HC := Lib.hid CC
            clear CC
            have KR2 := Lib.hid (fun A n c w hd => by have h := KRN.out A n c w hd; rw [← HC.out] at h; exact h)
            clear KRN
            have KRN := KR2
            clear KR2
            generalize wc = W at V3 ⊢
            have S3 := Lib.hid V3.out.sb
            have DW := Lib.hid V3.out.dsk
            obtain ⟨⟨e0, e1, e2, e3⟩, f0, f1, f2', f3⟩ := V3.out.sb.get
            go_upto_region 9 with (fail)
            have QW := Lib.hid (Q.refl W)
            refine wp_region_heldL 7 (Q W) (by kernel_rfl) ?szz0 (fun hHeld => ?rzz0)
            case szz0 =>
              exact (Q.refl W).drew
            case' rzz0 => skip
            refine wpAnyL_take (i := 0) (oi := ?ozz1) (v := ?vzz1) ?hzz1 ?azz1 ?bzz1 ?czz1 ?kzz1 ?qzz1 ?yzz1 ?szz1 ?rzz1
            case hzz1 => simp only [List.getElem?_toArray, List.getElem?_cons_zero]; rfl
            case azz1 => kernel_rfl
            case bzz1 => kernel_rfl
            case czz1 => kernel_rfl
            case kzz1 => kernel_rfl
            case yzz1 =>
              refine Or.inl ⟨by rfl, ?_⟩
              intro w hSw
              have x0 := box_ hSw e0; have x1 := box_ hSw e1; have x2 := box_ hSw e2; have x3 := box_ hSw e3; clear hSw
              go_simp
              try with_reducible rfl
            case qzz1 => exact fun _ _ _ h => h
            case szz1 => first | assumption | trivial
            case' rzz1 => simp only [Act.put, List.setIfInBounds_toArray, List.set_cons_zero, List.set_cons_succ]
            refine wpAnyL_take (i := 1) (oi := ?ozz2) (v := ?vzz2) ?hzz2 ?azz2 ?bzz2 ?czz2 ?kzz2 ?qzz2 ?yzz2 ?szz2 ?rzz2
            case hzz2 => simp only [List.getElem?_toArray, List.getElem?_cons_zero, List.getElem?_cons_succ]; rfl
            case azz2 => kernel_rfl
            case bzz2 => kernel_rfl
            case czz2 => kernel_rfl
            case kzz2 => kernel_rfl
            case yzz2 =>
              refine Or.inl ⟨by rfl, ?_⟩
              intro w hSw
              skip
              go_simp
              try with_reducible rfl
            case qzz2 => exact fun _ _ _ h => h
            case szz2 => first | assumption | trivial
            case' rzz2 => simp only [Act.put, List.setIfInBounds_toArray, List.set_cons_zero, List.set_cons_succ]
            refine wpAnyL_ready (rs := [2]) (by kernel_rfl) (by simp) ?_
            refine AllReadyL.cons (o := ?ozz12) ?hzz12 (fun K hK => ?kzz12) ?mzz12
            case hzz12 => simp only [List.getElem?_toArray, List.getElem?_cons_zero, List.getElem?_cons_succ]; rfl
            case kzz12 =>
              go_simp
              refine (KN.out _ (HT.out.q (S3.out.q.trans hHeld))).mono ?_
              rintro e w3 ⟨rfl, q3⟩
              go_wp2_with fail
              refine hK.out _ _ ?Szz12 (fun hHeld => ?Rzz12)
              case Szz12 =>
                exact hHeld.trans q3
              case Rzz12 =>
                clear hK K
                try simp only [Act.put, List.setIfInBounds_toArray, List.set_cons_zero, List.set_cons_succ]
                refine wpAnyL_ready (rs := [3]) (by kernel_rfl) (by simp) ?_
                refine AllReadyL.cons (o := ?ozz11) ?hzz11 (fun K hK => ?kzz11) ?mzz11
                case hzz11 => simp only [List.getElem?_toArray, List.getElem?_cons_zero, List.getElem?_cons_succ]; rfl
                case kzz11 =>
                  go_simp
                  refine (KRN.out _ _ _ _ (DW.out.q hHeld)).mono ?_
                  rintro e w5 ⟨A5, n5, c5, rfl, ho, q5⟩
                  obtain ⟨⟨x0, x1, x2, x3⟩, y0, y1, y2, y3⟩ := ((S3.out.step hHeld).step q5).get
                  have Z5 := Lib.hid (And.intro ho (And.intro hHeld q5))
                  go_wp2_with fail
                  refine hK.out _ _ ?Szz11 (fun hHeld => ?Rzz11)
                  case Szz11 =>
                    exact hHeld.trans q5
                  case Rzz11 =>
                    clear hK K
                    try simp only [Act.put, List.setIfInBounds_toArray, List.set_cons_zero, List.set_cons_succ]
                    refine wpAnyL_take (i := 4) (oi := ?ozz3) (v := ?vzz3) ?hzz3 ?azz3 ?bzz3 ?czz3 ?kzz3 ?qzz3 ?yzz3 ?szz3 ?rzz3
                    case hzz3 => simp only [List.getElem?_toArray, List.getElem?_cons_zero, List.getElem?_cons_succ]; rfl
                    case azz3 => kernel_rfl
                    case bzz3 => kernel_rfl
                    case czz3 => kernel_rfl
                    case kzz3 => kernel_rfl
                    case yzz3 =>
                      refine Or.inl ⟨by rfl, ?_⟩
                      intro w hSw
                      skip
                      go_simp
                      try with_reducible rfl
                    case qzz3 => exact fun _ _ _ h => h
                    case szz3 => first | assumption | trivial
                    case' rzz3 => simp only [Act.put, List.setIfInBounds_toArray, List.set_cons_zero, List.set_cons_succ]
                    refine wpAnyL_take (i := 5) (oi := ?ozz4) (v := ?vzz4) ?hzz4 ?azz4 ?bzz4 ?czz4 ?kzz4 ?qzz4 ?yzz4 ?szz4 ?rzz4
                    case hzz4 => simp only [List.getElem?_toArray, List.getElem?_cons_zero, List.getElem?_cons_succ]; rfl
                    case azz4 => kernel_rfl
                    case bzz4 => kernel_rfl
                    case czz4 => kernel_rfl
                    case kzz4 => kernel_rfl
                    case yzz4 =>
                      refine Or.inl ⟨by rfl, ?_⟩
                      intro w hSw
                      skip
                      go_simp
                      try with_reducible rfl
                    case qzz4 => exact fun _ _ _ h => h
                    case szz4 => first | assumption | trivial
                    case' rzz4 => simp only [Act.put, List.setIfInBounds_toArray, List.set_cons_zero, List.set_cons_succ]
                    refine wpAnyL_ready (rs := [6, 7]) (by kernel_rfl) (by simp) ?_
                    refine AllReadyL.cons (o := ?ozz9) ?hzz9 (fun K hK => ?kzz9) ?mzz9
                    case hzz9 => simp only [List.getElem?_toArray, List.getElem?_cons_zero, List.getElem?_cons_succ]; rfl
                    case kzz9 =>
                      go_simp
                      refine hK.out _ _ ?Szz9 (fun hHeld => ?Rzz9)
                      case Szz9 =>
                        exact hHeld
                      case Rzz9 =>
                        clear hK K
                        try simp only [Act.put, List.setIfInBounds_toArray, List.set_cons_zero, List.set_cons_succ]
                        refine wpAnyL_ready (rs := [7]) (by kernel_rfl) (by simp) ?_
                        refine AllReadyL.consK (o := ?ozz6) ?hzz6 ?lzz6 (fun K hK => ?kzz6) ?mzz6
                        case hzz6 => simp only [List.getElem?_toArray, List.getElem?_cons_zero, List.getElem?_cons_succ]; rfl
                        case lzz6 => kernel_rfl
                        case kzz6 =>
                          go_simp
                          refine hK.out _ _ ?Rzz6
                          case Rzz6 =>
                            clear hK K
                            try simp only [Act.put, List.setIfInBounds_toArray, List.set_cons_zero, List.set_cons_succ]
                            refine wpAnyH_take (i := 8) (oi := ?ozz5) (v := ?vzz5) ?hzz5 ?azz5 ?bzz5 ?czz5 ?qzz5 ?yzz5 ?szz5 ?rzz5
                            case hzz5 => simp only [List.getElem?_toArray, List.getElem?_cons_zero, List.getElem?_cons_succ]; rfl
                            case azz5 => kernel_rfl
                            case bzz5 => kernel_rfl
                            case czz5 => kernel_rfl
                            case yzz5 =>
                              refine Or.inl ⟨by rfl, ?_⟩
                              intro w hSw
                              skip
                              go_simp
                              try with_reducible rfl
                            case qzz5 => exact fun _ _ _ h => h
                            case szz5 => first | assumption | trivial
                            case' rzz5 => simp only [Act.put, List.setIfInBounds_toArray, List.set_cons_zero, List.set_cons_succ]
                            refine wpAnyH_done (by kernel_rfl) ?_ _
                            have P := (V3.out.step Z5.out.2.1).put Z5.out.2.2 Z5.out.1 (few_own Z5.out.1 HB4.out)
                            have P := Lib.hid P
                            go_wp2_with fail
                            go_meet
                            exact ⟨A5, n5, c5, rfl, P.out.1, fun _ => P.out.2⟩
                        case' mzz6 => skip
                        exact AllReadyL.nil
                    case' mzz9 => skip
                    refine AllReadyL.consK (o := ?ozz10) ?hzz10 ?lzz10 (fun K hK => ?kzz10) ?mzz10
                    case hzz10 => simp only [List.getElem?_toArray, List.getElem?_cons_zero, List.getElem?_cons_succ]; rfl
                    case lzz10 => kernel_rfl
                    case kzz10 =>
                      go_simp
                      refine hK.out _ _ ?Rzz10
                      case Rzz10 =>
                        clear hK K
                        try simp only [Act.put, List.setIfInBounds_toArray, List.set_cons_zero, List.set_cons_succ]
                        refine wpAnyH_take (i := 6) (oi := ?ozz7) (v := ?vzz7) ?hzz7 ?azz7 ?bzz7 ?czz7 ?qzz7 ?yzz7 ?szz7 ?rzz7
                        case hzz7 => simp only [List.getElem?_toArray, List.getElem?_cons_zero, List.getElem?_cons_succ]; rfl
                        case azz7 => kernel_rfl
                        case bzz7 => kernel_rfl
                        case czz7 => kernel_rfl
                        case yzz7 =>
                          refine Or.inl ⟨by rfl, ?_⟩
                          intro w hSw
                          skip
                          go_simp
                          try with_reducible rfl
                        case qzz7 => exact fun _ _ _ h => h
                        case szz7 => first | assumption | trivial
                        case' rzz7 => simp only [Act.put, List.setIfInBounds_toArray, List.set_cons_zero, List.set_cons_succ]
                        refine wpAnyH_take (i := 8) (oi := ?ozz8) (v := ?vzz8) ?hzz8 ?azz8 ?bzz8 ?czz8 ?qzz8 ?yzz8 ?szz8 ?rzz8
                        case hzz8 => simp only [List.getElem?_toArray, List.getElem?_cons_zero, List.getElem?_cons_succ]; rfl
                        case azz8 => kernel_rfl
                        case bzz8 => kernel_rfl
                        case czz8 => kernel_rfl
                        case yzz8 =>
                          refine Or.inl ⟨by rfl, ?_⟩
                          intro w hSw
                          skip
                          go_simp
                          try with_reducible rfl
                        case qzz8 => exact fun _ _ _ h => h
                        case szz8 => first | assumption | trivial
                        case' rzz8 => simp only [Act.put, List.setIfInBounds_toArray, List.set_cons_zero, List.set_cons_succ]
                        refine wpAnyH_done (by kernel_rfl) ?_ _
                        have P := (V3.out.step Z5.out.2.1).put Z5.out.2.2 Z5.out.1 (few_own Z5.out.1 HB4.out)
                        have P := Lib.hid P
                        go_wp2_with fail
                        go_meet
                        exact ⟨A5, n5, c5, rfl, P.out.1, fun _ => P.out.2⟩
                    case' mzz10 => skip
                    exact AllReadyL.nil
                case' mzz11 => skip
                exact AllReadyL.nil
            case' mzz12 => skip
            exact AllReadyL.nil
          · have CC := C4.out
            rw [if_neg g] at CC
            have HC := Lib.hid CC
            clear CC
            go_wp2_with fail
            go_meet
            rw [HC.out]
            exact ⟨A3, n3, c3, rfl, V3.out, fun _ => R3.out trivial⟩
        case rest =>
          obtain ⟨A4, n4, c4, rfl, v4, r4'⟩ := hcut
          have V4 := Lib.hid v4
          have R4 := Lib.hid (r4' trivial)
          clear v4 r4' KRN KA KY KD KH
          go_wp2
          go_loopw [1, 8] (fun s1 s8 wr => ∃ (k : Int) (A5 : Option Addr) (n5 c5 : Nat) (x : Dk × Int), s1 = .int .i64 k ∧ s8 = .int .i64 x.2 ∧ 1 ≤ k ∧ k ≤ 1000001 ∧ Sv w A5 n5 c5 x.1 wr ∧ Far w A5 ∧ Bnd 2305843009213693952 x.1 ∧ x5 = if x.2 = 0 then dels (fuelOf k) x.1 k else x) (fun s1 _ _ => (1000002 - intOf s1).toNat)
          case atStart => exact ⟨seg + 1, A4, n4, c4, x4, by simp, rfl, by omega, by omega, V4.out, R4.out, HB4.out, C5.out⟩
          case round =>
            obtain ⟨k, A5, n5, c5, x, rfl, rfl, hk1, hk2, hv, hf, hb, hx⟩ := hrel
            have V := Lib.hid hv
            have HF := Lib.hid hf
            have HB := Lib.hid hb
            have HX := Lib.hid hx
            clear hv hf hb hx
            generalize wr = W at V ⊢
            have KNK := Lib.hid (name_any k)
            have KHK := Lib.hid (fun w hf => has_any (namB k) A5 n5 c5 x.1.room x.1.fuse x.1.off x.1.fs w hf V.out.dsk.max)
            obtain ⟨⟨e0, e1, e2, e3⟩, f0, f1, f2', f3⟩ := V.out.sb.get
            by_cases g0 : x.2 = 0
            · by_cases g1 : segOk k
              · have G1 := Lib.hid g1
                have KUK := Lib.hid (numbered_yes k g1)
                cases g2 : (hit (namB k) x.1.fs).2
                · rw [g2] at KHK
                  have G2 := Lib.hid g2
                  clear g1 g2
                  go_upto_region 11 with (fail)
                  go_region_held3 (fun w' => w'.cell? ⟨w.heap.size, 0, none⟩ = some (.slice A5 n5 c5) ∧ w'.cell? ⟨w.heap.size, 1, none⟩ = some (.int .i64 x.1.room) ∧ w'.cell? ⟨w.heap.size, 2, none⟩ = some (.int .i64 x.1.fuse) ∧ w'.cell? ⟨w.heap.size, 3, none⟩ = some (.bool x.1.off))
                    (first
                      | go_keep
                      | (go_split_ands
                         (repeat' apply And.intro) <;> exact box_ ‹Q _ _› (by assumption)))
                    (first
                      | (go_at_call 19
                         (with_reducible refine (KUK.out _).mono ?_)
                         rintro e w2 ⟨rfl, q2⟩)
                      | (go_at_call 13
                         (with_reducible refine (KNK.out _ (HT.out.q (V.out.sb.q.trans ((Q.refl W).drew.trans q2)))).mono ?_)
                         rintro e w3 ⟨rfl, q3⟩)
                      | (go_at_call 35
                         (with_reducible refine (KHK.out _ (V.out.dsk.files.q (((Q.refl W).drew.trans q2).trans q3))).mono ?_)
                         rintro e w4 ⟨rfl, q4⟩))
                  have U := Lib.hid (V.out.step ((((Q.refl W).drew.trans q2).trans q3).trans q4))
                  clear e0 e1 e2 e3 f0 f1 f2' f3 V q2 q3 q4
                  obtain ⟨⟨s0, s1, s2, s3⟩, h0, h1, h2, h3⟩ := U.out.sb.getR
                  obtain ⟨⟨e0, e1, e2, e3⟩, f0, f1, f2', f3⟩ := U.out.sb.get
                  go_wp2
                  refine bodyPost_ret (v := .tuple #[dkv A5 n5 c5 x.1.room x.1.fuse x.1.off, .int .i64 0]) (by simp [results, Tryz.results22, go_sem, s0, s1, s2, s3]) rfl ?_
                  have ex := HX.out
                  rw [dels_end (.inr (fun h => by rw [G2.out] at h; exact absurd h.2 (by simp)))] at ex
                  rw [ex, g0]
                  have e0' : [Value.int .i64 x.2] = [.int .i64 0] := by rw [g0]
                  exact e0' ▸ U.out.endW HF.out [.int .i64 x.2] _ _ _ _
                · rw [g2] at KHK
                  have G2 := Lib.hid g2
                  have KDK := Lib.hid (fun A n c w hd => del_any (namB k) A n c x.1 w hd (mx HB.out) HB.out.fuse.2)
                  have HB2' := Lib.hid (HB.out.del (namB k))
                  have HX2 := Lib.hid (HX.out.trans (dels_more g0 g1 g2))
                  clear g1 g2 HX
                  generalize del x.1 (namB k) = y at KDK HB2' HX2
                  go_upto_region 11 with (fail)
                  go_region_held3 (fun w' => w'.cell? ⟨w.heap.size, 0, none⟩ = some (.slice A5 n5 c5) ∧ w'.cell? ⟨w.heap.size, 1, none⟩ = some (.int .i64 x.1.room) ∧ w'.cell? ⟨w.heap.size, 2, none⟩ = some (.int .i64 x.1.fuse) ∧ w'.cell? ⟨w.heap.size, 3, none⟩ = some (.bool x.1.off))
                    (first
                      | go_keep
                      | (go_split_ands
                         (repeat' apply And.intro) <;> exact box_ ‹Q _ _› (by assumption)))
                    (first
                      | (go_at_call 19
                         (with_reducible refine (KUK.out _).mono ?_)
                         rintro e w2 ⟨rfl, q2⟩)
                      | (go_at_call 13
                         (with_reducible refine (KNK.out _ (HT.out.q (V.out.sb.q.trans ((Q.refl W).drew.trans q2)))).mono ?_)
                         rintro e w3 ⟨rfl, q3⟩)
                      | (go_at_call 35
                         (with_reducible refine (KHK.out _ (V.out.dsk.files.q (((Q.refl W).drew.trans q2).trans q3))).mono ?_)
                         rintro e w4 ⟨rfl, q4⟩))
                  have U := Lib.hid (V.out.step ((((Q.refl W).drew.trans q2).trans q3).trans q4))
                  clear e0 e1 e2 e3 f0 f1 f2' f3 V q2 q3 q4
                  generalize w4 = W at U ⊢
                  have SU := Lib.hid U.out.sb
                  have DU := Lib.hid U.out.dsk
                  obtain ⟨⟨e0, e1, e2, e3⟩, f0, f1, f2', f3⟩ := U.out.sb.get
                  go_upto_region 13 with (fail)
                  have QW := Lib.hid (Q.refl W)
                  refine wp_region_heldL 7 (Q W) (by kernel_rfl) ?szz13 (fun hHeld => ?rzz13)
                  case szz13 =>
                    exact (Q.refl W).drew
                  case' rzz13 => skip
                  refine wpAnyL_take (i := 0) (oi := ?ozz14) (v := ?vzz14) ?hzz14 ?azz14 ?bzz14 ?czz14 ?kzz14 ?qzz14 ?yzz14 ?szz14 ?rzz14
                  case hzz14 => simp only [List.getElem?_toArray, List.getElem?_cons_zero]; rfl
                  case azz14 => kernel_rfl
                  case bzz14 => kernel_rfl
                  case czz14 => kernel_rfl
                  case kzz14 => kernel_rfl
                  case yzz14 =>
                    refine Or.inl ⟨by rfl, ?_⟩
                    intro w hSw
                    have x0 := box_ hSw e0; have x1 := box_ hSw e1; have x2 := box_ hSw e2; have x3 := box_ hSw e3; clear hSw
                    go_simp
                    try with_reducible rfl
                  case qzz14 => exact fun _ _ _ h => h
                  case szz14 => first | assumption | trivial
                  case' rzz14 => simp only [Act.put, List.setIfInBounds_toArray, List.set_cons_zero, List.set_cons_succ]
                  refine wpAnyL_take (i := 1) (oi := ?ozz15) (v := ?vzz15) ?hzz15 ?azz15 ?bzz15 ?czz15 ?kzz15 ?qzz15 ?yzz15 ?szz15 ?rzz15
                  case hzz15 => simp only [List.getElem?_toArray, List.getElem?_cons_zero, List.getElem?_cons_succ]; rfl
                  case azz15 => kernel_rfl
                  case bzz15 => kernel_rfl
                  case czz15 => kernel_rfl
                  case kzz15 => kernel_rfl
                  case yzz15 =>
                    refine Or.inl ⟨by rfl, ?_⟩
                    intro w hSw
                    skip
                    go_simp
                    try with_reducible rfl
                  case qzz15 => exact fun _ _ _ h => h
                  case szz15 => first | assumption | trivial
                  case' rzz15 => simp only [Act.put, List.setIfInBounds_toArray, List.set_cons_zero, List.set_cons_succ]
                  refine wpAnyL_ready (rs := [2]) (by kernel_rfl) (by simp) ?_
                  refine AllReadyL.cons (o := ?ozz25) ?hzz25 (fun K hK => ?kzz25) ?mzz25
                  case hzz25 => simp only [List.getElem?_toArray, List.getElem?_cons_zero, List.getElem?_cons_succ]; rfl
                  case kzz25 =>
                    go_simp
                    refine (KNK.out _ (HT.out.q (SU.out.q.trans hHeld))).mono ?_
                    rintro e w3 ⟨rfl, q3⟩
                    go_wp2_with fail
                    refine hK.out _ _ ?Szz25 (fun hHeld => ?Rzz25)
                    case Szz25 =>
                      exact hHeld.trans q3
                    case Rzz25 =>
                      clear hK K
                      try simp only [Act.put, List.setIfInBounds_toArray, List.set_cons_zero, List.set_cons_succ]
                      refine wpAnyL_ready (rs := [3]) (by kernel_rfl) (by simp) ?_
                      refine AllReadyL.cons (o := ?ozz24) ?hzz24 (fun K hK => ?kzz24) ?mzz24
                      case hzz24 => simp only [List.getElem?_toArray, List.getElem?_cons_zero, List.getElem?_cons_succ]; rfl
                      case kzz24 =>
                        go_simp
                        refine (KDK.out _ _ _ _ (DU.out.q hHeld)).mono ?_
                        rintro e w5 ⟨A5, n5, c5, rfl, ho, q5⟩
                        obtain ⟨⟨x0, x1, x2, x3⟩, y0, y1, y2, y3⟩ := ((SU.out.step hHeld).step q5).get
                        have Z5 := Lib.hid (And.intro ho (And.intro hHeld q5))
                        go_wp2_with fail
                        refine hK.out _ _ ?Szz24 (fun hHeld => ?Rzz24)
                        case Szz24 =>
                          exact hHeld.trans q5
                        case Rzz24 =>
                          clear hK K
                          try simp only [Act.put, List.setIfInBounds_toArray, List.set_cons_zero, List.set_cons_succ]
                          refine wpAnyL_take (i := 4) (oi := ?ozz16) (v := ?vzz16) ?hzz16 ?azz16 ?bzz16 ?czz16 ?kzz16 ?qzz16 ?yzz16 ?szz16 ?rzz16
                          case hzz16 => simp only [List.getElem?_toArray, List.getElem?_cons_zero, List.getElem?_cons_succ]; rfl
                          case azz16 => kernel_rfl
                          case bzz16 => kernel_rfl
                          case czz16 => kernel_rfl
                          case kzz16 => kernel_rfl
                          case yzz16 =>
                            refine Or.inl ⟨by rfl, ?_⟩
                            intro w hSw
                            skip
                            go_simp
                            try with_reducible rfl
                          case qzz16 => exact fun _ _ _ h => h
                          case szz16 => first | assumption | trivial
                          case' rzz16 => simp only [Act.put, List.setIfInBounds_toArray, List.set_cons_zero, List.set_cons_succ]
                          refine wpAnyL_take (i := 5) (oi := ?ozz17) (v := ?vzz17) ?hzz17 ?azz17 ?bzz17 ?czz17 ?kzz17 ?qzz17 ?yzz17 ?szz17 ?rzz17
                          case hzz17 => simp only [List.getElem?_toArray, List.getElem?_cons_zero, List.getElem?_cons_succ]; rfl
                          case azz17 => kernel_rfl
                          case bzz17 => kernel_rfl
                          case czz17 => kernel_rfl
                          case kzz17 => kernel_rfl
                          case yzz17 =>
                            refine Or.inl ⟨by rfl, ?_⟩
                            intro w hSw
                            skip
                            go_simp
                            try with_reducible rfl
                          case qzz17 => exact fun _ _ _ h => h
                          case szz17 => first | assumption | trivial
                          case' rzz17 => simp only [Act.put, List.setIfInBounds_toArray, List.set_cons_zero, List.set_cons_succ]
                          refine wpAnyL_ready (rs := [6, 7]) (by kernel_rfl) (by simp) ?_
                          refine AllReadyL.cons (o := ?ozz22) ?hzz22 (fun K hK => ?kzz22) ?mzz22
                          case hzz22 => simp only [List.getElem?_toArray, List.getElem?_cons_zero, List.getElem?_cons_succ]; rfl
                          case kzz22 =>
                            go_simp
                            refine hK.out _ _ ?Szz22 (fun hHeld => ?Rzz22)
                            case Szz22 =>
                              exact hHeld
                            case Rzz22 =>
                              clear hK K
                              try simp only [Act.put, List.setIfInBounds_toArray, List.set_cons_zero, List.set_cons_succ]
                              refine wpAnyL_ready (rs := [7]) (by kernel_rfl) (by simp) ?_
                              refine AllReadyL.consK (o := ?ozz19) ?hzz19 ?lzz19 (fun K hK => ?kzz19) ?mzz19
                              case hzz19 => simp only [List.getElem?_toArray, List.getElem?_cons_zero, List.getElem?_cons_succ]; rfl
                              case lzz19 => kernel_rfl
                              case kzz19 =>
                                go_simp
                                refine hK.out _ _ ?Rzz19
                                case Rzz19 =>
                                  clear hK K
                                  try simp only [Act.put, List.setIfInBounds_toArray, List.set_cons_zero, List.set_cons_succ]
                                  refine wpAnyH_take (i := 8) (oi := ?ozz18) (v := ?vzz18) ?hzz18 ?azz18 ?bzz18 ?czz18 ?qzz18 ?yzz18 ?szz18 ?rzz18
                                  case hzz18 => simp only [List.getElem?_toArray, List.getElem?_cons_zero, List.getElem?_cons_succ]; rfl
                                  case azz18 => kernel_rfl
                                  case bzz18 => kernel_rfl
                                  case czz18 => kernel_rfl
                                  case yzz18 =>
                                    refine Or.inl ⟨by rfl, ?_⟩
                                    intro w hSw
                                    skip
                                    go_simp
                                    try with_reducible rfl
                                  case qzz18 => exact fun _ _ _ h => h
                                  case szz18 => first | assumption | trivial
                                  case' rzz18 => simp only [Act.put, List.setIfInBounds_toArray, List.set_cons_zero, List.set_cons_succ]
                                  refine wpAnyH_done (by kernel_rfl) ?_ _
                                  have P := Lib.hid ((U.out.step Z5.out.2.1).put Z5.out.2.2 Z5.out.1 (few_own Z5.out.1 HB2'.out))
                                  have hk3 : k ≤ 1000000 := G1.out.2
                                  go_wp2_with fail
                                  go_roundw
                                  case rel => exact ⟨k + 1, A5, n5, c5, y, by simp, rfl, by omega, by omega, P.out.1, P.out.2, HB2'.out, HX2.out⟩
                                  case measure => simp [intOf]; omega
                              case' mzz19 => skip
                              exact AllReadyL.nil
                          case' mzz22 => skip
                          refine AllReadyL.consK (o := ?ozz23) ?hzz23 ?lzz23 (fun K hK => ?kzz23) ?mzz23
                          case hzz23 => simp only [List.getElem?_toArray, List.getElem?_cons_zero, List.getElem?_cons_succ]; rfl
                          case lzz23 => kernel_rfl
                          case kzz23 =>
                            go_simp
                            refine hK.out _ _ ?Rzz23
                            case Rzz23 =>
                              clear hK K
                              try simp only [Act.put, List.setIfInBounds_toArray, List.set_cons_zero, List.set_cons_succ]
                              refine wpAnyH_take (i := 6) (oi := ?ozz20) (v := ?vzz20) ?hzz20 ?azz20 ?bzz20 ?czz20 ?qzz20 ?yzz20 ?szz20 ?rzz20
                              case hzz20 => simp only [List.getElem?_toArray, List.getElem?_cons_zero, List.getElem?_cons_succ]; rfl
                              case azz20 => kernel_rfl
                              case bzz20 => kernel_rfl
                              case czz20 => kernel_rfl
                              case yzz20 =>
                                refine Or.inl ⟨by rfl, ?_⟩
                                intro w hSw
                                skip
                                go_simp
                                try with_reducible rfl
                              case qzz20 => exact fun _ _ _ h => h
                              case szz20 => first | assumption | trivial
                              case' rzz20 => simp only [Act.put, List.setIfInBounds_toArray, List.set_cons_zero, List.set_cons_succ]
                              refine wpAnyH_take (i := 8) (oi := ?ozz21) (v := ?vzz21) ?hzz21 ?azz21 ?bzz21 ?czz21 ?qzz21 ?yzz21 ?szz21 ?rzz21
                              case hzz21 => simp only [List.getElem?_toArray, List.getElem?_cons_zero, List.getElem?_cons_succ]; rfl
                              case azz21 => kernel_rfl
                              case bzz21 => kernel_rfl
                              case czz21 => kernel_rfl
                              case yzz21 =>
                                refine Or.inl ⟨by rfl, ?_⟩
                                intro w hSw
                                skip
                                go_simp
                                try with_reducible rfl
                              case qzz21 => exact fun _ _ _ h => h
                              case szz21 => first | assumption | trivial
                              case' rzz21 => simp only [Act.put, List.setIfInBounds_toArray, List.set_cons_zero, List.set_cons_succ]
                              refine wpAnyH_done (by kernel_rfl) ?_ _
                              have P := Lib.hid ((U.out.step Z5.out.2.1).put Z5.out.2.2 Z5.out.1 (few_own Z5.out.1 HB2'.out))
                              have hk3 : k ≤ 1000000 := G1.out.2
                              go_wp2_with fail
                              go_roundw
                              case rel => exact ⟨k + 1, A5, n5, c5, y, by simp, rfl, by omega, by omega, P.out.1, P.out.2, HB2'.out, HX2.out⟩
                              case measure => simp [intOf]; omega
                          case' mzz23 => skip
                          exact AllReadyL.nil
                      case' mzz24 => skip
                      exact AllReadyL.nil
                  case' mzz25 => skip
                  exact AllReadyL.nil
              · have KUK := Lib.hid (numbered_no k g1)
                have G1 := Lib.hid g1
                clear g1
                go_upto_region 11 with (fail)
                refine wp_region_held_drew (S := fun _ => True) (by kernel_rfl) ?szz26 (fun hHeld => ?rzz26)
                case szz26 =>
                  trivial
                case' rzz26 => skip
                refine wpAnyH_take (i := 0) (oi := ?ozz27) (v := ?vzz27) ?hzz27 ?azz27 ?bzz27 ?czz27 ?qzz27 ?yzz27 ?szz27 ?rzz27
                case hzz27 => simp only [List.getElem?_toArray, List.getElem?_cons_zero]; rfl
                case azz27 => kernel_rfl
                case bzz27 => kernel_rfl
                case czz27 => kernel_rfl
                case yzz27 =>
                  refine Or.inl ⟨by rfl, ?_⟩
                  intro w hSw
                  skip
                  go_simp
                  try with_reducible rfl
                case qzz27 => exact fun _ _ _ h => h
                case szz27 => first | assumption | trivial
                case' rzz27 => simp only [Act.put, List.setIfInBounds_toArray, List.set_cons_zero, List.set_cons_succ]
                refine wpAnyH_take (i := 1) (oi := ?ozz28) (v := ?vzz28) ?hzz28 ?azz28 ?bzz28 ?czz28 ?qzz28 ?yzz28 ?szz28 ?rzz28
                case hzz28 => simp only [List.getElem?_toArray, List.getElem?_cons_zero, List.getElem?_cons_succ]; rfl
                case azz28 => kernel_rfl
                case bzz28 => kernel_rfl
                case czz28 => kernel_rfl
                case yzz28 =>
                  refine Or.inl ⟨by rfl, ?_⟩
                  intro w hSw
                  skip
                  go_simp
                  try with_reducible rfl
                case qzz28 => exact fun _ _ _ h => h
                case szz28 => first | assumption | trivial
                case' rzz28 => simp only [Act.put, List.setIfInBounds_toArray, List.set_cons_zero, List.set_cons_succ]
                refine wpAnyH_take (i := 2) (oi := ?ozz29) (v := ?vzz29) ?hzz29 ?azz29 ?bzz29 ?czz29 ?qzz29 ?yzz29 ?szz29 ?rzz29
                case hzz29 => simp only [List.getElem?_toArray, List.getElem?_cons_zero, List.getElem?_cons_succ]; rfl
                case azz29 => kernel_rfl
                case bzz29 => kernel_rfl
                case czz29 => kernel_rfl
                case yzz29 =>
                  refine Or.inl ⟨by rfl, ?_⟩
                  intro w hSw
                  skip
                  go_simp
                  try with_reducible rfl
                case qzz29 => exact fun _ _ _ h => h
                case szz29 => first | assumption | trivial
                case' rzz29 => simp only [Act.put, List.setIfInBounds_toArray, List.set_cons_zero, List.set_cons_succ]
                refine wpAnyH_take (i := 3) (oi := ?ozz30) (v := ?vzz30) ?hzz30 ?azz30 ?bzz30 ?czz30 ?qzz30 ?yzz30 ?szz30 ?rzz30
                case hzz30 => simp only [List.getElem?_toArray, List.getElem?_cons_zero, List.getElem?_cons_succ]; rfl
                case azz30 => kernel_rfl
                case bzz30 => kernel_rfl
                case czz30 => kernel_rfl
                case yzz30 =>
                  refine Or.inl ⟨by rfl, ?_⟩
                  intro w hSw
                  skip
                  go_simp
                  try with_reducible rfl
                case qzz30 => exact fun _ _ _ h => h
                case szz30 => first | assumption | trivial
                case' rzz30 => simp only [Act.put, List.setIfInBounds_toArray, List.set_cons_zero, List.set_cons_succ]
                refine wpAnyH_ready (rs := [4]) (by kernel_rfl) (by simp) ?_
                refine AllReadyH.cons (o := ?ozz38) ?hzz38 (fun K hK => ?kzz38) ?mzz38
                case hzz38 => simp only [List.getElem?_toArray, List.getElem?_cons_zero, List.getElem?_cons_succ]; rfl
                case kzz38 =>
                  go_simp
                  refine (KUK.out _).mono ?_
                  rintro e w2 ⟨rfl, q2⟩
                  go_wp2_with fail
                  refine hK.out _ _ ?Szz38 (fun hHeld => ?Rzz38)
                  case Szz38 =>
                    trivial
                  case Rzz38 =>
                    clear hK K
                    try simp only [Act.put, List.setIfInBounds_toArray, List.set_cons_zero, List.set_cons_succ]
                    refine wpAnyH_take (i := 5) (oi := ?ozz31) (v := ?vzz31) ?hzz31 ?azz31 ?bzz31 ?czz31 ?qzz31 ?yzz31 ?szz31 ?rzz31
                    case hzz31 => simp only [List.getElem?_toArray, List.getElem?_cons_zero, List.getElem?_cons_succ]; rfl
                    case azz31 => kernel_rfl
                    case bzz31 => kernel_rfl
                    case czz31 => kernel_rfl
                    case yzz31 =>
                      refine Or.inl ⟨by rfl, ?_⟩
                      intro w hSw
                      skip
                      go_simp
                      try with_reducible rfl
                    case qzz31 => exact fun _ _ _ h => h
                    case szz31 => first | assumption | trivial
                    case' rzz31 => simp only [Act.put, List.setIfInBounds_toArray, List.set_cons_zero, List.set_cons_succ]
                    refine wpAnyH_take (i := 6) (oi := ?ozz32) (v := ?vzz32) ?hzz32 ?azz32 ?bzz32 ?czz32 ?qzz32 ?yzz32 ?szz32 ?rzz32
                    case hzz32 => simp only [List.getElem?_toArray, List.getElem?_cons_zero, List.getElem?_cons_succ]; rfl
                    case azz32 => kernel_rfl
                    case bzz32 => kernel_rfl
                    case czz32 => kernel_rfl
                    case yzz32 =>
                      refine Or.inl ⟨by rfl, ?_⟩
                      intro w hSw
                      skip
                      go_simp
                      try with_reducible rfl
                    case qzz32 => exact fun _ _ _ h => h
                    case szz32 => first | assumption | trivial
                    case' rzz32 => simp only [Act.put, List.setIfInBounds_toArray, List.set_cons_zero, List.set_cons_succ]
                    refine wpAnyH_take (i := 7) (oi := ?ozz33) (v := undef) ?hzz33 ?azz33 ?bzz33 ?czz33 ?qzz33 ?yzz33 ?szz33 ?rzz33
                    case hzz33 => simp only [List.getElem?_toArray, List.getElem?_cons_zero, List.getElem?_cons_succ]; rfl
                    case azz33 => kernel_rfl
                    case bzz33 => kernel_rfl
                    case czz33 => kernel_rfl
                    case yzz33 => exact Or.inr ⟨by rfl, rfl⟩
                    case qzz33 => exact fun _ _ _ h => h
                    case szz33 => first | assumption | trivial
                    case' rzz33 => simp only [Act.put, List.setIfInBounds_toArray, List.set_cons_zero, List.set_cons_succ]
                    refine wpAnyH_take (i := 8) (oi := ?ozz34) (v := undef) ?hzz34 ?azz34 ?bzz34 ?czz34 ?qzz34 ?yzz34 ?szz34 ?rzz34
                    case hzz34 => simp only [List.getElem?_toArray, List.getElem?_cons_zero, List.getElem?_cons_succ]; rfl
                    case azz34 => kernel_rfl
                    case bzz34 => kernel_rfl
                    case czz34 => kernel_rfl
                    case yzz34 => exact Or.inr ⟨by rfl, rfl⟩
                    case qzz34 => exact fun _ _ _ h => h
                    case szz34 => first | assumption | trivial
                    case' rzz34 => simp only [Act.put, List.setIfInBounds_toArray, List.set_cons_zero, List.set_cons_succ]
                    refine wpAnyH_take (i := 9) (oi := ?ozz35) (v := undef) ?hzz35 ?azz35 ?bzz35 ?czz35 ?qzz35 ?yzz35 ?szz35 ?rzz35
                    case hzz35 => simp only [List.getElem?_toArray, List.getElem?_cons_zero, List.getElem?_cons_succ]; rfl
                    case azz35 => kernel_rfl
                    case bzz35 => kernel_rfl
                    case czz35 => kernel_rfl
                    case yzz35 => exact Or.inr ⟨by rfl, rfl⟩
                    case qzz35 => exact fun _ _ _ h => h
                    case szz35 => first | assumption | trivial
                    case' rzz35 => simp only [Act.put, List.setIfInBounds_toArray, List.set_cons_zero, List.set_cons_succ]
                    refine wpAnyH_take (i := 10) (oi := ?ozz36) (v := undef) ?hzz36 ?azz36 ?bzz36 ?czz36 ?qzz36 ?yzz36 ?szz36 ?rzz36
                    case hzz36 => simp only [List.getElem?_toArray, List.getElem?_cons_zero, List.getElem?_cons_succ]; rfl
                    case azz36 => kernel_rfl
                    case bzz36 => kernel_rfl
                    case czz36 => kernel_rfl
                    case yzz36 => exact Or.inr ⟨by rfl, rfl⟩
                    case qzz36 => exact fun _ _ _ h => h
                    case szz36 => first | assumption | trivial
                    case' rzz36 => simp only [Act.put, List.setIfInBounds_toArray, List.set_cons_zero, List.set_cons_succ]
                    refine wpAnyH_take (i := 11) (oi := ?ozz37) (v := ?vzz37) ?hzz37 ?azz37 ?bzz37 ?czz37 ?qzz37 ?yzz37 ?szz37 ?rzz37
                    case hzz37 => simp only [List.getElem?_toArray, List.getElem?_cons_zero, List.getElem?_cons_succ]; rfl
                    case azz37 => kernel_rfl
                    case bzz37 => kernel_rfl
                    case czz37 => kernel_rfl
                    case yzz37 =>
                      refine Or.inl ⟨by rfl, ?_⟩
                      intro w hSw
                      skip
                      go_simp
                      try with_reducible rfl
                    case qzz37 => exact fun _ _ _ h => h
                    case szz37 => first | assumption | trivial
                    case' rzz37 => simp only [Act.put, List.setIfInBounds_toArray, List.set_cons_zero, List.set_cons_succ]
                    refine wpAnyH_done (by kernel_rfl) ?_ _
                    have U := Lib.hid (V.out.step ((Q.refl W).drew.trans q2))
                    clear e0 e1 e2 e3 f0 f1 f2' f3 V q2
                    obtain ⟨⟨s0, s1, s2, s3⟩, h0, h1, h2, h3⟩ := U.out.sb.getR
                    obtain ⟨⟨e0, e1, e2, e3⟩, f0, f1, f2', f3⟩ := U.out.sb.get
                    go_wp2
                    refine bodyPost_ret (v := .tuple #[dkv A5 n5 c5 x.1.room x.1.fuse x.1.off, .int .i64 0]) (by simp [results, Tryz.results22, go_sem, s0, s1, s2, s3]) rfl ?_
                    have ex := HX.out
                    rw [dels_end (.inr (fun h => G1.out h.1))] at ex
                    rw [ex, g0]
                    have e0' : [Value.int .i64 x.2] = [.int .i64 0] := by rw [g0]
                    exact e0' ▸ U.out.endW HF.out [.int .i64 x.2] _ _ _ _
                case' mzz38 => skip
                exact AllReadyH.nil
            · have G0 := Lib.hid g0
              have KUK := Lib.hid (numbered_yes)
              go_upto_region 11 with (fail)
              refine wp_region_held_drew (S := fun _ => True) (by kernel_rfl) ?szz39 (fun hHeld => ?rzz39)
              case szz39 =>
                trivial
              case' rzz39 => skip
              refine wpAnyH_take (i := 0) (oi := ?ozz40) (v := ?vzz40) ?hzz40 ?azz40 ?bzz40 ?czz40 ?qzz40 ?yzz40 ?szz40 ?rzz40
              case hzz40 => simp only [List.getElem?_toArray, List.getElem?_cons_zero]; rfl
              case azz40 => kernel_rfl
              case bzz40 => kernel_rfl
              case czz40 => kernel_rfl
              case yzz40 =>
                refine Or.inl ⟨by rfl, ?_⟩
                intro w hSw
                skip
                go_simp
                try with_reducible rfl
              case qzz40 => exact fun _ _ _ h => h
              case szz40 => first | assumption | trivial
              case' rzz40 => simp only [Act.put, List.setIfInBounds_toArray, List.set_cons_zero, List.set_cons_succ]
              refine wpAnyH_take (i := 1) (oi := ?ozz41) (v := ?vzz41) ?hzz41 ?azz41 ?bzz41 ?czz41 ?qzz41 ?yzz41 ?szz41 ?rzz41
              case hzz41 => simp only [List.getElem?_toArray, List.getElem?_cons_zero, List.getElem?_cons_succ]; rfl
              case azz41 => kernel_rfl
              case bzz41 => kernel_rfl
              case czz41 => kernel_rfl
              case yzz41 =>
                refine Or.inl ⟨by rfl, ?_⟩
                intro w hSw
                have hz : (x.2 == 0) = false := (by simpa using g0); have hz2 : decide (x.2 = 0) = false := (by simpa using g0)
                go_simp
                try with_reducible rfl
              case qzz41 => exact fun _ _ _ h => h
              case szz41 => first | assumption | trivial
              case' rzz41 => simp only [Act.put, List.setIfInBounds_toArray, List.set_cons_zero, List.set_cons_succ]
              refine wpAnyH_take (i := 2) (oi := ?ozz42) (v := ?vzz42) ?hzz42 ?azz42 ?bzz42 ?czz42 ?qzz42 ?yzz42 ?szz42 ?rzz42
              case hzz42 => simp only [List.getElem?_toArray, List.getElem?_cons_zero, List.getElem?_cons_succ]; rfl
              case azz42 => kernel_rfl
              case bzz42 => kernel_rfl
              case czz42 => kernel_rfl
              case yzz42 =>
                refine Or.inl ⟨by rfl, ?_⟩
                intro w hSw
                skip
                go_simp
                try with_reducible rfl
              case qzz42 => exact fun _ _ _ h => h
              case szz42 => first | assumption | trivial
              case' rzz42 => simp only [Act.put, List.setIfInBounds_toArray, List.set_cons_zero, List.set_cons_succ]
              refine wpAnyH_take (i := 3) (oi := ?ozz43) (v := undef) ?hzz43 ?azz43 ?bzz43 ?czz43 ?qzz43 ?yzz43 ?szz43 ?rzz43
              case hzz43 => simp only [List.getElem?_toArray, List.getElem?_cons_zero, List.getElem?_cons_succ]; rfl
              case azz43 => kernel_rfl
              case bzz43 => kernel_rfl
              case czz43 => kernel_rfl
              case yzz43 => exact Or.inr ⟨by rfl, rfl⟩
              case qzz43 => exact fun _ _ _ h => h
              case szz43 => first | assumption | trivial
              case' rzz43 => simp only [Act.put, List.setIfInBounds_toArray, List.set_cons_zero, List.set_cons_succ]
              refine wpAnyH_take (i := 4) (oi := ?ozz44) (v := undef) ?hzz44 ?azz44 ?bzz44 ?czz44 ?qzz44 ?yzz44 ?szz44 ?rzz44
              case hzz44 => simp only [List.getElem?_toArray, List.getElem?_cons_zero, List.getElem?_cons_succ]; rfl
              case azz44 => kernel_rfl
              case bzz44 => kernel_rfl
              case czz44 => kernel_rfl
              case yzz44 => exact Or.inr ⟨by rfl, rfl⟩
              case qzz44 => exact fun _ _ _ h => h
              case szz44 => first | assumption | trivial
              case' rzz44 => simp only [Act.put, List.setIfInBounds_toArray, List.set_cons_zero, List.set_cons_succ]
              refine wpAnyH_take (i := 5) (oi := ?ozz45) (v := ?vzz45) ?hzz45 ?azz45 ?bzz45 ?czz45 ?qzz45 ?yzz45 ?szz45 ?rzz45
              case hzz45 => simp only [List.getElem?_toArray, List.getElem?_cons_zero, List.getElem?_cons_succ]; rfl
              case azz45 => kernel_rfl
              case bzz45 => kernel_rfl
              case czz45 => kernel_rfl
              case yzz45 =>
                refine Or.inl ⟨by rfl, ?_⟩
                intro w hSw
                skip
                go_simp
                try with_reducible rfl
              case qzz45 => exact fun _ _ _ h => h
              case szz45 => first | assumption | trivial
              case' rzz45 => simp only [Act.put, List.setIfInBounds_toArray, List.set_cons_zero, List.set_cons_succ]
              refine wpAnyH_take (i := 6) (oi := ?ozz46) (v := ?vzz46) ?hzz46 ?azz46 ?bzz46 ?czz46 ?qzz46 ?yzz46 ?szz46 ?rzz46
              case hzz46 => simp only [List.getElem?_toArray, List.getElem?_cons_zero, List.getElem?_cons_succ]; rfl
              case azz46 => kernel_rfl
              case bzz46 => kernel_rfl
              case czz46 => kernel_rfl
              case yzz46 =>
                refine Or.inl ⟨by rfl, ?_⟩
                intro w hSw
                skip
                go_simp
                try with_reducible rfl
              case qzz46 => exact fun _ _ _ h => h
              case szz46 => first | assumption | trivial
              case' rzz46 => simp only [Act.put, List.setIfInBounds_toArray, List.set_cons_zero, List.set_cons_succ]
              refine wpAnyH_take (i := 7) (oi := ?ozz47) (v := undef) ?hzz47 ?azz47 ?bzz47 ?czz47 ?qzz47 ?yzz47 ?szz47 ?rzz47
              case hzz47 => simp only [List.getElem?_toArray, List.getElem?_cons_zero, List.getElem?_cons_succ]; rfl
              case azz47 => kernel_rfl
              case bzz47 => kernel_rfl
              case czz47 => kernel_rfl
              case yzz47 => exact Or.inr ⟨by rfl, rfl⟩
              case qzz47 => exact fun _ _ _ h => h
              case szz47 => first | assumption | trivial
              case' rzz47 => simp only [Act.put, List.setIfInBounds_toArray, List.set_cons_zero, List.set_cons_succ]
              refine wpAnyH_take (i := 8) (oi := ?ozz48) (v := undef) ?hzz48 ?azz48 ?bzz48 ?czz48 ?qzz48 ?yzz48 ?szz48 ?rzz48
              case hzz48 => simp only [List.getElem?_toArray, List.getElem?_cons_zero, List.getElem?_cons_succ]; rfl
              case azz48 => kernel_rfl
              case bzz48 => kernel_rfl
              case czz48 => kernel_rfl
              case yzz48 => exact Or.inr ⟨by rfl, rfl⟩
              case qzz48 => exact fun _ _ _ h => h
              case szz48 => first | assumption | trivial
              case' rzz48 => simp only [Act.put, List.setIfInBounds_toArray, List.set_cons_zero, List.set_cons_succ]
              refine wpAnyH_take (i := 9) (oi := ?ozz49) (v := undef) ?hzz49 ?azz49 ?bzz49 ?czz49 ?qzz49 ?yzz49 ?szz49 ?rzz49
              case hzz49 => simp only [List.getElem?_toArray, List.getElem?_cons_zero, List.getElem?_cons_succ]; rfl
              case azz49 => kernel_rfl
              case bzz49 => kernel_rfl
              case czz49 => kernel_rfl
              case yzz49 => exact Or.inr ⟨by rfl, rfl⟩
              case qzz49 => exact fun _ _ _ h => h
              case szz49 => first | assumption | trivial
              case' rzz49 => simp only [Act.put, List.setIfInBounds_toArray, List.set_cons_zero, List.set_cons_succ]
              refine wpAnyH_take (i := 10) (oi := ?ozz50) (v := undef) ?hzz50 ?azz50 ?bzz50 ?czz50 ?qzz50 ?yzz50 ?szz50 ?rzz50
              case hzz50 => simp only [List.getElem?_toArray, List.getElem?_cons_zero, List.getElem?_cons_succ]; rfl
              case azz50 => kernel_rfl
              case bzz50 => kernel_rfl
              case czz50 => kernel_rfl
              case yzz50 => exact Or.inr ⟨by rfl, rfl⟩
              case qzz50 => exact fun _ _ _ h => h
              case szz50 => first | assumption | trivial
              case' rzz50 => simp only [Act.put, List.setIfInBounds_toArray, List.set_cons_zero, List.set_cons_succ]
              refine wpAnyH_take (i := 11) (oi := ?ozz51) (v := ?vzz51) ?hzz51 ?azz51 ?bzz51 ?czz51 ?qzz51 ?yzz51 ?szz51 ?rzz51
              case hzz51 => simp only [List.getElem?_toArray, List.getElem?_cons_zero, List.getElem?_cons_succ]; rfl
              case azz51 => kernel_rfl
              case bzz51 => kernel_rfl
              case czz51 => kernel_rfl
              case yzz51 =>
                refine Or.inl ⟨by rfl, ?_⟩
                intro w hSw
                skip
                go_simp
                try with_reducible rfl
              case qzz51 => exact fun _ _ _ h => h
              case szz51 => first | assumption | trivial
              case' rzz51 => simp only [Act.put, List.setIfInBounds_toArray, List.set_cons_zero, List.set_cons_succ]
              refine wpAnyH_done (by kernel_rfl) ?_ _
              have U := Lib.hid (V.out.step (Q.refl W).drew)
              clear e0 e1 e2 e3 f0 f1 f2' f3
              obtain ⟨⟨s0, s1, s2, s3⟩, h0, h1, h2, h3⟩ := V.out.sb.getR
              obtain ⟨⟨e0, e1, e2, e3⟩, f0, f1, f2', f3⟩ := V.out.sb.get
              go_wp2
              refine bodyPost_ret (v := .tuple #[dkv A5 n5 c5 x.1.room x.1.fuse x.1.off, .int .i64 x.2]) (by simp [results, Tryz.results22, go_sem, s0, s1, s2, s3]) rfl ?_
              have ex := HX.out
              rw [dels_end (.inl G0.out)] at ex
              rw [ex]
              exact U.out.endW HF.out [.int .i64 x.2] _ _ _ _
end Go.Proofs.YtggbdhnjogalgaaGreatDoor

/- Contract: wal.Drop, the numbers of the segments that are there being known. -/
namespace Go.Proofs.YtggbdhnjogalgaaGreatDoor
set_option maxRecDepth 100000
open Go.RowKit Dkm Wm
set_option linter.unusedVariables false
set_option linter.unusedSimpArgs false

/-- the numbers that are dropped. -/
def fil (from_ til : Int) (ks : List Int) : List Int := ks.filter fun k => decide (from_ ≤ k ∧ k < til)
theorem fil_no {from_ til k : Int} {ks : List Int} (h : ¬ (from_ ≤ k ∧ k < til)) : fil from_ til (k :: ks) = fil from_ til ks := by
  unfold fil; rw [List.filter_cons_of_neg (by simpa using h)]
theorem fil_yes {from_ til k : Int} {ks : List Int} (h : from_ ≤ k ∧ k < til) : fil from_ til (k :: ks) = k :: fil from_ til ks := by
  unfold fil; rw [List.filter_cons_of_pos (by simpa using h)]
theorem Ints.away {w : World} {K : Option Addr} {n : Nat} {l : List Int} (h : Ints w K n l) {b : Nat} (hf : ∀ ad, K = some ad → ad.block ≠ b) (o : Nat) (v : Value) : Ints (w.setCell ⟨b, o, none⟩ v) K n l := by
  refine ⟨h.1, fun j u hj => ?_⟩
  obtain ⟨ad, e, hb, hc⟩ := h.2 j u hj
  refine ⟨ad, e, by simpa [World.setCell] using hb, ?_⟩
  have hne : (⟨b, o, none⟩ : Addr) ≠ ad.add j := by
    intro e2
    have := congrArg Addr.block e2
    have h2 : (ad.add j).block = ad.block := by unfold Addr.add; split <;> rfl
    rw [h2] at this
    exact hf ad e this.symm
  rw [World.cell?_setCell_other _ _ _ _ hne]
  exact hc
/-- what present tells: numbers, in memory of its own. -/
def RetPr (w : World) (ks : List Int) (e : Ending) (w' : World) : Prop :=
  ∃ K kn kc, e = .returned (.slice K kn kc) ∧ Ints w' K kn ks ∧ kn ≤ maxLen ∧ (∀ ad, K = some ad → w.heap.size ≤ ad.block) ∧ Q w w'

theorem Sv.endF {w wr : World} {A : Option Addr} {n c : Nat} {d : Dk} (h : Sv w A n c d wr) (hf : Far w A) (er : Int) (x y z u : Value) :
    ∃ A' n' c', Ending.returned (.tuple #[dkv A n c d.room d.fuse d.off, .int .i64 er]) = .returned (.tuple #[dkv A' n' c' d.room d.fuse d.off, .int .i64 er]) ∧ Dsk ((((wr.setCell ⟨w.heap.size + 1, 0, none⟩ x).setCell ⟨w.heap.size + 1, 1, none⟩ y).setCell ⟨w.heap.size + 1, 2, none⟩ z).setCell ⟨w.heap.size + 1, 3, none⟩ u) A' n' c' d.fs ∧ Far w A' ∧
      Q w ((((wr.setCell ⟨w.heap.size + 1, 0, none⟩ x).setCell ⟨w.heap.size + 1, 1, none⟩ y).setCell ⟨w.heap.size + 1, 2, none⟩ z).setCell ⟨w.heap.size + 1, 3, none⟩ u) :=
  ⟨A, n, c, rfl, (((h.dsk.away1 (fun hn ad e => (h.away hn ad e).2) 0 _).away1 (fun hn ad e => (h.away hn ad e).2) 1 _).away1 (fun hn ad e => (h.away hn ad e).2) 2 _).away1 (fun hn ad e => (h.away hn ad e).2) 3 _, hf, h.sb.q.set4 (b := w.heap.size + 1) (by omega) _ _ _ _⟩

set_option maxHeartbeats 8000000 in
set_option maxRecDepth 100000 in
theorem wdrop_of (from_ til : Int) (A : Option Addr) (n c : Nat) (d : Dk) (ks : List Int) (w : World) (hT : Tab w) (hd : Dsk w A n c d.fs) (hB : Bnd 2305843009213693952 d)
    (KP : Hid (∀ A n c W, Q w W → Dsk W A n c d.fs → Calls Tryz.prog 27 #[dkv A n c d.room d.fuse d.off] W (RetPr W ks))) :
    Calls Tryz.prog 10 #[dkv A n c d.room d.fuse d.off, .int .i64 from_, .int .i64 til] w fun e w' => ∃ A' n' c', e = .returned (.tuple #[dkv A' n' c' (drops (fil from_ til ks) d).1.room (drops (fil from_ til ks) d).1.fuse (drops (fil from_ til ks) d).1.off, .int .i64 (drops (fil from_ til ks) d).2]) ∧ Dsk w' A' n' c' (drops (fil from_ til ks) d).1.fs ∧ Far w A' ∧ Q w w' := by
  have HT := Lib.hid hT
  have HD := Lib.hid hd
  have HB0 := Lib.hid hB
  generalize hR : drops (fil from_ til ks) d = R
  have HR := Lib.hid hR
  clear hT hd hB hR
  go_enter Tryz.func10, Tryz.ntmps10
  go_wp2_with fail
  refine (wown_any A n c d.room d.fuse d.off d.fs _ (HD.out.q (((Q.refl _).alloc _).alloc _))).mono ?_
  rintro e w1 ⟨A1, c1, rfl, ho, q1⟩
  have P0 := Lib.hid ((Sv.new w HD.out).put (d5 := d) q1 ho HD.out.few)
  obtain ⟨⟨e0, e1, e2, e3⟩, f0, f1, f2', f3⟩ := ((Sv.new w HD.out).sb.step q1).get
  clear ho q1
  go_upto_region 2 with (fail)
  generalize ((((w1.setCell ⟨w.heap.size, 0, none⟩ (.slice A1 n c1)).setCell ⟨w.heap.size, 1, none⟩ (.int .i64 d.room)).setCell ⟨w.heap.size, 2, none⟩ (.int .i64 d.fuse)).setCell ⟨w.heap.size, 3, none⟩ (.bool d.off)) = W0 at P0 ⊢
  clear e0 e1 e2 e3 f0 f1 f2' f3
  obtain ⟨⟨e0, e1, e2, e3⟩, f0, f1, f2', f3⟩ := P0.out.1.sb.get
  go_wp2_with fail
  refine (KP.out _ _ _ _ P0.out.1.sb.q P0.out.1.dsk).mono ?_
  rintro e w2 ⟨K, kn, kc, rfl, hk, hkn, hkf, q2⟩
  have S0 := Lib.hid (P0.out.1.step q2)
  have F0 := Lib.hid P0.out.2
  have I0 := Lib.hid hk
  have HN := Lib.hid hk.len
  have HKF : Hid (∀ ad, K = some ad → ad.block ≠ w.heap.size) := Lib.hid (fun ad e => by have h1 := hkf ad e; have h2 := P0.out.1.sb.res.lt; omega)
  have hkn2 : kn ≤ 9223372036854775807 := hkn
  clear hk hkn hkf q2 P0 KP e0 e1 e2 e3 f0 f1 f2' f3
  go_wp2
  go_loopw [16] (fun i wr => ∃ (j : Nat) (A5 : Option Addr) (n5 c5 : Nat) (x : Dk), j ≤ kn ∧ i = .int .i64 j ∧ Sv w A5 n5 c5 x wr ∧ Far w A5 ∧ Bnd 2305843009213693952 x ∧ Ints wr K kn ks ∧ drops (fil from_ til ks) d = drops (fil from_ til (ks.drop j)) x) (fun i _ => kn - (intOf i).toNat)
  case atStart => exact ⟨0, A1, n, c1, d, Nat.zero_le _, rfl, S0.out, F0.out, HB0.out, I0.out, rfl⟩
  case round =>
    obtain ⟨j, A5, n5, c5, x, hj, rfl, hv, hf, hb, hi, hx⟩ := hrel
    have V := Lib.hid hv
    have HF := Lib.hid hf
    have HB := Lib.hid hb
    have HI := Lib.hid hi
    have HX := Lib.hid hx
    clear hv hf hb hi hx S0 F0 I0 HB0
    generalize wr = W at V HI ⊢
    obtain ⟨⟨e0, e1, e2, e3⟩, f0, f1, f2', f3⟩ := V.out.sb.get
    by_cases hlt : j < kn
    · have hjl : j < ks.length := by have := HN.out; omega
      have hjn : (j : Int) < (kn : Int) := by omega
      obtain ⟨ad, rfl, hab, hc⟩ := HI.out.load hjl
      have HX1 := Lib.hid (fun k (hk : ks[j] = k) => (HX.out.trans (by rw [List.drop_eq_getElem_cons hjl, hk]) : drops (fil from_ til ks) d = drops (fil from_ til (k :: ks.drop (j + 1))) x))
      generalize ks[j] = k at hc HX1
      have HX2 := Lib.hid (HX1.out k rfl)
      clear HX1 HX
      by_cases g0 : k < from_
      · have HX3 := Lib.hid (HX2.out.trans (by rw [fil_no (by omega)]))
        clear HX2
        go_wp2
        go_roundw
        case rel => exact ⟨j + 1, A5, n5, c5, x, by omega, by go_num, V.out, HF.out, HB.out, HI.out, HX3.out⟩
        case measure => simp [intOf]; omega
      by_cases g1 : til ≤ k
      · have HX3 := Lib.hid (HX2.out.trans (by rw [fil_no (by omega)]))
        clear HX2
        go_wp2
        go_roundw
        case rel => exact ⟨j + 1, A5, n5, c5, x, by omega, by go_num, V.out, HF.out, HB.out, HI.out, HX3.out⟩
        case measure => simp [intOf]; omega
      have KNK := Lib.hid (name_any k)
      have KDK := Lib.hid (fun A n c w hd => del_any (namB k) A n c x w hd (fun f hf => Nat.le_trans (HB.out.sum f hf) (by unfold maxLen; omega)) HB.out.fuse.2)
      have HB2 := Lib.hid (HB.out.del (namB k))
      have HX3 := Lib.hid (HX2.out.trans (by rw [fil_yes ⟨by omega, by omega⟩, drops]))
      generalize del x (namB k) = y at KDK HB2 HX3
      obtain ⟨y, er⟩ := y
      simp only at KDK HB2 HX3
      have SV := Lib.hid V.out.sb
      have DV := Lib.hid V.out.dsk
      clear HX2
      go_upto_region 7 with (fail)
      have QW := Lib.hid (Q.refl W)
      refine wp_region_heldL 7 (Q W) (by kernel_rfl) ?szz0 (fun hHeld => ?rzz0)
      case szz0 =>
        exact (Q.refl W).drew
      case' rzz0 => skip
      refine wpAnyL_take (i := 0) (oi := ?ozz1) (v := ?vzz1) ?hzz1 ?azz1 ?bzz1 ?czz1 ?kzz1 ?qzz1 ?yzz1 ?szz1 ?rzz1
      case hzz1 => simp only [List.getElem?_toArray, List.getElem?_cons_zero]; rfl
      case azz1 => kernel_rfl
      case bzz1 => kernel_rfl
      case czz1 => kernel_rfl
      case kzz1 => kernel_rfl
      case yzz1 =>
        refine Or.inl ⟨by rfl, ?_⟩
        intro w hSw
        have x0 := box_ hSw e0; have x1 := box_ hSw e1; have x2 := box_ hSw e2; have x3 := box_ hSw e3; clear hSw
        go_simp
        try with_reducible rfl
      case qzz1 => exact fun _ _ _ h => h
      case szz1 => first | assumption | trivial
      case' rzz1 => simp only [Act.put, List.setIfInBounds_toArray, List.set_cons_zero, List.set_cons_succ]
      refine wpAnyL_take (i := 1) (oi := ?ozz2) (v := ?vzz2) ?hzz2 ?azz2 ?bzz2 ?czz2 ?kzz2 ?qzz2 ?yzz2 ?szz2 ?rzz2
      case hzz2 => simp only [List.getElem?_toArray, List.getElem?_cons_zero, List.getElem?_cons_succ]; rfl
      case azz2 => kernel_rfl
      case bzz2 => kernel_rfl
      case czz2 => kernel_rfl
      case kzz2 => kernel_rfl
      case yzz2 =>
        refine Or.inl ⟨by rfl, ?_⟩
        intro w hSw
        skip
        go_simp
        try with_reducible rfl
      case qzz2 => exact fun _ _ _ h => h
      case szz2 => first | assumption | trivial
      case' rzz2 => simp only [Act.put, List.setIfInBounds_toArray, List.set_cons_zero, List.set_cons_succ]
      refine wpAnyL_ready (rs := [2]) (by kernel_rfl) (by simp) ?_
      refine AllReadyL.cons (o := ?ozz12) ?hzz12 (fun K hK => ?kzz12) ?mzz12
      case hzz12 => simp only [List.getElem?_toArray, List.getElem?_cons_zero, List.getElem?_cons_succ]; rfl
      case kzz12 =>
        go_simp
        refine (KNK.out _ (HT.out.q (SV.out.q.trans hHeld))).mono ?_
        rintro e w3 ⟨rfl, q3⟩
        go_wp2_with fail
        refine hK.out _ _ ?Szz12 (fun hHeld => ?Rzz12)
        case Szz12 =>
          exact hHeld.trans q3
        case Rzz12 =>
          clear hK K
          try simp only [Act.put, List.setIfInBounds_toArray, List.set_cons_zero, List.set_cons_succ]
          refine wpAnyL_ready (rs := [3]) (by kernel_rfl) (by simp) ?_
          refine AllReadyL.cons (o := ?ozz11) ?hzz11 (fun K hK => ?kzz11) ?mzz11
          case hzz11 => simp only [List.getElem?_toArray, List.getElem?_cons_zero, List.getElem?_cons_succ]; rfl
          case kzz11 =>
            go_simp
            refine (KDK.out _ _ _ _ (DV.out.q hHeld)).mono ?_
            rintro e w5 ⟨A5, n5, c5, rfl, ho, q5⟩
            obtain ⟨⟨x0, x1, x2, x3⟩, y0, y1, y2, y3⟩ := ((SV.out.step hHeld).step q5).get
            have Z5 := Lib.hid (And.intro ho (And.intro hHeld q5))
            go_wp2_with fail
            refine hK.out _ _ ?Szz11 (fun hHeld => ?Rzz11)
            case Szz11 =>
              exact hHeld.trans q5
            case Rzz11 =>
              clear hK K
              try simp only [Act.put, List.setIfInBounds_toArray, List.set_cons_zero, List.set_cons_succ]
              refine wpAnyL_take (i := 4) (oi := ?ozz3) (v := ?vzz3) ?hzz3 ?azz3 ?bzz3 ?czz3 ?kzz3 ?qzz3 ?yzz3 ?szz3 ?rzz3
              case hzz3 => simp only [List.getElem?_toArray, List.getElem?_cons_zero, List.getElem?_cons_succ]; rfl
              case azz3 => kernel_rfl
              case bzz3 => kernel_rfl
              case czz3 => kernel_rfl
              case kzz3 => kernel_rfl
              case yzz3 =>
                refine Or.inl ⟨by rfl, ?_⟩
                intro w hSw
                skip
                go_simp
                try with_reducible rfl
              case qzz3 => exact fun _ _ _ h => h
              case szz3 => first | assumption | trivial
              case' rzz3 => simp only [Act.put, List.setIfInBounds_toArray, List.set_cons_zero, List.set_cons_succ]
              refine wpAnyL_take (i := 5) (oi := ?ozz4) (v := ?vzz4) ?hzz4 ?azz4 ?bzz4 ?czz4 ?kzz4 ?qzz4 ?yzz4 ?szz4 ?rzz4
              case hzz4 => simp only [List.getElem?_toArray, List.getElem?_cons_zero, List.getElem?_cons_succ]; rfl
              case azz4 => kernel_rfl
              case bzz4 => kernel_rfl
              case czz4 => kernel_rfl
              case kzz4 => kernel_rfl
              case yzz4 =>
                refine Or.inl ⟨by rfl, ?_⟩
                intro w hSw
                skip
                go_simp
                try with_reducible rfl
              case qzz4 => exact fun _ _ _ h => h
              case szz4 => first | assumption | trivial
              case' rzz4 => simp only [Act.put, List.setIfInBounds_toArray, List.set_cons_zero, List.set_cons_succ]
              refine wpAnyL_ready (rs := [6, 7]) (by kernel_rfl) (by simp) ?_
              refine AllReadyL.cons (o := ?ozz9) ?hzz9 (fun K hK => ?kzz9) ?mzz9
              case hzz9 => simp only [List.getElem?_toArray, List.getElem?_cons_zero, List.getElem?_cons_succ]; rfl
              case kzz9 =>
                go_simp
                refine hK.out _ _ ?Szz9 (fun hHeld => ?Rzz9)
                case Szz9 =>
                  exact hHeld
                case Rzz9 =>
                  clear hK K
                  try simp only [Act.put, List.setIfInBounds_toArray, List.set_cons_zero, List.set_cons_succ]
                  refine wpAnyL_ready (rs := [7]) (by kernel_rfl) (by simp) ?_
                  refine AllReadyL.consK (o := ?ozz6) ?hzz6 ?lzz6 (fun K hK => ?kzz6) ?mzz6
                  case hzz6 => simp only [List.getElem?_toArray, List.getElem?_cons_zero, List.getElem?_cons_succ]; rfl
                  case lzz6 => kernel_rfl
                  case kzz6 =>
                    go_simp
                    refine hK.out _ _ ?Rzz6
                    case Rzz6 =>
                      clear hK K
                      try simp only [Act.put, List.setIfInBounds_toArray, List.set_cons_zero, List.set_cons_succ]
                      refine wpAnyH_take (i := 8) (oi := ?ozz5) (v := ?vzz5) ?hzz5 ?azz5 ?bzz5 ?czz5 ?qzz5 ?yzz5 ?szz5 ?rzz5
                      case hzz5 => simp only [List.getElem?_toArray, List.getElem?_cons_zero, List.getElem?_cons_succ]; rfl
                      case azz5 => kernel_rfl
                      case bzz5 => kernel_rfl
                      case czz5 => kernel_rfl
                      case yzz5 =>
                        refine Or.inl ⟨by rfl, ?_⟩
                        intro w hSw
                        skip
                        go_simp
                        try with_reducible rfl
                      case qzz5 => exact fun _ _ _ h => h
                      case szz5 => first | assumption | trivial
                      case' rzz5 => simp only [Act.put, List.setIfInBounds_toArray, List.set_cons_zero, List.set_cons_succ]
                      refine wpAnyH_done (by kernel_rfl) ?_ _
                      have P := Lib.hid ((V.out.step Z5.out.2.1).put (d5 := y) Z5.out.2.2 Z5.out.1 (few_own Z5.out.1 HB2.out))
                      have HJ := Lib.hid ((((((HI.out.q Z5.out.2.1).q Z5.out.2.2).away HKF.out 0 (.slice A5 n5 c5)).away HKF.out 1 (.int .i64 y.room)).away HKF.out 2 (.int .i64 y.fuse)).away HKF.out 3 (.bool y.off))
                      by_cases he : er = 0
                      · subst he
                        have HX4 := Lib.hid (HX3.out.trans (if_pos rfl))
                        go_wp2_with fail
                        go_roundw
                        case rel => exact ⟨j + 1, A5, n5, c5, y, by omega, by go_num, P.out.1, P.out.2, HB2.out, HJ.out, HX4.out⟩
                        case measure => simp [intOf]; omega
                      · have HX4 := Lib.hid (HX3.out.trans (if_neg he))
                        clear HX3
                        go_upto_region 9 with (fail)
                        generalize ((((w5.setCell ⟨w.heap.size, 0, none⟩ (.slice A5 n5 c5)).setCell ⟨w.heap.size, 1, none⟩ (.int .i64 y.room)).setCell ⟨w.heap.size, 2, none⟩ (.int .i64 y.fuse)).setCell ⟨w.heap.size, 3, none⟩ (.bool y.off)) = W6 at P ⊢
                        obtain ⟨⟨t0, t1, t2, t3⟩, v0, v1, v2, v3⟩ := P.out.1.sb.get
                        obtain ⟨⟨s0, s1, s2, s3⟩, h0, h1, h2, h3⟩ := P.out.1.sb.getR
                        go_wp2
                        (try rw [Exit.noGoto_ret])
                        refine bodyPost_ret (v := .tuple #[dkv A5 n5 c5 y.room y.fuse y.off, .int .i64 er]) (by simp [results, Tryz.results10, go_sem, s0, s1, s2, s3]) rfl ?_
                        rw [← HR.out, HX4.out]
                        exact P.out.1.endF P.out.2 er _ _ _ _
                  case' mzz6 => skip
                  exact AllReadyL.nil
              case' mzz9 => skip
              refine AllReadyL.consK (o := ?ozz10) ?hzz10 ?lzz10 (fun K hK => ?kzz10) ?mzz10
              case hzz10 => simp only [List.getElem?_toArray, List.getElem?_cons_zero, List.getElem?_cons_succ]; rfl
              case lzz10 => kernel_rfl
              case kzz10 =>
                go_simp
                refine hK.out _ _ ?Rzz10
                case Rzz10 =>
                  clear hK K
                  try simp only [Act.put, List.setIfInBounds_toArray, List.set_cons_zero, List.set_cons_succ]
                  refine wpAnyH_take (i := 6) (oi := ?ozz7) (v := ?vzz7) ?hzz7 ?azz7 ?bzz7 ?czz7 ?qzz7 ?yzz7 ?szz7 ?rzz7
                  case hzz7 => simp only [List.getElem?_toArray, List.getElem?_cons_zero, List.getElem?_cons_succ]; rfl
                  case azz7 => kernel_rfl
                  case bzz7 => kernel_rfl
                  case czz7 => kernel_rfl
                  case yzz7 =>
                    refine Or.inl ⟨by rfl, ?_⟩
                    intro w hSw
                    skip
                    go_simp
                    try with_reducible rfl
                  case qzz7 => exact fun _ _ _ h => h
                  case szz7 => first | assumption | trivial
                  case' rzz7 => simp only [Act.put, List.setIfInBounds_toArray, List.set_cons_zero, List.set_cons_succ]
                  refine wpAnyH_take (i := 8) (oi := ?ozz8) (v := ?vzz8) ?hzz8 ?azz8 ?bzz8 ?czz8 ?qzz8 ?yzz8 ?szz8 ?rzz8
                  case hzz8 => simp only [List.getElem?_toArray, List.getElem?_cons_zero, List.getElem?_cons_succ]; rfl
                  case azz8 => kernel_rfl
                  case bzz8 => kernel_rfl
                  case czz8 => kernel_rfl
                  case yzz8 =>
                    refine Or.inl ⟨by rfl, ?_⟩
                    intro w hSw
                    skip
                    go_simp
                    try with_reducible rfl
                  case qzz8 => exact fun _ _ _ h => h
                  case szz8 => first | assumption | trivial
                  case' rzz8 => simp only [Act.put, List.setIfInBounds_toArray, List.set_cons_zero, List.set_cons_succ]
                  refine wpAnyH_done (by kernel_rfl) ?_ _
                  have P := Lib.hid ((V.out.step Z5.out.2.1).put (d5 := y) Z5.out.2.2 Z5.out.1 (few_own Z5.out.1 HB2.out))
                  have HJ := Lib.hid ((((((HI.out.q Z5.out.2.1).q Z5.out.2.2).away HKF.out 0 (.slice A5 n5 c5)).away HKF.out 1 (.int .i64 y.room)).away HKF.out 2 (.int .i64 y.fuse)).away HKF.out 3 (.bool y.off))
                  by_cases he : er = 0
                  · subst he
                    have HX4 := Lib.hid (HX3.out.trans (if_pos rfl))
                    go_wp2_with fail
                    go_roundw
                    case rel => exact ⟨j + 1, A5, n5, c5, y, by omega, by go_num, P.out.1, P.out.2, HB2.out, HJ.out, HX4.out⟩
                    case measure => simp [intOf]; omega
                  · have HX4 := Lib.hid (HX3.out.trans (if_neg he))
                    clear HX3
                    go_upto_region 9 with (fail)
                    generalize ((((w5.setCell ⟨w.heap.size, 0, none⟩ (.slice A5 n5 c5)).setCell ⟨w.heap.size, 1, none⟩ (.int .i64 y.room)).setCell ⟨w.heap.size, 2, none⟩ (.int .i64 y.fuse)).setCell ⟨w.heap.size, 3, none⟩ (.bool y.off)) = W6 at P ⊢
                    obtain ⟨⟨t0, t1, t2, t3⟩, v0, v1, v2, v3⟩ := P.out.1.sb.get
                    obtain ⟨⟨s0, s1, s2, s3⟩, h0, h1, h2, h3⟩ := P.out.1.sb.getR
                    go_wp2
                    (try rw [Exit.noGoto_ret])
                    refine bodyPost_ret (v := .tuple #[dkv A5 n5 c5 y.room y.fuse y.off, .int .i64 er]) (by simp [results, Tryz.results10, go_sem, s0, s1, s2, s3]) rfl ?_
                    rw [← HR.out, HX4.out]
                    exact P.out.1.endF P.out.2 er _ _ _ _
              case' mzz10 => skip
              exact AllReadyL.nil
          case' mzz11 => skip
          exact AllReadyL.nil
      case' mzz12 => skip
      exact AllReadyL.nil
    · have e : kn = j := by omega
      have hall : ks.drop j = [] := List.drop_eq_nil_of_le (by have := HN.out; omega)
      have HX1 := Lib.hid (HX.out.trans (show _ = (x, (0 : Int)) by rw [hall]; rfl))
      have hnk : ¬ (j : Int) < (kn : Int) := by omega
      clear hall e HX
      obtain ⟨⟨s0, s1, s2, s3⟩, h0, h1, h2, h3⟩ := V.out.sb.getR
      go_wp2
      (try rw [Exit.noGoto_ret])
      refine bodyPost_ret (v := .tuple #[dkv A5 n5 c5 x.room x.fuse x.off, .int .i64 0]) (by simp [results, Tryz.results10, go_sem, s0, s1, s2, s3]) rfl ?_
      rw [← HR.out, HX1.out]
      exact V.out.endF HF.out 0 _ _ _ _
end Go.Proofs.YtggbdhnjogalgaaGreatDoor

/- Kinds of elements that lie flat in memory: lists of them as they come in ('Lst', 'In_'), lists of the call's own ('OwnK'), append to these. -/
namespace Go.Proofs.YtggbdhnjogalgaaGreatDoor
set_option maxRecDepth 100000
open Go.RowKit
set_option linter.unusedVariables false

structure Kind (α : Type) where
  T : TypeId
  S : TypeId
  k : Nat
  bs : Nat
  z : Value
  row : α → List Value
  pos : 0 < k
  bpos : 0 < bs
  len : ∀ a, (row a).length = k
  one : ∀ a, ∀ u ∈ row a, u.oneCell' = true
  und : Tryz.prog.underlying S = some (.slice T)
  info : (Tryz.prog.info? T).map (fun i => (i.zero, i.size, i.bytes)) = some (some z, k, bs)
  zc : z.cells.size = k

variable {α : Type}

def Kind.rows (K : Kind α) : List α → List Value
  | [] => []
  | a :: l => K.row a ++ K.rows l

theorem Kind.rows_len (K : Kind α) (l : List α) : (K.rows l).length = l.length * K.k := by
  induction l with
  | nil => simp [Kind.rows]
  | cons a l ih => simp only [Kind.rows, List.length_append, ih, List.length_cons, K.len, Nat.add_mul]; omega
theorem Kind.rows_app (K : Kind α) (l m : List α) : K.rows (l ++ m) = K.rows l ++ K.rows m := by
  induction l with
  | nil => rfl
  | cons a l ih => simp [Kind.rows, ih]
theorem Kind.rows_at (K : Kind α) (l : List α) (k : Nat) (h : k < l.length) (j : Nat) (hj : j < K.k) : (K.rows l)[k * K.k + j]? = (K.row l[k])[j]? := by
  induction l generalizing k with
  | nil => simp at h
  | cons a l ih =>
    cases k with
    | zero =>
      simp only [Kind.rows, Nat.zero_mul, Nat.zero_add, List.getElem_cons_zero]
      exact List.getElem?_append_left (by rw [K.len]; exact hj)
    | succ k =>
      simp only [Kind.rows, List.getElem_cons_succ]
      rw [List.getElem?_append_right (by rw [K.len, Nat.add_mul]; omega), ← ih k (by simpa using h)]
      congr 1
      rw [K.len, Nat.add_mul]; omega
theorem Kind.rows_one (K : Kind α) (l : List α) : ∀ u ∈ K.rows l, u.oneCell' = true := by
  induction l with
  | nil => simp [Kind.rows]
  | cons a l ih =>
    intro u hu
    rcases List.mem_append.1 hu with h | h
    · exact K.one a u h
    · exact ih u h
theorem Kind.rows_drop (K : Kind α) (l : List α) : ∀ (m : Nat), K.rows (l.drop m) = (K.rows l).drop (m * K.k) := by
  induction l with
  | nil => intro m; simp [Kind.rows]
  | cons f l ih =>
    intro m
    cases m with
    | zero => simp
    | succ m =>
      rw [List.drop_succ_cons, ih m, Kind.rows, show (m + 1) * K.k = (K.row f).length + m * K.k by rw [K.len, Nat.add_mul]; omega, List.drop_length_add_append]
theorem Kind.rows_take (K : Kind α) (l : List α) : ∀ (m : Nat), K.rows (l.take m) = (K.rows l).take (m * K.k) := by
  induction l with
  | nil => intro m; simp [Kind.rows]
  | cons f l ih =>
    intro m
    cases m with
    | zero => simp [Kind.rows]
    | succ m =>
      rw [List.take_succ_cons, Kind.rows, ih m, Kind.rows, show (m + 1) * K.k = (K.row f).length + m * K.k by rw [K.len, Nat.add_mul]; omega, List.take_length_add_append]
theorem Kind.rows_set (K : Kind α) (l : List α) (k : Nat) (h : k < l.length) (a : α) : (K.rows l).take (k * K.k) ++ K.row a ++ (K.rows l).drop (k * K.k + (K.row a).length) = K.rows (l.set k a) := by
  have e : l.set k a = l.take k ++ (a :: l.drop (k + 1)) := by
    rw [List.set_eq_take_append_cons_drop, if_pos h]
  rw [e, K.rows_app, Kind.rows, K.rows_take, K.rows_drop, K.len, Nat.add_mul]
  simp

/-- The slice '.slice A n _' reads as l. -/
def Lst (K : Kind α) (w : World) (A : Option Addr) (n : Nat) (l : List α) : Prop := Holds w w.heap.size K.k A n (K.rows l)
theorem Lst.q {K : Kind α} {w w' : World} {A : Option Addr} {n : Nat} {l : List α} (h : Lst K w A n l) (hq : Q w w') : Lst K w' A n l := Holds.q h hq
theorem Lst.len {K : Kind α} {w : World} {A : Option Addr} {n : Nat} {l : List α} (h : Lst K w A n l) : l.length = n := by
  have := h.1; rw [K.rows_len] at this
  exact Nat.eq_of_mul_eq_mul_right K.pos this
theorem Lst.nil {K : Kind α} (w : World) (A : Option Addr) : Lst K w A 0 [] := Holds.none_ _ _ _ _

/-- What a load of the element in place k reads. -/
theorem Lst.load {K : Kind α} {w : World} {A : Option Addr} {n : Nat} {l : List α} (h : Lst K w A n l) {k : Nat} (hk : k < n) (hl : k < l.length) :
    ∃ ad, A = some ad ∧ ad.block < w.heap.size ∧ ∀ j v, (K.row l[k])[j]? = some v → w.cell? ((ad.add (k * K.k)).add j) = some v := by
  have h0 : ∀ j v, (K.row l[k])[j]? = some v → ∃ ad, A = some ad ∧ ad.block < w.heap.size ∧ w.cell? (ad.add (k * K.k + j)) = some v := fun j v hj =>
    h.2 (k * K.k + j) _ (by rw [K.rows_at l k hl j (by rw [← K.len l[k]]; exact (List.getElem?_eq_some_iff.1 hj).1)]; exact hj)
  obtain ⟨ad, rfl, hb, _⟩ := h0 0 _ (List.getElem?_eq_getElem (by rw [K.len]; exact K.pos))
  refine ⟨ad, rfl, hb, fun j v hj => ?_⟩
  obtain ⟨_, e, _, hc⟩ := h0 j v hj
  injection e with e
  subst e
  rw [addr_add]; exact hc

/-- a list of the call's own. -/
def OwnK (K : Kind α) (w : World) (base : Nat) (A : Option Addr) (n c : Nat) (l : List α) : Prop := w.ownsRow base K.T K.k (.slice A n c) n (K.rows l)

section
variable {K : Kind α} {w w' : World} {base : Nat} {A : Option Addr} {n c : Nat} {l : List α}
theorem OwnK.len (h : OwnK K w base A n c l) : l.length = n := by
  have := h.1; rw [K.rows_len] at this
  exact Nat.eq_of_mul_eq_mul_right K.pos this
theorem OwnK.parts (h : OwnK K w base A n c l) :
    (A = none ∧ n = 0 ∧ c = 0 ∧ l = []) ∨ ∃ g cur, A = some ⟨g, 0, none⟩ ∧ base ≤ g ∧ w.heap[g]? = some (.cells cur K.T (0, 0)) ∧ n ≤ c ∧ c ≤ maxLen ∧ cur.size = c * K.k ∧ cur.toList.take (n * K.k) = K.rows l := by
  rcases h.2 with ⟨e, h0⟩ | ⟨g, cap, cur, e, hb, hh, hc, hm, hs, ht⟩
  · injection e with e1 e2 e3
    exact .inl ⟨e1, e2, e3, List.eq_nil_of_length_eq_zero (by rw [h.len]; exact e2)⟩
  · injection e with e1 e2 e3
    subst e1 e3
    exact .inr ⟨g, cur, rfl, hb, hh, hc, hm, hs, ht⟩
theorem OwnK.lst (h : OwnK K w base A n c l) : Lst K w A n l := by
  refine ⟨h.1, fun j u hu => ?_⟩
  rcases h.parts with ⟨rfl, rfl, rfl, rfl⟩ | ⟨g, cur, rfl, hb, hh, hc, hm, hs, ht⟩
  · simp [Kind.rows] at hu
  · have hj : j < n * K.k := by
      have := (List.getElem?_eq_some_iff.1 hu).1; rw [h.1] at this; exact this
    refine ⟨_, rfl, ?_, ?_⟩
    · rcases Nat.lt_or_ge g w.heap.size with hlt | hge
      · exact hlt
      · rw [Array.getElem?_eq_none hge] at hh; cases hh
    · rw [Addr.add_mid, Nat.zero_add, World.ownsRow.cellAt h j hj]; exact hu
theorem OwnK.le (h : OwnK K w base A n c l) : n ≤ c := by
  rcases h.parts with ⟨rfl, rfl, rfl, rfl⟩ | ⟨g, cur, rfl, hb, hh, hc, hm, hs, ht⟩
  · exact Nat.le_refl _
  · exact hc
theorem OwnK.cap (h : OwnK K w base A n c l) : c ≤ maxLen := by
  rcases h.parts with ⟨rfl, rfl, rfl, rfl⟩ | ⟨g, cur, rfl, hb, hh, hc, hm, hs, ht⟩
  · exact Nat.zero_le _
  · exact hm
theorem OwnK.keep {B : Nat} (h : OwnK K w base A n c l) (hb : Below B w w') (hB : w.heap.size ≤ B) : OwnK K w' base A n c l := by
  refine ⟨h.1, ?_⟩
  rcases h.2 with ⟨e, h0⟩ | ⟨g, cap, cur, e, hg, hh, r⟩
  · exact .inl ⟨e, h0⟩
  · have hlt : g < w.heap.size := by
      rcases Nat.lt_or_ge g w.heap.size with hlt | hge
      · exact hlt
      · rw [Array.getElem?_eq_none hge] at hh; cases hh
    exact .inr ⟨g, cap, cur, e, hg, (hb.block g (by omega)).trans hh, r⟩
theorem OwnK.q (h : OwnK K w base A n c l) (hq : Q w w') : OwnK K w' base A n c l := h.keep hq.below (Nat.le_refl _)
theorem OwnK.setCell (h : OwnK K w base A n c l) {p : Addr} (hp : p.block < base) (u : Value) : OwnK K (w.setCell p u) base A n c l := by
  refine ⟨h.1, ?_⟩
  rcases h.2 with ⟨e, h0⟩ | ⟨g, cap, cur, e, hg, hh, r⟩
  · exact .inl ⟨e, h0⟩
  · exact .inr ⟨g, cap, cur, e, hg, (heap_setCell_other w p g u (by omega)).trans hh, r⟩
theorem OwnK.alloc (h : OwnK K w base A n c l) (o : Obj) : OwnK K (w.alloc o) base A n c l := h.q ((Q.refl _).alloc o)
theorem OwnK.drew (h : OwnK K w base A n c l) : OwnK K w.drew base A n c l := h
theorem OwnK.lower {b2 : Nat} (h : OwnK K w base A n c l) (hb : b2 ≤ base) : OwnK K w b2 A n c l := by
  refine ⟨h.1, ?_⟩
  rcases h.2 with ⟨e, h0⟩ | ⟨g, cap, cur, e, hg, hh, r⟩
  · exact .inl ⟨e, h0⟩
  · exact .inr ⟨g, cap, cur, e, by omega, hh, r⟩
theorem OwnK.nil_ (K : Kind α) (w : World) (base : Nat) : OwnK K w base none 0 0 [] := World.ownsRow_nil _ _ _ _
theorem OwnK.lit1 (K : Kind α) (w : World) (base : Nat) (hb : base ≤ w.heap.size) (a : α) : OwnK K (w.alloc (.cells (K.row a).toArray K.T)) base (some ⟨w.heap.size, 0, none⟩) 1 1 [a] := by
  have := World.ownsRow_lit (e := K.T) (size := K.k) w (K.row a).toArray 1 hb (by unfold maxLen; omega) (by simp [K.len])
  unfold OwnK
  rw [show K.rows [a] = (K.row a).toArray.toList by simp [Kind.rows]]
  exact this
/-- the cells of the element in place k. -/
theorem OwnK.cells {g : Nat} (h : OwnK K w base (some ⟨g, 0, none⟩) n c l) {k : Nat} (hk : k < l.length) : ∀ j v, (K.row l[k])[j]? = some v → w.cell? ⟨g, k * K.k + j, none⟩ = some v := fun j v hj => by
  have hjk : j < K.k := by rw [← K.len l[k]]; exact (List.getElem?_eq_some_iff.1 hj).1
  have hn := h.len
  have : k * K.k + j < n * K.k := by
    have : (k + 1) * K.k ≤ n * K.k := Nat.mul_le_mul_right _ (by omega)
    rw [Nat.add_mul] at this; omega
  rw [World.ownsRow.cellAt h _ this, K.rows_at l k hk j hjk]
  exact hj
theorem OwnK.free {g : Nat} (h : OwnK K w base (some ⟨g, 0, none⟩) n c l) (j : Nat) : w.frozen? ⟨g, j, none⟩ = false := World.ownsRow.frozenAt h _
theorem OwnK.spare {g : Nat} (h : OwnK K w base (some ⟨g, 0, none⟩) n c l) (j : Nat) (hj : j < c * K.k) : (w.cell? ⟨g, j, none⟩).isSome = true := by
  rcases h.parts with ⟨e, _⟩ | ⟨g', cur, e, hb, hh, hc, hm, hs, ht⟩
  · cases e
  injection e with e
  injection e with e
  subst e
  rw [cell_of_row _ _ j _ K.T (0, 0) hh, Array.getElem?_eq_getElem (by omega)]
  rfl
/-- an element written in place. -/
theorem OwnK.put {g : Nat} (h : OwnK K w base (some ⟨g, 0, none⟩) n c l) {k : Nat} (hk : k < l.length) (a : α) :
    OwnK K (w.setCells g (k * K.k) (K.row a)) base (some ⟨g, 0, none⟩) n c (l.set k a) := by
  have hl : k * K.k + (K.row a).length ≤ (K.rows l).length := by
    rw [K.len, K.rows_len]
    have : (k + 1) * K.k ≤ l.length * K.k := Nat.mul_le_mul_right _ (by omega)
    rw [Nat.add_mul] at this; omega
  have := owns_setCells (e := K.T) (sz := K.k) (K.row a) (k * K.k) w (K.rows l) h hl
  rw [K.rows_set l k hk a] at this
  exact this
end

/-- 'append(own, more...)', the source nil or not. -/
theorem run_appK (K : Kind α) (w : World) (base : Nat) (A : Option Addr) (n c : Nat) (l : List α) (h : OwnK K w base A n c l) (A2 : Option Addr) (m c2 : Nat) (l2 : List α) (h2 : Lst K w A2 m l2) (hnil : A2 = none → m = 0 ∧ c2 = 0)
    (hb : (n + m) * K.bs ≤ 140737488355328) (hbase : base ≤ w.heap.size) (ty : TypeId) :
    ∃ A' c' w', (Builtin.append_ #[K.S, K.S] ty #[.slice A n c, .slice A2 m c2]).run Tryz.prog w = .ok (.slice A' (n + m) c') w' ∧ OwnK K w' base A' (n + m) c' (l ++ l2) ∧ Below base w w' := by
  obtain ⟨i, hi, hz, hs, hy⟩ := info_parts K.info
  have hmax : n + m ≤ maxLen := by
    have : (n + m) * 1 ≤ (n + m) * K.bs := Nat.mul_le_mul_left _ K.bpos
    unfold maxLen; omega
  cases A2 with
  | none =>
    obtain ⟨rfl, rfl⟩ := hnil rfl
    have e2 : l2 = [] := List.eq_nil_of_length_eq_zero h2.len
    subst e2
    refine ⟨A, c, w, run_append_owned_none (P := Tryz.prog) (w := w) base _ ty K.T i K.k K.und hi _ n (K.rows l) h, by simpa using h, Below.refl _ _⟩
  | some ad =>
    obtain ⟨v', w', hr, ho, hg, hn, hat⟩ := run_append_own_at (P := Tryz.prog) w base K.S ty K.T i _ K.k K.bs K.und hi hz hs hy K.zc K.pos (.slice A n c) n (K.rows l) h ad m c2 (K.rows l2) h2.1
      (fun j u hu => by obtain ⟨a', e, _, hc⟩ := h2.2 j u hu; injection e with e; subst e; exact hc) (K.rows_one l2) hmax hb hbase
    rw [← K.rows_app] at ho
    have hbl : Below base w w' := (Below.refl _ _).grown hg hbase (fun k hk => by
      rcases h.parts with ⟨rfl, _⟩ | ⟨g, cur, rfl, hb, _⟩
      · cases hk
      · simp only [Value.ownBlock, Option.some.injEq] at hk; omega)
    rcases ho.2 with ⟨e, h0⟩ | ⟨g, cap, cur, e, _⟩
    · have h00 : Value.slice none 0 0 = .slice none (n + m) 0 := by rw [h0]
      rw [h00] at e
      subst e
      exact ⟨none, 0, w', hr, ho, hbl⟩
    · subst e
      exact ⟨_, cap, w', hr, ho, hbl⟩

/-- The same, for a plain region's list. -/
theorem wpl_appK (K : Kind α) {w : World} {ops : Array Oper} {rest : List Oper} {o : Oper} {a : Act} {R : Exit → Act → World → Prop} (hgd : o.guard = none) (s x : Operand) (t : TypeId) (ht : t = K.S)
    (ho : o.op = .call { callee := .builtin .append, args := #[s, x], argTypes := #[t, t] })
    (base : Nat) (A : Option Addr) (n c : Nat) (l : List α) (hs : a.eval s = .slice A n c) (h : OwnK K w base A n c l) (A2 : Option Addr) (m c2 : Nat) (l2 : List α) (hx : a.eval x = .slice A2 m c2) (h2 : Lst K w A2 m l2) (hnil : A2 = none → m = 0 ∧ c2 = 0)
    (hb : (n + m) * K.bs ≤ 140737488355328) (hbase : base ≤ w.heap.size)
    (hk : ∀ A' c' w', OwnK K w' base A' (n + m) c' (l ++ l2) → Below base w w' → wpList Tryz.prog ops R rest (a.put o.dst (.slice A' (n + m) c')) w') : wpList Tryz.prog ops R (o :: rest) a w := by
  subst ht
  refine wpList_plain hgd fun X hX => ?_
  obtain ⟨A', c', w', hr, h3, h4⟩ := run_appK K w base A n c l h A2 m c2 l2 h2 hnil hb hbase o.type
  unfold Oper.wp execOp
  simp only [ho, resolve, invoke, builtin, Sem.run_bind, Sem.run_pure, Result.andThen_ok, List.map_toArray, List.map_cons, List.map_nil, hs, hx, hr]
  exact hX _ _ (hk A' c' w' h3 h4)

end Go.Proofs.YtggbdhnjogalgaaGreatDoor

/- Integers as a kind of elements. -/
namespace Go.Proofs.YtggbdhnjogalgaaGreatDoor
set_option maxRecDepth 100000
open Go.RowKit
set_option linter.unusedVariables false
set_option linter.unusedSimpArgs false

def numK : Kind Int where
  T := 3
  S := 52
  k := 1
  bs := 8
  z := .int .i64 0
  row := fun r => [.int .i64 r]
  pos := by omega
  bpos := by omega
  len := fun _ => rfl
  one := fun _ u hu => by simp at hu; rcases hu with rfl; rfl
  und := Tryz.underlying52
  info := by kernel_rfl
  zc := rfl
theorem numK_rows (l : List Int) : numK.rows l = l.map (Value.int .i64) := by
  induction l with
  | nil => rfl
  | cons a l ih => rw [Kind.rows, ih]; rfl
theorem Lst.ints {w : World} {A : Option Addr} {n : Nat} {l : List Int} (h : Lst numK w A n l) : Ints w A n l := by
  unfold Lst at h; rw [numK_rows] at h; exact h

theorem lst_lit1 (w : World) (x : Int) : Lst numK (w.alloc (.cells #[.int .i64 x] 3)) (some ⟨w.heap.size, 0, none⟩) 1 [x] :=
  (OwnK.lit1 numK w w.heap.size (Nat.le_refl _) x).lst
end Go.Proofs.YtggbdhnjogalgaaGreatDoor

/- What is done with one file changes no other one: the mathematics. -/
namespace Go.Proofs.YtggbdhnjogalgaaGreatDoor
set_option maxRecDepth 100000
open Go.RowKit Dkm
set_option linter.unusedVariables false
namespace Dkm
theorem find_del (o : ByteArray) (a b : List Fil) (f : Fil) (hf : f.nm ≠ o) : (a ++ f :: b).find? (fun x => decide (x.nm = o)) = (a ++ b).find? (fun x => decide (x.nm = o)) := by
  simp [List.find?_append, hf]
theorem hit_erase {o : ByteArray} {l : List Fil} {k : Nat} (hk : k < l.length) (h1 : l[k].nm ≠ o) : hit o (l.eraseIdx k) = hit o l := by
  have e2 : l = l.take k ++ l[k] :: l.drop (k + 1) := by rw [← List.drop_eq_getElem_cons hk, List.take_append_drop]
  have : (l.eraseIdx k).find? (fun x => decide (x.nm = o)) = l.find? (fun x => decide (x.nm = o)) := by
    rw [List.eraseIdx_eq_take_drop_succ]; conv => rhs; rw [e2]
    exact (find_del o _ _ _ h1).symm
  unfold hit; rw [this]
theorem lss_apart {o : ByteArray} (d : Dk) {k : Nat} (hk : k < d.fs.length) (h : d.fs[k].nm ≠ o) : hit o (lss d k).fs = hit o d.fs := hit_erase hk h
theorem del_apart {o nm : ByteArray} (d : Dk) (h : o ≠ nm) : hit o (del d nm).1.fs = hit o d.fs := by
  unfold del
  split; rfl
  split; rfl
  split; rw [pow_fs]
  rename_i _ h2 _
  rcases plc_cases nm d.fs with ⟨_, hall⟩ | ⟨k, hk, _, hkn, hfirst⟩
  · rw [hit_none hall] at h2; exact absurd rfl h2
  · rw [opn_at hk hkn hfirst]
    have e := pow_fs d
    exact (lss_apart (pow d).1 (k := k) (by rw [e]; exact hk) (by simp only [e]; exact fun e => h (e.symm.trans hkn))).trans (by rw [e])
end Dkm
end Go.Proofs.YtggbdhnjogalgaaGreatDoor

/- A rename gives the one file's bytes the other one's name: the mathematics. -/
namespace Go.Proofs.YtggbdhnjogalgaaGreatDoor
set_option maxRecDepth 100000
open Go.RowKit Dkm
set_option linter.unusedVariables false
namespace Dkm
end Dkm
end Go.Proofs.YtggbdhnjogalgaaGreatDoor

/- Disks whose files have names unlike each other: what each call leaves under each name. -/
namespace Go.Proofs.YtggbdhnjogalgaaGreatDoor
set_option maxRecDepth 100000
open Dkm
set_option linter.unusedVariables false
set_option linter.unusedSimpArgs false
namespace Du

end Du
end Go.Proofs.YtggbdhnjogalgaaGreatDoor

/- The numbers of the segments that are there: plain mathematics. -/
namespace Go.Proofs.YtggbdhnjogalgaaGreatDoor
set_option maxRecDepth 100000
open Dkm Wm Du
set_option linter.unusedVariables false
set_option linter.unusedSimpArgs false

/-- the number that a file's name tells, if it is a segment's. -/
def numOf (nm : ByteArray) : Option Int :=
  match Lib.atoiAll (Lib.trimPrefix nm.data.toList [119]) with
  | .ok v => if nm = namB v then some v else none
  | _ => none
def rawN (fs : List Fil) : List Int := fs.filterMap fun f => numOf f.nm
def prsN (fs : List Fil) : List Int := Lib.compact ((rawN fs).mergeSort fun x y => decide (x ≤ y))
theorem rawN_snoc (fs : List Fil) {k : Nat} (hk : k < fs.length) : rawN (fs.take (k + 1)) = rawN (fs.take k) ++ (numOf fs[k].nm).toList := by
  unfold rawN
  rw [List.take_succ_eq_append_getElem hk, List.filterMap_append]
  cases h : numOf fs[k].nm <;> simp [h]

end Go.Proofs.YtggbdhnjogalgaaGreatDoor
