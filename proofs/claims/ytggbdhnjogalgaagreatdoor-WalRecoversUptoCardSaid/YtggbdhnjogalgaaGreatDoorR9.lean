/- FrameRow, TabLaid, WalDrop, Kind, NumK, Present, ErrsLaid, DiskRef6, DiskTot, Flat, DiskIn, DiskVar, WalShown, WalSame, WalIn, DiskInU: merged. -/
import Derived.Test.YtggbdhnjogalgaaGreatDoorR8
import Derived.Test.YtggbdhnjogalgaaGreatDoorR3
import Derived.Test.YtggbdhnjogalgaaGreatDoorCards
import Derived.Test.YtggbdhnjogalgaaGreatDoorTie
import Derived.Deep.DeepHandedRow
import Derived.SevenTiedAt
import Derived.LaidMore
import Derived.MakeChecks
import Derived.Stop.LaidErr
import Derived.Deep.DeepWitnessRowRef
import Derived.Test.YtggbdhnjogalgaaGreatDoorR5
import Derived.Test.YtggbdhnjogalgaaGreatDoorR1
import Derived.Maps.AppendAt
import Derived.Laws.AppendOwnNone
import Derived.Lib.OwnBridge
import Derived.LaidHandle
import Derived.LaidSub
import Derived.Stop.LaidTwo
import Derived.Test.YtggbdhnjogalgaaGreatDoorR6
import Derived.Deep.RegionLaw
import Derived.Deep.DeepCutAuto
/- The frame of a law whose row lists tables, in both forms: a walk under what the arguments read as, and under the tables, gives what the row asks. -/
namespace Go.Proofs.YtggbdhnjogalgaaGreatDoor
set_option maxRecDepth 100000
open Go.ChangeShapes Go.WideShapes Go.ChangeAt Go.RowKit
set_option linter.unusedVariables false

/-- A walk of a law, whatever its arguments read as, gives what its row asks; 'up': its second form. -/
theorem framedC {f : FuncId} {fn : Func} {s : ChangeSpec} (up : Bool) (laid : List (String × DataW Unit)) (n : Nat) (hn : fn.params.size = n) (hvars : s.vars = []) (hrt : fn.resultTypes = #[4])
    (hread0 : fn.params.toList.all (fun t => Tryz.prog.readableRec t && decide (t < Tryz.prog.types.size)) = true)
    (hs : ∀ (H : Type) (ds : List (DataW H)), ds.length = n → (s.fn H ds).results = [.lit (.bool true)] ∧ (s.fn H ds).args = ds ∧ (s.fn H ds).vars = [])
    (walk : ∀ (W : World) (args : Array Value), args.size = n → (∀ (j : Nat) t v, fn.params[j]? = some t → args[j]? = some v → RdV W t v ∧ (up = true → RdU W t v.cells.toList)) → laidMetH Tryz.prog laid W → Calls Tryz.prog f args W fun e W' => e = .returned (.bool true) ∧ Q W W')
    (H : Type) (enc : TypeId × Value → H) (W : World) (base : Nat) (args : Array Value) (ds gs : List (DataW H)) (before : List MemPlace)
    (hval : ∀ (j : Nat) t v, fn.params[j]? = some t → args[j]? = some v → Value.okWide Tryz.prog W .any base t v)
    (hW : DataW.Whole enc Tryz.prog fn.params.toList s.vars false W args.toList ds gs before)
    (hcond : up = true → Rows.uptoBulkAll (ds ++ gs) ≤ 1048576)
    (hsz : (DataW.weightsEach Tryz.prog (fn.params.toList ++ s.plain.varTypes Tryz.prog) (ds ++ gs)).all (· ≤ reachBytes) = true)
    (hL : laidMetH Tryz.prog laid W) :
    Calls Tryz.prog f args W fun e W' => ∃ v, e = .returned v ∧ s.post enc Tryz.prog fn false true false false W args v W' :=
  coreU up n hn hvars hrt hread0 hs H enc W base args ds gs before hval hW hcond hsz fun h1 h2 => walk W args h1 h2 hL
end Go.Proofs.YtggbdhnjogalgaaGreatDoor

/- Out of a row's list: the table of powers of ten; a start that meets the list. -/
namespace Go.Proofs.YtggbdhnjogalgaaGreatDoor
set_option maxRecDepth 100000
open Go.ChangeShapes Go.WideShapes Go.ChangeAt Go.RowKit
set_option linter.unusedVariables false

theorem gPow : Tryz.prog.globalNamed "internal/strconv.uint64pow10" = some 2 := by kernel_rfl
theorem gPowType : (Tryz.prog.globals[2]?).map (·.type) = some 156 := by kernel_rfl
theorem gPowCells : Tryz.prog.cellsOf 156 = 20 := by kernel_rfl
theorem gPowElem : Tryz.prog.cellsOf 75 = 1 := by kernel_rfl
theorem tab_laid {x y : String × DataW Unit} {rest : List (String × DataW Unit)} {W : World} (hp : ((x :: y :: ("internal/strconv.uint64pow10", Rows.laid_internal_strconv_uint64pow10) :: rest).all fun z => z.2.handleName?.isNone) = true)
    (h : laidMetH Tryz.prog (x :: y :: ("internal/strconv.uint64pow10", Rows.laid_internal_strconv_uint64pow10) :: rest) W) : Tab W := by
  rw [MakeChecks.laidMetH_plain _ _ _ hp] at h
  have h2 : laidMet Tryz.prog (("internal/strconv.uint64pow10", Lib.tabData .u64 Lib.pow10Tab) :: rest) W := (laidMet.tail (laidMet.tail h))
  exact Lib.tabIs_of_head gPow gPowType Tryz.underlying156 Tryz.underlying75 gPowElem gPowCells h2
end Go.Proofs.YtggbdhnjogalgaaGreatDoor

/- Contract: wal.Drop, the numbers of the segments that are there being known. -/
namespace Go.Proofs.YtggbdhnjogalgaaGreatDoor
set_option maxRecDepth 100000
open Go.RowKit Dkm Wm
set_option linter.unusedVariables false
set_option linter.unusedSimpArgs false

/-- the numbers that are dropped. -/
def fil (from_ til : Int) (ks : List Int) : List Int := ks.filter fun k => decide (from_ ≤ k ∧ k < til)
theorem fil_no {from_ til k : Int} {ks : List Int} (h : ¬ (from_ ≤ k ∧ k < til)) : fil from_ til (k :: ks) = fil from_ til ks := by
  unfold fil; rw [List.filter_cons_of_neg (by simpa using h)]
theorem fil_yes {from_ til k : Int} {ks : List Int} (h : from_ ≤ k ∧ k < til) : fil from_ til (k :: ks) = k :: fil from_ til ks := by
  unfold fil; rw [List.filter_cons_of_pos (by simpa using h)]
theorem Ints.away {w : World} {K : Option Addr} {n : Nat} {l : List Int} (h : Ints w K n l) {b : Nat} (hf : ∀ ad, K = some ad → ad.block ≠ b) (o : Nat) (v : Value) : Ints (w.setCell ⟨b, o, none⟩ v) K n l := by
  refine ⟨h.1, fun j u hj => ?_⟩
  obtain ⟨ad, e, hb, hc⟩ := h.2 j u hj
  refine ⟨ad, e, by simpa [World.setCell] using hb, ?_⟩
  have hne : (⟨b, o, none⟩ : Addr) ≠ ad.add j := by
    intro e2
    have := congrArg Addr.block e2
    have h2 : (ad.add j).block = ad.block := by unfold Addr.add; split <;> rfl
    rw [h2] at this
    exact hf ad e this.symm
  rw [World.cell?_setCell_other _ _ _ _ hne]
  exact hc
/-- what present tells: numbers, in memory of its own. -/
def RetPr (w : World) (ks : List Int) (e : Ending) (w' : World) : Prop :=
  ∃ K kn kc, e = .returned (.slice K kn kc) ∧ Ints w' K kn ks ∧ kn ≤ maxLen ∧ (∀ ad, K = some ad → w.heap.size ≤ ad.block) ∧ Q w w'

theorem Sv.endF {w wr : World} {A : Option Addr} {n c : Nat} {d : Dk} (h : Sv w A n c d wr) (hf : Far w A) (er : Int) (x y z u : Value) :
    ∃ A' n' c', Ending.returned (.tuple #[dkv A n c d.room d.fuse d.off, .int .i64 er]) = .returned (.tuple #[dkv A' n' c' d.room d.fuse d.off, .int .i64 er]) ∧ Dsk ((((wr.setCell ⟨w.heap.size + 1, 0, none⟩ x).setCell ⟨w.heap.size + 1, 1, none⟩ y).setCell ⟨w.heap.size + 1, 2, none⟩ z).setCell ⟨w.heap.size + 1, 3, none⟩ u) A' n' c' d.fs ∧ Far w A' ∧
      Q w ((((wr.setCell ⟨w.heap.size + 1, 0, none⟩ x).setCell ⟨w.heap.size + 1, 1, none⟩ y).setCell ⟨w.heap.size + 1, 2, none⟩ z).setCell ⟨w.heap.size + 1, 3, none⟩ u) :=
  ⟨A, n, c, rfl, (((h.dsk.away1 (fun hn ad e => (h.away hn ad e).2) 0 _).away1 (fun hn ad e => (h.away hn ad e).2) 1 _).away1 (fun hn ad e => (h.away hn ad e).2) 2 _).away1 (fun hn ad e => (h.away hn ad e).2) 3 _, hf, h.sb.q.set4 (b := w.heap.size + 1) (by omega) _ _ _ _⟩

set_option maxHeartbeats 8000000 in
set_option maxRecDepth 100000 in
theorem wdrop_of (from_ til : Int) (A : Option Addr) (n c : Nat) (d : Dk) (ks : List Int) (w : World) (hT : Tab w) (hd : Dsk w A n c d.fs) (hB : Bnd 2305843009213693952 d)
    (KP : Hid (∀ A n c W, Q w W → Dsk W A n c d.fs → Calls Tryz.prog 27 #[dkv A n c d.room d.fuse d.off] W (RetPr W ks))) :
    Calls Tryz.prog 10 #[dkv A n c d.room d.fuse d.off, .int .i64 from_, .int .i64 til] w fun e w' => ∃ A' n' c', e = .returned (.tuple #[dkv A' n' c' (drops (fil from_ til ks) d).1.room (drops (fil from_ til ks) d).1.fuse (drops (fil from_ til ks) d).1.off, .int .i64 (drops (fil from_ til ks) d).2]) ∧ Dsk w' A' n' c' (drops (fil from_ til ks) d).1.fs ∧ Far w A' ∧ Q w w' := by
  have HT := Lib.hid hT
  have HD := Lib.hid hd
  have HB0 := Lib.hid hB
  generalize hR : drops (fil from_ til ks) d = R
  have HR := Lib.hid hR
  clear hT hd hB hR
  go_enter Tryz.func10, Tryz.ntmps10
  go_wp2_with fail
  refine (wown_any A n c d.room d.fuse d.off d.fs _ (HD.out.q (((Q.refl _).alloc _).alloc _))).mono ?_
  rintro e w1 ⟨A1, c1, rfl, ho, q1⟩
  have P0 := Lib.hid ((Sv.new w HD.out).put (d5 := d) q1 ho HD.out.few)
  obtain ⟨⟨e0, e1, e2, e3⟩, f0, f1, f2', f3⟩ := ((Sv.new w HD.out).sb.step q1).get
  clear ho q1
  go_upto_region 2 with (fail)
  generalize ((((w1.setCell ⟨w.heap.size, 0, none⟩ (.slice A1 n c1)).setCell ⟨w.heap.size, 1, none⟩ (.int .i64 d.room)).setCell ⟨w.heap.size, 2, none⟩ (.int .i64 d.fuse)).setCell ⟨w.heap.size, 3, none⟩ (.bool d.off)) = W0 at P0 ⊢
  clear e0 e1 e2 e3 f0 f1 f2' f3
  obtain ⟨⟨e0, e1, e2, e3⟩, f0, f1, f2', f3⟩ := P0.out.1.sb.get
  go_wp2_with fail
  refine (KP.out _ _ _ _ P0.out.1.sb.q P0.out.1.dsk).mono ?_
  rintro e w2 ⟨K, kn, kc, rfl, hk, hkn, hkf, q2⟩
  have S0 := Lib.hid (P0.out.1.step q2)
  have F0 := Lib.hid P0.out.2
  have I0 := Lib.hid hk
  have HN := Lib.hid hk.len
  have HKF : Hid (∀ ad, K = some ad → ad.block ≠ w.heap.size) := Lib.hid (fun ad e => by have h1 := hkf ad e; have h2 := P0.out.1.sb.res.lt; omega)
  have hkn2 : kn ≤ 9223372036854775807 := hkn
  clear hk hkn hkf q2 P0 KP e0 e1 e2 e3 f0 f1 f2' f3
  go_wp2
  go_loopw [16] (fun i wr => ∃ (j : Nat) (A5 : Option Addr) (n5 c5 : Nat) (x : Dk), j ≤ kn ∧ i = .int .i64 j ∧ Sv w A5 n5 c5 x wr ∧ Far w A5 ∧ Bnd 2305843009213693952 x ∧ Ints wr K kn ks ∧ drops (fil from_ til ks) d = drops (fil from_ til (ks.drop j)) x) (fun i _ => kn - (intOf i).toNat)
  case atStart => exact ⟨0, A1, n, c1, d, Nat.zero_le _, rfl, S0.out, F0.out, HB0.out, I0.out, rfl⟩
  case round =>
    obtain ⟨j, A5, n5, c5, x, hj, rfl, hv, hf, hb, hi, hx⟩ := hrel
    have V := Lib.hid hv
    have HF := Lib.hid hf
    have HB := Lib.hid hb
    have HI := Lib.hid hi
    have HX := Lib.hid hx
    clear hv hf hb hi hx S0 F0 I0 HB0
    generalize wr = W at V HI ⊢
    obtain ⟨⟨e0, e1, e2, e3⟩, f0, f1, f2', f3⟩ := V.out.sb.get
    by_cases hlt : j < kn
    · have hjl : j < ks.length := by have := HN.out; omega
      have hjn : (j : Int) < (kn : Int) := by omega
      obtain ⟨ad, rfl, hab, hc⟩ := HI.out.load hjl
      have HX1 := Lib.hid (fun k (hk : ks[j] = k) => (HX.out.trans (by rw [List.drop_eq_getElem_cons hjl, hk]) : drops (fil from_ til ks) d = drops (fil from_ til (k :: ks.drop (j + 1))) x))
      generalize ks[j] = k at hc HX1
      have HX2 := Lib.hid (HX1.out k rfl)
      clear HX1 HX
      by_cases g0 : k < from_
      · have HX3 := Lib.hid (HX2.out.trans (by rw [fil_no (by omega)]))
        clear HX2
        go_wp2
        go_roundw
        case rel => exact ⟨j + 1, A5, n5, c5, x, by omega, by go_num, V.out, HF.out, HB.out, HI.out, HX3.out⟩
        case measure => simp [intOf]; omega
      by_cases g1 : til ≤ k
      · have HX3 := Lib.hid (HX2.out.trans (by rw [fil_no (by omega)]))
        clear HX2
        go_wp2
        go_roundw
        case rel => exact ⟨j + 1, A5, n5, c5, x, by omega, by go_num, V.out, HF.out, HB.out, HI.out, HX3.out⟩
        case measure => simp [intOf]; omega
      have KNK := Lib.hid (name_any k)
      have KDK := Lib.hid (fun A n c w hd => del_any (namB k) A n c x w hd (fun f hf => Nat.le_trans (HB.out.sum f hf) (by unfold maxLen; omega)) HB.out.fuse.2)
      have HB2 := Lib.hid (HB.out.del (namB k))
      have HX3 := Lib.hid (HX2.out.trans (by rw [fil_yes ⟨by omega, by omega⟩, drops]))
      generalize del x (namB k) = y at KDK HB2 HX3
      obtain ⟨y, er⟩ := y
      simp only at KDK HB2 HX3
      have SV := Lib.hid V.out.sb
      have DV := Lib.hid V.out.dsk
      clear HX2
      go_upto_region 7 with (fail)
      have QW := Lib.hid (Q.refl W)
      refine wp_region_heldL 7 (Q W) (by kernel_rfl) ?szz0 (fun hHeld => ?rzz0)
      case szz0 =>
        exact (Q.refl W).drew
      case' rzz0 => skip
      refine wpAnyL_take (i := 0) (oi := ?ozz1) (v := ?vzz1) ?hzz1 ?azz1 ?bzz1 ?czz1 ?kzz1 ?qzz1 ?yzz1 ?szz1 ?rzz1
      case hzz1 => simp only [List.getElem?_toArray, List.getElem?_cons_zero]; rfl
      case azz1 => kernel_rfl
      case bzz1 => kernel_rfl
      case czz1 => kernel_rfl
      case kzz1 => kernel_rfl
      case yzz1 =>
        refine Or.inl ⟨by rfl, ?_⟩
        intro w hSw
        have x0 := box_ hSw e0; have x1 := box_ hSw e1; have x2 := box_ hSw e2; have x3 := box_ hSw e3; clear hSw
        go_simp
        try with_reducible rfl
      case qzz1 => exact fun _ _ _ h => h
      case szz1 => first | assumption | trivial
      case' rzz1 => simp only [Act.put, List.setIfInBounds_toArray, List.set_cons_zero, List.set_cons_succ]
      refine wpAnyL_take (i := 1) (oi := ?ozz2) (v := ?vzz2) ?hzz2 ?azz2 ?bzz2 ?czz2 ?kzz2 ?qzz2 ?yzz2 ?szz2 ?rzz2
      case hzz2 => simp only [List.getElem?_toArray, List.getElem?_cons_zero, List.getElem?_cons_succ]; rfl
      case azz2 => kernel_rfl
      case bzz2 => kernel_rfl
      case czz2 => kernel_rfl
      case kzz2 => kernel_rfl
      case yzz2 =>
        refine Or.inl ⟨by rfl, ?_⟩
        intro w hSw
        skip
        go_simp
        try with_reducible rfl
      case qzz2 => exact fun _ _ _ h => h
      case szz2 => first | assumption | trivial
      case' rzz2 => simp only [Act.put, List.setIfInBounds_toArray, List.set_cons_zero, List.set_cons_succ]
      refine wpAnyL_ready (rs := [2]) (by kernel_rfl) (by simp) ?_
      refine AllReadyL.cons (o := ?ozz12) ?hzz12 (fun K hK => ?kzz12) ?mzz12
      case hzz12 => simp only [List.getElem?_toArray, List.getElem?_cons_zero, List.getElem?_cons_succ]; rfl
      case kzz12 =>
        go_simp
        refine (KNK.out _ (HT.out.q (SV.out.q.trans hHeld))).mono ?_
        rintro e w3 ⟨rfl, q3⟩
        go_wp2_with fail
        refine hK.out _ _ ?Szz12 (fun hHeld => ?Rzz12)
        case Szz12 =>
          exact hHeld.trans q3
        case Rzz12 =>
          clear hK K
          try simp only [Act.put, List.setIfInBounds_toArray, List.set_cons_zero, List.set_cons_succ]
          refine wpAnyL_ready (rs := [3]) (by kernel_rfl) (by simp) ?_
          refine AllReadyL.cons (o := ?ozz11) ?hzz11 (fun K hK => ?kzz11) ?mzz11
          case hzz11 => simp only [List.getElem?_toArray, List.getElem?_cons_zero, List.getElem?_cons_succ]; rfl
          case kzz11 =>
            go_simp
            refine (KDK.out _ _ _ _ (DV.out.q hHeld)).mono ?_
            rintro e w5 ⟨A5, n5, c5, rfl, ho, q5⟩
            obtain ⟨⟨x0, x1, x2, x3⟩, y0, y1, y2, y3⟩ := ((SV.out.step hHeld).step q5).get
            have Z5 := Lib.hid (And.intro ho (And.intro hHeld q5))
            go_wp2_with fail
            refine hK.out _ _ ?Szz11 (fun hHeld => ?Rzz11)
            case Szz11 =>
              exact hHeld.trans q5
            case Rzz11 =>
              clear hK K
              try simp only [Act.put, List.setIfInBounds_toArray, List.set_cons_zero, List.set_cons_succ]
              refine wpAnyL_take (i := 4) (oi := ?ozz3) (v := ?vzz3) ?hzz3 ?azz3 ?bzz3 ?czz3 ?kzz3 ?qzz3 ?yzz3 ?szz3 ?rzz3
              case hzz3 => simp only [List.getElem?_toArray, List.getElem?_cons_zero, List.getElem?_cons_succ]; rfl
              case azz3 => kernel_rfl
              case bzz3 => kernel_rfl
              case czz3 => kernel_rfl
              case kzz3 => kernel_rfl
              case yzz3 =>
                refine Or.inl ⟨by rfl, ?_⟩
                intro w hSw
                skip
                go_simp
                try with_reducible rfl
              case qzz3 => exact fun _ _ _ h => h
              case szz3 => first | assumption | trivial
              case' rzz3 => simp only [Act.put, List.setIfInBounds_toArray, List.set_cons_zero, List.set_cons_succ]
              refine wpAnyL_take (i := 5) (oi := ?ozz4) (v := ?vzz4) ?hzz4 ?azz4 ?bzz4 ?czz4 ?kzz4 ?qzz4 ?yzz4 ?szz4 ?rzz4
              case hzz4 => simp only [List.getElem?_toArray, List.getElem?_cons_zero, List.getElem?_cons_succ]; rfl
              case azz4 => kernel_rfl
              case bzz4 => kernel_rfl
              case czz4 => kernel_rfl
              case kzz4 => kernel_rfl
              case yzz4 =>
                refine Or.inl ⟨by rfl, ?_⟩
                intro w hSw
                skip
                go_simp
                try with_reducible rfl
              case qzz4 => exact fun _ _ _ h => h
              case szz4 => first | assumption | trivial
              case' rzz4 => simp only [Act.put, List.setIfInBounds_toArray, List.set_cons_zero, List.set_cons_succ]
              refine wpAnyL_ready (rs := [6, 7]) (by kernel_rfl) (by simp) ?_
              refine AllReadyL.cons (o := ?ozz9) ?hzz9 (fun K hK => ?kzz9) ?mzz9
              case hzz9 => simp only [List.getElem?_toArray, List.getElem?_cons_zero, List.getElem?_cons_succ]; rfl
              case kzz9 =>
                go_simp
                refine hK.out _ _ ?Szz9 (fun hHeld => ?Rzz9)
                case Szz9 =>
                  exact hHeld
                case Rzz9 =>
                  clear hK K
                  try simp only [Act.put, List.setIfInBounds_toArray, List.set_cons_zero, List.set_cons_succ]
                  refine wpAnyL_ready (rs := [7]) (by kernel_rfl) (by simp) ?_
                  refine AllReadyL.consK (o := ?ozz6) ?hzz6 ?lzz6 (fun K hK => ?kzz6) ?mzz6
                  case hzz6 => simp only [List.getElem?_toArray, List.getElem?_cons_zero, List.getElem?_cons_succ]; rfl
                  case lzz6 => kernel_rfl
                  case kzz6 =>
                    go_simp
                    refine hK.out _ _ ?Rzz6
                    case Rzz6 =>
                      clear hK K
                      try simp only [Act.put, List.setIfInBounds_toArray, List.set_cons_zero, List.set_cons_succ]
                      refine wpAnyH_take (i := 8) (oi := ?ozz5) (v := ?vzz5) ?hzz5 ?azz5 ?bzz5 ?czz5 ?qzz5 ?yzz5 ?szz5 ?rzz5
                      case hzz5 => simp only [List.getElem?_toArray, List.getElem?_cons_zero, List.getElem?_cons_succ]; rfl
                      case azz5 => kernel_rfl
                      case bzz5 => kernel_rfl
                      case czz5 => kernel_rfl
                      case yzz5 =>
                        refine Or.inl ⟨by rfl, ?_⟩
                        intro w hSw
                        skip
                        go_simp
                        try with_reducible rfl
                      case qzz5 => exact fun _ _ _ h => h
                      case szz5 => first | assumption | trivial
                      case' rzz5 => simp only [Act.put, List.setIfInBounds_toArray, List.set_cons_zero, List.set_cons_succ]
                      refine wpAnyH_done (by kernel_rfl) ?_ _
                      have P := Lib.hid ((V.out.step Z5.out.2.1).put (d5 := y) Z5.out.2.2 Z5.out.1 (few_own Z5.out.1 HB2.out))
                      have HJ := Lib.hid ((((((HI.out.q Z5.out.2.1).q Z5.out.2.2).away HKF.out 0 (.slice A5 n5 c5)).away HKF.out 1 (.int .i64 y.room)).away HKF.out 2 (.int .i64 y.fuse)).away HKF.out 3 (.bool y.off))
                      by_cases he : er = 0
                      · subst he
                        have HX4 := Lib.hid (HX3.out.trans (if_pos rfl))
                        go_wp2_with fail
                        go_roundw
                        case rel => exact ⟨j + 1, A5, n5, c5, y, by omega, by go_num, P.out.1, P.out.2, HB2.out, HJ.out, HX4.out⟩
                        case measure => simp [intOf]; omega
                      · have HX4 := Lib.hid (HX3.out.trans (if_neg he))
                        clear HX3
                        go_upto_region 9 with (fail)
                        generalize ((((w5.setCell ⟨w.heap.size, 0, none⟩ (.slice A5 n5 c5)).setCell ⟨w.heap.size, 1, none⟩ (.int .i64 y.room)).setCell ⟨w.heap.size, 2, none⟩ (.int .i64 y.fuse)).setCell ⟨w.heap.size, 3, none⟩ (.bool y.off)) = W6 at P ⊢
                        obtain ⟨⟨t0, t1, t2, t3⟩, v0, v1, v2, v3⟩ := P.out.1.sb.get
                        obtain ⟨⟨s0, s1, s2, s3⟩, h0, h1, h2, h3⟩ := P.out.1.sb.getR
                        go_wp2
                        (try rw [Exit.noGoto_ret])
                        refine bodyPost_ret (v := .tuple #[dkv A5 n5 c5 y.room y.fuse y.off, .int .i64 er]) (by simp [results, Tryz.results10, go_sem, s0, s1, s2, s3]) rfl ?_
                        rw [← HR.out, HX4.out]
                        exact P.out.1.endF P.out.2 er _ _ _ _
                  case' mzz6 => skip
                  exact AllReadyL.nil
              case' mzz9 => skip
              refine AllReadyL.consK (o := ?ozz10) ?hzz10 ?lzz10 (fun K hK => ?kzz10) ?mzz10
              case hzz10 => simp only [List.getElem?_toArray, List.getElem?_cons_zero, List.getElem?_cons_succ]; rfl
              case lzz10 => kernel_rfl
              case kzz10 =>
                go_simp
                refine hK.out _ _ ?Rzz10
                case Rzz10 =>
                  clear hK K
                  try simp only [Act.put, List.setIfInBounds_toArray, List.set_cons_zero, List.set_cons_succ]
                  refine wpAnyH_take (i := 6) (oi := ?ozz7) (v := ?vzz7) ?hzz7 ?azz7 ?bzz7 ?czz7 ?qzz7 ?yzz7 ?szz7 ?rzz7
                  case hzz7 => simp only [List.getElem?_toArray, List.getElem?_cons_zero, List.getElem?_cons_succ]; rfl
                  case azz7 => kernel_rfl
                  case bzz7 => kernel_rfl
                  case czz7 => kernel_rfl
                  case yzz7 =>
                    refine Or.inl ⟨by rfl, ?_⟩
                    intro w hSw
                    skip
                    go_simp
                    try with_reducible rfl
                  case qzz7 => exact fun _ _ _ h => h
                  case szz7 => first | assumption | trivial
                  case' rzz7 => simp only [Act.put, List.setIfInBounds_toArray, List.set_cons_zero, List.set_cons_succ]
                  refine wpAnyH_take (i := 8) (oi := ?ozz8) (v := ?vzz8) ?hzz8 ?azz8 ?bzz8 ?czz8 ?qzz8 ?yzz8 ?szz8 ?rzz8
                  case hzz8 => simp only [List.getElem?_toArray, List.getElem?_cons_zero, List.getElem?_cons_succ]; rfl
                  case azz8 => kernel_rfl
                  case bzz8 => kernel_rfl
                  case czz8 => kernel_rfl
                  case yzz8 =>
                    refine Or.inl ⟨by rfl, ?_⟩
                    intro w hSw
                    skip
                    go_simp
                    try with_reducible rfl
                  case qzz8 => exact fun _ _ _ h => h
                  case szz8 => first | assumption | trivial
                  case' rzz8 => simp only [Act.put, List.setIfInBounds_toArray, List.set_cons_zero, List.set_cons_succ]
                  refine wpAnyH_done (by kernel_rfl) ?_ _
                  have P := Lib.hid ((V.out.step Z5.out.2.1).put (d5 := y) Z5.out.2.2 Z5.out.1 (few_own Z5.out.1 HB2.out))
                  have HJ := Lib.hid ((((((HI.out.q Z5.out.2.1).q Z5.out.2.2).away HKF.out 0 (.slice A5 n5 c5)).away HKF.out 1 (.int .i64 y.room)).away HKF.out 2 (.int .i64 y.fuse)).away HKF.out 3 (.bool y.off))
                  by_cases he : er = 0
                  · subst he
                    have HX4 := Lib.hid (HX3.out.trans (if_pos rfl))
                    go_wp2_with fail
                    go_roundw
                    case rel => exact ⟨j + 1, A5, n5, c5, y, by omega, by go_num, P.out.1, P.out.2, HB2.out, HJ.out, HX4.out⟩
                    case measure => simp [intOf]; omega
                  · have HX4 := Lib.hid (HX3.out.trans (if_neg he))
                    clear HX3
                    go_upto_region 9 with (fail)
                    generalize ((((w5.setCell ⟨w.heap.size, 0, none⟩ (.slice A5 n5 c5)).setCell ⟨w.heap.size, 1, none⟩ (.int .i64 y.room)).setCell ⟨w.heap.size, 2, none⟩ (.int .i64 y.fuse)).setCell ⟨w.heap.size, 3, none⟩ (.bool y.off)) = W6 at P ⊢
                    obtain ⟨⟨t0, t1, t2, t3⟩, v0, v1, v2, v3⟩ := P.out.1.sb.get
                    obtain ⟨⟨s0, s1, s2, s3⟩, h0, h1, h2, h3⟩ := P.out.1.sb.getR
                    go_wp2
                    (try rw [Exit.noGoto_ret])
                    refine bodyPost_ret (v := .tuple #[dkv A5 n5 c5 y.room y.fuse y.off, .int .i64 er]) (by simp [results, Tryz.results10, go_sem, s0, s1, s2, s3]) rfl ?_
                    rw [← HR.out, HX4.out]
                    exact P.out.1.endF P.out.2 er _ _ _ _
              case' mzz10 => skip
              exact AllReadyL.nil
          case' mzz11 => skip
          exact AllReadyL.nil
      case' mzz12 => skip
      exact AllReadyL.nil
    · have e : kn = j := by omega
      have hall : ks.drop j = [] := List.drop_eq_nil_of_le (by have := HN.out; omega)
      have HX1 := Lib.hid (HX.out.trans (show _ = (x, (0 : Int)) by rw [hall]; rfl))
      have hnk : ¬ (j : Int) < (kn : Int) := by omega
      clear hall e HX
      obtain ⟨⟨s0, s1, s2, s3⟩, h0, h1, h2, h3⟩ := V.out.sb.getR
      go_wp2
      (try rw [Exit.noGoto_ret])
      refine bodyPost_ret (v := .tuple #[dkv A5 n5 c5 x.room x.fuse x.off, .int .i64 0]) (by simp [results, Tryz.results10, go_sem, s0, s1, s2, s3]) rfl ?_
      rw [← HR.out, HX1.out]
      exact V.out.endF HF.out 0 _ _ _ _
end Go.Proofs.YtggbdhnjogalgaaGreatDoor

/- Kinds of elements that lie flat in memory: lists of them as they come in ('Lst', 'In_'), lists of the call's own ('OwnK'), append to these. -/
namespace Go.Proofs.YtggbdhnjogalgaaGreatDoor
set_option maxRecDepth 100000
open Go.RowKit
set_option linter.unusedVariables false

structure Kind (α : Type) where
  T : TypeId
  S : TypeId
  k : Nat
  bs : Nat
  z : Value
  row : α → List Value
  pos : 0 < k
  bpos : 0 < bs
  len : ∀ a, (row a).length = k
  one : ∀ a, ∀ u ∈ row a, u.oneCell' = true
  und : Tryz.prog.underlying S = some (.slice T)
  info : (Tryz.prog.info? T).map (fun i => (i.zero, i.size, i.bytes)) = some (some z, k, bs)
  zc : z.cells.size = k

variable {α : Type}

def Kind.rows (K : Kind α) : List α → List Value
  | [] => []
  | a :: l => K.row a ++ K.rows l

theorem Kind.rows_len (K : Kind α) (l : List α) : (K.rows l).length = l.length * K.k := by
  induction l with
  | nil => simp [Kind.rows]
  | cons a l ih => simp only [Kind.rows, List.length_append, ih, List.length_cons, K.len, Nat.add_mul]; omega
theorem Kind.rows_app (K : Kind α) (l m : List α) : K.rows (l ++ m) = K.rows l ++ K.rows m := by
  induction l with
  | nil => rfl
  | cons a l ih => simp [Kind.rows, ih]
theorem Kind.rows_at (K : Kind α) (l : List α) (k : Nat) (h : k < l.length) (j : Nat) (hj : j < K.k) : (K.rows l)[k * K.k + j]? = (K.row l[k])[j]? := by
  induction l generalizing k with
  | nil => simp at h
  | cons a l ih =>
    cases k with
    | zero =>
      simp only [Kind.rows, Nat.zero_mul, Nat.zero_add, List.getElem_cons_zero]
      exact List.getElem?_append_left (by rw [K.len]; exact hj)
    | succ k =>
      simp only [Kind.rows, List.getElem_cons_succ]
      rw [List.getElem?_append_right (by rw [K.len, Nat.add_mul]; omega), ← ih k (by simpa using h)]
      congr 1
      rw [K.len, Nat.add_mul]; omega
theorem Kind.rows_one (K : Kind α) (l : List α) : ∀ u ∈ K.rows l, u.oneCell' = true := by
  induction l with
  | nil => simp [Kind.rows]
  | cons a l ih =>
    intro u hu
    rcases List.mem_append.1 hu with h | h
    · exact K.one a u h
    · exact ih u h
theorem Kind.rows_drop (K : Kind α) (l : List α) : ∀ (m : Nat), K.rows (l.drop m) = (K.rows l).drop (m * K.k) := by
  induction l with
  | nil => intro m; simp [Kind.rows]
  | cons f l ih =>
    intro m
    cases m with
    | zero => simp
    | succ m =>
      rw [List.drop_succ_cons, ih m, Kind.rows, show (m + 1) * K.k = (K.row f).length + m * K.k by rw [K.len, Nat.add_mul]; omega, List.drop_length_add_append]
theorem Kind.rows_take (K : Kind α) (l : List α) : ∀ (m : Nat), K.rows (l.take m) = (K.rows l).take (m * K.k) := by
  induction l with
  | nil => intro m; simp [Kind.rows]
  | cons f l ih =>
    intro m
    cases m with
    | zero => simp [Kind.rows]
    | succ m =>
      rw [List.take_succ_cons, Kind.rows, ih m, Kind.rows, show (m + 1) * K.k = (K.row f).length + m * K.k by rw [K.len, Nat.add_mul]; omega, List.take_length_add_append]
theorem Kind.rows_set (K : Kind α) (l : List α) (k : Nat) (h : k < l.length) (a : α) : (K.rows l).take (k * K.k) ++ K.row a ++ (K.rows l).drop (k * K.k + (K.row a).length) = K.rows (l.set k a) := by
  have e : l.set k a = l.take k ++ (a :: l.drop (k + 1)) := by
    rw [List.set_eq_take_append_cons_drop, if_pos h]
  rw [e, K.rows_app, Kind.rows, K.rows_take, K.rows_drop, K.len, Nat.add_mul]
  simp

/-- The slice '.slice A n _' reads as l. -/
def Lst (K : Kind α) (w : World) (A : Option Addr) (n : Nat) (l : List α) : Prop := Holds w w.heap.size K.k A n (K.rows l)
theorem Lst.q {K : Kind α} {w w' : World} {A : Option Addr} {n : Nat} {l : List α} (h : Lst K w A n l) (hq : Q w w') : Lst K w' A n l := Holds.q h hq
theorem Lst.len {K : Kind α} {w : World} {A : Option Addr} {n : Nat} {l : List α} (h : Lst K w A n l) : l.length = n := by
  have := h.1; rw [K.rows_len] at this
  exact Nat.eq_of_mul_eq_mul_right K.pos this
theorem Lst.nil {K : Kind α} (w : World) (A : Option Addr) : Lst K w A 0 [] := Holds.none_ _ _ _ _

/-- What a load of the element in place k reads. -/
theorem Lst.load {K : Kind α} {w : World} {A : Option Addr} {n : Nat} {l : List α} (h : Lst K w A n l) {k : Nat} (hk : k < n) (hl : k < l.length) :
    ∃ ad, A = some ad ∧ ad.block < w.heap.size ∧ ∀ j v, (K.row l[k])[j]? = some v → w.cell? ((ad.add (k * K.k)).add j) = some v := by
  have h0 : ∀ j v, (K.row l[k])[j]? = some v → ∃ ad, A = some ad ∧ ad.block < w.heap.size ∧ w.cell? (ad.add (k * K.k + j)) = some v := fun j v hj =>
    h.2 (k * K.k + j) _ (by rw [K.rows_at l k hl j (by rw [← K.len l[k]]; exact (List.getElem?_eq_some_iff.1 hj).1)]; exact hj)
  obtain ⟨ad, rfl, hb, _⟩ := h0 0 _ (List.getElem?_eq_getElem (by rw [K.len]; exact K.pos))
  refine ⟨ad, rfl, hb, fun j v hj => ?_⟩
  obtain ⟨_, e, _, hc⟩ := h0 j v hj
  injection e with e
  subst e
  rw [addr_add]; exact hc

/-- a list of the call's own. -/
def OwnK (K : Kind α) (w : World) (base : Nat) (A : Option Addr) (n c : Nat) (l : List α) : Prop := w.ownsRow base K.T K.k (.slice A n c) n (K.rows l)

section
variable {K : Kind α} {w w' : World} {base : Nat} {A : Option Addr} {n c : Nat} {l : List α}
theorem OwnK.len (h : OwnK K w base A n c l) : l.length = n := by
  have := h.1; rw [K.rows_len] at this
  exact Nat.eq_of_mul_eq_mul_right K.pos this
theorem OwnK.parts (h : OwnK K w base A n c l) :
    (A = none ∧ n = 0 ∧ c = 0 ∧ l = []) ∨ ∃ g cur, A = some ⟨g, 0, none⟩ ∧ base ≤ g ∧ w.heap[g]? = some (.cells cur K.T (0, 0)) ∧ n ≤ c ∧ c ≤ maxLen ∧ cur.size = c * K.k ∧ cur.toList.take (n * K.k) = K.rows l := by
  rcases h.2 with ⟨e, h0⟩ | ⟨g, cap, cur, e, hb, hh, hc, hm, hs, ht⟩
  · injection e with e1 e2 e3
    exact .inl ⟨e1, e2, e3, List.eq_nil_of_length_eq_zero (by rw [h.len]; exact e2)⟩
  · injection e with e1 e2 e3
    subst e1 e3
    exact .inr ⟨g, cur, rfl, hb, hh, hc, hm, hs, ht⟩
theorem OwnK.lst (h : OwnK K w base A n c l) : Lst K w A n l := by
  refine ⟨h.1, fun j u hu => ?_⟩
  rcases h.parts with ⟨rfl, rfl, rfl, rfl⟩ | ⟨g, cur, rfl, hb, hh, hc, hm, hs, ht⟩
  · simp [Kind.rows] at hu
  · have hj : j < n * K.k := by
      have := (List.getElem?_eq_some_iff.1 hu).1; rw [h.1] at this; exact this
    refine ⟨_, rfl, ?_, ?_⟩
    · rcases Nat.lt_or_ge g w.heap.size with hlt | hge
      · exact hlt
      · rw [Array.getElem?_eq_none hge] at hh; cases hh
    · rw [Addr.add_mid, Nat.zero_add, World.ownsRow.cellAt h j hj]; exact hu
theorem OwnK.le (h : OwnK K w base A n c l) : n ≤ c := by
  rcases h.parts with ⟨rfl, rfl, rfl, rfl⟩ | ⟨g, cur, rfl, hb, hh, hc, hm, hs, ht⟩
  · exact Nat.le_refl _
  · exact hc
theorem OwnK.cap (h : OwnK K w base A n c l) : c ≤ maxLen := by
  rcases h.parts with ⟨rfl, rfl, rfl, rfl⟩ | ⟨g, cur, rfl, hb, hh, hc, hm, hs, ht⟩
  · exact Nat.zero_le _
  · exact hm
theorem OwnK.keep {B : Nat} (h : OwnK K w base A n c l) (hb : Below B w w') (hB : w.heap.size ≤ B) : OwnK K w' base A n c l := by
  refine ⟨h.1, ?_⟩
  rcases h.2 with ⟨e, h0⟩ | ⟨g, cap, cur, e, hg, hh, r⟩
  · exact .inl ⟨e, h0⟩
  · have hlt : g < w.heap.size := by
      rcases Nat.lt_or_ge g w.heap.size with hlt | hge
      · exact hlt
      · rw [Array.getElem?_eq_none hge] at hh; cases hh
    exact .inr ⟨g, cap, cur, e, hg, (hb.block g (by omega)).trans hh, r⟩
theorem OwnK.q (h : OwnK K w base A n c l) (hq : Q w w') : OwnK K w' base A n c l := h.keep hq.below (Nat.le_refl _)
theorem OwnK.setCell (h : OwnK K w base A n c l) {p : Addr} (hp : p.block < base) (u : Value) : OwnK K (w.setCell p u) base A n c l := by
  refine ⟨h.1, ?_⟩
  rcases h.2 with ⟨e, h0⟩ | ⟨g, cap, cur, e, hg, hh, r⟩
  · exact .inl ⟨e, h0⟩
  · exact .inr ⟨g, cap, cur, e, hg, (heap_setCell_other w p g u (by omega)).trans hh, r⟩
theorem OwnK.alloc (h : OwnK K w base A n c l) (o : Obj) : OwnK K (w.alloc o) base A n c l := h.q ((Q.refl _).alloc o)
theorem OwnK.drew (h : OwnK K w base A n c l) : OwnK K w.drew base A n c l := h
theorem OwnK.lower {b2 : Nat} (h : OwnK K w base A n c l) (hb : b2 ≤ base) : OwnK K w b2 A n c l := by
  refine ⟨h.1, ?_⟩
  rcases h.2 with ⟨e, h0⟩ | ⟨g, cap, cur, e, hg, hh, r⟩
  · exact .inl ⟨e, h0⟩
  · exact .inr ⟨g, cap, cur, e, by omega, hh, r⟩
theorem OwnK.nil_ (K : Kind α) (w : World) (base : Nat) : OwnK K w base none 0 0 [] := World.ownsRow_nil _ _ _ _
theorem OwnK.lit1 (K : Kind α) (w : World) (base : Nat) (hb : base ≤ w.heap.size) (a : α) : OwnK K (w.alloc (.cells (K.row a).toArray K.T)) base (some ⟨w.heap.size, 0, none⟩) 1 1 [a] := by
  have := World.ownsRow_lit (e := K.T) (size := K.k) w (K.row a).toArray 1 hb (by unfold maxLen; omega) (by simp [K.len])
  unfold OwnK
  rw [show K.rows [a] = (K.row a).toArray.toList by simp [Kind.rows]]
  exact this
/-- the cells of the element in place k. -/
theorem OwnK.cells {g : Nat} (h : OwnK K w base (some ⟨g, 0, none⟩) n c l) {k : Nat} (hk : k < l.length) : ∀ j v, (K.row l[k])[j]? = some v → w.cell? ⟨g, k * K.k + j, none⟩ = some v := fun j v hj => by
  have hjk : j < K.k := by rw [← K.len l[k]]; exact (List.getElem?_eq_some_iff.1 hj).1
  have hn := h.len
  have : k * K.k + j < n * K.k := by
    have : (k + 1) * K.k ≤ n * K.k := Nat.mul_le_mul_right _ (by omega)
    rw [Nat.add_mul] at this; omega
  rw [World.ownsRow.cellAt h _ this, K.rows_at l k hk j hjk]
  exact hj
theorem OwnK.free {g : Nat} (h : OwnK K w base (some ⟨g, 0, none⟩) n c l) (j : Nat) : w.frozen? ⟨g, j, none⟩ = false := World.ownsRow.frozenAt h _
theorem OwnK.spare {g : Nat} (h : OwnK K w base (some ⟨g, 0, none⟩) n c l) (j : Nat) (hj : j < c * K.k) : (w.cell? ⟨g, j, none⟩).isSome = true := by
  rcases h.parts with ⟨e, _⟩ | ⟨g', cur, e, hb, hh, hc, hm, hs, ht⟩
  · cases e
  injection e with e
  injection e with e
  subst e
  rw [cell_of_row _ _ j _ K.T (0, 0) hh, Array.getElem?_eq_getElem (by omega)]
  rfl
/-- an element written in place. -/
theorem OwnK.put {g : Nat} (h : OwnK K w base (some ⟨g, 0, none⟩) n c l) {k : Nat} (hk : k < l.length) (a : α) :
    OwnK K (w.setCells g (k * K.k) (K.row a)) base (some ⟨g, 0, none⟩) n c (l.set k a) := by
  have hl : k * K.k + (K.row a).length ≤ (K.rows l).length := by
    rw [K.len, K.rows_len]
    have : (k + 1) * K.k ≤ l.length * K.k := Nat.mul_le_mul_right _ (by omega)
    rw [Nat.add_mul] at this; omega
  have := owns_setCells (e := K.T) (sz := K.k) (K.row a) (k * K.k) w (K.rows l) h hl
  rw [K.rows_set l k hk a] at this
  exact this
end

/-- 'append(own, more...)', the source nil or not. -/
theorem run_appK (K : Kind α) (w : World) (base : Nat) (A : Option Addr) (n c : Nat) (l : List α) (h : OwnK K w base A n c l) (A2 : Option Addr) (m c2 : Nat) (l2 : List α) (h2 : Lst K w A2 m l2) (hnil : A2 = none → m = 0 ∧ c2 = 0)
    (hb : (n + m) * K.bs ≤ 140737488355328) (hbase : base ≤ w.heap.size) (ty : TypeId) :
    ∃ A' c' w', (Builtin.append_ #[K.S, K.S] ty #[.slice A n c, .slice A2 m c2]).run Tryz.prog w = .ok (.slice A' (n + m) c') w' ∧ OwnK K w' base A' (n + m) c' (l ++ l2) ∧ Below base w w' := by
  obtain ⟨i, hi, hz, hs, hy⟩ := info_parts K.info
  have hmax : n + m ≤ maxLen := by
    have : (n + m) * 1 ≤ (n + m) * K.bs := Nat.mul_le_mul_left _ K.bpos
    unfold maxLen; omega
  cases A2 with
  | none =>
    obtain ⟨rfl, rfl⟩ := hnil rfl
    have e2 : l2 = [] := List.eq_nil_of_length_eq_zero h2.len
    subst e2
    refine ⟨A, c, w, run_append_owned_none (P := Tryz.prog) (w := w) base _ ty K.T i K.k K.und hi _ n (K.rows l) h, by simpa using h, Below.refl _ _⟩
  | some ad =>
    obtain ⟨v', w', hr, ho, hg, hn, hat⟩ := run_append_own_at (P := Tryz.prog) w base K.S ty K.T i _ K.k K.bs K.und hi hz hs hy K.zc K.pos (.slice A n c) n (K.rows l) h ad m c2 (K.rows l2) h2.1
      (fun j u hu => by obtain ⟨a', e, _, hc⟩ := h2.2 j u hu; injection e with e; subst e; exact hc) (K.rows_one l2) hmax hb hbase
    rw [← K.rows_app] at ho
    have hbl : Below base w w' := (Below.refl _ _).grown hg hbase (fun k hk => by
      rcases h.parts with ⟨rfl, _⟩ | ⟨g, cur, rfl, hb, _⟩
      · cases hk
      · simp only [Value.ownBlock, Option.some.injEq] at hk; omega)
    rcases ho.2 with ⟨e, h0⟩ | ⟨g, cap, cur, e, _⟩
    · have h00 : Value.slice none 0 0 = .slice none (n + m) 0 := by rw [h0]
      rw [h00] at e
      subst e
      exact ⟨none, 0, w', hr, ho, hbl⟩
    · subst e
      exact ⟨_, cap, w', hr, ho, hbl⟩

/-- The same, for a plain region's list. -/
theorem wpl_appK (K : Kind α) {w : World} {ops : Array Oper} {rest : List Oper} {o : Oper} {a : Act} {R : Exit → Act → World → Prop} (hgd : o.guard = none) (s x : Operand) (t : TypeId) (ht : t = K.S)
    (ho : o.op = .call { callee := .builtin .append, args := #[s, x], argTypes := #[t, t] })
    (base : Nat) (A : Option Addr) (n c : Nat) (l : List α) (hs : a.eval s = .slice A n c) (h : OwnK K w base A n c l) (A2 : Option Addr) (m c2 : Nat) (l2 : List α) (hx : a.eval x = .slice A2 m c2) (h2 : Lst K w A2 m l2) (hnil : A2 = none → m = 0 ∧ c2 = 0)
    (hb : (n + m) * K.bs ≤ 140737488355328) (hbase : base ≤ w.heap.size)
    (hk : ∀ A' c' w', OwnK K w' base A' (n + m) c' (l ++ l2) → Below base w w' → wpList Tryz.prog ops R rest (a.put o.dst (.slice A' (n + m) c')) w') : wpList Tryz.prog ops R (o :: rest) a w := by
  subst ht
  refine wpList_plain hgd fun X hX => ?_
  obtain ⟨A', c', w', hr, h3, h4⟩ := run_appK K w base A n c l h A2 m c2 l2 h2 hnil hb hbase o.type
  unfold Oper.wp execOp
  simp only [ho, resolve, invoke, builtin, Sem.run_bind, Sem.run_pure, Result.andThen_ok, List.map_toArray, List.map_cons, List.map_nil, hs, hx, hr]
  exact hX _ _ (hk A' c' w' h3 h4)

end Go.Proofs.YtggbdhnjogalgaaGreatDoor

/- Integers as a kind of elements. -/
namespace Go.Proofs.YtggbdhnjogalgaaGreatDoor
set_option maxRecDepth 100000
open Go.RowKit
set_option linter.unusedVariables false
set_option linter.unusedSimpArgs false

def numK : Kind Int where
  T := 3
  S := 52
  k := 1
  bs := 8
  z := .int .i64 0
  row := fun r => [.int .i64 r]
  pos := by omega
  bpos := by omega
  len := fun _ => rfl
  one := fun _ u hu => by simp at hu; rcases hu with rfl; rfl
  und := Tryz.underlying52
  info := by kernel_rfl
  zc := rfl
theorem numK_rows (l : List Int) : numK.rows l = l.map (Value.int .i64) := by
  induction l with
  | nil => rfl
  | cons a l ih => rw [Kind.rows, ih]; rfl
theorem Lst.ints {w : World} {A : Option Addr} {n : Nat} {l : List Int} (h : Lst numK w A n l) : Ints w A n l := by
  unfold Lst at h; rw [numK_rows] at h; exact h

theorem lst_lit1 (w : World) (x : Int) : Lst numK (w.alloc (.cells #[.int .i64 x] 3)) (some ⟨w.heap.size, 0, none⟩) 1 [x] :=
  (OwnK.lit1 numK w w.heap.size (Nat.le_refl _) x).lst
end Go.Proofs.YtggbdhnjogalgaaGreatDoor

/- Contract: wal.present: the numbers of the segments that are there. -/
namespace Go.Proofs.YtggbdhnjogalgaaGreatDoor
set_option maxRecDepth 100000
open Go.RowKit Dkm Wm
set_option linter.unusedVariables false
set_option linter.unusedSimpArgs false

/-- the two errors of strconv: they hold an error. -/
structure Errs (w : World) : Prop where
  sy : ∃ ev, w.cell? ⟨0, 0, none⟩ = some ev ∧ (ev = .nilIface ∨ ∃ te pe, ev = .iface te pe)
  ra : ∃ ev, w.cell? ⟨1, 0, none⟩ = some ev ∧ (ev = .nilIface ∨ ∃ te pe, ev = .iface te pe)
theorem Errs.q {w w' : World} (h : Errs w) (q : Q w w') : Errs w' := by
  obtain ⟨⟨e, h1, h2⟩, f, h3, h4⟩ := h
  exact ⟨⟨e, box_ q h1, h2⟩, f, box_ q h3, h4⟩

theorem atoi_ok (s : ByteArray) (v : Int) (h : Lib.atoiAll s.data.toList = .ok v) (hs : s.size ≤ 140737488355328) (w : World) :
    Calls Tryz.prog 45 #[.string s] w fun e w' => e = .returned (.tuple #[.int .i64 v, .nilIface]) ∧ Q w w' := by
  refine (Tryz.strconv_Atoi_ok s (by omega) v h w).mono fun e w' hx => ?_
  obtain ⟨he, h1 | ⟨t, h1⟩⟩ := hx
  · exact ⟨he, h1 ▸ Q.refl w⟩
  · exact ⟨he, h1 ▸ Lib.bytesWorld_below w _ t⟩
theorem atoi_no (s : ByteArray) (h : ∀ v, Lib.atoiAll s.data.toList ≠ .ok v) (hs : s.size ≤ 140737488355328) (w : World) (hE : Errs w) :
    Calls Tryz.prog 45 #[.string s] w fun e w' => ∃ v t p, e = .returned (.tuple #[.int .i64 v, .iface t (.pointer (some p))]) ∧ Q w w' := by
  obtain ⟨⟨e1, g1, k1⟩, e2, g2, k2⟩ := hE
  rcases ha : Lib.atoiAll s.data.toList with v | _ | _
  · exact absurd ha (h v)
  · refine (Any.strconv_Atoi_syntax Tryz.laysC172 s (by omega) ha e1 w g1 k1).mono fun e w' hx => ?_
    obtain ⟨N, he, _, _, hb⟩ := hx
    exact ⟨_, _, _, he, hb⟩
  · refine (Tryz.strconv_Atoi_range s (by omega) ha e2 w g2 k2).mono fun e w' hx => ?_
    obtain ⟨N, he, _, _, hb⟩ := hx
    exact ⟨_, _, _, he, hb⟩

theorem num_holds {w : World} {base g n c : Nat} {l : List Int} (h : OwnK numK w base (some ⟨g, 0, none⟩) n c l) : Go.Sort.Holds (Value.int .i64) w g 0 l.toArray ∧ g < w.heap.size ∧ base ≤ g ∧ n ≤ c ∧ c ≤ maxLen ∧ l.length = n := by
  unfold OwnK at h
  rw [numK_rows] at h
  obtain ⟨g', cap, e, h1, h2, h3, h4, h5, h6⟩ := Lib.holds_of_ownsRow h (by intro e; cases e)
  injection e with e1 e2 e3
  injection e1 with e1
  injection e1 with e1
  subst e1
  exact ⟨h6, h2, h1, by omega, by omega, h5⟩
theorem num_put {w : World} {base g n c q k : Nat} {l ys : List Int} (h : OwnK numK w base (some ⟨g, 0, none⟩) n c l) (hy : ys.length = n) (hk : k ≤ n) :
    OwnK numK (Go.Sort.putRow (Value.int .i64) (Go.Sort.ahead w q) g 0 ys.toArray) base (some ⟨g, 0, none⟩) k c (ys.take k) := by
  unfold OwnK at *
  rw [numK_rows] at *
  exact Lib.ownsRow_putRow h hy hk
theorem sort_any (A : Option Addr) (n c base : Nat) (l : List Int) (w : World) (h : OwnK numK w base A n c l) (hb : base ≤ w.heap.size) (hsm : n < 4611686018427387904) :
    Calls Tryz.prog 47 #[.slice A n c] w fun e w' => e = .returned (.tuple #[]) ∧ OwnK numK w' base A n c (l.mergeSort fun x y => decide (x ≤ y)) ∧ Below base w w' := by
  have hl := h.len
  rcases h.parts with ⟨rfl, rfl, rfl, rfl⟩ | ⟨g, cur, rfl, _⟩
  · refine (Tryz.slices_Sort_int_none none 0 w).mono fun e w' hx => ?_
    obtain ⟨he, rfl⟩ := hx
    exact ⟨he, by simpa using h, Below.refl _ _⟩
  · obtain ⟨h1, h2, h3, h4, h5, h6⟩ := num_holds h
    subst h6
    refine (Tryz.slices_Sort_int g 0 c l w h1 h2 hsm).mono fun e w' hx => ?_
    obtain ⟨he, q, os, rfl⟩ := hx
    have h7 := num_put (q := q) (k := l.length) (ys := l.mergeSort fun x y => decide (x ≤ y)) h (by simp) (Nat.le_refl _)
    rw [List.take_of_length_le (by simp)] at h7
    have h8 : Below base w (Go.Sort.putRow (Value.int .i64) (Go.Sort.ahead w q) g 0 (l.mergeSort fun x y => decide (x ≤ y)).toArray) := Lib.below_putRow (Below.refl _ _) h3
    have h9 := Lib.below_grow (Go.Sort.putRow (Value.int .i64) (Go.Sort.ahead w q) g 0 (l.mergeSort fun x y => decide (x ≤ y)).toArray).heap.size _ (Nat.le_refl _) 0 os
    exact ⟨he, h7.keep h9 (Nat.le_refl _), h8.trans (h9.mono (Nat.le_trans hb h8.size))⟩
theorem compact_le (l : List Int) : (Lib.compact l).length ≤ l.length := by
  unfold Lib.compact Lib.compactUpTo
  rw [List.length_map]
  have := List.length_filter_le (Lib.keeps l.toArray) (List.range l.length)
  simpa using this
theorem compact_any (A : Option Addr) (n c base : Nat) (l : List Int) (w : World) (h : OwnK numK w base A n c l) (hb : base ≤ w.heap.size) :
    Calls Tryz.prog 48 #[.slice A n c] w fun e w' => e = .returned (.slice A (Lib.compact l).length c) ∧ OwnK numK w' base A (Lib.compact l).length c (Lib.compact l) ∧ Below base w w' := by
  have hl := h.len
  rcases h.parts with ⟨rfl, rfl, rfl, rfl⟩ | ⟨g, cur, rfl, _⟩
  · refine (Tryz.slices_Compact_int_empty none 0 w).mono fun e w' hx => ?_
    obtain ⟨he, rfl⟩ := hx
    exact ⟨he, h, Below.refl _ _⟩
  · obtain ⟨h1, h2, h3, h4, h5, h6⟩ := num_holds h
    subst h6
    refine (Tryz.slices_Compact_int g 0 c l w h1 (by unfold maxLen at h5; omega) h4).mono fun e w' hx => ?_
    obtain ⟨he, q, rfl⟩ := hx
    have hle := compact_le l
    have h7 := num_put (q := q) (k := (Lib.compact l).length) (ys := Lib.compact l ++ List.replicate (l.length - (Lib.compact l).length) 0) h (by simp; omega) hle
    rw [List.take_left' rfl] at h7
    exact ⟨he, h7, Lib.below_putRow (Below.refl _ _) h3⟩

theorem trim_le (nm : ByteArray) : (⟨(Lib.trimPrefix nm.data.toList [119]).toArray⟩ : ByteArray).size ≤ nm.size := by
  show (Lib.trimPrefix nm.data.toList [119]).toArray.size ≤ nm.data.size
  unfold Lib.trimPrefix
  split
  · simp
  · simp
set_option maxRecDepth 100000 in
set_option maxHeartbeats 4000000 in
theorem present_any (A : Option Addr) (n c : Nat) (d : Dk) (w : World) (hT : Tab w) (hE : Errs w) (hd : Dsk w A n c d.fs) (hs : ∀ f ∈ d.fs, f.nm.size ≤ 140737488355328) :
    Calls Tryz.prog 27 #[dkv A n c d.room d.fuse d.off] w (RetPr w (prsN d.fs)) := by
  have HT := Lib.hid hT
  have HE := Lib.hid hE
  have HD := Lib.hid hd
  have HS := Lib.hid hs
  have HL := Lib.hid hd.len
  have few := hd.few
  clear hT hE hd hs
  go_enter Tryz.func27, Tryz.ntmps27
  go_wp2
  have Q0 := Lib.hid ((Q.refl w).alloc (.cells #[.slice A n c, .int .i64 d.room, .int .i64 d.fuse, .bool d.off] 24))
  generalize w.alloc (.cells #[.slice A n c, .int .i64 d.room, .int .i64 d.fuse, .bool d.off] 24) = W at Q0 ⊢
  go_loopw [3, 11] (fun v i wr => ∃ j A2 k c2, j ≤ n ∧ k ≤ j ∧ i = .int .i64 (j : Nat) ∧ v = .slice A2 k c2 ∧ OwnK numK wr w.heap.size A2 k c2 (rawN (d.fs.take j)) ∧ Q w wr) (fun _ i _ => n - (intOf i).toNat)
  case atStart => exact ⟨0, none, 0, 0, Nat.zero_le _, Nat.le_refl _, rfl, rfl, OwnK.nil_ _ _ _, Q0.out⟩
  case round =>
    obtain ⟨j, A2, k, c2, hj, hkj, rfl, rfl, ho, hq⟩ := hrel
    have HO := Lib.hid ho
    have HQ := Lib.hid hq
    clear ho hq Q0
    by_cases hlt : j < n
    · have hjl : j < d.fs.length := by have := HL.out; omega
      obtain ⟨ad, hA, hb, a0, a1, a2⟩ := (HD.out.q HQ.out).files.load hlt hjl
      have HSj := Lib.hid (HS.out _ (List.getElem_mem hjl))
      have HR := Lib.hid (rawN_snoc d.fs hjl)
      have i1 : (j : Int) < (n : Int) := by omega
      have i2 : 0 ≤ (j : Int) := by omega
      have i3 : j < n := hlt
      subst hA
      generalize d.fs[j] = f at a0 a1 a2 HSj HR
      obtain ⟨nm, sf, wt⟩ := f
      simp only at a0 a1 a2 HSj HR
      have X1 := Lib.hid ((Q.refl wr).alloc (.cells #[.string nm, .string sf, .string wt] 42))
      have B1 := Lib.hid (Bx.new wr [.string nm, .string sf, .string wt] 42)
      have B1 : Hid (Bx (wr.alloc (.cells #[.string nm, .string sf, .string wt] 42)) wr.heap.size [.string nm, .string sf, .string wt]) := Lib.hid B1.out
      go_upto_region 5 with (fail)
      generalize wr.alloc (.cells #[.string nm, .string sf, .string wt] 42) = W1 at X1 B1 ⊢
      obtain ⟨⟨c0, c1, c3⟩, _⟩ := B1.out.get3
      go_wp2_with fail
      refine (Tryz.strings_TrimPrefix nm ⟨#[119]⟩ W1).mono ?_
      rintro e w1 ⟨rfl, hw1⟩
      have hw1 := hw1.symm
      subst hw1
      have HTs : Hid ((⟨(Lib.trimPrefix nm.data.toList [119]).toArray⟩ : ByteArray).size ≤ 140737488355328) := Lib.hid (Nat.le_trans (trim_le nm) HSj.out)
      rcases ha : Lib.atoiAll (Lib.trimPrefix nm.data.toList [119]) with v | _ | _
      · have KA := Lib.hid (fun W => atoi_ok ⟨(Lib.trimPrefix nm.data.toList [119]).toArray⟩ v ha HTs.out W)
        by_cases hn : nm = namB v
        · have HR2 : Hid (rawN (d.fs.take (j + 1)) = rawN (d.fs.take j) ++ [v]) := Lib.hid (by rw [HR.out, show numOf nm = some v by unfold numOf; rw [ha]; simp only; rw [if_pos hn]]; rfl)
          have es := same_str nm (namB v)
          rw [decide_eq_true hn] at es
          have KN := Lib.hid (fun W (q : Q w W) => name_any v W (HT.out.q q))
          clear ha hn
          generalize namB v = nb at KN es
          go_wp2_with fail
          refine (KA.out _).mono ?_
          rintro e W2 ⟨rfl, q2⟩
          have c0 := box_ q2 c0
          have HQ2 := Lib.hid ((HQ.out.trans X1.out).trans q2)
          go_upto_region 6 with (fail)
          refine wp_region_held_drew (S := Q W2) (by kernel_rfl) ?szz0 (fun hHeld => ?rzz0)
          case szz0 =>
            exact (Q.refl W2).drew
          case' rzz0 => skip
          refine wpAnyH_take (i := 0) (oi := ?ozz1) (v := ?vzz1) ?hzz1 ?azz1 ?bzz1 ?czz1 ?qzz1 ?yzz1 ?szz1 ?rzz1
          case hzz1 => simp only [List.getElem?_toArray, List.getElem?_cons_zero]; rfl
          case azz1 => kernel_rfl
          case bzz1 => kernel_rfl
          case czz1 => kernel_rfl
          case yzz1 =>
            refine Or.inl ⟨by rfl, ?_⟩
            intro w hSw
            skip
            go_simp
            try with_reducible rfl
          case qzz1 => exact fun _ _ _ h => h
          case szz1 => first | assumption | trivial
          case' rzz1 => simp only [Act.put, List.setIfInBounds_toArray, List.set_cons_zero, List.set_cons_succ]
          refine wpAnyH_take (i := 1) (oi := ?ozz2) (v := ?vzz2) ?hzz2 ?azz2 ?bzz2 ?czz2 ?qzz2 ?yzz2 ?szz2 ?rzz2
          case hzz2 => simp only [List.getElem?_toArray, List.getElem?_cons_zero, List.getElem?_cons_succ]; rfl
          case azz2 => kernel_rfl
          case bzz2 => kernel_rfl
          case czz2 => kernel_rfl
          case yzz2 =>
            refine Or.inl ⟨by rfl, ?_⟩
            intro w hSw
            skip
            go_simp
            try with_reducible rfl
          case qzz2 => exact fun _ _ _ h => h
          case szz2 => first | assumption | trivial
          case' rzz2 => simp only [Act.put, List.setIfInBounds_toArray, List.set_cons_zero, List.set_cons_succ]
          refine wpAnyH_take (i := 2) (oi := ?ozz3) (v := ?vzz3) ?hzz3 ?azz3 ?bzz3 ?czz3 ?qzz3 ?yzz3 ?szz3 ?rzz3
          case hzz3 => simp only [List.getElem?_toArray, List.getElem?_cons_zero, List.getElem?_cons_succ]; rfl
          case azz3 => kernel_rfl
          case bzz3 => kernel_rfl
          case czz3 => kernel_rfl
          case yzz3 =>
            refine Or.inl ⟨by rfl, ?_⟩
            intro w hSw
            skip
            go_simp
            try with_reducible rfl
          case qzz3 => exact fun _ _ _ h => h
          case szz3 => first | assumption | trivial
          case' rzz3 => simp only [Act.put, List.setIfInBounds_toArray, List.set_cons_zero, List.set_cons_succ]
          refine wpAnyH_take (i := 3) (oi := ?ozz4) (v := ?vzz4) ?hzz4 ?azz4 ?bzz4 ?czz4 ?qzz4 ?yzz4 ?szz4 ?rzz4
          case hzz4 => simp only [List.getElem?_toArray, List.getElem?_cons_zero, List.getElem?_cons_succ]; rfl
          case azz4 => kernel_rfl
          case bzz4 => kernel_rfl
          case czz4 => kernel_rfl
          case yzz4 =>
            refine Or.inl ⟨by rfl, ?_⟩
            intro w hSw
            skip
            go_simp
            try with_reducible rfl
          case qzz4 => exact fun _ _ _ h => h
          case szz4 => first | assumption | trivial
          case' rzz4 => simp only [Act.put, List.setIfInBounds_toArray, List.set_cons_zero, List.set_cons_succ]
          refine wpAnyH_take (i := 4) (oi := ?ozz5) (v := ?vzz5) ?hzz5 ?azz5 ?bzz5 ?czz5 ?qzz5 ?yzz5 ?szz5 ?rzz5
          case hzz5 => simp only [List.getElem?_toArray, List.getElem?_cons_zero, List.getElem?_cons_succ]; rfl
          case azz5 => kernel_rfl
          case bzz5 => kernel_rfl
          case czz5 => kernel_rfl
          case yzz5 =>
            refine Or.inl ⟨by rfl, ?_⟩
            intro w hSw
            have x0 := box_ hSw c0; clear hSw
            go_simp
            try with_reducible rfl
          case qzz5 => exact fun _ _ _ h => h
          case szz5 => first | assumption | trivial
          case' rzz5 => simp only [Act.put, List.setIfInBounds_toArray, List.set_cons_zero, List.set_cons_succ]
          refine wpAnyH_take (i := 5) (oi := ?ozz6) (v := ?vzz6) ?hzz6 ?azz6 ?bzz6 ?czz6 ?qzz6 ?yzz6 ?szz6 ?rzz6
          case hzz6 => simp only [List.getElem?_toArray, List.getElem?_cons_zero, List.getElem?_cons_succ]; rfl
          case azz6 => kernel_rfl
          case bzz6 => kernel_rfl
          case czz6 => kernel_rfl
          case yzz6 =>
            refine Or.inl ⟨by rfl, ?_⟩
            intro w hSw
            skip
            go_simp
            try with_reducible rfl
          case qzz6 => exact fun _ _ _ h => h
          case szz6 => first | assumption | trivial
          case' rzz6 => simp only [Act.put, List.setIfInBounds_toArray, List.set_cons_zero, List.set_cons_succ]
          refine wpAnyH_ready (rs := [6]) (by kernel_rfl) (by simp) ?_
          refine AllReadyH.cons (o := ?ozz9) ?hzz9 (fun K hK => ?kzz9) ?mzz9
          case hzz9 => simp only [List.getElem?_toArray, List.getElem?_cons_zero, List.getElem?_cons_succ]; rfl
          case kzz9 =>
            go_simp
            refine (KN.out _ (HQ2.out.trans hHeld)).mono ?_
            rintro e v3 ⟨rfl, q3⟩
            go_wp2_with fail
            refine hK.out _ _ ?Szz9 (fun hHeld => ?Rzz9)
            case Szz9 =>
              exact hHeld.trans q3
            case Rzz9 =>
              clear hK K
              try simp only [Act.put, List.setIfInBounds_toArray, List.set_cons_zero, List.set_cons_succ]
              refine wpAnyH_take (i := 7) (oi := ?ozz7) (v := ?vzz7) ?hzz7 ?azz7 ?bzz7 ?czz7 ?qzz7 ?yzz7 ?szz7 ?rzz7
              case hzz7 => simp only [List.getElem?_toArray, List.getElem?_cons_zero, List.getElem?_cons_succ]; rfl
              case azz7 => kernel_rfl
              case bzz7 => kernel_rfl
              case czz7 => kernel_rfl
              case yzz7 =>
                refine Or.inl ⟨by rfl, ?_⟩
                intro w hSw
                skip
                go_simp
                try with_reducible rfl
              case qzz7 => exact fun _ _ _ h => h
              case szz7 => first | assumption | trivial
              case' rzz7 => simp only [Act.put, List.setIfInBounds_toArray, List.set_cons_zero, List.set_cons_succ]
              refine wpAnyH_take (i := 8) (oi := ?ozz8) (v := ?vzz8) ?hzz8 ?azz8 ?bzz8 ?czz8 ?qzz8 ?yzz8 ?szz8 ?rzz8
              case hzz8 => simp only [List.getElem?_toArray, List.getElem?_cons_zero, List.getElem?_cons_succ]; rfl
              case azz8 => kernel_rfl
              case bzz8 => kernel_rfl
              case czz8 => kernel_rfl
              case yzz8 =>
                refine Or.inl ⟨by rfl, ?_⟩
                intro w hSw
                skip
                go_simp
                try with_reducible rfl
              case qzz8 => exact fun _ _ _ h => h
              case szz8 => first | assumption | trivial
              case' rzz8 => simp only [Act.put, List.setIfInBounds_toArray, List.set_cons_zero, List.set_cons_succ]
              refine wpAnyH_done (by kernel_rfl) ?_ _
              have HX := Lib.hid ((X1.out.trans q2).trans hHeld)
              go_wp2_with (at_builtin
                           refine wpl_appK numK rfl (.tmp 31) (.tmp 33) 52 rfl rfl w.heap.size A2 k c2 (rawN (d.fs.take j)) rfl ((HO.out.keep (HX.out.below) (Nat.le_refl _)).alloc (.cells #[.int .i64 v] 3)) (some ⟨v3.heap.size, 0, none⟩) 1 1 [v] rfl (lst_lit1 v3 v) (fun e => by cases e) (by show (k + 1) * 8 ≤ _; omega) (by have := (HQ.out.trans HX.out).size; simp; omega) ?_
                           intro A3 c3 w4 ho3 hb3)
              go_roundw
              case rel => exact ⟨j + 1, A3, k + 1, c3, by omega, by omega, by go_num, rfl, HR2.out ▸ ho3, ((HQ.out.trans HX.out).alloc (.cells #[.int .i64 v] 3)).below.trans hb3⟩
              case measure => simp [intOf]; omega
          case' mzz9 => skip
          exact AllReadyH.nil
        · have HR2 : Hid (rawN (d.fs.take (j + 1)) = rawN (d.fs.take j)) := Lib.hid (by rw [HR.out, show numOf nm = none by unfold numOf; rw [ha]; simp only; rw [if_neg hn]]; simp)
          have es := same_str nm (namB v)
          rw [decide_eq_false hn] at es
          have KN := Lib.hid (fun W (q : Q w W) => name_any v W (HT.out.q q))
          clear ha hn
          generalize namB v = nb at KN es
          go_wp2_with fail
          refine (KA.out _).mono ?_
          rintro e W2 ⟨rfl, q2⟩
          have c0 := box_ q2 c0
          have HQ2 := Lib.hid ((HQ.out.trans X1.out).trans q2)
          go_upto_region 6 with (fail)
          refine wp_region_held_drew (S := Q W2) (by kernel_rfl) ?szz10 (fun hHeld => ?rzz10)
          case szz10 =>
            exact (Q.refl W2).drew
          case' rzz10 => skip
          refine wpAnyH_take (i := 0) (oi := ?ozz11) (v := ?vzz11) ?hzz11 ?azz11 ?bzz11 ?czz11 ?qzz11 ?yzz11 ?szz11 ?rzz11
          case hzz11 => simp only [List.getElem?_toArray, List.getElem?_cons_zero]; rfl
          case azz11 => kernel_rfl
          case bzz11 => kernel_rfl
          case czz11 => kernel_rfl
          case yzz11 =>
            refine Or.inl ⟨by rfl, ?_⟩
            intro w hSw
            skip
            go_simp
            try with_reducible rfl
          case qzz11 => exact fun _ _ _ h => h
          case szz11 => first | assumption | trivial
          case' rzz11 => simp only [Act.put, List.setIfInBounds_toArray, List.set_cons_zero, List.set_cons_succ]
          refine wpAnyH_take (i := 1) (oi := ?ozz12) (v := ?vzz12) ?hzz12 ?azz12 ?bzz12 ?czz12 ?qzz12 ?yzz12 ?szz12 ?rzz12
          case hzz12 => simp only [List.getElem?_toArray, List.getElem?_cons_zero, List.getElem?_cons_succ]; rfl
          case azz12 => kernel_rfl
          case bzz12 => kernel_rfl
          case czz12 => kernel_rfl
          case yzz12 =>
            refine Or.inl ⟨by rfl, ?_⟩
            intro w hSw
            skip
            go_simp
            try with_reducible rfl
          case qzz12 => exact fun _ _ _ h => h
          case szz12 => first | assumption | trivial
          case' rzz12 => simp only [Act.put, List.setIfInBounds_toArray, List.set_cons_zero, List.set_cons_succ]
          refine wpAnyH_take (i := 2) (oi := ?ozz13) (v := ?vzz13) ?hzz13 ?azz13 ?bzz13 ?czz13 ?qzz13 ?yzz13 ?szz13 ?rzz13
          case hzz13 => simp only [List.getElem?_toArray, List.getElem?_cons_zero, List.getElem?_cons_succ]; rfl
          case azz13 => kernel_rfl
          case bzz13 => kernel_rfl
          case czz13 => kernel_rfl
          case yzz13 =>
            refine Or.inl ⟨by rfl, ?_⟩
            intro w hSw
            skip
            go_simp
            try with_reducible rfl
          case qzz13 => exact fun _ _ _ h => h
          case szz13 => first | assumption | trivial
          case' rzz13 => simp only [Act.put, List.setIfInBounds_toArray, List.set_cons_zero, List.set_cons_succ]
          refine wpAnyH_take (i := 3) (oi := ?ozz14) (v := ?vzz14) ?hzz14 ?azz14 ?bzz14 ?czz14 ?qzz14 ?yzz14 ?szz14 ?rzz14
          case hzz14 => simp only [List.getElem?_toArray, List.getElem?_cons_zero, List.getElem?_cons_succ]; rfl
          case azz14 => kernel_rfl
          case bzz14 => kernel_rfl
          case czz14 => kernel_rfl
          case yzz14 =>
            refine Or.inl ⟨by rfl, ?_⟩
            intro w hSw
            skip
            go_simp
            try with_reducible rfl
          case qzz14 => exact fun _ _ _ h => h
          case szz14 => first | assumption | trivial
          case' rzz14 => simp only [Act.put, List.setIfInBounds_toArray, List.set_cons_zero, List.set_cons_succ]
          refine wpAnyH_take (i := 4) (oi := ?ozz15) (v := ?vzz15) ?hzz15 ?azz15 ?bzz15 ?czz15 ?qzz15 ?yzz15 ?szz15 ?rzz15
          case hzz15 => simp only [List.getElem?_toArray, List.getElem?_cons_zero, List.getElem?_cons_succ]; rfl
          case azz15 => kernel_rfl
          case bzz15 => kernel_rfl
          case czz15 => kernel_rfl
          case yzz15 =>
            refine Or.inl ⟨by rfl, ?_⟩
            intro w hSw
            have x0 := box_ hSw c0; clear hSw
            go_simp
            try with_reducible rfl
          case qzz15 => exact fun _ _ _ h => h
          case szz15 => first | assumption | trivial
          case' rzz15 => simp only [Act.put, List.setIfInBounds_toArray, List.set_cons_zero, List.set_cons_succ]
          refine wpAnyH_take (i := 5) (oi := ?ozz16) (v := ?vzz16) ?hzz16 ?azz16 ?bzz16 ?czz16 ?qzz16 ?yzz16 ?szz16 ?rzz16
          case hzz16 => simp only [List.getElem?_toArray, List.getElem?_cons_zero, List.getElem?_cons_succ]; rfl
          case azz16 => kernel_rfl
          case bzz16 => kernel_rfl
          case czz16 => kernel_rfl
          case yzz16 =>
            refine Or.inl ⟨by rfl, ?_⟩
            intro w hSw
            skip
            go_simp
            try with_reducible rfl
          case qzz16 => exact fun _ _ _ h => h
          case szz16 => first | assumption | trivial
          case' rzz16 => simp only [Act.put, List.setIfInBounds_toArray, List.set_cons_zero, List.set_cons_succ]
          refine wpAnyH_ready (rs := [6]) (by kernel_rfl) (by simp) ?_
          refine AllReadyH.cons (o := ?ozz19) ?hzz19 (fun K hK => ?kzz19) ?mzz19
          case hzz19 => simp only [List.getElem?_toArray, List.getElem?_cons_zero, List.getElem?_cons_succ]; rfl
          case kzz19 =>
            go_simp
            refine (KN.out _ (HQ2.out.trans hHeld)).mono ?_
            rintro e v3 ⟨rfl, q3⟩
            go_wp2_with fail
            refine hK.out _ _ ?Szz19 (fun hHeld => ?Rzz19)
            case Szz19 =>
              exact hHeld.trans q3
            case Rzz19 =>
              clear hK K
              try simp only [Act.put, List.setIfInBounds_toArray, List.set_cons_zero, List.set_cons_succ]
              refine wpAnyH_take (i := 7) (oi := ?ozz17) (v := ?vzz17) ?hzz17 ?azz17 ?bzz17 ?czz17 ?qzz17 ?yzz17 ?szz17 ?rzz17
              case hzz17 => simp only [List.getElem?_toArray, List.getElem?_cons_zero, List.getElem?_cons_succ]; rfl
              case azz17 => kernel_rfl
              case bzz17 => kernel_rfl
              case czz17 => kernel_rfl
              case yzz17 =>
                refine Or.inl ⟨by rfl, ?_⟩
                intro w hSw
                skip
                go_simp
                try with_reducible rfl
              case qzz17 => exact fun _ _ _ h => h
              case szz17 => first | assumption | trivial
              case' rzz17 => simp only [Act.put, List.setIfInBounds_toArray, List.set_cons_zero, List.set_cons_succ]
              refine wpAnyH_take (i := 8) (oi := ?ozz18) (v := ?vzz18) ?hzz18 ?azz18 ?bzz18 ?czz18 ?qzz18 ?yzz18 ?szz18 ?rzz18
              case hzz18 => simp only [List.getElem?_toArray, List.getElem?_cons_zero, List.getElem?_cons_succ]; rfl
              case azz18 => kernel_rfl
              case bzz18 => kernel_rfl
              case czz18 => kernel_rfl
              case yzz18 =>
                refine Or.inl ⟨by rfl, ?_⟩
                intro w hSw
                skip
                go_simp
                try with_reducible rfl
              case qzz18 => exact fun _ _ _ h => h
              case szz18 => first | assumption | trivial
              case' rzz18 => simp only [Act.put, List.setIfInBounds_toArray, List.set_cons_zero, List.set_cons_succ]
              refine wpAnyH_done (by kernel_rfl) ?_ _
              have HX := Lib.hid ((X1.out.trans q2).trans hHeld)
              go_wp2
              go_roundw
              case rel => exact ⟨j + 1, A2, k, c2, by omega, by omega, by go_num, rfl, HR2.out ▸ HO.out.keep (HX.out.below) (Nat.le_refl _), HQ.out.trans HX.out⟩
              case measure => simp [intOf]; omega
          case' mzz19 => skip
          exact AllReadyH.nil
      · have HR2 : Hid (rawN (d.fs.take (j + 1)) = rawN (d.fs.take j)) := Lib.hid (by rw [HR.out, show numOf nm = none by unfold numOf; rw [ha]]; simp)
        have KA := Lib.hid (fun W => atoi_no ⟨(Lib.trimPrefix nm.data.toList [119]).toArray⟩ (fun v e => by rw [show (⟨(Lib.trimPrefix nm.data.toList [119]).toArray⟩ : ByteArray).data.toList = Lib.trimPrefix nm.data.toList [119] from rfl, ha] at e; cases e) HTs.out W)
        clear ha
        go_wp2_with fail
        refine (KA.out _ (HE.out.q (HQ.out.trans X1.out))).mono ?_
        rintro e W2 ⟨v, t, p, rfl, q2⟩
        have c0 := box_ q2 c0
        have HQ2 := Lib.hid ((HQ.out.trans X1.out).trans q2)
        go_upto_region 6 with (fail)
        refine wp_region_held_drew (S := Q W2) (by kernel_rfl) ?szz20 (fun hHeld => ?rzz20)
        case szz20 =>
          exact (Q.refl W2).drew
        case' rzz20 => skip
        refine wpAnyH_take (i := 0) (oi := ?ozz21) (v := ?vzz21) ?hzz21 ?azz21 ?bzz21 ?czz21 ?qzz21 ?yzz21 ?szz21 ?rzz21
        case hzz21 => simp only [List.getElem?_toArray, List.getElem?_cons_zero]; rfl
        case azz21 => kernel_rfl
        case bzz21 => kernel_rfl
        case czz21 => kernel_rfl
        case yzz21 =>
          refine Or.inl ⟨by rfl, ?_⟩
          intro w hSw
          skip
          go_simp
          try with_reducible rfl
        case qzz21 => exact fun _ _ _ h => h
        case szz21 => first | assumption | trivial
        case' rzz21 => simp only [Act.put, List.setIfInBounds_toArray, List.set_cons_zero, List.set_cons_succ]
        refine wpAnyH_take (i := 1) (oi := ?ozz22) (v := ?vzz22) ?hzz22 ?azz22 ?bzz22 ?czz22 ?qzz22 ?yzz22 ?szz22 ?rzz22
        case hzz22 => simp only [List.getElem?_toArray, List.getElem?_cons_zero, List.getElem?_cons_succ]; rfl
        case azz22 => kernel_rfl
        case bzz22 => kernel_rfl
        case czz22 => kernel_rfl
        case yzz22 =>
          refine Or.inl ⟨by rfl, ?_⟩
          intro w hSw
          skip
          go_simp
          try with_reducible rfl
        case qzz22 => exact fun _ _ _ h => h
        case szz22 => first | assumption | trivial
        case' rzz22 => simp only [Act.put, List.setIfInBounds_toArray, List.set_cons_zero, List.set_cons_succ]
        refine wpAnyH_take (i := 2) (oi := ?ozz23) (v := ?vzz23) ?hzz23 ?azz23 ?bzz23 ?czz23 ?qzz23 ?yzz23 ?szz23 ?rzz23
        case hzz23 => simp only [List.getElem?_toArray, List.getElem?_cons_zero, List.getElem?_cons_succ]; rfl
        case azz23 => kernel_rfl
        case bzz23 => kernel_rfl
        case czz23 => kernel_rfl
        case yzz23 =>
          refine Or.inl ⟨by rfl, ?_⟩
          intro w hSw
          skip
          go_simp
          try with_reducible rfl
        case qzz23 => exact fun _ _ _ h => h
        case szz23 => first | assumption | trivial
        case' rzz23 => simp only [Act.put, List.setIfInBounds_toArray, List.set_cons_zero, List.set_cons_succ]
        refine wpAnyH_take (i := 3) (oi := ?ozz24) (v := undef) ?hzz24 ?azz24 ?bzz24 ?czz24 ?qzz24 ?yzz24 ?szz24 ?rzz24
        case hzz24 => simp only [List.getElem?_toArray, List.getElem?_cons_zero, List.getElem?_cons_succ]; rfl
        case azz24 => kernel_rfl
        case bzz24 => kernel_rfl
        case czz24 => kernel_rfl
        case yzz24 => exact Or.inr ⟨by rfl, rfl⟩
        case qzz24 => exact fun _ _ _ h => h
        case szz24 => first | assumption | trivial
        case' rzz24 => simp only [Act.put, List.setIfInBounds_toArray, List.set_cons_zero, List.set_cons_succ]
        refine wpAnyH_take (i := 4) (oi := ?ozz25) (v := undef) ?hzz25 ?azz25 ?bzz25 ?czz25 ?qzz25 ?yzz25 ?szz25 ?rzz25
        case hzz25 => simp only [List.getElem?_toArray, List.getElem?_cons_zero, List.getElem?_cons_succ]; rfl
        case azz25 => kernel_rfl
        case bzz25 => kernel_rfl
        case czz25 => kernel_rfl
        case yzz25 => exact Or.inr ⟨by rfl, rfl⟩
        case qzz25 => exact fun _ _ _ h => h
        case szz25 => first | assumption | trivial
        case' rzz25 => simp only [Act.put, List.setIfInBounds_toArray, List.set_cons_zero, List.set_cons_succ]
        refine wpAnyH_take (i := 5) (oi := ?ozz26) (v := undef) ?hzz26 ?azz26 ?bzz26 ?czz26 ?qzz26 ?yzz26 ?szz26 ?rzz26
        case hzz26 => simp only [List.getElem?_toArray, List.getElem?_cons_zero, List.getElem?_cons_succ]; rfl
        case azz26 => kernel_rfl
        case bzz26 => kernel_rfl
        case czz26 => kernel_rfl
        case yzz26 => exact Or.inr ⟨by rfl, rfl⟩
        case qzz26 => exact fun _ _ _ h => h
        case szz26 => first | assumption | trivial
        case' rzz26 => simp only [Act.put, List.setIfInBounds_toArray, List.set_cons_zero, List.set_cons_succ]
        refine wpAnyH_take (i := 6) (oi := ?ozz27) (v := undef) ?hzz27 ?azz27 ?bzz27 ?czz27 ?qzz27 ?yzz27 ?szz27 ?rzz27
        case hzz27 => simp only [List.getElem?_toArray, List.getElem?_cons_zero, List.getElem?_cons_succ]; rfl
        case azz27 => kernel_rfl
        case bzz27 => kernel_rfl
        case czz27 => kernel_rfl
        case yzz27 => exact Or.inr ⟨by rfl, rfl⟩
        case qzz27 => exact fun _ _ _ h => h
        case szz27 => first | assumption | trivial
        case' rzz27 => simp only [Act.put, List.setIfInBounds_toArray, List.set_cons_zero, List.set_cons_succ]
        refine wpAnyH_take (i := 7) (oi := ?ozz28) (v := undef) ?hzz28 ?azz28 ?bzz28 ?czz28 ?qzz28 ?yzz28 ?szz28 ?rzz28
        case hzz28 => simp only [List.getElem?_toArray, List.getElem?_cons_zero, List.getElem?_cons_succ]; rfl
        case azz28 => kernel_rfl
        case bzz28 => kernel_rfl
        case czz28 => kernel_rfl
        case yzz28 => exact Or.inr ⟨by rfl, rfl⟩
        case qzz28 => exact fun _ _ _ h => h
        case szz28 => first | assumption | trivial
        case' rzz28 => simp only [Act.put, List.setIfInBounds_toArray, List.set_cons_zero, List.set_cons_succ]
        refine wpAnyH_take (i := 8) (oi := ?ozz29) (v := ?vzz29) ?hzz29 ?azz29 ?bzz29 ?czz29 ?qzz29 ?yzz29 ?szz29 ?rzz29
        case hzz29 => simp only [List.getElem?_toArray, List.getElem?_cons_zero, List.getElem?_cons_succ]; rfl
        case azz29 => kernel_rfl
        case bzz29 => kernel_rfl
        case czz29 => kernel_rfl
        case yzz29 =>
          refine Or.inl ⟨by rfl, ?_⟩
          intro w hSw
          skip
          go_simp
          try with_reducible rfl
        case qzz29 => exact fun _ _ _ h => h
        case szz29 => first | assumption | trivial
        case' rzz29 => simp only [Act.put, List.setIfInBounds_toArray, List.set_cons_zero, List.set_cons_succ]
        refine wpAnyH_done (by kernel_rfl) ?_ _
        have HX := Lib.hid ((X1.out.trans q2).trans hHeld)
        go_wp2
        go_roundw
        case rel => exact ⟨j + 1, A2, k, c2, by omega, by omega, by go_num, rfl, HR2.out ▸ HO.out.keep (HX.out.below) (Nat.le_refl _), HQ.out.trans HX.out⟩
        case measure => simp [intOf]; omega
      · have HR2 : Hid (rawN (d.fs.take (j + 1)) = rawN (d.fs.take j)) := Lib.hid (by rw [HR.out, show numOf nm = none by unfold numOf; rw [ha]]; simp)
        have KA := Lib.hid (fun W => atoi_no ⟨(Lib.trimPrefix nm.data.toList [119]).toArray⟩ (fun v e => by rw [show (⟨(Lib.trimPrefix nm.data.toList [119]).toArray⟩ : ByteArray).data.toList = Lib.trimPrefix nm.data.toList [119] from rfl, ha] at e; cases e) HTs.out W)
        clear ha
        go_wp2_with fail
        refine (KA.out _ (HE.out.q (HQ.out.trans X1.out))).mono ?_
        rintro e W2 ⟨v, t, p, rfl, q2⟩
        have c0 := box_ q2 c0
        have HQ2 := Lib.hid ((HQ.out.trans X1.out).trans q2)
        go_upto_region 6 with (fail)
        refine wp_region_held_drew (S := Q W2) (by kernel_rfl) ?szz30 (fun hHeld => ?rzz30)
        case szz30 =>
          exact (Q.refl W2).drew
        case' rzz30 => skip
        refine wpAnyH_take (i := 0) (oi := ?ozz31) (v := ?vzz31) ?hzz31 ?azz31 ?bzz31 ?czz31 ?qzz31 ?yzz31 ?szz31 ?rzz31
        case hzz31 => simp only [List.getElem?_toArray, List.getElem?_cons_zero]; rfl
        case azz31 => kernel_rfl
        case bzz31 => kernel_rfl
        case czz31 => kernel_rfl
        case yzz31 =>
          refine Or.inl ⟨by rfl, ?_⟩
          intro w hSw
          skip
          go_simp
          try with_reducible rfl
        case qzz31 => exact fun _ _ _ h => h
        case szz31 => first | assumption | trivial
        case' rzz31 => simp only [Act.put, List.setIfInBounds_toArray, List.set_cons_zero, List.set_cons_succ]
        refine wpAnyH_take (i := 1) (oi := ?ozz32) (v := ?vzz32) ?hzz32 ?azz32 ?bzz32 ?czz32 ?qzz32 ?yzz32 ?szz32 ?rzz32
        case hzz32 => simp only [List.getElem?_toArray, List.getElem?_cons_zero, List.getElem?_cons_succ]; rfl
        case azz32 => kernel_rfl
        case bzz32 => kernel_rfl
        case czz32 => kernel_rfl
        case yzz32 =>
          refine Or.inl ⟨by rfl, ?_⟩
          intro w hSw
          skip
          go_simp
          try with_reducible rfl
        case qzz32 => exact fun _ _ _ h => h
        case szz32 => first | assumption | trivial
        case' rzz32 => simp only [Act.put, List.setIfInBounds_toArray, List.set_cons_zero, List.set_cons_succ]
        refine wpAnyH_take (i := 2) (oi := ?ozz33) (v := ?vzz33) ?hzz33 ?azz33 ?bzz33 ?czz33 ?qzz33 ?yzz33 ?szz33 ?rzz33
        case hzz33 => simp only [List.getElem?_toArray, List.getElem?_cons_zero, List.getElem?_cons_succ]; rfl
        case azz33 => kernel_rfl
        case bzz33 => kernel_rfl
        case czz33 => kernel_rfl
        case yzz33 =>
          refine Or.inl ⟨by rfl, ?_⟩
          intro w hSw
          skip
          go_simp
          try with_reducible rfl
        case qzz33 => exact fun _ _ _ h => h
        case szz33 => first | assumption | trivial
        case' rzz33 => simp only [Act.put, List.setIfInBounds_toArray, List.set_cons_zero, List.set_cons_succ]
        refine wpAnyH_take (i := 3) (oi := ?ozz34) (v := undef) ?hzz34 ?azz34 ?bzz34 ?czz34 ?qzz34 ?yzz34 ?szz34 ?rzz34
        case hzz34 => simp only [List.getElem?_toArray, List.getElem?_cons_zero, List.getElem?_cons_succ]; rfl
        case azz34 => kernel_rfl
        case bzz34 => kernel_rfl
        case czz34 => kernel_rfl
        case yzz34 => exact Or.inr ⟨by rfl, rfl⟩
        case qzz34 => exact fun _ _ _ h => h
        case szz34 => first | assumption | trivial
        case' rzz34 => simp only [Act.put, List.setIfInBounds_toArray, List.set_cons_zero, List.set_cons_succ]
        refine wpAnyH_take (i := 4) (oi := ?ozz35) (v := undef) ?hzz35 ?azz35 ?bzz35 ?czz35 ?qzz35 ?yzz35 ?szz35 ?rzz35
        case hzz35 => simp only [List.getElem?_toArray, List.getElem?_cons_zero, List.getElem?_cons_succ]; rfl
        case azz35 => kernel_rfl
        case bzz35 => kernel_rfl
        case czz35 => kernel_rfl
        case yzz35 => exact Or.inr ⟨by rfl, rfl⟩
        case qzz35 => exact fun _ _ _ h => h
        case szz35 => first | assumption | trivial
        case' rzz35 => simp only [Act.put, List.setIfInBounds_toArray, List.set_cons_zero, List.set_cons_succ]
        refine wpAnyH_take (i := 5) (oi := ?ozz36) (v := undef) ?hzz36 ?azz36 ?bzz36 ?czz36 ?qzz36 ?yzz36 ?szz36 ?rzz36
        case hzz36 => simp only [List.getElem?_toArray, List.getElem?_cons_zero, List.getElem?_cons_succ]; rfl
        case azz36 => kernel_rfl
        case bzz36 => kernel_rfl
        case czz36 => kernel_rfl
        case yzz36 => exact Or.inr ⟨by rfl, rfl⟩
        case qzz36 => exact fun _ _ _ h => h
        case szz36 => first | assumption | trivial
        case' rzz36 => simp only [Act.put, List.setIfInBounds_toArray, List.set_cons_zero, List.set_cons_succ]
        refine wpAnyH_take (i := 6) (oi := ?ozz37) (v := undef) ?hzz37 ?azz37 ?bzz37 ?czz37 ?qzz37 ?yzz37 ?szz37 ?rzz37
        case hzz37 => simp only [List.getElem?_toArray, List.getElem?_cons_zero, List.getElem?_cons_succ]; rfl
        case azz37 => kernel_rfl
        case bzz37 => kernel_rfl
        case czz37 => kernel_rfl
        case yzz37 => exact Or.inr ⟨by rfl, rfl⟩
        case qzz37 => exact fun _ _ _ h => h
        case szz37 => first | assumption | trivial
        case' rzz37 => simp only [Act.put, List.setIfInBounds_toArray, List.set_cons_zero, List.set_cons_succ]
        refine wpAnyH_take (i := 7) (oi := ?ozz38) (v := undef) ?hzz38 ?azz38 ?bzz38 ?czz38 ?qzz38 ?yzz38 ?szz38 ?rzz38
        case hzz38 => simp only [List.getElem?_toArray, List.getElem?_cons_zero, List.getElem?_cons_succ]; rfl
        case azz38 => kernel_rfl
        case bzz38 => kernel_rfl
        case czz38 => kernel_rfl
        case yzz38 => exact Or.inr ⟨by rfl, rfl⟩
        case qzz38 => exact fun _ _ _ h => h
        case szz38 => first | assumption | trivial
        case' rzz38 => simp only [Act.put, List.setIfInBounds_toArray, List.set_cons_zero, List.set_cons_succ]
        refine wpAnyH_take (i := 8) (oi := ?ozz39) (v := ?vzz39) ?hzz39 ?azz39 ?bzz39 ?czz39 ?qzz39 ?yzz39 ?szz39 ?rzz39
        case hzz39 => simp only [List.getElem?_toArray, List.getElem?_cons_zero, List.getElem?_cons_succ]; rfl
        case azz39 => kernel_rfl
        case bzz39 => kernel_rfl
        case czz39 => kernel_rfl
        case yzz39 =>
          refine Or.inl ⟨by rfl, ?_⟩
          intro w hSw
          skip
          go_simp
          try with_reducible rfl
        case qzz39 => exact fun _ _ _ h => h
        case szz39 => first | assumption | trivial
        case' rzz39 => simp only [Act.put, List.setIfInBounds_toArray, List.set_cons_zero, List.set_cons_succ]
        refine wpAnyH_done (by kernel_rfl) ?_ _
        have HX := Lib.hid ((X1.out.trans q2).trans hHeld)
        go_wp2
        go_roundw
        case rel => exact ⟨j + 1, A2, k, c2, by omega, by omega, by go_num, rfl, HR2.out ▸ HO.out.keep (HX.out.below) (Nat.le_refl _), HQ.out.trans HX.out⟩
        case measure => simp [intOf]; omega
    · have ej : n = j := by omega
      subst ej
      have hnl : d.fs.take n = d.fs := List.take_of_length_le (by rw [HL.out]; exact Nat.le_refl _)
      rw [hnl] at HO
      go_wp2_with fail
      refine (sort_any A2 k c2 w.heap.size _ wr HO.out HQ.out.size (by omega)).mono ?_
      rintro e w1 ⟨rfl, ho1, q1⟩
      have HO1 := Lib.hid ho1
      have HQ1 := Lib.hid (HQ.out.below.trans q1)
      clear ho1 q1 hnl HO
      go_wp2_with fail
      refine (compact_any A2 k c2 w.heap.size _ w1 HO1.out HQ1.out.size).mono ?_
      rintro e w2 ⟨rfl, ho2, q2⟩
      have HO2 := Lib.hid ho2
      have HQ2 : Hid (Q w w2) := Lib.hid (HQ1.out.trans q2)
      clear ho2 q2
      go_wp2
      go_ret
      refine ⟨A2, _, c2, rfl, HO2.out.lst.ints, Nat.le_trans HO2.out.le HO2.out.cap, fun ad e => ?_, HQ2.out⟩
      rcases HO2.out.parts with ⟨e0, _⟩ | ⟨g, cur, e0, hb, _⟩
      · rw [e0] at e; cases e
      · rw [e0] at e; injection e with e; subst e; exact hb
end Go.Proofs.YtggbdhnjogalgaaGreatDoor

/- Out of a row's list: strconv's two errors. -/
namespace Go.Proofs.YtggbdhnjogalgaaGreatDoor
set_option maxRecDepth 100000
open Go.ChangeShapes Go.WideShapes Go.ChangeAt Go.RowKit
set_option linter.unusedVariables false

theorem stGd : Tryz.prog.globalNamed "strconv.ErrRange" = some 1 := by kernel_rfl
theorem stGdT : (Tryz.prog.globals[1]?).map (·.type) = some 80 := by kernel_rfl
theorem stGr : Tryz.prog.globalNamed "strconv.ErrSyntax" = some 0 := by kernel_rfl
theorem stGrT : (Tryz.prog.globals[0]?).map (·.type) = some 80 := by kernel_rfl
theorem stStar : "*" ++ "errors.errorString" = "*errors.errorString" := by decide
theorem stRow (u : TypeId) (h : Tryz.prog.typeName? 3 u = some "*errors.errorString") : u = 160 :=
  typeName_ptr_named (nm := "errors.errorString") (by rw [stStar]; kernel_rfl) (by kernel_rfl) (by decide) u (by rw [stStar]; exact h)
theorem stCells : Tryz.prog.cellsOf 162 = 1 := by kernel_rfl
theorem stCellsS : Tryz.prog.cellsOf 9 = 1 := by kernel_rfl
theorem errs_of {r : List (String × DataW Unit)} {W : World} (h : laidMet Tryz.prog (("strconv.ErrRange", Rows.laid_strconv_ErrRange) :: ("strconv.ErrSyntax", Rows.laid_strconv_ErrSyntax) :: r) W) : Errs W := by
  obtain ⟨a0, a1, s0, s1, c0, c1, t0, t1, v0, v1, _, _, _, _, _, _, hne, h0, h1⟩ := laid_sentinels2 h stGd stGdT stGr stGrT Tryz.underlying80 stRow Tryz.underlying160 Tryz.underlying162 rfl rfl Tryz.underlying9 stCells stCellsS
  exact ⟨⟨.iface 160 (.pointer (some a1)), by simpa using World.var?_cell stGr v1 0, .inr ⟨_, _, rfl⟩⟩, .iface 160 (.pointer (some a0)), by simpa using World.var?_cell stGd v0 0, .inr ⟨_, _, rfl⟩⟩
theorem errs_laid {x y z : String × DataW Unit} {W : World} (hp : ((x :: y :: z :: ("strconv.ErrRange", Rows.laid_strconv_ErrRange) :: ("strconv.ErrSyntax", Rows.laid_strconv_ErrSyntax) :: []).all fun z => z.2.handleName?.isNone) = true)
    (h : laidMetH Tryz.prog (x :: y :: z :: ("strconv.ErrRange", Rows.laid_strconv_ErrRange) :: ("strconv.ErrSyntax", Rows.laid_strconv_ErrSyntax) :: []) W) : Errs W := by
  rw [MakeChecks.laidMetH_plain _ _ _ hp] at h
  exact errs_of (laidMet.tail (laidMet.tail (laidMet.tail h)))
end Go.Proofs.YtggbdhnjogalgaaGreatDoor

/- Contracts: the document's Crash. -/
namespace Go.Proofs.YtggbdhnjogalgaaGreatDoor
set_option maxRecDepth 100000
open Go.RowKit Dkm
set_option linter.unusedVariables false

namespace Dkm
def crd (ks : List Int) (l : List Fil) (k : Nat) : List Fil := (l.take k).mapIdx (crf ks)
theorem crd_succ (ks : List Int) (l : List Fil) (k : Nat) (h : k < l.length) : crd ks l (k + 1) = crd ks l k ++ [crf ks k l[k]] := by
  unfold crd
  rw [List.take_succ_eq_append_getElem h, List.mapIdx_append]
  simp [show min k l.length = k by omega]
theorem crd_all (ks : List Int) (l : List Fil) : crl ks l l.length = crd ks l l.length := by simp [crl, crd]
theorem wrap_less (r : Int) (a b : Nat) : wrap64 (wrap64 (r + a) - b) = wrap64 (r + ((a : Int) - (b : Int))) := by unfold wrap64; omega
end Dkm

/-- 'append(own, more...)' as one step of a region that draws. -/
theorem step_app {ops : Array Oper} {o : Oper} {a : Act} {w : World} {K : Act → World → Prop} {R : Exit → Act → World → Prop} {E : Prop} (hgd : o.guard = none) (s x : Operand)
    (ho : o.op = .call { callee := .builtin .append, args := #[s, x], argTypes := #[22, 22] })
    (base : Nat) (A : Option Addr) (n c : Nat) (l : List Fil) (hs : a.eval s = .slice A n c) (h : Own w base A n c l) (A2 : Option Addr) (m c2 : Nat) (l2 : List Fil) (hx : a.eval x = .slice A2 m c2) (h2 : Files w A2 m l2) (hnil : A2 = none → m = 0 ∧ c2 = 0)
    (hb : (n + m) * 48 ≤ 140737488355328) (hbase : base ≤ w.heap.size)
    (hK : ∀ A' c' w', Own w' base A' (n + m) c' (l ++ l2) → Below base w w' → K (a.put o.dst (.slice A' (n + m) c')) w') :
    if Region.wanted o (yielded ops a.tmps) = true then Oper.wp Tryz.prog o a w K R else E := by
  have hw : Region.wanted o (yielded ops a.tmps) = true := by simp [Region.wanted, hgd]
  rw [if_pos hw]
  obtain ⟨A', c', w', hr, h3, h4⟩ := run_app w base A n c l h A2 m c2 l2 h2 hnil hb hbase o.type
  unfold Oper.wp execOp
  simp only [ho, resolve, invoke, builtin, Sem.run_bind, Sem.run_pure, Result.andThen_ok, List.map_toArray, List.map_cons, List.map_nil, hs, hx, hr]
  exact hK A' c' w' h3 h4

/-- the boxes of the document's Crash: d, the result, out. -/
structure Sc (w : World) (A : Option Addr) (n c : Nat) (room fuse : Int) (off : Bool) (A2 : Option Addr) (k c2 : Nat) (room2 : Int) (m : List Fil) (wr : World) : Prop where
  dk : Bx wr w.heap.size [.slice A n c, .int .i64 room, .int .i64 fuse, .bool off]
  res : Bx wr (w.heap.size + 1) [.slice none 0 0, .int .i64 0, .int .i64 0, .bool false]
  out : Bx wr (w.heap.size + 2) [.slice A2 k c2, .int .i64 room2, .int .i64 (-1), .bool false]
  own : Own wr (w.heap.size + 3) A2 k c2 m
  q : Q w wr
section
variable {w wr : World} {A A2 : Option Addr} {n c k c2 : Nat} {room fuse room2 : Int} {off : Bool} {m : List Fil}
theorem Sc.new (w : World) (A : Option Addr) (n c : Nat) (room fuse : Int) (off : Bool) :
    Sc w A n c room fuse off none 0 0 room [] (((w.alloc (.cells #[.slice A n c, .int .i64 room, .int .i64 fuse, .bool off] 24)).alloc (.cells #[.slice none 0 0, .int .i64 0, .int .i64 0, .bool false] 24)).alloc (.cells #[.slice none 0 0, .int .i64 room, .int .i64 (-1), .bool false] 24)) := by
  have s := Sb.new w A n c room fuse off
  have b := Bx.new ((w.alloc (.cells #[.slice A n c, .int .i64 room, .int .i64 fuse, .bool off] 24)).alloc (.cells #[.slice none 0 0, .int .i64 0, .int .i64 0, .bool false] 24)) [.slice none 0 0, .int .i64 room, .int .i64 (-1), .bool false] 24
  exact ⟨s.box.alloc _, s.res.alloc _, by simpa using b, ⟨rfl, .inl ⟨rfl, rfl⟩⟩, s.q.alloc _⟩
theorem Sc.step {w2 : World} (h : Sc w A n c room fuse off A2 k c2 room2 m wr) (q : Q wr w2) : Sc w A n c room fuse off A2 k c2 room2 m w2 := ⟨h.dk.q q, h.res.q q, h.out.q q, h.own.q q, h.q.trans q⟩
theorem Sc.setRoom (h : Sc w A n c room fuse off A2 k c2 room2 m wr) (x : Int) : Sc w A n c room fuse off A2 k c2 x m (wr.setCell ⟨w.heap.size + 2, 1, none⟩ (.int .i64 x)) :=
  ⟨h.dk.far (p := ⟨w.heap.size + 2, 1, none⟩) (by simp) _, h.res.far (p := ⟨w.heap.size + 2, 1, none⟩) (by simp) _, h.out.set (k := 1) (by simp) _, h.own.setCell (p := ⟨w.heap.size + 2, 1, none⟩) (by simp) _, h.q.setCell (p := ⟨w.heap.size + 2, 1, none⟩) (by simp) _⟩
theorem Sc.wrote {w2 : World} (h : Sc w A n c room fuse off A2 k c2 room2 m wr) {A3 : Option Addr} {k3 c3 : Nat} {m3 : List Fil} (ho : Own w2 (w.heap.size + 3) A3 k3 c3 m3) (hb : Below (w.heap.size + 3) wr w2) :
    Sc w A n c room fuse off A3 k3 c3 room2 m3 (w2.setCell ⟨w.heap.size + 2, 0, none⟩ (.slice A3 k3 c3)) :=
  ⟨(h.dk.below hb (by omega)).far (p := ⟨w.heap.size + 2, 0, none⟩) (by simp) _, (h.res.below hb (by omega)).far (p := ⟨w.heap.size + 2, 0, none⟩) (by simp) _, (h.out.below hb (by omega)).set (k := 0) (by simp) _,
    ho.setCell (p := ⟨w.heap.size + 2, 0, none⟩) (by simp) _, (show Q w w2 from h.q.below.trans (hb.mono (by omega))).setCell (p := ⟨w.heap.size + 2, 0, none⟩) (by simp) _⟩
end
def Wx (W wx : World) : Prop := wx = W
/-- what the document's Crash asks to keep. -/
def vz (ks : List Int) (k : Nat) : Int := if k < ks.length ∧ 0 < ks.getD k 0 then ks.getD k 0 else 0
theorem vz_yes {ks : List Int} {k : Nat} (h : k < ks.length) (h1 : 0 < ks.getD k 0) : vz ks k = ks.getD k 0 := by unfold vz; rw [if_pos ⟨h, h1⟩]
theorem vz_no {ks : List Int} {k : Nat} (h : ¬ (k < ks.length ∧ 0 < ks.getD k 0)) : vz ks k = 0 := by unfold vz; rw [if_neg h]
theorem vz_kp (ks : List Int) (k : Nat) (f : Fil) : 0 ≤ vz ks k ∧ (kp ks k f : Int) = if (f.wt.size : Int) < vz ks k then (f.wt.size : Int) else vz ks k := by
  unfold vz kp
  by_cases h : k < ks.length
  · by_cases h1 : 0 < ks.getD k 0
    · rw [if_pos ⟨h, h1⟩, if_pos h]
      split <;> omega
    · rw [if_neg (by omega), if_pos h]
      split <;> omega
  · rw [if_neg (by omega), if_neg h]
    split <;> omega
def bz (ks : List Int) (k : Nat) : Bool := decide (k < ks.length ∧ 0 < ks.getD k 0)
theorem bz_in {ks : List Int} {k : Nat} (h : k < ks.length) : bz ks k = decide (0 < ks.getD k 0) := by
  unfold bz
  by_cases h1 : 0 < ks.getD k 0
  · rw [decide_eq_true ⟨h, h1⟩, decide_eq_true h1]
  · rw [decide_eq_false (fun x => h1 x.2), decide_eq_false h1]
theorem bz_out {ks : List Int} {k : Nat} (h : ¬ k < ks.length) : bz ks k = false := decide_eq_false (fun x => h x.1)
theorem bz_vz {ks : List Int} {k : Nat} (h : bz ks k = false) : vz ks k = 0 := vz_no (of_decide_eq_false h)
theorem bz_yes {ks : List Int} {k : Nat} (h : bz ks k = true) : k < ks.length ∧ 0 < ks.getD k 0 ∧ vz ks k = ks.getD k 0 := ⟨(of_decide_eq_true h).1, (of_decide_eq_true h).2, vz_yes (of_decide_eq_true h).1 (of_decide_eq_true h).2⟩
theorem bool_eq {a b : Bool} (h : a = b) : Value.bool a = .bool b := by rw [h]
theorem int_eq {a b : Int} (h : a = b) : Value.int .i64 a = .int .i64 b := by rw [h]

set_option maxHeartbeats 4000000 in
theorem ref_crash (A : Option Addr) (n c : Nat) (room fuse : Int) (off : Bool) (K : Option Addr) (kn kc : Nat) (ks : List Int) (l : List Fil) (w : World) (hd : Dsk w A n c l) (hk : Ints w K kn ks) (hkn : kn ≤ maxLen) (hs : ∀ f ∈ l, f.sf.size + f.wt.size ≤ maxLen) :
    Calls Tryz.prog 17 #[dkv A n c room fuse off, .slice K kn kc] w fun e w' => RetD w (crs ⟨l, room, fuse, off⟩ ks) e w' := by
  have hnm := hd.max
  have hfew := hd.few
  unfold maxLen at hnm hkn
  have HD := Lib.hid hd
  have HK := Lib.hid hk
  have HL := Lib.hid hd.len
  have HKL := Lib.hid hk.len
  have HS := Lib.hid hs
  have S0 := Lib.hid (Sc.new w A n c room fuse off)
  clear hd hk hs
  go_enter Tryz.func17, Tryz.ntmps17
  go_wp2
  generalize (((w.alloc (.cells #[.slice A n c, .int .i64 room, .int .i64 fuse, .bool off] 24)).alloc (.cells #[.slice none 0 0, .int .i64 0, .int .i64 0, .bool false] 24)).alloc (.cells #[.slice none 0 0, .int .i64 room, .int .i64 (-1), .bool false] 24)) = W at S0 ⊢
  go_loopw [6] (fun i wr => ∃ (k : Nat) (A2 : Option Addr) (c2 : Nat), k ≤ n ∧ i = .int .i64 k ∧ Sc w A n c room fuse off A2 k c2 (croom ks l room k) (crd ks l k) wr) (fun i _ => n - (intOf i).toNat)
  case atStart => exact ⟨0, none, 0, Nat.zero_le _, rfl, by simpa [croom, crd] using S0.out⟩
  case round =>
    obtain ⟨k, A2, c2, hk, rfl, hsc⟩ := hrel
    have Y := Lib.hid hsc
    clear hsc S0
    obtain ⟨⟨d0, d1, d2, d3⟩, _⟩ := Y.out.dk.get4
    by_cases hlt : k < n
    · have hkl : k < l.length := by have := HL.out; omega
      obtain ⟨ad, rfl, hb, c0, c1, c3⟩ := (HD.out.files.q Y.out.q).load hlt hkl
      have q4 : (k : Int) < (n : Int) := by omega
      have q5 : 0 ≤ (k : Int) := by omega
      have hsz := HS.out l[k] (List.getElem_mem hkl)
      unfold maxLen at hsz
      have hkp := kp_le ks k l[k]
      have z0 : w.heap.size + 2 < wr.heap.size := Y.out.out.lt
      have KF : Hid (k < kn → ∃ ka, K = some ka ∧ (wr.alloc (.cells #[.string l[k].nm, .string l[k].sf, .string l[k].wt] 42)).cell? (ka.add k) = some (.int .i64 (ks.getD k 0))) := Lib.hid (fun h => by
        have h2 : k < ks.length := by have := HKL.out; omega
        obtain ⟨ka, e, _, hc⟩ := (HK.out.q (Y.out.q.alloc (.cells #[.string l[k].nm, .string l[k].sf, .string l[k].wt] 42))).load h2
        exact ⟨ka, e, by rw [hc]; simp [h2]⟩)
      have HVK := Lib.hid (vz_kp ks k l[k])
      have v0 := (vz_kp ks k l[k]).1
      go_upto_region 7 with (fail)
      go_cut [34] (fun s34 wx => s34 = .bool (bz ks k) ∧ Wx (wr.alloc (.cells #[.string l[k].nm, .string l[k].sf, .string l[k].wt] 42)) wx)
      case first =>
        by_cases hkk : k < kn
        · obtain ⟨ka, rfl, kc0⟩ := KF.out hkk
          have hk2 : k < ks.length := by have := HKL.out; omega
          have q6 : (k : Int) < (kn : Int) := by omega
          have HB := Lib.hid (bz_in (ks := ks) hk2)
          generalize ks.getD k 0 = xx at kc0 HB
          by_cases hx : 0 < xx
          · go_wp2
            go_meet
            exact ⟨bool_eq (by rw [HB.out]; simp [hx]), rfl⟩
          · have hx2 : decide ((0 : Int) < xx) = false := by simpa using hx
            go_wp2
            go_meet
            exact ⟨bool_eq (by rw [HB.out]; simp [hx]), rfl⟩
        · have HV := Lib.hid (bz_out (ks := ks) (k := k) (by have := HKL.out; omega))
          go_wp2
          go_meet
          exact ⟨bool_eq (by rw [HV.out]), rfl⟩
      case rest =>
        obtain ⟨rfl, hw⟩ := hcut
        unfold Wx at hw
        subst hw
        go_upto_if 34 with (fail)
        go_cut [8] (fun s8 wx => s8 = .int .i64 (vz ks k) ∧ Wx (wr.alloc (.cells #[.string l[k].nm, .string l[k].sf, .string l[k].wt] 42)) wx)
        case first =>
          cases hbz : bz ks k
          · have HV := Lib.hid (bz_vz hbz)
            clear hbz
            go_wp2
            go_meet
            exact ⟨int_eq HV.out.symm, rfl⟩
          · obtain ⟨hkk, hx, hvx⟩ := bz_yes hbz
            have hkn2 : k < kn := by have := HKL.out; omega
            obtain ⟨ka, rfl, kc0⟩ := KF.out hkn2
            have q6 : (k : Int) < (kn : Int) := by omega
            have HV := Lib.hid hvx
            clear hbz hvx
            generalize ks.getD k 0 = xx at kc0 HV hx
            go_wp2
            go_meet
            exact ⟨int_eq HV.out.symm, rfl⟩
        case rest =>
          obtain ⟨rfl, hw⟩ := hcut
          unfold Wx at hw
          subst hw
          generalize vz ks k = v at HVK v0 ⊢
          clear KF
          go_upto_if 43 with (fail)
          go_cut [8] (fun s8 wx => s8 = .int .i64 (kp ks k l[k] : Int) ∧ Wx (wr.alloc (.cells #[.string l[k].nm, .string l[k].sf, .string l[k].wt] 42)) wx)
          case first =>
            by_cases hv : (l[k].wt.size : Int) < v
            · have HE := Lib.hid (HVK.out.2.trans (if_pos hv))
              go_wp2
              go_meet
              exact ⟨int_eq HE.out.symm, rfl⟩
            · have HE := Lib.hid (HVK.out.2.trans (if_neg hv))
              go_wp2
              go_meet
              exact ⟨int_eq HE.out.symm, rfl⟩
          case rest =>
            obtain ⟨rfl, hw⟩ := hcut
            unfold Wx at hw
            subst hw
            clear HVK v0
            have HF : Hid (crf ks k l[k] = ⟨l[k].nm, l[k].sf ++ l[k].wt.extract 0 (kp ks k l[k]), ⟨#[]⟩⟩) := Lib.hid rfl
            have HR := Lib.hid (croom_succ ks l room k hkl)
            have HC := Lib.hid (crd_succ ks l k hkl)
            have HWL := Lib.hid (wrap_less (croom ks l room k) l[k].wt.size (kp ks k l[k]))
            generalize kp ks k l[k] = y at hkp HF HR HWL ⊢
            obtain ⟨⟨o0, o1, o2, o3⟩, g0, g1, g2, g3⟩ := Y.out.out.get4
            have z1 : w.heap.size + 2 ≠ wr.heap.size := by omega
            go_upto_region 12 with (fail)
            rw [HWL.out, ← HR.out]
            clear HR
            generalize hr3 : croom ks l room (k + 1) = r3
            have HR3 := Lib.hid hr3
            clear hr3
            have Z : Hid (Sc w (some ad) n c room fuse off A2 k c2 r3 (crd ks l k) ((wr.setCell ⟨w.heap.size + 1 + 1, 1, none⟩ (.int .i64 r3)).alloc (.cells #[.string l[k].nm, .string l[k].sf, .string l[k].wt] 42))) := Lib.hid ((Y.out.setRoom r3).step ((Q.refl _).alloc (.cells #[.string l[k].nm, .string l[k].sf, .string l[k].wt] 42)))
            have BF : Hid (Bx ((wr.setCell ⟨w.heap.size + 1 + 1, 1, none⟩ (.int .i64 r3)).alloc (.cells #[.string l[k].nm, .string l[k].sf, .string l[k].wt] 42)) wr.heap.size [.string l[k].nm, .string l[k].sf, .string l[k].wt]) := Lib.hid (by
              have := Bx.new (wr.setCell ⟨w.heap.size + 1 + 1, 1, none⟩ (.int .i64 r3)) [.string l[k].nm, .string l[k].sf, .string l[k].wt] 42
              simpa [World.setCell] using this)
            generalize ((wr.setCell ⟨w.heap.size + 1 + 1, 1, none⟩ (.int .i64 r3)).alloc (.cells #[.string l[k].nm, .string l[k].sf, .string l[k].wt] 42)) = V at Z BF ⊢
            generalize wr.heap.size = gf at BF ⊢
            clear o0 o1 o2 o3 g0 g1 g2 g3 d0 d1 d2 d3 c0 c1 c3 hb z0 z1 Y
            have P0 : Bx V (w.heap.size + 1 + 1) [.slice A2 k c2, .int .i64 r3, .int .i64 (-1), .bool false] := Z.out.out
            obtain ⟨⟨o0, o1, o2, o3⟩, g0, g1, g2, g3⟩ := P0.get4
            clear P0
            obtain ⟨⟨b0, b1, b2⟩, _⟩ := BF.out.get3
            have q6 : (y : Int) ≤ (l[k].wt.size : Int) := by omega
            have q7 : 0 ≤ (y : Int) := by omega
            have q8 : ¬ 9223372036854775807 < l[k].sf.size + y := by omega
            have q9 : y ≤ l[k].wt.size := by omega
            have z5 : w.heap.size + 1 + 1 < V.heap.size := Z.out.out.lt
            have z6 : w.heap.size + 1 + 1 ≠ V.heap.size := by omega
            have z7 : gf < V.heap.size := BF.out.lt
            have z8 : gf ≠ V.heap.size := by omega
            have T1 : Hid (Own ((V.alloc (.cells #[.string l[k].nm, .string (l[k].sf ++ l[k].wt.extract 0 y), .string ⟨#[]⟩] 42)).drew) (w.heap.size + 3) A2 k c2 (crd ks l k)) := Lib.hid ((Z.out.own.alloc _).q (Q.refl _).drew)
            have T2 : Hid (Files ((V.alloc (.cells #[.string l[k].nm, .string (l[k].sf ++ l[k].wt.extract 0 y), .string ⟨#[]⟩] 42)).drew) (some ⟨V.heap.size, 0, none⟩) 1 [⟨l[k].nm, l[k].sf ++ l[k].wt.extract 0 y, ⟨#[]⟩⟩]) := Lib.hid ((files_lit1 V ⟨l[k].nm, l[k].sf ++ l[k].wt.extract 0 y, ⟨#[]⟩⟩).q (Q.refl _).drew)
            have T3 : Hid (w.heap.size + 3 ≤ ((V.alloc (.cells #[.string l[k].nm, .string (l[k].sf ++ l[k].wt.extract 0 y), .string ⟨#[]⟩] 42)).drew).heap.size) := Lib.hid (by have := Z.out.out.lt; simp; omega)
            have T4 : (k + 1) * 48 ≤ 140737488355328 := by omega
            go_region_law ((refine step_app (by rfl) _ _ (by rfl) (w.heap.size + 3) A2 k c2 (crd ks l k) (by rfl) T1.out (some ⟨V.heap.size, 0, none⟩) 1 1 [⟨l[k].nm, l[k].sf ++ l[k].wt.extract 0 y, ⟨#[]⟩⟩] (by rfl) T2.out (fun e => by cases e) T4 T3.out ?_
                            intro A4 c4 w4 ho4 hb4
                            obtain ⟨⟨x0, x1, x2, x3⟩, y0, y1, y2, y3⟩ := (show Bx w4 (w.heap.size + 1 + 1) [.slice A2 k c2, .int .i64 r3, .int .i64 (-1), .bool false] from (((Z.out.out.alloc _).q (Q.refl _).drew).below hb4 (by omega))).get4))
            all_goals
              have U : Hid (Sc w (some ad) n c room fuse off A4 (k + 1) c4 r3 (crd ks l (k + 1)) (w4.setCell ⟨w.heap.size + 1 + 1, 0, none⟩ (.slice A4 (k + 1) c4))) := Lib.hid (by
                rw [HC.out, HF.out]
                exact ((Z.out.step ((Q.refl _).alloc (.cells #[.string l[k].nm, .string (l[k].sf ++ l[k].wt.extract 0 y), .string ⟨#[]⟩] 42))).step (Q.refl _).drew).wrote ho4 hb4)
              clear ho4 hb4 o0 o1 o2 o3 g0 g1 g2 g3 b0 b1 b2 x0 x1 x2 x3 y0 y1 y2 y3
              go_wp2
              go_roundw
              case rel => exact ⟨k + 1, A4, c4, by omega, by go_num, by rw [HR3.out]; exact U.out⟩
              case measure => simp [intOf]; omega
    · have e : n = k := by omega
      subst e
      obtain ⟨⟨o0, o1, o2, o3⟩, _⟩ := (show Bx wr (w.heap.size + 1 + 1) [.slice A2 n c2, .int .i64 (croom ks l room n), .int .i64 (-1), .bool false] from Y.out.out).get4
      obtain ⟨⟨s0, s1, s2, s3⟩, h0, h1, h2, h3⟩ := Y.out.res.get4
      go_wp2
      refine bodyPost_ret (v := dkv A2 n c2 (croom ks l room n) (-1) false) (by simp [results, Tryz.results17, go_sem, s0, s1, s2, s3]) rfl ?_
      rw [show crs ⟨l, room, fuse, off⟩ ks = ⟨crd ks l n, croom ks l room n, -1, false⟩ by unfold crs; simp only; rw [crd_all, HL.out]]
      exact ⟨A2, n, c2, rfl, (Y.out.own.set4 (b := w.heap.size + 1) (by omega) _ _ _ _).lower (by omega), Y.out.q.set4 (b := w.heap.size + 1) (by omega) _ _ _ _⟩
end Go.Proofs.YtggbdhnjogalgaaGreatDoor

/- Room, and the bytes of all files: together always the same. -/
namespace Go.Proofs.YtggbdhnjogalgaaGreatDoor
set_option maxRecDepth 100000
open Go.RowKit Dkm
set_option linter.unusedVariables false
namespace Dkm
end Dkm
end Go.Proofs.YtggbdhnjogalgaaGreatDoor

/- Lists whose elements lie flat in memory, out of what is known of each element. -/
namespace Go.Proofs.YtggbdhnjogalgaaGreatDoor
set_option maxRecDepth 100000
open Go.ChangeShapes Go.WideShapes Go.RowKit
set_option linter.unusedVariables false

theorem choose_list {α : Type} {R : Nat → α → Prop} : ∀ (n : Nat), (∀ i, i < n → ∃ a, R i a) → ∃ l : List α, l.length = n ∧ ∀ i (hi : i < l.length), R i l[i]
  | 0, _ => ⟨[], rfl, fun i hi => by simp at hi⟩
  | n + 1, h => by
    obtain ⟨l, hl, hr⟩ := choose_list n (fun i hi => h i (by omega))
    obtain ⟨a, ha⟩ := h n (by omega)
    refine ⟨l ++ [a], by simp [hl], fun i hi => ?_⟩
    by_cases hlt : i < l.length
    · rw [List.getElem_append_left hlt]; exact hr i hlt
    · have e : i = l.length := by simp at hi; omega
      subst e
      rw [List.getElem_append_right (Nat.le_refl _)]
      simpa [hl] using ha

theorem flat_at {α : Type} (g : α → List Value) (k : Nat) (hg : ∀ a, (g a).length = k) : ∀ (l : List α) (j : Nat) (u : Value), (l.flatMap g)[j]? = some u → ∃ i r, ∃ hi : i < l.length, j = i * k + r ∧ r < k ∧ (g l[i])[r]? = some u
  | [], j, u, h => by simp at h
  | a :: l, j, u, h => by
    rw [List.flatMap_cons] at h
    by_cases hj : j < k
    · rw [List.getElem?_append_left (by rw [hg]; exact hj)] at h
      exact ⟨0, j, by simp, by omega, hj, by simpa using h⟩
    · rw [List.getElem?_append_right (by rw [hg]; omega), hg] at h
      obtain ⟨i, r, hi, he, hr, hu⟩ := flat_at g k hg l (j - k) u h
      refine ⟨i + 1, r, by simpa using hi, ?_, hr, by simpa using hu⟩
      rw [Nat.succ_mul]; omega
theorem flat_len {α : Type} (g : α → List Value) (k : Nat) (hg : ∀ a, (g a).length = k) : ∀ (l : List α), (l.flatMap g).length = l.length * k
  | [] => by simp
  | a :: l => by rw [List.flatMap_cons, List.length_append, hg, flat_len g k hg l, List.length_cons, Nat.succ_mul]; omega
theorem holds_flat {α : Type} (g : α → List Value) (k : Nat) (hg : ∀ a, (g a).length = k) (w : World) (ad : Addr) (l : List α) (h : ∀ i (hi : i < l.length), w.cells? 0 (ad.add (i * k)) k = some (g l[i])) :
    Holds w w.heap.size k (some ad) l.length (l.flatMap g) := by
  refine ⟨flat_len g k hg l, fun j u hu => ?_⟩
  obtain ⟨i, r, hi, rfl, hr, hv⟩ := flat_at g k hg l j u hu
  obtain ⟨_, _, hat⟩ := World.cells?_some (h i hi)
  have hc := hat r hr
  rw [hv, addr_add] at hc
  refine ⟨ad, rfl, ?_, hc⟩
  have := block_lt_of_cell hc
  rwa [addr_block] at this

theorem wf_i64 {x : Int} (h : (Lit.int .i64 x).wf = true) : -9223372036854775808 ≤ x ∧ x ≤ 9223372036854775807 := by
  simp only [Lit.wf, Bool.and_eq_true, decide_eq_true_eq] at h
  have e1 : IntKind.i64.min = -9223372036854775808 := by decide
  have e2 : IntKind.i64.max = 9223372036854775807 := by decide
  omega
end Go.Proofs.YtggbdhnjogalgaaGreatDoor

/- What comes in: files, disks, lists of integers, opened out of a reading. -/
namespace Go.Proofs.YtggbdhnjogalgaaGreatDoor
set_option maxRecDepth 100000
open Go.ChangeShapes Go.WideShapes Go.RowKit Dkm
set_option linter.unusedVariables false

theorem rows_flat (l : List Fil) : rows l = l.flatMap Fil.row := by
  induction l with
  | nil => rfl
  | cons f l ih => rw [rows, ih, List.flatMap_cons]

/-- a file's texts are within the reach. -/
def FilIn (f : Fil) : Prop := f.nm.size ≤ 140737488351232 ∧ f.sf.size ≤ 140737488351232 ∧ f.wt.size ≤ 140737488351232

theorem open_file {w : World} {cs : List Value} (h : Rd w 42 cs) : ∃ f : Fil, cs = f.row ∧ FilIn f := by
  obtain ⟨hl, hf⟩ := h.struct Tryz.underlying42
  rw [show Tryz.prog.cellsOf 42 = 3 by kernel_rfl] at hl
  match cs, hl with
  | [a, b, c], _ =>
    obtain ⟨s0, e0, r0⟩ := (h.field Tryz.underlying42 0 (ty := 9) 0 1 rfl (by kernel_rfl)).string Tryz.underlying9
    obtain ⟨s1, e1, r1⟩ := (h.field Tryz.underlying42 1 (ty := 9) 1 1 rfl (by kernel_rfl)).string Tryz.underlying9
    obtain ⟨s2, e2, r2⟩ := (h.field Tryz.underlying42 2 (ty := 9) 2 1 rfl (by kernel_rfl)).string Tryz.underlying9
    simp at e0 e1 e2
    subst e0 e1 e2
    exact ⟨⟨s0, s1, s2⟩, rfl, r0, r1, r2⟩

theorem open_files {w : World} {cs : List Value} (h : Rd w 22 cs) : ∃ A n c l, cs = [.slice A n c] ∧ Dsk w A n c l ∧ ∀ f ∈ l, FilIn f := by
  rcases h.slice Tryz.underlying22 with rfl | ⟨a, len, cap, rfl, hlc, hcm, hby, hi⟩
  · exact ⟨none, 0, 0, [], rfl, ⟨Holds.none_ _ _ _ _, fun _ => ⟨rfl, rfl⟩, Nat.le_refl _, Nat.zero_le _, by omega⟩, by simp⟩
  · rw [show Tryz.prog.bytesOf 42 = 48 by kernel_rfl] at hby
    rw [show Tryz.prog.cellsOf 42 = 3 by kernel_rfl] at hi
    obtain ⟨l, hl, hr⟩ := choose_list (R := fun i (f : Fil) => w.cells? 0 (a.add (i * 3)) 3 = some f.row ∧ FilIn f) len (fun i hlt => by
      obtain ⟨cs', hc, hrd⟩ := hi i (by omega)
      obtain ⟨f, rfl, hf⟩ := open_file hrd
      exact ⟨f, hc, hf⟩)
    refine ⟨some a, len, cap, l, rfl, ⟨?_, fun e => by (cases e), hlc, hcm, by omega⟩, fun f hf => ?_⟩
    · have := holds_flat Fil.row 3 (fun f => rfl) w a l (fun i hi => (hr i hi).1)
      rw [hl, ← rows_flat] at this
      exact this
    · obtain ⟨i, hi, rfl⟩ := List.getElem_of_mem hf
      exact (hr i hi).2

/-- a disk as it comes in. -/
structure DkIn (w : World) (A : Option Addr) (n c : Nat) (d : Dk) : Prop where
  dsk : Dsk w A n c d.fs
  fil : ∀ f ∈ d.fs, FilIn f
  room : -9223372036854775808 ≤ d.room ∧ d.room ≤ 9223372036854775807
  fuse : -9223372036854775808 ≤ d.fuse ∧ d.fuse ≤ 9223372036854775807
theorem open_disk {w : World} {cs : List Value} (h : Rd w 24 cs) : ∃ A n c d, cs = [.slice A n c, .int .i64 d.room, .int .i64 d.fuse, .bool d.off] ∧ DkIn w A n c d := by
  obtain ⟨hl, hf⟩ := h.struct Tryz.underlying24
  rw [show Tryz.prog.cellsOf 24 = 4 by kernel_rfl] at hl
  match cs, hl with
  | [x, y, z, u], _ =>
    obtain ⟨A, n, c, l, e0, hd, hi⟩ := open_files (h.field Tryz.underlying24 0 (ty := 22) 0 1 rfl (by kernel_rfl))
    obtain ⟨r, e1, hr⟩ := (h.field Tryz.underlying24 1 (ty := 3) 1 1 rfl (by kernel_rfl)).int Tryz.underlying3
    obtain ⟨s, e2, hs⟩ := (h.field Tryz.underlying24 2 (ty := 3) 2 1 rfl (by kernel_rfl)).int Tryz.underlying3
    obtain ⟨b, e3⟩ := (h.field Tryz.underlying24 3 (ty := 4) 3 1 rfl (by kernel_rfl)).bool Tryz.underlying4
    simp at e0 e1 e2 e3
    subst e0 e1 e2 e3
    exact ⟨A, n, c, ⟨l, r, s, b⟩, rfl, hd, hi, wf_i64 hr, wf_i64 hs⟩

end Go.Proofs.YtggbdhnjogalgaaGreatDoor

/- A disk in a law's variable, its list elsewhere. -/
namespace Go.Proofs.YtggbdhnjogalgaaGreatDoor
set_option maxRecDepth 100000
open Go.RowKit Dkm
set_option linter.unusedVariables false

structure DVA (W : World) (B : Nat) (A : Option Addr) (n c : Nat) (d : Dk) : Prop where
  dv : DV W B A n c d
  away : ∀ ad, A = some ad → ad.block ≠ B
theorem DVA.q {W W' : World} {B : Nat} {A : Option Addr} {n c : Nat} {d : Dk} (h : DVA W B A n c d) (hq : Q W W') : DVA W' B A n c d := ⟨h.dv.q hq, h.away⟩
theorem DVA.put {W W' : World} {B : Nat} {A A' : Option Addr} {n c n' c' : Nat} {d d' : Dk} (h : DVA W B A n c d) (hq : Q W W') (hd : Dsk W' A' n' c' d'.fs) (ha : A' = A ∨ ∀ ad, A' = some ad → W.heap.size ≤ ad.block) :
    DVA ((((W'.setCell ⟨B, 0, none⟩ (.slice A' n' c')).setCell ⟨B, 1, none⟩ (.int .i64 d'.room)).setCell ⟨B, 2, none⟩ (.int .i64 d'.fuse)).setCell ⟨B, 3, none⟩ (.bool d'.off)) B A' n' c' d' := by
  have hlt := h.dv.box.lt
  have haw : ∀ ad, A' = some ad → ad.block ≠ B := by
    intro ad e
    rcases ha with rfl | ha
    · exact h.away ad e
    · have := ha ad e; omega
  exact ⟨⟨(h.dv.box.q hq).put4 _ _ _ _, (((hd.away haw 0 _).away haw 1 _).away haw 2 _).away haw 3 _⟩, haw⟩

end Go.Proofs.YtggbdhnjogalgaaGreatDoor

/- The document's example of chapter 4. -/
namespace Go.Proofs.YtggbdhnjogalgaaGreatDoor
set_option maxRecDepth 100000
open Go.RowKit Dkm Wm
set_option linter.unusedVariables false

namespace Wm
def W1 : ByteArray := ⟨#[119, 49]⟩
def SA : ByteArray := ⟨#[49, 59, 97, 54, 52, 50, 50, 54, 50, 54, 59]⟩
def SB : ByteArray := ⟨#[49, 59, 98, 54, 52, 56, 56, 49, 54, 51, 59]⟩
def S4 : ByteArray := ⟨#[49, 59, 97, 54, 52, 50, 50, 54, 50, 54, 59, 49, 59, 98]⟩
def EB : ByteArray := ⟨#[]⟩
theorem nam1 : namB 1 = W1 := by
  unfold namB nam
  rw [if_pos (by decide), show (1 : Int).toNat = 1 from rfl, show Dm.dg 1 = [49] by rw [Dm.dg]; rfl]; rfl
theorem nam2 : namB 2 = ⟨#[119, 50]⟩ := by
  unfold namB nam
  rw [if_pos (by decide), show (2 : Int).toNat = 2 from rfl, show Dm.dg 2 = [50] by rw [Dm.dg]; rfl]
theorem ex_b : Sm.adler [98] = 6488163 := by decide
theorem ex_sldb : sld [98] = [49, 59, 98, 54, 52, 56, 56, 49, 54, 51, 59] := by
  unfold sld Dm.num
  rw [ex_b]
  have e1 : Dm.dg 1 = [49] := by rw [Dm.dg]; rfl
  have f0 : Dm.dg 6 = [54] := by rw [Dm.dg]; rfl
  have f1 : Dm.dg 64 = [54, 52] := by rw [Dm.dg, if_neg (by omega), show 64 / 10 = 6 from rfl, f0]; rfl
  have f2 : Dm.dg 648 = [54, 52, 56] := by rw [Dm.dg, if_neg (by omega), show 648 / 10 = 64 from rfl, f1]; rfl
  have f3 : Dm.dg 6488 = [54, 52, 56, 56] := by rw [Dm.dg, if_neg (by omega), show 6488 / 10 = 648 from rfl, f2]; rfl
  have f4 : Dm.dg 64881 = [54, 52, 56, 56, 49] := by rw [Dm.dg, if_neg (by omega), show 64881 / 10 = 6488 from rfl, f3]; rfl
  have f5 : Dm.dg 648816 = [54, 52, 56, 56, 49, 54] := by rw [Dm.dg, if_neg (by omega), show 648816 / 10 = 64881 from rfl, f4]; rfl
  have f6 : Dm.dg 6488163 = [54, 52, 56, 56, 49, 54, 51] := by rw [Dm.dg, if_neg (by omega), show 6488163 / 10 = 648816 from rfl, f5]; rfl
  rw [show (6488163 : Int).toNat = 6488163 from rfl, f6, show ([98] : List UInt8).length = 1 from rfl, e1]; rfl
theorem seal1 : sealB ⟨#[97]⟩ = SA := by
  unfold sealB; rw [show (⟨#[97]⟩ : ByteArray).data.toList = [97] from rfl, ex_sld]; rfl
theorem seal2 : sealB ⟨#[98]⟩ = SB := by
  unfold sealB; rw [show (⟨#[98]⟩ : ByteArray).data.toList = [98] from rfl, ex_sldb]; rfl
def d1 : Dk := ⟨[⟨W1, EB, SA⟩], 89, -1, false⟩
def d2 : Dk := ⟨[⟨W1, SA, EB⟩], 89, -1, false⟩
def d3 : Dk := ⟨[⟨W1, SA, SB⟩], 78, -1, false⟩
def d4 : Dk := ⟨[⟨W1, S4, EB⟩], 86, -1, false⟩
theorem x1 : putM ⟨[], 100, -1, false⟩ 1 ⟨#[97]⟩ = (d1, 1, 0) := by
  unfold putM; rw [if_neg (by decide), if_neg (by decide)]
  unfold putB; rw [nam1, if_pos (by decide)]
  unfold putA; rw [nam1, seal1]; rfl
theorem x2 : syncM d1 1 = (d2, 0) := by
  unfold syncM; rw [nam1]; rfl
theorem x3 : putM d2 1 ⟨#[98]⟩ = (d3, 1, 0) := by
  unfold putM; rw [if_neg (by decide), if_neg (by decide)]
  unfold putB; rw [nam1, if_pos (by decide)]
  unfold putA; rw [nam1, seal2]; rfl
theorem x4 : crs d3 [3] = d4 := by
  simp [crs, crl, croom, crf, kp, wrap64, d3, d4]
  exact ⟨by decide, by decide⟩
theorem scn4 : scn S4.data.toList = ([[97]], [49, 59, 98]) := by
  have h := scn_part [[97]] (by simp) (q := [49, 59, 98]) ⟨[98], by decide, 3, by rw [ex_sldb]; decide, by rw [ex_sldb]; rfl⟩
  rw [flat_cons, flat_nil, ex_sld] at h
  exact h
theorem flat1 : (⟨(flat [[97]]).toArray⟩ : ByteArray) = SA := by rw [flat_cons, flat_nil, ex_sld]; rfl
theorem dels_none {n : Nat} {d : Dk} {k : Int} (h : (hit (namB k) d.fs).2 = false) : dels n d k = (d, 0) := by
  cases n with
  | zero => rfl
  | succ n => unfold dels; rw [if_neg (by rw [h]; simp)]
theorem c1 : cut1 d4 = (d4, 0) := by rfl
theorem c2 : cut2 d4 SA = (⟨[⟨W1, S4, EB⟩, ⟨freshB, EB, SA⟩], 75, -1, false⟩, 0) := by unfold cut2; rw [c1]; rfl
theorem c3 : cut3 d4 SA = (⟨[⟨W1, S4, EB⟩, ⟨freshB, SA, EB⟩], 75, -1, false⟩, 0) := by unfold cut3; rw [c2]; rfl
theorem c4 : ∃ r, cut4 d4 1 SA = (⟨[⟨W1, SA, EB⟩], r, -1, false⟩, 0) := by unfold cut4; rw [c3, nam1]; exact ⟨_, rfl⟩
theorem c5 : ∃ r, cutM d4 1 SA = (⟨[⟨W1, SA, EB⟩], r, -1, false⟩, 0) := by
  obtain ⟨r, h⟩ := c4
  refine ⟨r, ?_⟩
  unfold cutM; rw [h, if_pos rfl, show (1 : Int) + 1 = 2 from rfl]
  exact dels_none (by rw [nam2]; rfl)
theorem x5 : ∃ y, recM d4 1 = (y, [[97]], 1, 0) := by
  obtain ⟨r, h⟩ := c5
  refine ⟨⟨[⟨W1, SA, EB⟩], r, -1, false⟩, ?_⟩
  unfold recM; rw [if_neg (by decide)]
  rw [recF_cut (s := S4) (y := (⟨[⟨W1, SA, EB⟩], r, -1, false⟩, 0)) (by decide) (by rw [nam1]; rfl) (by rw [scn4]; simp) (by rw [scn4, flat1]; exact h)]
  rw [scn4]; rfl
theorem bnd0 {B : Nat} {room : Int} (h : In64 room) : Bnd B ⟨[], room, -1, false⟩ := ⟨by simp, by simp, h, by unfold In64; simp⟩
end Wm

theorem strs_one {w : World} {A : Option Addr} {n : Nat} {r : List UInt8} (h : Strs w A n [r]) : n = 1 ∧ ∃ ad, A = some ad ∧ ad.block < w.heap.size ∧ w.cell? ad = some (.string (bs r)) := by
  have h1 := h.1
  obtain ⟨ad, e, hb, hc⟩ := h.2 0 _ rfl
  exact ⟨by simpa using h1.symm, ad, e, hb, by unfold Addr.add at hc; simpa using hc⟩

set_option maxHeartbeats 4000000 in
theorem wshown_any (w : World) (hT : Tab w) : Calls Tryz.prog 5 #[] w fun e w' => e = .returned (.bool true) ∧ Q w w' := by
  have HT := Lib.hid hT
  have B0 := Lib.hid (bnd0 (B := 2305843009213693952) (room := 100) (by unfold In64; omega))
  have B1 := Lib.hid (show Bnd 2305843009213693952 d1 by have := B0.out.putM (by omega) 1 ⟨#[97]⟩; rw [x1] at this; exact this)
  have B2 := Lib.hid (show Bnd 2305843009213693952 d2 by have := B1.out.syncM 1; rw [x2] at this; exact this)
  have B4 : Hid (Bnd 2097152 d4) := Lib.hid ⟨by simp [d4]; decide, by simp [d4], by simp [In64, d4], by simp [In64, d4]⟩
  have M1 := Lib.hid (show ∀ f ∈ d1.fs, f.sf.size + f.wt.size ≤ maxLen from fun f hf => Nat.le_trans (B1.out.sum f hf) (by unfold maxLen; omega))
  clear hT
  go_enter Tryz.func5, Tryz.ntmps5
  go_wp2_with fail
  refine (ref_new_any 100 _ (by omega)).mono ?_
  rintro e w1 ⟨rfl, q1⟩
  have V1 := Lib.hid (DVA.mk (DV.new (W := w1) (d := ⟨[], 100, -1, false⟩) (dsk_nil w1)) (fun ad e => by cases e))
  have QA := Lib.hid (q1.alloc (.cells #[.slice none 0 0, .int .i64 100, .int .i64 (-1), .bool false] 24))
  have hz : w.heap.size ≤ w1.heap.size := q1.size
  clear q1
  go_upto_region 2 with (fail)
  generalize (w1.alloc (.cells #[.slice none 0 0, .int .i64 100, .int .i64 (-1), .bool false] 24)) = W at V1 QA ⊢
  generalize w1.heap.size = B at V1 hz ⊢
  obtain ⟨⟨e0, e1, e2, e3⟩, f0, f1, f2', f3⟩ := V1.out.dv.get
  go_wp2_with fail
  have k2 := put_any 1 ⟨#[97]⟩ none 0 0 ⟨[], 100, -1, false⟩ W (HT.out.q QA.out) V1.out.dv.dsk B0.out (by unfold maxLen; decide)
  rw [x1] at k2
  refine k2.mono ?_
  clear k2
  rintro e w2 ⟨A2, n2, c2, rfl, hd2, hf2, q2⟩
  clear e0 e1 e2 e3 f0 f1 f2' f3
  obtain ⟨⟨e0, e1, e2, e3⟩, f0, f1, f2', f3⟩ := (V1.out.q q2).dv.get
  have V2 := Lib.hid (V1.out.put q2 (d' := d1) hd2 (.inr hf2))
  have QB := Lib.hid ((QA.out.trans q2).set4 hz (.slice A2 n2 c2) (.int .i64 d1.room) (.int .i64 d1.fuse) (.bool d1.off))
  clear V1 QA q2 hd2 hf2
  go_upto_region 3 with (fail)
  generalize ((((w2.setCell ⟨B, 0, none⟩ (.slice A2 n2 c2)).setCell ⟨B, 1, none⟩ (.int .i64 d1.room)).setCell ⟨B, 2, none⟩ (.int .i64 d1.fuse)).setCell ⟨B, 3, none⟩ (.bool d1.off)) = W2 at V2 QB ⊢
  clear e0 e1 e2 e3 f0 f1 f2' f3
  obtain ⟨⟨e0, e1, e2, e3⟩, f0, f1, f2', f3⟩ := V2.out.dv.get
  go_wp2_with fail
  have k3 := wsync_any 1 A2 n2 c2 d1 W2 (HT.out.q QB.out) V2.out.dv.dsk M1.out
  rw [x2] at k3
  refine k3.mono ?_
  clear k3
  rintro e w3 ⟨A3, n3, c3, rfl, hd3, hf3, q3⟩
  clear e0 e1 e2 e3 f0 f1 f2' f3
  obtain ⟨⟨e0, e1, e2, e3⟩, f0, f1, f2', f3⟩ := (V2.out.q q3).dv.get
  have V3 := Lib.hid (V2.out.put q3 (d' := d2) hd3 (.inr hf3))
  have QC := Lib.hid ((QB.out.trans q3).set4 hz (.slice A3 n3 c3) (.int .i64 d2.room) (.int .i64 d2.fuse) (.bool d2.off))
  clear V2 QB q3 hd3 hf3
  go_upto_region 4 with (fail)
  generalize ((((w3.setCell ⟨B, 0, none⟩ (.slice A3 n3 c3)).setCell ⟨B, 1, none⟩ (.int .i64 d2.room)).setCell ⟨B, 2, none⟩ (.int .i64 d2.fuse)).setCell ⟨B, 3, none⟩ (.bool d2.off)) = W3 at V3 QC ⊢
  clear e0 e1 e2 e3 f0 f1 f2' f3
  obtain ⟨⟨e0, e1, e2, e3⟩, f0, f1, f2', f3⟩ := V3.out.dv.get
  go_wp2_with fail
  have k4 := put_any 1 ⟨#[98]⟩ A3 n3 c3 d2 W3 (HT.out.q QC.out) V3.out.dv.dsk B2.out (by unfold maxLen; decide)
  rw [x3] at k4
  refine k4.mono ?_
  clear k4
  rintro e w4 ⟨A4, n4, c4, rfl, hd4, hf4, q4⟩
  clear e0 e1 e2 e3 f0 f1 f2' f3
  obtain ⟨⟨e0, e1, e2, e3⟩, f0, f1, f2', f3⟩ := (V3.out.q q4).dv.get
  have V4 := Lib.hid (V3.out.put q4 (d' := d3) hd4 (.inr hf4))
  have QD := Lib.hid ((QC.out.trans q4).set4 hz (.slice A4 n4 c4) (.int .i64 d3.room) (.int .i64 d3.fuse) (.bool d3.off))
  clear V3 QC q4 hd4 hf4
  go_upto_region 5 with (fail)
  generalize ((((w4.setCell ⟨B, 0, none⟩ (.slice A4 n4 c4)).setCell ⟨B, 1, none⟩ (.int .i64 d3.room)).setCell ⟨B, 2, none⟩ (.int .i64 d3.fuse)).setCell ⟨B, 3, none⟩ (.bool d3.off)) = W4 at V4 QD ⊢
  clear e0 e1 e2 e3 f0 f1 f2' f3
  obtain ⟨⟨e0, e1, e2, e3⟩, f0, f1, f2', f3⟩ := V4.out.dv.get
  go_wp2_with fail
  have k5 := ref_crash A4 n4 c4 d3.room d3.fuse d3.off (some ⟨W4.heap.size, 0, none⟩) 1 1 [3] d3.fs _ (V4.out.dv.dsk.q ((Q.refl _).alloc (.cells #[.int .i64 3] 3))) (ints_lit1 W4 3) (by unfold maxLen; omega) (by simp [d3, maxLen]; decide)
  rw [show (⟨d3.fs, d3.room, d3.fuse, d3.off⟩ : Dk) = d3 from rfl, x4] at k5
  refine k5.mono ?_
  clear k5
  rintro e w5 ⟨A5, n5, c5, rfl, ho5, q5⟩
  have QE := Lib.hid ((QD.out.alloc (.cells #[.int .i64 3] 3)).trans q5)
  have hn5 : n5 = 1 := ho5.len.symm
  subst hn5
  have HO := Lib.hid (ho5.dsk (by omega))
  clear ho5 q5 e0 e1 e2 e3 f0 f1 f2' f3 V4 QD
  go_wp2_with fail
  have k6 := recover_any 1 A5 1 c5 d4 w5 (HT.out.q QE.out) HO.out B4.out
  obtain ⟨y6, hx5⟩ := x5
  rw [hx5] at k6
  clear hx5
  refine k6.mono ?_
  clear k6
  rintro e w6 ⟨A6, n6, c6, L, ln, lc, rfl, hd6, hf6, hl6, q6⟩
  obtain ⟨rfl, ad, rfl, hbl, hcell⟩ := strs_one hl6.strs
  have hbn : ad.block ≠ w6.heap.size := by omega
  have QF := Lib.hid (QE.out.trans q6)
  clear hd6 hf6 hl6 q6
  have hcell' : w6.cell? ad = some (.string ⟨#[97]⟩) := hcell
  clear hcell
  go_wp2
  all_goals go_ret
  all_goals exact ⟨rfl, by first | exact QF.out.alloc _ | exact (QF.out.alloc _).drew⟩
end Go.Proofs.YtggbdhnjogalgaaGreatDoor

/- The contract of the document's Same over lists of texts. -/
namespace Go.Proofs.YtggbdhnjogalgaaGreatDoor
set_option maxRecDepth 100000
open Go.RowKit
set_option linter.unusedVariables false

theorem Strs.len {w : World} {A : Option Addr} {n : Nat} {l : List (List UInt8)} (h : Strs w A n l) : l.length = n := by have := h.1; simpa using this
theorem Strs.load {w : World} {A : Option Addr} {n : Nat} {l : List (List UInt8)} (h : Strs w A n l) {k : Nat} (hl : k < l.length) :
    ∃ ad, A = some ad ∧ ad.block < w.heap.size ∧ w.cell? (ad.add k) = some (.string (bs l[k])) := by
  obtain ⟨ad, e, hb, hc⟩ := h.2 k (.string (bs l[k])) (by simp [hl])
  exact ⟨ad, e, hb, hc⟩
theorem bs_inj {a b : List UInt8} (h : bs a = bs b) : a = b := by rw [← list_bs a, h, list_bs]

set_option maxHeartbeats 2000000 in
theorem same_strs (A B : Option Addr) (n c m d : Nat) (a b : List (List UInt8)) (w : World) (h1 : Strs w A n a) (h2 : Strs w B m b) (hn : n ≤ maxLen) :
    Calls Tryz.prog 9 #[.slice A n c, .slice B m d] w fun e w' => e = .returned (.bool (decide (a = b))) ∧ Q w w' := by
  unfold maxLen at hn
  by_cases hnm : n = m
  case neg =>
    have hf : decide (a = b) = false := decide_eq_false fun e => hnm (by rw [← h1.len, ← h2.len, e])
    have HF := Lib.hid hf
    have hi : ¬ (n : Int) = (m : Int) := by omega
    clear hf h1 h2 hnm
    go_enter Tryz.func9, Tryz.ntmps9
    go_wp2
    go_ret
    exact ⟨by rw [HF.out]; rfl, Q.refl _⟩
  subst hnm
  have H1 := Lib.hid h1
  have H2 := Lib.hid h2
  have L1 := Lib.hid h1.len
  have L2 := Lib.hid h2.len
  clear h1 h2
  go_enter Tryz.func9, Tryz.ntmps9
  go_wp2
  go_loopw [5] (fun i wr => ∃ k : Nat, k ≤ n ∧ i = .int .i64 (k : Nat) ∧ a.take k = b.take k ∧ Q w wr) (fun i _ => n - (intOf i).toNat)
  case atStart => exact ⟨0, Nat.zero_le _, rfl, rfl, Q.refl _⟩
  case round =>
    obtain ⟨k, hk, rfl, htk, hq⟩ := hrel
    have HT := Lib.hid htk
    have HQ := Lib.hid hq
    clear htk hq
    by_cases hlt : k < n
    case neg =>
      have e : n = k := by omega
      have hf : decide (a = b) = true := decide_eq_true (by
        have h := HT.out
        rw [List.take_of_length_le (by have := L1.out; omega), List.take_of_length_le (by have := L2.out; omega)] at h
        exact h)
      have HF := Lib.hid hf
      clear hf e
      go_wp2
      go_ret
      exact ⟨by rw [HF.out]; rfl, HQ.out⟩
    have ha : k < a.length := by have := L1.out; omega
    have hb : k < b.length := by have := L2.out; omega
    obtain ⟨x, hxA, hxb, hxc⟩ := (H1.out.q HQ.out).load ha
    obtain ⟨y, hyB, hyb, hyc⟩ := (H2.out.q HQ.out).load hb
    have HA := Lib.hid hxA
    have HB := Lib.hid hyB
    have hk2 : (k : Int) < (n : Int) := by omega
    by_cases he : bs a[k] = bs b[k]
    · have hnx : a.take (k + 1) = b.take (k + 1) := by
        rw [List.take_add_one, List.take_add_one, HT.out, List.getElem?_eq_getElem ha, List.getElem?_eq_getElem hb, bs_inj he]
      have HN := Lib.hid hnx
      rw [← he] at hyc
      clear he hnx
      generalize bs a[k] = s at hxc hyc
      have he2 : (s.toList == s.toList) = true := by simp
      subst hxA hyB
      clear HA HB ha hb
      go_wp2
      go_quiet (fail)
      all_goals
        go_wp2
        go_roundw
        case rel => exact ⟨k + 1, by omega, by first | rfl | simp | go_num, HN.out, by first | exact HQ.out | exact HQ.out.drew | exact HQ.out.drewN _⟩
        case measure => simp [intOf]; omega
    · have hf : decide (a = b) = false := decide_eq_false fun e => he (by subst e; rfl)
      have HF := Lib.hid hf
      generalize bs a[k] = s at hxc he
      generalize bs b[k] = t at hyc he
      have hne : (s.toList == t.toList) = false := by
        rw [same_str]; simpa using he
      subst hxA hyB
      clear HA HB ha hb hf
      go_wp2
      go_quiet (fail)
      all_goals
        go_wp2
        go_ret
        exact ⟨by rw [HF.out]; rfl, by first | exact HQ.out | exact HQ.out.drew | exact HQ.out.drewN _⟩
end Go.Proofs.YtggbdhnjogalgaaGreatDoor

/- What comes in: lists of texts. -/
namespace Go.Proofs.YtggbdhnjogalgaaGreatDoor
set_option maxRecDepth 100000
open Go.ChangeShapes Go.WideShapes Go.RowKit Dkm
set_option linter.unusedVariables false

end Go.Proofs.YtggbdhnjogalgaaGreatDoor

/- What comes in as a disk, where its bulk is bounded. -/
namespace Go.Proofs.YtggbdhnjogalgaaGreatDoor
set_option maxRecDepth 100000
open Go.ChangeShapes Go.WideShapes Go.RowKit Dkm
set_option linter.unusedVariables false

theorem files_small {w : World} {A : Option Addr} {n c : Nat} {l : List Fil} (hd : Dsk w A n c l) (hu : RdU w 22 [.slice A n c]) : ∀ f ∈ l, f.sf.size ≤ 1048576 ∧ f.wt.size ≤ 1048576 := by
  intro f hf
  obtain ⟨i, hi, rfl⟩ := List.getElem_of_mem hf
  have hin : i < n := by have := hd.len; omega
  have hic : i < c := Nat.lt_of_lt_of_le hin hd.le
  obtain ⟨ad, rfl, _, c0, c1, c2⟩ := hd.files.load hin hi
  obtain ⟨_, hall⟩ := hu.slice Tryz.underlying22
  rw [show Tryz.prog.cellsOf 42 = 3 by kernel_rfl] at hall
  obtain ⟨cs, hc, hr⟩ := hall i hic
  obtain ⟨hl, _, hat⟩ := World.cells?_some hc
  have e1 := hat 1 (by omega)
  have e2 := hat 2 (by omega)
  have c1' : w.cell? ((ad.add (i * 3)).add 1) = some (.string l[i].sf) := c1
  have c2' : w.cell? ((ad.add (i * 3)).add 2) = some (.string l[i].wt) := c2
  rw [c1'] at e1
  rw [c2'] at e2
  have r1 := hr.field Tryz.underlying42 1 (ty := 9) 1 1 rfl (by kernel_rfl)
  have r2 := hr.field Tryz.underlying42 2 (ty := 9) 2 1 rfl (by kernel_rfl)
  match cs, hl, e1, e2, r1, r2 with
  | [a, b, d], _, e1, e2, r1, r2 =>
    simp at e1 e2
    subst e1 e2
    exact ⟨r1.string Tryz.underlying9, r2.string Tryz.underlying9⟩

/-- a disk as it comes in is within bounds. -/
theorem DkIn.bnd {w : World} {A : Option Addr} {n c : Nat} {d : Dk} (h : DkIn w A n c d) : Wm.Bnd 2305843009213693952 d :=
  ⟨fun f hf => by have h1 := h.fil f hf; unfold FilIn at h1; omega, by have h1 := h.dsk.len; have h2 := h.dsk.few; rw [h1]; exact h2, h.room, h.fuse⟩
theorem DkIn.small {w : World} {A : Option Addr} {n c : Nat} {d : Dk} (h : DkIn w A n c d) (hu : RdU w 24 [.slice A n c, .int .i64 d.room, .int .i64 d.fuse, .bool d.off]) : ∀ f ∈ d.fs, f.sf.size ≤ 1048576 ∧ f.wt.size ≤ 1048576 := by
  have r := hu.field Tryz.underlying24 0 (ty := 22) 0 1 rfl (by kernel_rfl)
  exact files_small h.dsk r
end Go.Proofs.YtggbdhnjogalgaaGreatDoor
