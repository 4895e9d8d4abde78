/- For every row of alarms, every alarm, now, id: what is put, popped, due and dropped, and whether it is a heap, is as the document says. No condition. -/
import Derived.Test.YtbclamfpoigneaaAlShown
import Derived.Test.YtbclamfpoigneaaFrame
import Derived.Test.YtbclamfpoigneaaHeldL
import Derived.Deep.DeepCutAuto
import Derived.Test.YtbclamfpoigneaaIntsSame
namespace Go.Proofs.Ytbclamfpoigneaa.alarmActs
set_option maxRecDepth 100000
open Go.ChangeShapes Go.WideShapes Go.ChangeAt Go.RowKit Am
set_option linter.unusedVariables false
set_option linter.unusedSimpArgs false

set_option maxHeartbeats 8000000 in
theorem walk (A : Option Addr) (n c : Nat) (l : List Al) (a : Al) (now : Nat) (id : Int) (w : World) (hd : In_ alK w A n c l) (hb : n * 16 ≤ 140737488351232) (hp : ∀ a ∈ l, AlIn a) (pa : AlIn a) (hid : -9223372036854775808 ≤ id ∧ id ≤ 9223372036854775807) :
    Calls Try.prog 3 #[.agg #[.slice A n c, .int .u64 (a.at_ : Int), .int .i64 a.id, .int .u64 (now : Int), .int .i64 id]] w fun e w' => e = .returned (.bool true) ∧ Q w w' := by
  have K0 := Lib.hid (fun W => alshown_any W)
  have HD := Lib.hid hd
  have HL := Lib.hid hd.len
  clear hp pa hid hd
  by_cases hbig : 300 < n
  · have hbi : (300 : Int) < (n : Int) := by omega
    have X := Lib.hid (And.intro (((Q.refl w).alloc (.cells #[.slice A n c, .int .u64 (a.at_ : Int), .int .i64 a.id, .int .u64 (now : Int), .int .i64 id] 27)).alloc (.cells #[.int .u64 (a.at_ : Int), .int .i64 a.id] 25)) (Bx.new (w.alloc (.cells #[.slice A n c, .int .u64 (a.at_ : Int), .int .i64 a.id, .int .u64 (now : Int), .int .i64 id] 27)) [.int .u64 (a.at_ : Int), .int .i64 a.id] 25))
    rw [show (w.alloc (.cells #[.slice A n c, .int .u64 (a.at_ : Int), .int .i64 a.id, .int .u64 (now : Int), .int .i64 id] 27)).heap.size = w.heap.size + 1 by simp] at X
    go_enter Try.func3, Try.ntmps3
    go_upto_region 5 with (fail)
    change Hid (_ ∧ Bx ((w.alloc (.cells #[.slice A n c, .int .u64 (a.at_ : Int), .int .i64 a.id, .int .u64 (now : Int), .int .i64 id] 27)).alloc (.cells #[.int .u64 (a.at_ : Int), .int .i64 a.id] 25)) _ _) at X
    generalize ((w.alloc (.cells #[.slice A n c, .int .u64 (a.at_ : Int), .int .i64 a.id, .int .u64 (now : Int), .int .i64 id] 27)).alloc (.cells #[.int .u64 (a.at_ : Int), .int .i64 a.id] 25)) = w5 at X ⊢
    go_wp2_with fail
    refine (K0.out _).mono ?_
    rintro e w6 ⟨rfl, q6⟩
    go_wp2
    go_ret
    exact ⟨rfl, X.out.1.trans q6⟩
  have hbi : ¬ (300 : Int) < (n : Int) := by omega
  have hnb : n ≤ 300 := by omega
  have K1 := Lib.hid (fun W hA => aput_any A n c l a W hA (by omega))
  have K2 := Lib.hid (fun W hA => (rput_any A n c l a W hA (by omega)).mono fun e w' => retL_i (by omega))
  have K3 := Lib.hid (fun W hA => apop_any A n c l W hA (by omega))
  have K4 := Lib.hid (fun W hA => (rpop_any A n c l W hA (by omega)).mono fun e w' => retP_w)
  have K5 := Lib.hid (fun W hA => adue_any A n c l now W hA (by omega))
  have K6 := Lib.hid (fun W hA => (rdue_any A n c l now W hA (by omega)).mono fun e w' => retD_w)
  have K7 := Lib.hid (fun W hA => adrop_any A n c l id W hA (by omega))
  have e5 := dropF_len id l []
  rw [HL.out, List.length_nil] at e5
  have K8 := Lib.hid (fun W (hA : In_ alK W A n c l) => (rdrop_any A n c l id W hA.lst (by omega)).mono fun e w' => retL_i (by omega))
  have K9 := Lib.hid (fun W hA => aheap_any A n c l W hA (by omega))
  have K10 := Lib.hid (fun W hA => rheap_any A n c l W hA (by omega))
  have K11 := Lib.hid (fun x W => aless_any x a W)
  have K12 := Lib.hid (fun x W => rless_any x a W)
  have KS := Lib.hid (fun A B n c m d x W h1 h2 hn => rsame_self A B n c m d x W h1 h2 hn)
  have KI := Lib.hid (fun (A B : Option Addr) (n c m d : Nat) (x : List Int) (W : World) (h1 : Lst numK W A n x) (h2 : Lst numK W B m x) (hn : n ≤ maxLen) => by
    have := rints_any A B n c m d x x W h1 h2 hn (by rw [← h2.len, h1.len]; exact hn)
    rw [decide_eq_true rfl] at this
    exact this)
  have e2 := popR_len l
  have e3 := due_len n l now
  have e4 := put_len l a
  rw [HL.out] at e2 e3 e4
  unfold RetPw at K3 K4
  unfold RetDw at K5 K6
  unfold RetI at K1 K2 K7 K8
  unfold alV at K1 K2 K3 K4 K11 K12
  generalize popR l = p at *
  generalize Am.due n l now = du at *
  obtain ⟨dk, dl⟩ := du
  simp only at K5 K6 e3
  generalize put l a = pu at *
  generalize dropF id l [] = dr at *
  generalize decide (0 < l.length) = isb at K3 K4
  generalize g l 0 = f at K3 K4
  generalize heapB l = hb0 at K9 K10
  have HN := Lib.hid (And.intro (show p.length ≤ maxLen by unfold maxLen; omega) (And.intro (show dk.length ≤ maxLen by unfold maxLen; omega) (And.intro (show dl.length ≤ maxLen by unfold maxLen; omega) (And.intro (show pu.length ≤ maxLen by unfold maxLen; omega) (show dr.length ≤ maxLen by unfold maxLen; omega)))))
  generalize p.length = pn at *
  generalize dk.length = dn at *
  generalize dl.length = ln at *
  generalize pu.length = un at *
  generalize dr.length = rn at *
  clear e2 e3 e4 e5 hbig
  have hbb : (isb == isb) = true := by simp
  have hbb2 : (hb0 == hb0) = true := by simp
  have X := Lib.hid (And.intro (((Q.refl w).alloc (.cells #[.slice A n c, .int .u64 (a.at_ : Int), .int .i64 a.id, .int .u64 (now : Int), .int .i64 id] 27)).alloc (.cells #[.int .u64 (a.at_ : Int), .int .i64 a.id] 25)) (Bx.new (w.alloc (.cells #[.slice A n c, .int .u64 (a.at_ : Int), .int .i64 a.id, .int .u64 (now : Int), .int .i64 id] 27)) [.int .u64 (a.at_ : Int), .int .i64 a.id] 25))
  rw [show (w.alloc (.cells #[.slice A n c, .int .u64 (a.at_ : Int), .int .i64 a.id, .int .u64 (now : Int), .int .i64 id] 27)).heap.size = w.heap.size + 1 by simp] at X
  go_enter Try.func3, Try.ntmps3
  go_upto_region 5 with (fail)
  change Hid (_ ∧ Bx ((w.alloc (.cells #[.slice A n c, .int .u64 (a.at_ : Int), .int .i64 a.id, .int .u64 (now : Int), .int .i64 id] 27)).alloc (.cells #[.int .u64 (a.at_ : Int), .int .i64 a.id] 25)) _ _) at X
  generalize ((w.alloc (.cells #[.slice A n c, .int .u64 (a.at_ : Int), .int .i64 a.id, .int .u64 (now : Int), .int .i64 id] 27)).alloc (.cells #[.int .u64 (a.at_ : Int), .int .i64 a.id] 25)) = w5 at X ⊢
  go_wp2_with fail
  refine (K0.out _).mono ?_
  rintro e w6 ⟨rfl, q6⟩
  have X6 := Lib.hid (And.intro (X.out.1.trans q6) (X.out.2.q q6))
  clear q6 X
  obtain ⟨⟨x0, x1⟩, _⟩ := X6.out.2.get2
  go_upto_region 8 with (fail)
  refine wp_region_held_drew (S := Q w6) (by kernel_rfl) ?szz87 (fun hHeld => ?rzz87)
  case szz87 =>
    exact (Q.refl w6).drew
  case' rzz87 => skip
  refine wpAnyH_take (i := 0) (oi := ?ozz88) (v := ?vzz88) ?hzz88 ?azz88 ?bzz88 ?czz88 ?qzz88 ?yzz88 ?szz88 ?rzz88
  case hzz88 => simp only [List.getElem?_toArray, List.getElem?_cons_zero]; rfl
  case azz88 => kernel_rfl
  case bzz88 => kernel_rfl
  case czz88 => kernel_rfl
  case yzz88 =>
    refine Or.inl ⟨by rfl, ?_⟩
    intro w hSw
    skip
    go_simp
    try with_reducible rfl
  case qzz88 => exact fun _ _ _ h => h
  case szz88 => first | assumption | trivial
  case' rzz88 => simp only [Act.put, List.setIfInBounds_toArray, List.set_cons_zero, List.set_cons_succ]
  refine wpAnyH_take (i := 1) (oi := ?ozz89) (v := ?vzz89) ?hzz89 ?azz89 ?bzz89 ?czz89 ?qzz89 ?yzz89 ?szz89 ?rzz89
  case hzz89 => simp only [List.getElem?_toArray, List.getElem?_cons_zero, List.getElem?_cons_succ]; rfl
  case azz89 => kernel_rfl
  case bzz89 => kernel_rfl
  case czz89 => kernel_rfl
  case yzz89 =>
    refine Or.inl ⟨by rfl, ?_⟩
    intro w hSw
    have a0 := box_ hSw x0; have a1 := box_ hSw x1; clear hSw
    go_simp
    try with_reducible rfl
  case qzz89 => exact fun _ _ _ h => h
  case szz89 => first | assumption | trivial
  case' rzz89 => simp only [Act.put, List.setIfInBounds_toArray, List.set_cons_zero, List.set_cons_succ]
  refine wpAnyH_take (i := 3) (oi := ?ozz90) (v := ?vzz90) ?hzz90 ?azz90 ?bzz90 ?czz90 ?qzz90 ?yzz90 ?szz90 ?rzz90
  case hzz90 => simp only [List.getElem?_toArray, List.getElem?_cons_zero, List.getElem?_cons_succ]; rfl
  case azz90 => kernel_rfl
  case bzz90 => kernel_rfl
  case czz90 => kernel_rfl
  case yzz90 =>
    refine Or.inl ⟨by rfl, ?_⟩
    intro w hSw
    skip
    go_simp
    try with_reducible rfl
  case qzz90 => exact fun _ _ _ h => h
  case szz90 => first | assumption | trivial
  case' rzz90 => simp only [Act.put, List.setIfInBounds_toArray, List.set_cons_zero, List.set_cons_succ]
  refine wpAnyH_take (i := 4) (oi := ?ozz91) (v := ?vzz91) ?hzz91 ?azz91 ?bzz91 ?czz91 ?qzz91 ?yzz91 ?szz91 ?rzz91
  case hzz91 => simp only [List.getElem?_toArray, List.getElem?_cons_zero, List.getElem?_cons_succ]; rfl
  case azz91 => kernel_rfl
  case bzz91 => kernel_rfl
  case czz91 => kernel_rfl
  case yzz91 =>
    refine Or.inl ⟨by rfl, ?_⟩
    intro w hSw
    have a0 := box_ hSw x0; have a1 := box_ hSw x1; clear hSw
    go_simp
    try with_reducible rfl
  case qzz91 => exact fun _ _ _ h => h
  case szz91 => first | assumption | trivial
  case' rzz91 => simp only [Act.put, List.setIfInBounds_toArray, List.set_cons_zero, List.set_cons_succ]
  refine wpAnyH_ready (rs := [2]) (by kernel_rfl) (by simp) ?_
  refine AllReadyH.cons (o := ?ozz95) ?hzz95 (fun K hK => ?kzz95) ?mzz95
  case hzz95 => simp only [List.getElem?_toArray, List.getElem?_cons_zero, List.getElem?_cons_succ]; rfl
  case kzz95 =>
    go_simp
    refine (K1.out _ (HD.out.q (X6.out.1.trans hHeld))).mono ?_
    rintro e v2 ⟨B2, c2, rfl, i2, q2⟩
    have I2 := Lib.hid i2
    clear i2
    go_wp2_with fail
    refine hK.out _ _ ?Szz95 (fun hHeld => ?Rzz95)
    case Szz95 =>
      exact hHeld.trans q2
    case Rzz95 =>
      clear hK K
      try simp only [Act.put, List.setIfInBounds_toArray, List.set_cons_zero, List.set_cons_succ]
      refine wpAnyH_ready (rs := [5]) (by kernel_rfl) (by simp) ?_
      refine AllReadyH.cons (o := ?ozz94) ?hzz94 (fun K hK => ?kzz94) ?mzz94
      case hzz94 => simp only [List.getElem?_toArray, List.getElem?_cons_zero, List.getElem?_cons_succ]; rfl
      case kzz94 =>
        go_simp
        refine (K2.out _ (HD.out.q (X6.out.1.trans hHeld))).mono ?_
        rintro e v3 ⟨B3, c3, rfl, i3, q3⟩
        have I3 := Lib.hid (And.intro (I2.out.q q3) i3)
        clear i3 I2
        go_wp2_with fail
        refine hK.out _ _ ?Szz94 (fun hHeld => ?Rzz94)
        case Szz94 =>
          exact hHeld.trans q3
        case Rzz94 =>
          clear hK K
          try simp only [Act.put, List.setIfInBounds_toArray, List.set_cons_zero, List.set_cons_succ]
          refine wpAnyH_ready (rs := [6]) (by kernel_rfl) (by simp) ?_
          refine AllReadyH.cons (o := ?ozz93) ?hzz93 (fun K hK => ?kzz93) ?mzz93
          case hzz93 => simp only [List.getElem?_toArray, List.getElem?_cons_zero, List.getElem?_cons_succ]; rfl
          case kzz93 =>
            go_simp
            refine (KS.out _ _ _ _ _ _ _ _ I3.out.1.lst I3.out.2.lst HN.out.2.2.2.1).mono ?_
            rintro e v4 ⟨rfl, q4⟩
            go_wp2_with fail
            refine hK.out _ _ ?Szz93 (fun hHeld => ?Rzz93)
            case Szz93 =>
              exact hHeld.trans q4
            case Rzz93 =>
              clear hK K
              try simp only [Act.put, List.setIfInBounds_toArray, List.set_cons_zero, List.set_cons_succ]
              refine wpAnyH_take (i := 7) (oi := ?ozz92) (v := ?vzz92) ?hzz92 ?azz92 ?bzz92 ?czz92 ?qzz92 ?yzz92 ?szz92 ?rzz92
              case hzz92 => simp only [List.getElem?_toArray, List.getElem?_cons_zero, List.getElem?_cons_succ]; rfl
              case azz92 => kernel_rfl
              case bzz92 => kernel_rfl
              case czz92 => kernel_rfl
              case yzz92 =>
                refine Or.inl ⟨by rfl, ?_⟩
                intro w hSw
                skip
                go_simp
                try with_reducible rfl
              case qzz92 => exact fun _ _ _ h => h
              case szz92 => first | assumption | trivial
              case' rzz92 => simp only [Act.put, List.setIfInBounds_toArray, List.set_cons_zero, List.set_cons_succ]
              refine wpAnyH_done (by kernel_rfl) ?_ _
              have X8 := Lib.hid (And.intro (X6.out.1.trans hHeld) (X6.out.2.q hHeld))
              clear hHeld x0 x1 I3 X6
              generalize v4 = w8 at X8 ⊢
              go_wp2_with fail
              refine (K3.out _ (HD.out.q X8.out.1)).mono ?_
              rintro e w9 ⟨B9, c9, rfl, i9, q9⟩
              have qa := (Q.refl w9).alloc (.cells #[.int .u64 (f.at_ : Int), .int .i64 f.id] 25)
              have Y9 := Lib.hid (And.intro ((X8.out.1.trans q9).trans qa) (And.intro ((X8.out.2.q q9).q qa) (And.intro (i9.q qa) (Bx.new w9 [.int .u64 (f.at_ : Int), .int .i64 f.id] 25))))
              clear q9 qa i9 X8
              go_upto_region 10 with (fail)
              change Hid (Q w (w9.alloc (.cells #[.int .u64 (f.at_ : Int), .int .i64 f.id] 25)) ∧ Bx (w9.alloc (.cells #[.int .u64 (f.at_ : Int), .int .i64 f.id] 25)) _ _ ∧ In_ alK (w9.alloc (.cells #[.int .u64 (f.at_ : Int), .int .i64 f.id] 25)) _ _ _ _ ∧ Bx (w9.alloc (.cells #[.int .u64 (f.at_ : Int), .int .i64 f.id] 25)) _ _) at Y9
              generalize w9.heap.size = b9 at Y9 ⊢
              generalize (w9.alloc (.cells #[.int .u64 (f.at_ : Int), .int .i64 f.id] 25)) = w10 at Y9 ⊢
              go_wp2_with fail
              refine (K4.out _ (HD.out.q Y9.out.1)).mono ?_
              rintro e w11 ⟨B11, c11, rfl, i11, q11⟩
              have qa := (Q.refl w11).alloc (.cells #[.int .u64 (f.at_ : Int), .int .i64 f.id] 25)
              have Y11 := Lib.hid (And.intro ((Y9.out.1.trans q11).trans qa) (And.intro ((Y9.out.2.1.q q11).q qa) (And.intro ((Y9.out.2.2.1.q q11).q qa) (And.intro ((Y9.out.2.2.2.q q11).q qa) (And.intro (i11.q qa) (Bx.new w11 [.int .u64 (f.at_ : Int), .int .i64 f.id] 25))))))
              clear q11 qa i11 Y9
              go_upto_region 11 with (fail)
              change Hid (Q w (w11.alloc (.cells #[.int .u64 (f.at_ : Int), .int .i64 f.id] 25)) ∧ Bx (w11.alloc (.cells #[.int .u64 (f.at_ : Int), .int .i64 f.id] 25)) _ _ ∧ In_ alK (w11.alloc (.cells #[.int .u64 (f.at_ : Int), .int .i64 f.id] 25)) _ _ _ _ ∧ Bx (w11.alloc (.cells #[.int .u64 (f.at_ : Int), .int .i64 f.id] 25)) _ _ ∧ In_ alK (w11.alloc (.cells #[.int .u64 (f.at_ : Int), .int .i64 f.id] 25)) _ _ _ _ ∧ Bx (w11.alloc (.cells #[.int .u64 (f.at_ : Int), .int .i64 f.id] 25)) _ _) at Y11
              generalize w11.heap.size = b11 at Y11 ⊢
              generalize (w11.alloc (.cells #[.int .u64 (f.at_ : Int), .int .i64 f.id] 25)) = w12 at Y11 ⊢
              go_wp2_with fail
              refine (K5.out _ (HD.out.q Y11.out.1)).mono ?_
              rintro e w13 ⟨B13, c13, D13, d13, rfl, i13, o13, q13⟩
              have Y13 := Lib.hid (And.intro (Y11.out.1.trans q13) (And.intro (Y11.out.2.1.q q13) (And.intro (Y11.out.2.2.1.q q13) (And.intro (Y11.out.2.2.2.1.q q13) (And.intro (Y11.out.2.2.2.2.1.q q13) (And.intro (Y11.out.2.2.2.2.2.q q13) (And.intro i13 o13)))))))
              clear q13 i13 o13 Y11
              go_wp2_with fail
              refine (K6.out _ (HD.out.q Y13.out.1)).mono ?_
              rintro e w14 ⟨B14, c14, D14, d14, rfl, i14, o14, q14⟩
              have Z := Lib.hid (And.intro (Y13.out.1.trans q14) (Y13.out.2.1.q q14))
              have ZP := Lib.hid (And.intro (Y13.out.2.2.1.q q14) (And.intro (Y13.out.2.2.2.1.q q14) (And.intro (Y13.out.2.2.2.2.1.q q14) (Y13.out.2.2.2.2.2.1.q q14))))
              have ZD := Lib.hid (And.intro (Y13.out.2.2.2.2.2.2.1.q q14) (And.intro (Y13.out.2.2.2.2.2.2.2.q q14) (And.intro i14 o14)))
              clear q14 i14 o14 Y13
              go_wp2_with fail
              refine (KS.out _ _ _ _ _ _ _ _ ZP.out.1.lst ZP.out.2.2.1.lst HN.out.1).mono ?_
              rintro e w15 ⟨rfl, q15⟩
              have Z2 := Lib.hid (And.intro (Z.out.1.trans q15) (Z.out.2.q q15))
              have ZP2 := Lib.hid (And.intro (ZP.out.2.1.q q15) (ZP.out.2.2.2.q q15))
              have ZD2 := Lib.hid (And.intro (ZD.out.1.q q15) (And.intro (ZD.out.2.1.q q15) (And.intro (ZD.out.2.2.1.q q15) (ZD.out.2.2.2.q q15))))
              clear q15 Z ZP ZD
              obtain ⟨⟨x0, x1⟩, _⟩ := ZP2.out.1.get2
              obtain ⟨⟨y0, y1⟩, _⟩ := ZP2.out.2.get2
              go_wp2_with fail
              refine (KS.out _ _ _ _ _ _ _ _ ZD2.out.1.lst ZD2.out.2.2.1.lst HN.out.2.1).mono ?_
              rintro e w16 ⟨rfl, q16⟩
              have Z3 := Lib.hid (And.intro (Z2.out.1.trans q16) (And.intro (Z2.out.2.q q16) (And.intro (ZD2.out.2.1.q q16) (ZD2.out.2.2.2.q q16))))
              clear q16 Z2 ZP2 ZD2 x0 x1 y0 y1
              go_wp2_with fail
              refine (KI.out _ _ _ _ _ _ _ _ Z3.out.2.2.1 Z3.out.2.2.2 HN.out.2.2.1).mono ?_
              rintro e w17 ⟨rfl, q17⟩
              have Z4 := Lib.hid (And.intro (Z3.out.1.trans q17) (Z3.out.2.1.q q17))
              clear q17 Z3
              go_wp2_with fail
              refine (K7.out _ (HD.out.q Z4.out.1)).mono ?_
              rintro e w18 ⟨B18, c18, rfl, i18, q18⟩
              have Z5 := Lib.hid (And.intro (Z4.out.1.trans q18) (And.intro (Z4.out.2.q q18) i18))
              clear q18 Z4 i18
              go_wp2_with fail
              refine (K8.out _ (HD.out.q Z5.out.1)).mono ?_
              rintro e w19 ⟨B19, c19, rfl, i19, q19⟩
              have Z6 := Lib.hid (And.intro (Z5.out.1.trans q19) (And.intro (Z5.out.2.1.q q19) (And.intro (Z5.out.2.2.q q19) i19)))
              clear q19 Z5 i19
              go_wp2_with fail
              refine (KS.out _ _ _ _ _ _ _ _ Z6.out.2.2.1.lst Z6.out.2.2.2.lst HN.out.2.2.2.2).mono ?_
              rintro e w20 ⟨rfl, q20⟩
              have Z7 := Lib.hid (And.intro (Z6.out.1.trans q20) (Z6.out.2.1.q q20))
              clear q20 Z6
              obtain ⟨⟨x0, x1⟩, _⟩ := Z7.out.2.get2
              go_upto_region 16 with (fail)
              by_cases h0 : n = 0
              · subst h0
                refine wp_region_held_drew (S := Q w20) (by kernel_rfl) ?szz7 (fun hHeld => ?rzz7)
                case szz7 =>
                  exact (Q.refl w20).drew
                case' rzz7 => skip
                refine wpAnyH_take (i := 0) (oi := ?ozz8) (v := ?vzz8) ?hzz8 ?azz8 ?bzz8 ?czz8 ?qzz8 ?yzz8 ?szz8 ?rzz8
                case hzz8 => simp only [List.getElem?_toArray, List.getElem?_cons_zero]; rfl
                case azz8 => kernel_rfl
                case bzz8 => kernel_rfl
                case czz8 => kernel_rfl
                case yzz8 =>
                  refine Or.inl ⟨by rfl, ?_⟩
                  intro w hSw
                  skip
                  go_simp
                  try with_reducible rfl
                case qzz8 => exact fun _ _ _ h => h
                case szz8 => first | assumption | trivial
                case' rzz8 => simp only [Act.put, List.setIfInBounds_toArray, List.set_cons_zero, List.set_cons_succ]
                refine wpAnyH_take (i := 1) (oi := ?ozz9) (v := ?vzz9) ?hzz9 ?azz9 ?bzz9 ?czz9 ?qzz9 ?yzz9 ?szz9 ?rzz9
                case hzz9 => simp only [List.getElem?_toArray, List.getElem?_cons_zero, List.getElem?_cons_succ]; rfl
                case azz9 => kernel_rfl
                case bzz9 => kernel_rfl
                case czz9 => kernel_rfl
                case yzz9 =>
                  refine Or.inl ⟨by rfl, ?_⟩
                  intro w hSw
                  skip
                  go_simp
                  try with_reducible rfl
                case qzz9 => exact fun _ _ _ h => h
                case szz9 => first | assumption | trivial
                case' rzz9 => simp only [Act.put, List.setIfInBounds_toArray, List.set_cons_zero, List.set_cons_succ]
                refine wpAnyH_take (i := 2) (oi := ?ozz10) (v := ?vzz10) ?hzz10 ?azz10 ?bzz10 ?czz10 ?qzz10 ?yzz10 ?szz10 ?rzz10
                case hzz10 => simp only [List.getElem?_toArray, List.getElem?_cons_zero, List.getElem?_cons_succ]; rfl
                case azz10 => kernel_rfl
                case bzz10 => kernel_rfl
                case czz10 => kernel_rfl
                case yzz10 =>
                  refine Or.inl ⟨by rfl, ?_⟩
                  intro w hSw
                  skip
                  go_simp
                  try with_reducible rfl
                case qzz10 => exact fun _ _ _ h => h
                case szz10 => first | assumption | trivial
                case' rzz10 => simp only [Act.put, List.setIfInBounds_toArray, List.set_cons_zero, List.set_cons_succ]
                refine wpAnyH_take (i := 3) (oi := ?ozz11) (v := ?vzz11) ?hzz11 ?azz11 ?bzz11 ?czz11 ?qzz11 ?yzz11 ?szz11 ?rzz11
                case hzz11 => simp only [List.getElem?_toArray, List.getElem?_cons_zero, List.getElem?_cons_succ]; rfl
                case azz11 => kernel_rfl
                case bzz11 => kernel_rfl
                case czz11 => kernel_rfl
                case yzz11 =>
                  refine Or.inl ⟨by rfl, ?_⟩
                  intro w hSw
                  skip
                  go_simp
                  try with_reducible rfl
                case qzz11 => exact fun _ _ _ h => h
                case szz11 => first | assumption | trivial
                case' rzz11 => simp only [Act.put, List.setIfInBounds_toArray, List.set_cons_zero, List.set_cons_succ]
                refine wpAnyH_take (i := 4) (oi := ?ozz12) (v := ?vzz12) ?hzz12 ?azz12 ?bzz12 ?czz12 ?qzz12 ?yzz12 ?szz12 ?rzz12
                case hzz12 => simp only [List.getElem?_toArray, List.getElem?_cons_zero, List.getElem?_cons_succ]; rfl
                case azz12 => kernel_rfl
                case bzz12 => kernel_rfl
                case czz12 => kernel_rfl
                case yzz12 =>
                  refine Or.inl ⟨by rfl, ?_⟩
                  intro w hSw
                  skip
                  go_simp
                  try with_reducible rfl
                case qzz12 => exact fun _ _ _ h => h
                case szz12 => first | assumption | trivial
                case' rzz12 => simp only [Act.put, List.setIfInBounds_toArray, List.set_cons_zero, List.set_cons_succ]
                refine wpAnyH_take (i := 5) (oi := ?ozz13) (v := ?vzz13) ?hzz13 ?azz13 ?bzz13 ?czz13 ?qzz13 ?yzz13 ?szz13 ?rzz13
                case hzz13 => simp only [List.getElem?_toArray, List.getElem?_cons_zero, List.getElem?_cons_succ]; rfl
                case azz13 => kernel_rfl
                case bzz13 => kernel_rfl
                case czz13 => kernel_rfl
                case yzz13 =>
                  refine Or.inl ⟨by rfl, ?_⟩
                  intro w hSw
                  skip
                  go_simp
                  try with_reducible rfl
                case qzz13 => exact fun _ _ _ h => h
                case szz13 => first | assumption | trivial
                case' rzz13 => simp only [Act.put, List.setIfInBounds_toArray, List.set_cons_zero, List.set_cons_succ]
                refine wpAnyH_take (i := 6) (oi := ?ozz14) (v := ?vzz14) ?hzz14 ?azz14 ?bzz14 ?czz14 ?qzz14 ?yzz14 ?szz14 ?rzz14
                case hzz14 => simp only [List.getElem?_toArray, List.getElem?_cons_zero, List.getElem?_cons_succ]; rfl
                case azz14 => kernel_rfl
                case bzz14 => kernel_rfl
                case czz14 => kernel_rfl
                case yzz14 =>
                  refine Or.inl ⟨by rfl, ?_⟩
                  intro w hSw
                  skip
                  go_simp
                  try with_reducible rfl
                case qzz14 => exact fun _ _ _ h => h
                case szz14 => first | assumption | trivial
                case' rzz14 => simp only [Act.put, List.setIfInBounds_toArray, List.set_cons_zero, List.set_cons_succ]
                refine wpAnyH_take (i := 7) (oi := ?ozz15) (v := ?vzz15) ?hzz15 ?azz15 ?bzz15 ?czz15 ?qzz15 ?yzz15 ?szz15 ?rzz15
                case hzz15 => simp only [List.getElem?_toArray, List.getElem?_cons_zero, List.getElem?_cons_succ]; rfl
                case azz15 => kernel_rfl
                case bzz15 => kernel_rfl
                case czz15 => kernel_rfl
                case yzz15 =>
                  refine Or.inl ⟨by rfl, ?_⟩
                  intro w hSw
                  skip
                  go_simp
                  try with_reducible rfl
                case qzz15 => exact fun _ _ _ h => h
                case szz15 => first | assumption | trivial
                case' rzz15 => simp only [Act.put, List.setIfInBounds_toArray, List.set_cons_zero, List.set_cons_succ]
                refine wpAnyH_take (i := 8) (oi := ?ozz16) (v := ?vzz16) ?hzz16 ?azz16 ?bzz16 ?czz16 ?qzz16 ?yzz16 ?szz16 ?rzz16
                case hzz16 => simp only [List.getElem?_toArray, List.getElem?_cons_zero, List.getElem?_cons_succ]; rfl
                case azz16 => kernel_rfl
                case bzz16 => kernel_rfl
                case czz16 => kernel_rfl
                case yzz16 =>
                  refine Or.inl ⟨by rfl, ?_⟩
                  intro w hSw
                  skip
                  go_simp
                  try with_reducible rfl
                case qzz16 => exact fun _ _ _ h => h
                case szz16 => first | assumption | trivial
                case' rzz16 => simp only [Act.put, List.setIfInBounds_toArray, List.set_cons_zero, List.set_cons_succ]
                refine wpAnyH_take (i := 9) (oi := ?ozz17) (v := ?vzz17) ?hzz17 ?azz17 ?bzz17 ?czz17 ?qzz17 ?yzz17 ?szz17 ?rzz17
                case hzz17 => simp only [List.getElem?_toArray, List.getElem?_cons_zero, List.getElem?_cons_succ]; rfl
                case azz17 => kernel_rfl
                case bzz17 => kernel_rfl
                case czz17 => kernel_rfl
                case yzz17 =>
                  refine Or.inl ⟨by rfl, ?_⟩
                  intro w hSw
                  skip
                  go_simp
                  try with_reducible rfl
                case qzz17 => exact fun _ _ _ h => h
                case szz17 => first | assumption | trivial
                case' rzz17 => simp only [Act.put, List.setIfInBounds_toArray, List.set_cons_zero, List.set_cons_succ]
                refine wpAnyH_take (i := 10) (oi := ?ozz18) (v := ?vzz18) ?hzz18 ?azz18 ?bzz18 ?czz18 ?qzz18 ?yzz18 ?szz18 ?rzz18
                case hzz18 => simp only [List.getElem?_toArray, List.getElem?_cons_zero, List.getElem?_cons_succ]; rfl
                case azz18 => kernel_rfl
                case bzz18 => kernel_rfl
                case czz18 => kernel_rfl
                case yzz18 =>
                  refine Or.inl ⟨by rfl, ?_⟩
                  intro w hSw
                  skip
                  go_simp
                  try with_reducible rfl
                case qzz18 => exact fun _ _ _ h => h
                case szz18 => first | assumption | trivial
                case' rzz18 => simp only [Act.put, List.setIfInBounds_toArray, List.set_cons_zero, List.set_cons_succ]
                refine wpAnyH_take (i := 11) (oi := ?ozz19) (v := ?vzz19) ?hzz19 ?azz19 ?bzz19 ?czz19 ?qzz19 ?yzz19 ?szz19 ?rzz19
                case hzz19 => simp only [List.getElem?_toArray, List.getElem?_cons_zero, List.getElem?_cons_succ]; rfl
                case azz19 => kernel_rfl
                case bzz19 => kernel_rfl
                case czz19 => kernel_rfl
                case yzz19 =>
                  refine Or.inl ⟨by rfl, ?_⟩
                  intro w hSw
                  skip
                  go_simp
                  try with_reducible rfl
                case qzz19 => exact fun _ _ _ h => h
                case szz19 => first | assumption | trivial
                case' rzz19 => simp only [Act.put, List.setIfInBounds_toArray, List.set_cons_zero, List.set_cons_succ]
                refine wpAnyH_take (i := 12) (oi := ?ozz20) (v := ?vzz20) ?hzz20 ?azz20 ?bzz20 ?czz20 ?qzz20 ?yzz20 ?szz20 ?rzz20
                case hzz20 => simp only [List.getElem?_toArray, List.getElem?_cons_zero, List.getElem?_cons_succ]; rfl
                case azz20 => kernel_rfl
                case bzz20 => kernel_rfl
                case czz20 => kernel_rfl
                case yzz20 =>
                  refine Or.inl ⟨by rfl, ?_⟩
                  intro w hSw
                  skip
                  go_simp
                  try with_reducible rfl
                case qzz20 => exact fun _ _ _ h => h
                case szz20 => first | assumption | trivial
                case' rzz20 => simp only [Act.put, List.setIfInBounds_toArray, List.set_cons_zero, List.set_cons_succ]
                refine wpAnyH_take (i := 13) (oi := ?ozz21) (v := ?vzz21) ?hzz21 ?azz21 ?bzz21 ?czz21 ?qzz21 ?yzz21 ?szz21 ?rzz21
                case hzz21 => simp only [List.getElem?_toArray, List.getElem?_cons_zero, List.getElem?_cons_succ]; rfl
                case azz21 => kernel_rfl
                case bzz21 => kernel_rfl
                case czz21 => kernel_rfl
                case yzz21 =>
                  refine Or.inl ⟨by rfl, ?_⟩
                  intro w hSw
                  skip
                  go_simp
                  try with_reducible rfl
                case qzz21 => exact fun _ _ _ h => h
                case szz21 => first | assumption | trivial
                case' rzz21 => simp only [Act.put, List.setIfInBounds_toArray, List.set_cons_zero, List.set_cons_succ]
                refine wpAnyH_take (i := 14) (oi := ?ozz22) (v := ?vzz22) ?hzz22 ?azz22 ?bzz22 ?czz22 ?qzz22 ?yzz22 ?szz22 ?rzz22
                case hzz22 => simp only [List.getElem?_toArray, List.getElem?_cons_zero, List.getElem?_cons_succ]; rfl
                case azz22 => kernel_rfl
                case bzz22 => kernel_rfl
                case czz22 => kernel_rfl
                case yzz22 =>
                  refine Or.inl ⟨by rfl, ?_⟩
                  intro w hSw
                  skip
                  go_simp
                  try with_reducible rfl
                case qzz22 => exact fun _ _ _ h => h
                case szz22 => first | assumption | trivial
                case' rzz22 => simp only [Act.put, List.setIfInBounds_toArray, List.set_cons_zero, List.set_cons_succ]
                refine wpAnyH_take (i := 16) (oi := ?ozz23) (v := ?vzz23) ?hzz23 ?azz23 ?bzz23 ?czz23 ?qzz23 ?yzz23 ?szz23 ?rzz23
                case hzz23 => simp only [List.getElem?_toArray, List.getElem?_cons_zero, List.getElem?_cons_succ]; rfl
                case azz23 => kernel_rfl
                case bzz23 => kernel_rfl
                case czz23 => kernel_rfl
                case yzz23 =>
                  refine Or.inl ⟨by rfl, ?_⟩
                  intro w hSw
                  skip
                  go_simp
                  try with_reducible rfl
                case qzz23 => exact fun _ _ _ h => h
                case szz23 => first | assumption | trivial
                case' rzz23 => simp only [Act.put, List.setIfInBounds_toArray, List.set_cons_zero, List.set_cons_succ]
                refine wpAnyH_ready (rs := [15]) (by kernel_rfl) (by simp) ?_
                refine AllReadyH.cons (o := ?ozz46) ?hzz46 (fun K hK => ?kzz46) ?mzz46
                case hzz46 => simp only [List.getElem?_toArray, List.getElem?_cons_zero, List.getElem?_cons_succ]; rfl
                case kzz46 =>
                  go_simp
                  refine (K9.out _ (HD.out.lst.q (Z7.out.1.trans hHeld))).mono ?_
                  rintro e v2 ⟨rfl, q2⟩
                  go_wp2_with fail
                  refine hK.out _ _ ?Szz46 (fun hHeld => ?Rzz46)
                  case Szz46 =>
                    exact hHeld.trans q2
                  case Rzz46 =>
                    clear hK K
                    try simp only [Act.put, List.setIfInBounds_toArray, List.set_cons_zero, List.set_cons_succ]
                    refine wpAnyH_ready (rs := [17]) (by kernel_rfl) (by simp) ?_
                    refine AllReadyH.cons (o := ?ozz45) ?hzz45 (fun K hK => ?kzz45) ?mzz45
                    case hzz45 => simp only [List.getElem?_toArray, List.getElem?_cons_zero, List.getElem?_cons_succ]; rfl
                    case kzz45 =>
                      go_simp
                      refine (K10.out _ (HD.out.lst.q (Z7.out.1.trans hHeld))).mono ?_
                      rintro e v3 ⟨rfl, q3⟩
                      go_wp2_with fail
                      refine hK.out _ _ ?Szz45 (fun hHeld => ?Rzz45)
                      case Szz45 =>
                        exact hHeld.trans q3
                      case Rzz45 =>
                        clear hK K
                        try simp only [Act.put, List.setIfInBounds_toArray, List.set_cons_zero, List.set_cons_succ]
                        refine wpAnyH_take (i := 18) (oi := ?ozz24) (v := ?vzz24) ?hzz24 ?azz24 ?bzz24 ?czz24 ?qzz24 ?yzz24 ?szz24 ?rzz24
                        case hzz24 => simp only [List.getElem?_toArray, List.getElem?_cons_zero, List.getElem?_cons_succ]; rfl
                        case azz24 => kernel_rfl
                        case bzz24 => kernel_rfl
                        case czz24 => kernel_rfl
                        case yzz24 =>
                          refine Or.inl ⟨by rfl, ?_⟩
                          intro w hSw
                          skip
                          go_simp
                          try with_reducible rfl
                        case qzz24 => exact fun _ _ _ h => h
                        case szz24 => first | assumption | trivial
                        case' rzz24 => simp only [Act.put, List.setIfInBounds_toArray, List.set_cons_zero, List.set_cons_succ]
                        refine wpAnyH_take (i := 19) (oi := ?ozz25) (v := ?vzz25) ?hzz25 ?azz25 ?bzz25 ?czz25 ?qzz25 ?yzz25 ?szz25 ?rzz25
                        case hzz25 => simp only [List.getElem?_toArray, List.getElem?_cons_zero, List.getElem?_cons_succ]; rfl
                        case azz25 => kernel_rfl
                        case bzz25 => kernel_rfl
                        case czz25 => kernel_rfl
                        case yzz25 =>
                          refine Or.inl ⟨by rfl, ?_⟩
                          intro w hSw
                          skip
                          go_simp
                          try with_reducible rfl
                        case qzz25 => exact fun _ _ _ h => h
                        case szz25 => first | assumption | trivial
                        case' rzz25 => simp only [Act.put, List.setIfInBounds_toArray, List.set_cons_zero, List.set_cons_succ]
                        refine wpAnyH_take (i := 20) (oi := ?ozz26) (v := ?vzz26) ?hzz26 ?azz26 ?bzz26 ?czz26 ?qzz26 ?yzz26 ?szz26 ?rzz26
                        case hzz26 => simp only [List.getElem?_toArray, List.getElem?_cons_zero, List.getElem?_cons_succ]; rfl
                        case azz26 => kernel_rfl
                        case bzz26 => kernel_rfl
                        case czz26 => kernel_rfl
                        case yzz26 =>
                          refine Or.inl ⟨by rfl, ?_⟩
                          intro w hSw
                          skip
                          go_simp
                          try with_reducible rfl
                        case qzz26 => exact fun _ _ _ h => h
                        case szz26 => first | assumption | trivial
                        case' rzz26 => simp only [Act.put, List.setIfInBounds_toArray, List.set_cons_zero, List.set_cons_succ]
                        refine wpAnyH_take (i := 21) (oi := ?ozz27) (v := ?vzz27) ?hzz27 ?azz27 ?bzz27 ?czz27 ?qzz27 ?yzz27 ?szz27 ?rzz27
                        case hzz27 => simp only [List.getElem?_toArray, List.getElem?_cons_zero, List.getElem?_cons_succ]; rfl
                        case azz27 => kernel_rfl
                        case bzz27 => kernel_rfl
                        case czz27 => kernel_rfl
                        case yzz27 =>
                          refine Or.inl ⟨by rfl, ?_⟩
                          intro w hSw
                          skip
                          go_simp
                          try with_reducible rfl
                        case qzz27 => exact fun _ _ _ h => h
                        case szz27 => first | assumption | trivial
                        case' rzz27 => simp only [Act.put, List.setIfInBounds_toArray, List.set_cons_zero, List.set_cons_succ]
                        refine wpAnyH_take (i := 22) (oi := ?ozz28) (v := ?vzz28) ?hzz28 ?azz28 ?bzz28 ?czz28 ?qzz28 ?yzz28 ?szz28 ?rzz28
                        case hzz28 => simp only [List.getElem?_toArray, List.getElem?_cons_zero, List.getElem?_cons_succ]; rfl
                        case azz28 => kernel_rfl
                        case bzz28 => kernel_rfl
                        case czz28 => kernel_rfl
                        case yzz28 =>
                          refine Or.inl ⟨by rfl, ?_⟩
                          intro w hSw
                          skip
                          go_simp
                          try with_reducible rfl
                        case qzz28 => exact fun _ _ _ h => h
                        case szz28 => first | assumption | trivial
                        case' rzz28 => simp only [Act.put, List.setIfInBounds_toArray, List.set_cons_zero, List.set_cons_succ]
                        refine wpAnyH_take (i := 23) (oi := ?ozz29) (v := ?vzz29) ?hzz29 ?azz29 ?bzz29 ?czz29 ?qzz29 ?yzz29 ?szz29 ?rzz29
                        case hzz29 => simp only [List.getElem?_toArray, List.getElem?_cons_zero, List.getElem?_cons_succ]; rfl
                        case azz29 => kernel_rfl
                        case bzz29 => kernel_rfl
                        case czz29 => kernel_rfl
                        case yzz29 =>
                          refine Or.inl ⟨by rfl, ?_⟩
                          intro w hSw
                          skip
                          go_simp
                          try with_reducible rfl
                        case qzz29 => exact fun _ _ _ h => h
                        case szz29 => first | assumption | trivial
                        case' rzz29 => simp only [Act.put, List.setIfInBounds_toArray, List.set_cons_zero, List.set_cons_succ]
                        refine wpAnyH_take (i := 24) (oi := ?ozz30) (v := ?vzz30) ?hzz30 ?azz30 ?bzz30 ?czz30 ?qzz30 ?yzz30 ?szz30 ?rzz30
                        case hzz30 => simp only [List.getElem?_toArray, List.getElem?_cons_zero, List.getElem?_cons_succ]; rfl
                        case azz30 => kernel_rfl
                        case bzz30 => kernel_rfl
                        case czz30 => kernel_rfl
                        case yzz30 =>
                          refine Or.inl ⟨by rfl, ?_⟩
                          intro w hSw
                          skip
                          go_simp
                          try with_reducible rfl
                        case qzz30 => exact fun _ _ _ h => h
                        case szz30 => first | assumption | trivial
                        case' rzz30 => simp only [Act.put, List.setIfInBounds_toArray, List.set_cons_zero, List.set_cons_succ]
                        refine wpAnyH_take (i := 25) (oi := ?ozz31) (v := undef) ?hzz31 ?azz31 ?bzz31 ?czz31 ?qzz31 ?yzz31 ?szz31 ?rzz31
                        case hzz31 => simp only [List.getElem?_toArray, List.getElem?_cons_zero, List.getElem?_cons_succ]; rfl
                        case azz31 => kernel_rfl
                        case bzz31 => kernel_rfl
                        case czz31 => kernel_rfl
                        case yzz31 => exact Or.inr ⟨by rfl, rfl⟩
                        case qzz31 => exact fun _ _ _ h => h
                        case szz31 => first | assumption | trivial
                        case' rzz31 => simp only [Act.put, List.setIfInBounds_toArray, List.set_cons_zero, List.set_cons_succ]
                        refine wpAnyH_take (i := 26) (oi := ?ozz32) (v := undef) ?hzz32 ?azz32 ?bzz32 ?czz32 ?qzz32 ?yzz32 ?szz32 ?rzz32
                        case hzz32 => simp only [List.getElem?_toArray, List.getElem?_cons_zero, List.getElem?_cons_succ]; rfl
                        case azz32 => kernel_rfl
                        case bzz32 => kernel_rfl
                        case czz32 => kernel_rfl
                        case yzz32 => exact Or.inr ⟨by rfl, rfl⟩
                        case qzz32 => exact fun _ _ _ h => h
                        case szz32 => first | assumption | trivial
                        case' rzz32 => simp only [Act.put, List.setIfInBounds_toArray, List.set_cons_zero, List.set_cons_succ]
                        refine wpAnyH_take (i := 27) (oi := ?ozz33) (v := undef) ?hzz33 ?azz33 ?bzz33 ?czz33 ?qzz33 ?yzz33 ?szz33 ?rzz33
                        case hzz33 => simp only [List.getElem?_toArray, List.getElem?_cons_zero, List.getElem?_cons_succ]; rfl
                        case azz33 => kernel_rfl
                        case bzz33 => kernel_rfl
                        case czz33 => kernel_rfl
                        case yzz33 => exact Or.inr ⟨by rfl, rfl⟩
                        case qzz33 => exact fun _ _ _ h => h
                        case szz33 => first | assumption | trivial
                        case' rzz33 => simp only [Act.put, List.setIfInBounds_toArray, List.set_cons_zero, List.set_cons_succ]
                        refine wpAnyH_take (i := 28) (oi := ?ozz34) (v := undef) ?hzz34 ?azz34 ?bzz34 ?czz34 ?qzz34 ?yzz34 ?szz34 ?rzz34
                        case hzz34 => simp only [List.getElem?_toArray, List.getElem?_cons_zero, List.getElem?_cons_succ]; rfl
                        case azz34 => kernel_rfl
                        case bzz34 => kernel_rfl
                        case czz34 => kernel_rfl
                        case yzz34 => exact Or.inr ⟨by rfl, rfl⟩
                        case qzz34 => exact fun _ _ _ h => h
                        case szz34 => first | assumption | trivial
                        case' rzz34 => simp only [Act.put, List.setIfInBounds_toArray, List.set_cons_zero, List.set_cons_succ]
                        refine wpAnyH_take (i := 29) (oi := ?ozz35) (v := undef) ?hzz35 ?azz35 ?bzz35 ?czz35 ?qzz35 ?yzz35 ?szz35 ?rzz35
                        case hzz35 => simp only [List.getElem?_toArray, List.getElem?_cons_zero, List.getElem?_cons_succ]; rfl
                        case azz35 => kernel_rfl
                        case bzz35 => kernel_rfl
                        case czz35 => kernel_rfl
                        case yzz35 => exact Or.inr ⟨by rfl, rfl⟩
                        case qzz35 => exact fun _ _ _ h => h
                        case szz35 => first | assumption | trivial
                        case' rzz35 => simp only [Act.put, List.setIfInBounds_toArray, List.set_cons_zero, List.set_cons_succ]
                        refine wpAnyH_take (i := 30) (oi := ?ozz36) (v := undef) ?hzz36 ?azz36 ?bzz36 ?czz36 ?qzz36 ?yzz36 ?szz36 ?rzz36
                        case hzz36 => simp only [List.getElem?_toArray, List.getElem?_cons_zero, List.getElem?_cons_succ]; rfl
                        case azz36 => kernel_rfl
                        case bzz36 => kernel_rfl
                        case czz36 => kernel_rfl
                        case yzz36 => exact Or.inr ⟨by rfl, rfl⟩
                        case qzz36 => exact fun _ _ _ h => h
                        case szz36 => first | assumption | trivial
                        case' rzz36 => simp only [Act.put, List.setIfInBounds_toArray, List.set_cons_zero, List.set_cons_succ]
                        refine wpAnyH_take (i := 31) (oi := ?ozz37) (v := undef) ?hzz37 ?azz37 ?bzz37 ?czz37 ?qzz37 ?yzz37 ?szz37 ?rzz37
                        case hzz37 => simp only [List.getElem?_toArray, List.getElem?_cons_zero, List.getElem?_cons_succ]; rfl
                        case azz37 => kernel_rfl
                        case bzz37 => kernel_rfl
                        case czz37 => kernel_rfl
                        case yzz37 => exact Or.inr ⟨by rfl, rfl⟩
                        case qzz37 => exact fun _ _ _ h => h
                        case szz37 => first | assumption | trivial
                        case' rzz37 => simp only [Act.put, List.setIfInBounds_toArray, List.set_cons_zero, List.set_cons_succ]
                        refine wpAnyH_take (i := 32) (oi := ?ozz38) (v := undef) ?hzz38 ?azz38 ?bzz38 ?czz38 ?qzz38 ?yzz38 ?szz38 ?rzz38
                        case hzz38 => simp only [List.getElem?_toArray, List.getElem?_cons_zero, List.getElem?_cons_succ]; rfl
                        case azz38 => kernel_rfl
                        case bzz38 => kernel_rfl
                        case czz38 => kernel_rfl
                        case yzz38 => exact Or.inr ⟨by rfl, rfl⟩
                        case qzz38 => exact fun _ _ _ h => h
                        case szz38 => first | assumption | trivial
                        case' rzz38 => simp only [Act.put, List.setIfInBounds_toArray, List.set_cons_zero, List.set_cons_succ]
                        refine wpAnyH_take (i := 33) (oi := ?ozz39) (v := undef) ?hzz39 ?azz39 ?bzz39 ?czz39 ?qzz39 ?yzz39 ?szz39 ?rzz39
                        case hzz39 => simp only [List.getElem?_toArray, List.getElem?_cons_zero, List.getElem?_cons_succ]; rfl
                        case azz39 => kernel_rfl
                        case bzz39 => kernel_rfl
                        case czz39 => kernel_rfl
                        case yzz39 => exact Or.inr ⟨by rfl, rfl⟩
                        case qzz39 => exact fun _ _ _ h => h
                        case szz39 => first | assumption | trivial
                        case' rzz39 => simp only [Act.put, List.setIfInBounds_toArray, List.set_cons_zero, List.set_cons_succ]
                        refine wpAnyH_take (i := 34) (oi := ?ozz40) (v := undef) ?hzz40 ?azz40 ?bzz40 ?czz40 ?qzz40 ?yzz40 ?szz40 ?rzz40
                        case hzz40 => simp only [List.getElem?_toArray, List.getElem?_cons_zero, List.getElem?_cons_succ]; rfl
                        case azz40 => kernel_rfl
                        case bzz40 => kernel_rfl
                        case czz40 => kernel_rfl
                        case yzz40 => exact Or.inr ⟨by rfl, rfl⟩
                        case qzz40 => exact fun _ _ _ h => h
                        case szz40 => first | assumption | trivial
                        case' rzz40 => simp only [Act.put, List.setIfInBounds_toArray, List.set_cons_zero, List.set_cons_succ]
                        refine wpAnyH_take (i := 35) (oi := ?ozz41) (v := undef) ?hzz41 ?azz41 ?bzz41 ?czz41 ?qzz41 ?yzz41 ?szz41 ?rzz41
                        case hzz41 => simp only [List.getElem?_toArray, List.getElem?_cons_zero, List.getElem?_cons_succ]; rfl
                        case azz41 => kernel_rfl
                        case bzz41 => kernel_rfl
                        case czz41 => kernel_rfl
                        case yzz41 => exact Or.inr ⟨by rfl, rfl⟩
                        case qzz41 => exact fun _ _ _ h => h
                        case szz41 => first | assumption | trivial
                        case' rzz41 => simp only [Act.put, List.setIfInBounds_toArray, List.set_cons_zero, List.set_cons_succ]
                        refine wpAnyH_take (i := 36) (oi := ?ozz42) (v := ?vzz42) ?hzz42 ?azz42 ?bzz42 ?czz42 ?qzz42 ?yzz42 ?szz42 ?rzz42
                        case hzz42 => simp only [List.getElem?_toArray, List.getElem?_cons_zero, List.getElem?_cons_succ]; rfl
                        case azz42 => kernel_rfl
                        case bzz42 => kernel_rfl
                        case czz42 => kernel_rfl
                        case yzz42 =>
                          refine Or.inl ⟨by rfl, ?_⟩
                          intro w hSw
                          skip
                          go_simp
                          try with_reducible rfl
                        case qzz42 => exact fun _ _ _ h => h
                        case szz42 => first | assumption | trivial
                        case' rzz42 => simp only [Act.put, List.setIfInBounds_toArray, List.set_cons_zero, List.set_cons_succ]
                        refine wpAnyH_take (i := 37) (oi := ?ozz43) (v := ?vzz43) ?hzz43 ?azz43 ?bzz43 ?czz43 ?qzz43 ?yzz43 ?szz43 ?rzz43
                        case hzz43 => simp only [List.getElem?_toArray, List.getElem?_cons_zero, List.getElem?_cons_succ]; rfl
                        case azz43 => kernel_rfl
                        case bzz43 => kernel_rfl
                        case czz43 => kernel_rfl
                        case yzz43 =>
                          refine Or.inl ⟨by rfl, ?_⟩
                          intro w hSw
                          skip
                          go_simp
                          try with_reducible rfl
                        case qzz43 => exact fun _ _ _ h => h
                        case szz43 => first | assumption | trivial
                        case' rzz43 => simp only [Act.put, List.setIfInBounds_toArray, List.set_cons_zero, List.set_cons_succ]
                        refine wpAnyH_take (i := 38) (oi := ?ozz44) (v := ?vzz44) ?hzz44 ?azz44 ?bzz44 ?czz44 ?qzz44 ?yzz44 ?szz44 ?rzz44
                        case hzz44 => simp only [List.getElem?_toArray, List.getElem?_cons_zero, List.getElem?_cons_succ]; rfl
                        case azz44 => kernel_rfl
                        case bzz44 => kernel_rfl
                        case czz44 => kernel_rfl
                        case yzz44 =>
                          refine Or.inl ⟨by rfl, ?_⟩
                          intro w hSw
                          skip
                          go_simp
                          try with_reducible rfl
                        case qzz44 => exact fun _ _ _ h => h
                        case szz44 => first | assumption | trivial
                        case' rzz44 => simp only [Act.put, List.setIfInBounds_toArray, List.set_cons_zero, List.set_cons_succ]
                        refine wpAnyH_done (by kernel_rfl) ?_ _
                        go_wp2
                        go_ret
                        exact ⟨rfl, Z7.out.1.trans hHeld⟩
                    case' mzz45 => skip
                    exact AllReadyH.nil
                case' mzz46 => skip
                exact AllReadyH.nil
              · have hz : ((n : Int) == 0) = false := by simpa using h0
                have hz2 : (n == 0) = false := by simpa using h0
                have hnp : 0 < n := by omega
                have hnp2 : (0 : Int) < (n : Int) := by omega
                have hlp : 0 < l.length := by rw [HL.out]; exact hnp
                obtain ⟨ad, rfl, hab, y0, y1⟩ := load_al (HD.out.lst.q Z7.out.1) hnp hlp
                rw [show ad.add (0 * 2) = ad from rfl] at y0 y1
                generalize l[0] = x at y0 y1
                have K13 := Lib.hid (fun W => K11.out x W)
                have K14 := Lib.hid (fun W => K12.out x W)
                generalize less x a = lb at K13 K14
                have hbb3 : (lb == lb) = true := by simp
                clear K11 K12 hlp hab
                refine wp_region_held_drew (S := Q w20) (by kernel_rfl) ?szz47 (fun hHeld => ?rzz47)
                case szz47 =>
                  exact (Q.refl w20).drew
                case' rzz47 => skip
                refine wpAnyH_take (i := 0) (oi := ?ozz48) (v := ?vzz48) ?hzz48 ?azz48 ?bzz48 ?czz48 ?qzz48 ?yzz48 ?szz48 ?rzz48
                case hzz48 => simp only [List.getElem?_toArray, List.getElem?_cons_zero]; rfl
                case azz48 => kernel_rfl
                case bzz48 => kernel_rfl
                case czz48 => kernel_rfl
                case yzz48 =>
                  refine Or.inl ⟨by rfl, ?_⟩
                  intro w hSw
                  skip
                  go_simp
                  try with_reducible rfl
                case qzz48 => exact fun _ _ _ h => h
                case szz48 => first | assumption | trivial
                case' rzz48 => simp only [Act.put, List.setIfInBounds_toArray, List.set_cons_zero, List.set_cons_succ]
                refine wpAnyH_take (i := 1) (oi := ?ozz49) (v := ?vzz49) ?hzz49 ?azz49 ?bzz49 ?czz49 ?qzz49 ?yzz49 ?szz49 ?rzz49
                case hzz49 => simp only [List.getElem?_toArray, List.getElem?_cons_zero, List.getElem?_cons_succ]; rfl
                case azz49 => kernel_rfl
                case bzz49 => kernel_rfl
                case czz49 => kernel_rfl
                case yzz49 =>
                  refine Or.inl ⟨by rfl, ?_⟩
                  intro w hSw
                  skip
                  go_simp
                  try with_reducible rfl
                case qzz49 => exact fun _ _ _ h => h
                case szz49 => first | assumption | trivial
                case' rzz49 => simp only [Act.put, List.setIfInBounds_toArray, List.set_cons_zero, List.set_cons_succ]
                refine wpAnyH_take (i := 2) (oi := ?ozz50) (v := ?vzz50) ?hzz50 ?azz50 ?bzz50 ?czz50 ?qzz50 ?yzz50 ?szz50 ?rzz50
                case hzz50 => simp only [List.getElem?_toArray, List.getElem?_cons_zero, List.getElem?_cons_succ]; rfl
                case azz50 => kernel_rfl
                case bzz50 => kernel_rfl
                case czz50 => kernel_rfl
                case yzz50 =>
                  refine Or.inl ⟨by rfl, ?_⟩
                  intro w hSw
                  skip
                  go_simp
                  try with_reducible rfl
                case qzz50 => exact fun _ _ _ h => h
                case szz50 => first | assumption | trivial
                case' rzz50 => simp only [Act.put, List.setIfInBounds_toArray, List.set_cons_zero, List.set_cons_succ]
                refine wpAnyH_take (i := 3) (oi := ?ozz51) (v := ?vzz51) ?hzz51 ?azz51 ?bzz51 ?czz51 ?qzz51 ?yzz51 ?szz51 ?rzz51
                case hzz51 => simp only [List.getElem?_toArray, List.getElem?_cons_zero, List.getElem?_cons_succ]; rfl
                case azz51 => kernel_rfl
                case bzz51 => kernel_rfl
                case czz51 => kernel_rfl
                case yzz51 =>
                  refine Or.inl ⟨by rfl, ?_⟩
                  intro w hSw
                  skip
                  go_simp
                  try with_reducible rfl
                case qzz51 => exact fun _ _ _ h => h
                case szz51 => first | assumption | trivial
                case' rzz51 => simp only [Act.put, List.setIfInBounds_toArray, List.set_cons_zero, List.set_cons_succ]
                refine wpAnyH_take (i := 4) (oi := ?ozz52) (v := ?vzz52) ?hzz52 ?azz52 ?bzz52 ?czz52 ?qzz52 ?yzz52 ?szz52 ?rzz52
                case hzz52 => simp only [List.getElem?_toArray, List.getElem?_cons_zero, List.getElem?_cons_succ]; rfl
                case azz52 => kernel_rfl
                case bzz52 => kernel_rfl
                case czz52 => kernel_rfl
                case yzz52 =>
                  refine Or.inl ⟨by rfl, ?_⟩
                  intro w hSw
                  skip
                  go_simp
                  try with_reducible rfl
                case qzz52 => exact fun _ _ _ h => h
                case szz52 => first | assumption | trivial
                case' rzz52 => simp only [Act.put, List.setIfInBounds_toArray, List.set_cons_zero, List.set_cons_succ]
                refine wpAnyH_take (i := 5) (oi := ?ozz53) (v := ?vzz53) ?hzz53 ?azz53 ?bzz53 ?czz53 ?qzz53 ?yzz53 ?szz53 ?rzz53
                case hzz53 => simp only [List.getElem?_toArray, List.getElem?_cons_zero, List.getElem?_cons_succ]; rfl
                case azz53 => kernel_rfl
                case bzz53 => kernel_rfl
                case czz53 => kernel_rfl
                case yzz53 =>
                  refine Or.inl ⟨by rfl, ?_⟩
                  intro w hSw
                  skip
                  go_simp
                  try with_reducible rfl
                case qzz53 => exact fun _ _ _ h => h
                case szz53 => first | assumption | trivial
                case' rzz53 => simp only [Act.put, List.setIfInBounds_toArray, List.set_cons_zero, List.set_cons_succ]
                refine wpAnyH_take (i := 6) (oi := ?ozz54) (v := ?vzz54) ?hzz54 ?azz54 ?bzz54 ?czz54 ?qzz54 ?yzz54 ?szz54 ?rzz54
                case hzz54 => simp only [List.getElem?_toArray, List.getElem?_cons_zero, List.getElem?_cons_succ]; rfl
                case azz54 => kernel_rfl
                case bzz54 => kernel_rfl
                case czz54 => kernel_rfl
                case yzz54 =>
                  refine Or.inl ⟨by rfl, ?_⟩
                  intro w hSw
                  skip
                  go_simp
                  try with_reducible rfl
                case qzz54 => exact fun _ _ _ h => h
                case szz54 => first | assumption | trivial
                case' rzz54 => simp only [Act.put, List.setIfInBounds_toArray, List.set_cons_zero, List.set_cons_succ]
                refine wpAnyH_take (i := 7) (oi := ?ozz55) (v := ?vzz55) ?hzz55 ?azz55 ?bzz55 ?czz55 ?qzz55 ?yzz55 ?szz55 ?rzz55
                case hzz55 => simp only [List.getElem?_toArray, List.getElem?_cons_zero, List.getElem?_cons_succ]; rfl
                case azz55 => kernel_rfl
                case bzz55 => kernel_rfl
                case czz55 => kernel_rfl
                case yzz55 =>
                  refine Or.inl ⟨by rfl, ?_⟩
                  intro w hSw
                  skip
                  go_simp
                  try with_reducible rfl
                case qzz55 => exact fun _ _ _ h => h
                case szz55 => first | assumption | trivial
                case' rzz55 => simp only [Act.put, List.setIfInBounds_toArray, List.set_cons_zero, List.set_cons_succ]
                refine wpAnyH_take (i := 8) (oi := ?ozz56) (v := ?vzz56) ?hzz56 ?azz56 ?bzz56 ?czz56 ?qzz56 ?yzz56 ?szz56 ?rzz56
                case hzz56 => simp only [List.getElem?_toArray, List.getElem?_cons_zero, List.getElem?_cons_succ]; rfl
                case azz56 => kernel_rfl
                case bzz56 => kernel_rfl
                case czz56 => kernel_rfl
                case yzz56 =>
                  refine Or.inl ⟨by rfl, ?_⟩
                  intro w hSw
                  skip
                  go_simp
                  try with_reducible rfl
                case qzz56 => exact fun _ _ _ h => h
                case szz56 => first | assumption | trivial
                case' rzz56 => simp only [Act.put, List.setIfInBounds_toArray, List.set_cons_zero, List.set_cons_succ]
                refine wpAnyH_take (i := 9) (oi := ?ozz57) (v := ?vzz57) ?hzz57 ?azz57 ?bzz57 ?czz57 ?qzz57 ?yzz57 ?szz57 ?rzz57
                case hzz57 => simp only [List.getElem?_toArray, List.getElem?_cons_zero, List.getElem?_cons_succ]; rfl
                case azz57 => kernel_rfl
                case bzz57 => kernel_rfl
                case czz57 => kernel_rfl
                case yzz57 =>
                  refine Or.inl ⟨by rfl, ?_⟩
                  intro w hSw
                  skip
                  go_simp
                  try with_reducible rfl
                case qzz57 => exact fun _ _ _ h => h
                case szz57 => first | assumption | trivial
                case' rzz57 => simp only [Act.put, List.setIfInBounds_toArray, List.set_cons_zero, List.set_cons_succ]
                refine wpAnyH_take (i := 10) (oi := ?ozz58) (v := ?vzz58) ?hzz58 ?azz58 ?bzz58 ?czz58 ?qzz58 ?yzz58 ?szz58 ?rzz58
                case hzz58 => simp only [List.getElem?_toArray, List.getElem?_cons_zero, List.getElem?_cons_succ]; rfl
                case azz58 => kernel_rfl
                case bzz58 => kernel_rfl
                case czz58 => kernel_rfl
                case yzz58 =>
                  refine Or.inl ⟨by rfl, ?_⟩
                  intro w hSw
                  skip
                  go_simp
                  try with_reducible rfl
                case qzz58 => exact fun _ _ _ h => h
                case szz58 => first | assumption | trivial
                case' rzz58 => simp only [Act.put, List.setIfInBounds_toArray, List.set_cons_zero, List.set_cons_succ]
                refine wpAnyH_take (i := 11) (oi := ?ozz59) (v := ?vzz59) ?hzz59 ?azz59 ?bzz59 ?czz59 ?qzz59 ?yzz59 ?szz59 ?rzz59
                case hzz59 => simp only [List.getElem?_toArray, List.getElem?_cons_zero, List.getElem?_cons_succ]; rfl
                case azz59 => kernel_rfl
                case bzz59 => kernel_rfl
                case czz59 => kernel_rfl
                case yzz59 =>
                  refine Or.inl ⟨by rfl, ?_⟩
                  intro w hSw
                  skip
                  go_simp
                  try with_reducible rfl
                case qzz59 => exact fun _ _ _ h => h
                case szz59 => first | assumption | trivial
                case' rzz59 => simp only [Act.put, List.setIfInBounds_toArray, List.set_cons_zero, List.set_cons_succ]
                refine wpAnyH_take (i := 12) (oi := ?ozz60) (v := ?vzz60) ?hzz60 ?azz60 ?bzz60 ?czz60 ?qzz60 ?yzz60 ?szz60 ?rzz60
                case hzz60 => simp only [List.getElem?_toArray, List.getElem?_cons_zero, List.getElem?_cons_succ]; rfl
                case azz60 => kernel_rfl
                case bzz60 => kernel_rfl
                case czz60 => kernel_rfl
                case yzz60 =>
                  refine Or.inl ⟨by rfl, ?_⟩
                  intro w hSw
                  skip
                  go_simp
                  try with_reducible rfl
                case qzz60 => exact fun _ _ _ h => h
                case szz60 => first | assumption | trivial
                case' rzz60 => simp only [Act.put, List.setIfInBounds_toArray, List.set_cons_zero, List.set_cons_succ]
                refine wpAnyH_take (i := 13) (oi := ?ozz61) (v := ?vzz61) ?hzz61 ?azz61 ?bzz61 ?czz61 ?qzz61 ?yzz61 ?szz61 ?rzz61
                case hzz61 => simp only [List.getElem?_toArray, List.getElem?_cons_zero, List.getElem?_cons_succ]; rfl
                case azz61 => kernel_rfl
                case bzz61 => kernel_rfl
                case czz61 => kernel_rfl
                case yzz61 =>
                  refine Or.inl ⟨by rfl, ?_⟩
                  intro w hSw
                  skip
                  go_simp
                  try with_reducible rfl
                case qzz61 => exact fun _ _ _ h => h
                case szz61 => first | assumption | trivial
                case' rzz61 => simp only [Act.put, List.setIfInBounds_toArray, List.set_cons_zero, List.set_cons_succ]
                refine wpAnyH_take (i := 14) (oi := ?ozz62) (v := ?vzz62) ?hzz62 ?azz62 ?bzz62 ?czz62 ?qzz62 ?yzz62 ?szz62 ?rzz62
                case hzz62 => simp only [List.getElem?_toArray, List.getElem?_cons_zero, List.getElem?_cons_succ]; rfl
                case azz62 => kernel_rfl
                case bzz62 => kernel_rfl
                case czz62 => kernel_rfl
                case yzz62 =>
                  refine Or.inl ⟨by rfl, ?_⟩
                  intro w hSw
                  skip
                  go_simp
                  try with_reducible rfl
                case qzz62 => exact fun _ _ _ h => h
                case szz62 => first | assumption | trivial
                case' rzz62 => simp only [Act.put, List.setIfInBounds_toArray, List.set_cons_zero, List.set_cons_succ]
                refine wpAnyH_take (i := 16) (oi := ?ozz63) (v := ?vzz63) ?hzz63 ?azz63 ?bzz63 ?czz63 ?qzz63 ?yzz63 ?szz63 ?rzz63
                case hzz63 => simp only [List.getElem?_toArray, List.getElem?_cons_zero, List.getElem?_cons_succ]; rfl
                case azz63 => kernel_rfl
                case bzz63 => kernel_rfl
                case czz63 => kernel_rfl
                case yzz63 =>
                  refine Or.inl ⟨by rfl, ?_⟩
                  intro w hSw
                  skip
                  go_simp
                  try with_reducible rfl
                case qzz63 => exact fun _ _ _ h => h
                case szz63 => first | assumption | trivial
                case' rzz63 => simp only [Act.put, List.setIfInBounds_toArray, List.set_cons_zero, List.set_cons_succ]
                refine wpAnyH_ready (rs := [15]) (by kernel_rfl) (by simp) ?_
                refine AllReadyH.cons (o := ?ozz86) ?hzz86 (fun K hK => ?kzz86) ?mzz86
                case hzz86 => simp only [List.getElem?_toArray, List.getElem?_cons_zero, List.getElem?_cons_succ]; rfl
                case kzz86 =>
                  go_simp
                  refine (K9.out _ (HD.out.lst.q (Z7.out.1.trans hHeld))).mono ?_
                  rintro e v2 ⟨rfl, q2⟩
                  go_wp2_with fail
                  refine hK.out _ _ ?Szz86 (fun hHeld => ?Rzz86)
                  case Szz86 =>
                    exact hHeld.trans q2
                  case Rzz86 =>
                    clear hK K
                    try simp only [Act.put, List.setIfInBounds_toArray, List.set_cons_zero, List.set_cons_succ]
                    refine wpAnyH_ready (rs := [17]) (by kernel_rfl) (by simp) ?_
                    refine AllReadyH.cons (o := ?ozz85) ?hzz85 (fun K hK => ?kzz85) ?mzz85
                    case hzz85 => simp only [List.getElem?_toArray, List.getElem?_cons_zero, List.getElem?_cons_succ]; rfl
                    case kzz85 =>
                      go_simp
                      refine (K10.out _ (HD.out.lst.q (Z7.out.1.trans hHeld))).mono ?_
                      rintro e v3 ⟨rfl, q3⟩
                      go_wp2_with fail
                      refine hK.out _ _ ?Szz85 (fun hHeld => ?Rzz85)
                      case Szz85 =>
                        exact hHeld.trans q3
                      case Rzz85 =>
                        clear hK K
                        try simp only [Act.put, List.setIfInBounds_toArray, List.set_cons_zero, List.set_cons_succ]
                        refine wpAnyH_take (i := 18) (oi := ?ozz64) (v := ?vzz64) ?hzz64 ?azz64 ?bzz64 ?czz64 ?qzz64 ?yzz64 ?szz64 ?rzz64
                        case hzz64 => simp only [List.getElem?_toArray, List.getElem?_cons_zero, List.getElem?_cons_succ]; rfl
                        case azz64 => kernel_rfl
                        case bzz64 => kernel_rfl
                        case czz64 => kernel_rfl
                        case yzz64 =>
                          refine Or.inl ⟨by rfl, ?_⟩
                          intro w hSw
                          skip
                          go_simp
                          try with_reducible rfl
                        case qzz64 => exact fun _ _ _ h => h
                        case szz64 => first | assumption | trivial
                        case' rzz64 => simp only [Act.put, List.setIfInBounds_toArray, List.set_cons_zero, List.set_cons_succ]
                        refine wpAnyH_take (i := 19) (oi := ?ozz65) (v := ?vzz65) ?hzz65 ?azz65 ?bzz65 ?czz65 ?qzz65 ?yzz65 ?szz65 ?rzz65
                        case hzz65 => simp only [List.getElem?_toArray, List.getElem?_cons_zero, List.getElem?_cons_succ]; rfl
                        case azz65 => kernel_rfl
                        case bzz65 => kernel_rfl
                        case czz65 => kernel_rfl
                        case yzz65 =>
                          refine Or.inl ⟨by rfl, ?_⟩
                          intro w hSw
                          skip
                          go_simp
                          try with_reducible rfl
                        case qzz65 => exact fun _ _ _ h => h
                        case szz65 => first | assumption | trivial
                        case' rzz65 => simp only [Act.put, List.setIfInBounds_toArray, List.set_cons_zero, List.set_cons_succ]
                        refine wpAnyH_take (i := 20) (oi := ?ozz66) (v := ?vzz66) ?hzz66 ?azz66 ?bzz66 ?czz66 ?qzz66 ?yzz66 ?szz66 ?rzz66
                        case hzz66 => simp only [List.getElem?_toArray, List.getElem?_cons_zero, List.getElem?_cons_succ]; rfl
                        case azz66 => kernel_rfl
                        case bzz66 => kernel_rfl
                        case czz66 => kernel_rfl
                        case yzz66 =>
                          refine Or.inl ⟨by rfl, ?_⟩
                          intro w hSw
                          skip
                          go_simp
                          try with_reducible rfl
                        case qzz66 => exact fun _ _ _ h => h
                        case szz66 => first | assumption | trivial
                        case' rzz66 => simp only [Act.put, List.setIfInBounds_toArray, List.set_cons_zero, List.set_cons_succ]
                        refine wpAnyH_take (i := 21) (oi := ?ozz67) (v := ?vzz67) ?hzz67 ?azz67 ?bzz67 ?czz67 ?qzz67 ?yzz67 ?szz67 ?rzz67
                        case hzz67 => simp only [List.getElem?_toArray, List.getElem?_cons_zero, List.getElem?_cons_succ]; rfl
                        case azz67 => kernel_rfl
                        case bzz67 => kernel_rfl
                        case czz67 => kernel_rfl
                        case yzz67 =>
                          refine Or.inl ⟨by rfl, ?_⟩
                          intro w hSw
                          skip
                          go_simp
                          try with_reducible rfl
                        case qzz67 => exact fun _ _ _ h => h
                        case szz67 => first | assumption | trivial
                        case' rzz67 => simp only [Act.put, List.setIfInBounds_toArray, List.set_cons_zero, List.set_cons_succ]
                        refine wpAnyH_take (i := 22) (oi := ?ozz68) (v := ?vzz68) ?hzz68 ?azz68 ?bzz68 ?czz68 ?qzz68 ?yzz68 ?szz68 ?rzz68
                        case hzz68 => simp only [List.getElem?_toArray, List.getElem?_cons_zero, List.getElem?_cons_succ]; rfl
                        case azz68 => kernel_rfl
                        case bzz68 => kernel_rfl
                        case czz68 => kernel_rfl
                        case yzz68 =>
                          refine Or.inl ⟨by rfl, ?_⟩
                          intro w hSw
                          skip
                          go_simp
                          try with_reducible rfl
                        case qzz68 => exact fun _ _ _ h => h
                        case szz68 => first | assumption | trivial
                        case' rzz68 => simp only [Act.put, List.setIfInBounds_toArray, List.set_cons_zero, List.set_cons_succ]
                        refine wpAnyH_take (i := 23) (oi := ?ozz69) (v := ?vzz69) ?hzz69 ?azz69 ?bzz69 ?czz69 ?qzz69 ?yzz69 ?szz69 ?rzz69
                        case hzz69 => simp only [List.getElem?_toArray, List.getElem?_cons_zero, List.getElem?_cons_succ]; rfl
                        case azz69 => kernel_rfl
                        case bzz69 => kernel_rfl
                        case czz69 => kernel_rfl
                        case yzz69 =>
                          refine Or.inl ⟨by rfl, ?_⟩
                          intro w hSw
                          skip
                          go_simp
                          try with_reducible rfl
                        case qzz69 => exact fun _ _ _ h => h
                        case szz69 => first | assumption | trivial
                        case' rzz69 => simp only [Act.put, List.setIfInBounds_toArray, List.set_cons_zero, List.set_cons_succ]
                        refine wpAnyH_take (i := 24) (oi := ?ozz70) (v := ?vzz70) ?hzz70 ?azz70 ?bzz70 ?czz70 ?qzz70 ?yzz70 ?szz70 ?rzz70
                        case hzz70 => simp only [List.getElem?_toArray, List.getElem?_cons_zero, List.getElem?_cons_succ]; rfl
                        case azz70 => kernel_rfl
                        case bzz70 => kernel_rfl
                        case czz70 => kernel_rfl
                        case yzz70 =>
                          refine Or.inl ⟨by rfl, ?_⟩
                          intro w hSw
                          skip
                          go_simp
                          try with_reducible rfl
                        case qzz70 => exact fun _ _ _ h => h
                        case szz70 => first | assumption | trivial
                        case' rzz70 => simp only [Act.put, List.setIfInBounds_toArray, List.set_cons_zero, List.set_cons_succ]
                        refine wpAnyH_take (i := 25) (oi := ?ozz71) (v := ?vzz71) ?hzz71 ?azz71 ?bzz71 ?czz71 ?qzz71 ?yzz71 ?szz71 ?rzz71
                        case hzz71 => simp only [List.getElem?_toArray, List.getElem?_cons_zero, List.getElem?_cons_succ]; rfl
                        case azz71 => kernel_rfl
                        case bzz71 => kernel_rfl
                        case czz71 => kernel_rfl
                        case yzz71 =>
                          refine Or.inl ⟨by rfl, ?_⟩
                          intro w hSw
                          skip
                          go_simp
                          try with_reducible rfl
                        case qzz71 => exact fun _ _ _ h => h
                        case szz71 => first | assumption | trivial
                        case' rzz71 => simp only [Act.put, List.setIfInBounds_toArray, List.set_cons_zero, List.set_cons_succ]
                        refine wpAnyH_take (i := 26) (oi := ?ozz72) (v := ?vzz72) ?hzz72 ?azz72 ?bzz72 ?czz72 ?qzz72 ?yzz72 ?szz72 ?rzz72
                        case hzz72 => simp only [List.getElem?_toArray, List.getElem?_cons_zero, List.getElem?_cons_succ]; rfl
                        case azz72 => kernel_rfl
                        case bzz72 => kernel_rfl
                        case czz72 => kernel_rfl
                        case yzz72 =>
                          refine Or.inl ⟨by rfl, ?_⟩
                          intro w hSw
                          skip
                          go_simp
                          try with_reducible rfl
                        case qzz72 => exact fun _ _ _ h => h
                        case szz72 => first | assumption | trivial
                        case' rzz72 => simp only [Act.put, List.setIfInBounds_toArray, List.set_cons_zero, List.set_cons_succ]
                        refine wpAnyH_take (i := 27) (oi := ?ozz73) (v := ?vzz73) ?hzz73 ?azz73 ?bzz73 ?czz73 ?qzz73 ?yzz73 ?szz73 ?rzz73
                        case hzz73 => simp only [List.getElem?_toArray, List.getElem?_cons_zero, List.getElem?_cons_succ]; rfl
                        case azz73 => kernel_rfl
                        case bzz73 => kernel_rfl
                        case czz73 => kernel_rfl
                        case yzz73 =>
                          refine Or.inl ⟨by rfl, ?_⟩
                          intro w hSw
                          have b0 := box_ hSw y0; have b1 := box_ hSw y1; clear hSw
                          go_simp
                          try with_reducible rfl
                        case qzz73 => exact fun _ _ _ h => h
                        case szz73 => first | assumption | trivial
                        case' rzz73 => simp only [Act.put, List.setIfInBounds_toArray, List.set_cons_zero, List.set_cons_succ]
                        refine wpAnyH_take (i := 28) (oi := ?ozz74) (v := ?vzz74) ?hzz74 ?azz74 ?bzz74 ?czz74 ?qzz74 ?yzz74 ?szz74 ?rzz74
                        case hzz74 => simp only [List.getElem?_toArray, List.getElem?_cons_zero, List.getElem?_cons_succ]; rfl
                        case azz74 => kernel_rfl
                        case bzz74 => kernel_rfl
                        case czz74 => kernel_rfl
                        case yzz74 =>
                          refine Or.inl ⟨by rfl, ?_⟩
                          intro w hSw
                          have a0 := box_ hSw x0; have a1 := box_ hSw x1; clear hSw
                          go_simp
                          try with_reducible rfl
                        case qzz74 => exact fun _ _ _ h => h
                        case szz74 => first | assumption | trivial
                        case' rzz74 => simp only [Act.put, List.setIfInBounds_toArray, List.set_cons_zero, List.set_cons_succ]
                        refine wpAnyH_take (i := 30) (oi := ?ozz75) (v := ?vzz75) ?hzz75 ?azz75 ?bzz75 ?czz75 ?qzz75 ?yzz75 ?szz75 ?rzz75
                        case hzz75 => simp only [List.getElem?_toArray, List.getElem?_cons_zero, List.getElem?_cons_succ]; rfl
                        case azz75 => kernel_rfl
                        case bzz75 => kernel_rfl
                        case czz75 => kernel_rfl
                        case yzz75 =>
                          refine Or.inl ⟨by rfl, ?_⟩
                          intro w hSw
                          skip
                          go_simp
                          try with_reducible rfl
                        case qzz75 => exact fun _ _ _ h => h
                        case szz75 => first | assumption | trivial
                        case' rzz75 => simp only [Act.put, List.setIfInBounds_toArray, List.set_cons_zero, List.set_cons_succ]
                        refine wpAnyH_take (i := 31) (oi := ?ozz76) (v := ?vzz76) ?hzz76 ?azz76 ?bzz76 ?czz76 ?qzz76 ?yzz76 ?szz76 ?rzz76
                        case hzz76 => simp only [List.getElem?_toArray, List.getElem?_cons_zero, List.getElem?_cons_succ]; rfl
                        case azz76 => kernel_rfl
                        case bzz76 => kernel_rfl
                        case czz76 => kernel_rfl
                        case yzz76 =>
                          refine Or.inl ⟨by rfl, ?_⟩
                          intro w hSw
                          skip
                          go_simp
                          try with_reducible rfl
                        case qzz76 => exact fun _ _ _ h => h
                        case szz76 => first | assumption | trivial
                        case' rzz76 => simp only [Act.put, List.setIfInBounds_toArray, List.set_cons_zero, List.set_cons_succ]
                        refine wpAnyH_take (i := 32) (oi := ?ozz77) (v := ?vzz77) ?hzz77 ?azz77 ?bzz77 ?czz77 ?qzz77 ?yzz77 ?szz77 ?rzz77
                        case hzz77 => simp only [List.getElem?_toArray, List.getElem?_cons_zero, List.getElem?_cons_succ]; rfl
                        case azz77 => kernel_rfl
                        case bzz77 => kernel_rfl
                        case czz77 => kernel_rfl
                        case yzz77 =>
                          refine Or.inl ⟨by rfl, ?_⟩
                          intro w hSw
                          have b0 := box_ hSw y0; have b1 := box_ hSw y1; clear hSw
                          go_simp
                          try with_reducible rfl
                        case qzz77 => exact fun _ _ _ h => h
                        case szz77 => first | assumption | trivial
                        case' rzz77 => simp only [Act.put, List.setIfInBounds_toArray, List.set_cons_zero, List.set_cons_succ]
                        refine wpAnyH_take (i := 33) (oi := ?ozz78) (v := ?vzz78) ?hzz78 ?azz78 ?bzz78 ?czz78 ?qzz78 ?yzz78 ?szz78 ?rzz78
                        case hzz78 => simp only [List.getElem?_toArray, List.getElem?_cons_zero, List.getElem?_cons_succ]; rfl
                        case azz78 => kernel_rfl
                        case bzz78 => kernel_rfl
                        case czz78 => kernel_rfl
                        case yzz78 =>
                          refine Or.inl ⟨by rfl, ?_⟩
                          intro w hSw
                          have a0 := box_ hSw x0; have a1 := box_ hSw x1; clear hSw
                          go_simp
                          try with_reducible rfl
                        case qzz78 => exact fun _ _ _ h => h
                        case szz78 => first | assumption | trivial
                        case' rzz78 => simp only [Act.put, List.setIfInBounds_toArray, List.set_cons_zero, List.set_cons_succ]
                        refine wpAnyH_ready (rs := [29]) (by kernel_rfl) (by simp) ?_
                        refine AllReadyH.cons (o := ?ozz84) ?hzz84 (fun K hK => ?kzz84) ?mzz84
                        case hzz84 => simp only [List.getElem?_toArray, List.getElem?_cons_zero, List.getElem?_cons_succ]; rfl
                        case kzz84 =>
                          go_simp
                          refine (K13.out _).mono ?_
                          rintro e v4 ⟨rfl, q4⟩
                          go_wp2_with fail
                          refine hK.out _ _ ?Szz84 (fun hHeld => ?Rzz84)
                          case Szz84 =>
                            exact hHeld.trans q4
                          case Rzz84 =>
                            clear hK K
                            try simp only [Act.put, List.setIfInBounds_toArray, List.set_cons_zero, List.set_cons_succ]
                            refine wpAnyH_ready (rs := [34]) (by kernel_rfl) (by simp) ?_
                            refine AllReadyH.cons (o := ?ozz83) ?hzz83 (fun K hK => ?kzz83) ?mzz83
                            case hzz83 => simp only [List.getElem?_toArray, List.getElem?_cons_zero, List.getElem?_cons_succ]; rfl
                            case kzz83 =>
                              go_simp
                              refine (K14.out _).mono ?_
                              rintro e v5 ⟨rfl, q5⟩
                              go_wp2_with fail
                              refine hK.out _ _ ?Szz83 (fun hHeld => ?Rzz83)
                              case Szz83 =>
                                exact hHeld.trans q5
                              case Rzz83 =>
                                clear hK K
                                try simp only [Act.put, List.setIfInBounds_toArray, List.set_cons_zero, List.set_cons_succ]
                                refine wpAnyH_take (i := 35) (oi := ?ozz79) (v := ?vzz79) ?hzz79 ?azz79 ?bzz79 ?czz79 ?qzz79 ?yzz79 ?szz79 ?rzz79
                                case hzz79 => simp only [List.getElem?_toArray, List.getElem?_cons_zero, List.getElem?_cons_succ]; rfl
                                case azz79 => kernel_rfl
                                case bzz79 => kernel_rfl
                                case czz79 => kernel_rfl
                                case yzz79 =>
                                  refine Or.inl ⟨by rfl, ?_⟩
                                  intro w hSw
                                  skip
                                  go_simp
                                  try with_reducible rfl
                                case qzz79 => exact fun _ _ _ h => h
                                case szz79 => first | assumption | trivial
                                case' rzz79 => simp only [Act.put, List.setIfInBounds_toArray, List.set_cons_zero, List.set_cons_succ]
                                refine wpAnyH_take (i := 36) (oi := ?ozz80) (v := ?vzz80) ?hzz80 ?azz80 ?bzz80 ?czz80 ?qzz80 ?yzz80 ?szz80 ?rzz80
                                case hzz80 => simp only [List.getElem?_toArray, List.getElem?_cons_zero, List.getElem?_cons_succ]; rfl
                                case azz80 => kernel_rfl
                                case bzz80 => kernel_rfl
                                case czz80 => kernel_rfl
                                case yzz80 =>
                                  refine Or.inl ⟨by rfl, ?_⟩
                                  intro w hSw
                                  skip
                                  go_simp
                                  try with_reducible rfl
                                case qzz80 => exact fun _ _ _ h => h
                                case szz80 => first | assumption | trivial
                                case' rzz80 => simp only [Act.put, List.setIfInBounds_toArray, List.set_cons_zero, List.set_cons_succ]
                                refine wpAnyH_take (i := 37) (oi := ?ozz81) (v := ?vzz81) ?hzz81 ?azz81 ?bzz81 ?czz81 ?qzz81 ?yzz81 ?szz81 ?rzz81
                                case hzz81 => simp only [List.getElem?_toArray, List.getElem?_cons_zero, List.getElem?_cons_succ]; rfl
                                case azz81 => kernel_rfl
                                case bzz81 => kernel_rfl
                                case czz81 => kernel_rfl
                                case yzz81 =>
                                  refine Or.inl ⟨by rfl, ?_⟩
                                  intro w hSw
                                  skip
                                  go_simp
                                  try with_reducible rfl
                                case qzz81 => exact fun _ _ _ h => h
                                case szz81 => first | assumption | trivial
                                case' rzz81 => simp only [Act.put, List.setIfInBounds_toArray, List.set_cons_zero, List.set_cons_succ]
                                refine wpAnyH_take (i := 38) (oi := ?ozz82) (v := ?vzz82) ?hzz82 ?azz82 ?bzz82 ?czz82 ?qzz82 ?yzz82 ?szz82 ?rzz82
                                case hzz82 => simp only [List.getElem?_toArray, List.getElem?_cons_zero, List.getElem?_cons_succ]; rfl
                                case azz82 => kernel_rfl
                                case bzz82 => kernel_rfl
                                case czz82 => kernel_rfl
                                case yzz82 =>
                                  refine Or.inl ⟨by rfl, ?_⟩
                                  intro w hSw
                                  skip
                                  go_simp
                                  try with_reducible rfl
                                case qzz82 => exact fun _ _ _ h => h
                                case szz82 => first | assumption | trivial
                                case' rzz82 => simp only [Act.put, List.setIfInBounds_toArray, List.set_cons_zero, List.set_cons_succ]
                                refine wpAnyH_done (by kernel_rfl) ?_ _
                                go_wp2
                                go_ret
                                exact ⟨rfl, Z7.out.1.trans hHeld⟩
                            case' mzz83 => skip
                            exact AllReadyH.nil
                        case' mzz84 => skip
                        exact AllReadyH.nil
                    case' mzz85 => skip
                    exact AllReadyH.nil
                case' mzz86 => skip
                exact AllReadyH.nil
          case' mzz93 => skip
          exact AllReadyH.nil
      case' mzz94 => skip
      exact AllReadyH.nil
  case' mzz95 => skip
  exact AllReadyH.nil

theorem opened (W : World) (args : Array Value) (hn : args.size = 1) (h : ∀ (j : Nat) t v, Try.f3.params[j]? = some t → args[j]? = some v → RdV W t v) :
    Calls Try.prog 3 args W fun e W' => e = .returned (.bool true) ∧ Q W W' := by
  obtain ⟨v, rfl⟩ := args1 hn
  rw [Try.params3] at h
  obtain ⟨cs, rfl, hr⟩ := (h 0 27 v rfl rfl).struct Try.underlying27
  obtain ⟨hl, _⟩ := hr.struct Try.underlying27
  rw [show Try.prog.cellsOf 27 = 5 by kernel_rfl] at hl
  match cs, hl with
  | [x0, x1, x2, x3, x4], _ =>
    obtain ⟨A0, n0, c0, l, e0, hd0, hb0, hp0⟩ := open_als (hr.field Try.underlying27 0 (ty := 22) 0 1 rfl (by kernel_rfl))
    obtain ⟨a, e1, p1⟩ := open_al (hr.field Try.underlying27 1 (ty := 25) 1 2 rfl (by kernel_rfl))
    obtain ⟨x2, e2, s2⟩ := (hr.field Try.underlying27 2 (ty := 23) 3 1 rfl (by kernel_rfl)).int Try.underlying23
    obtain ⟨now, y2⟩ := u64_nat s2
    subst y2
    obtain ⟨id, e3, s3⟩ := (hr.field Try.underlying27 3 (ty := 3) 4 1 rfl (by kernel_rfl)).int Try.underlying3
    simp at e0 e1 e2 e3
    obtain ⟨rfl, rfl⟩ := e1
    subst e0 e2 e3
    exact walk A0 n0 c0 l a now id W hd0 hb0 hp0 p1 (wf_i64 s3)

set_option maxRecDepth 100000 in
theorem lifted (os : Os) (started : os.Started) (H : Type) (enc : TypeId × Value → H) :
    ReturnsInHanded {} Try.checked os 3 .any (Rows.alarmActsSpec.pre6 enc Try.prog Try.f3 Rows.alarmActsRow.domain false) (Rows.alarmActsSpec.post enc Try.prog Try.f3 false true false false) :=
  framed 1 Try.func3 (by rw [Try.params3]; rfl) rfl (by kernel_rfl) (by kernel_rfl) (by kernel_rfl)
    (fun H ds h => by match ds, h with | [d0], _ => exact ⟨rfl, rfl, rfl⟩)
    opened os started H enc
    (ChangeSpec.witness6 (enc := enc) (C := Try.checked) false ⟨#[], #[.agg #[.slice none 0 0, .int .u64 0, .int .i64 0, .int .u64 0, .int .i64 0]], []⟩ 8 (by kernel_rfl) (by kernel_rfl) (by kernel_rfl) (by kernel_rfl))

theorem over : Rows.alarmActsRow.holds Try.pinned (OpenSpec.ofChange Rows.alarmActsSpec) :=
  OpenClaim.holds_of_wide 3 Try.f3 rfl rfl rfl rfl rfl rfl rfl ⟨rfl, rfl, rfl, rfl, rfl⟩ rfl rfl rfl rfl rfl (by kernel_rfl) Try.func3 (by kernel_rfl)
    (of_decide_eq_true (by kernel_rfl)) (by unfold Func.isWrapper; first | (rw [if_pos (by decide +kernel)]; kernel_rfl) | (rw [if_neg (by decide +kernel)]; exact ⟨rfl, rfl⟩))
    (fun os started H enc _ => lifted os started H enc)

theorem proved : Rows.AlarmActsSaid := over
end Go.Proofs.Ytbclamfpoigneaa.alarmActs
