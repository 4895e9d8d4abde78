/- LockRefSettle, LockSettle, LockDel, LockFree: merged. -/
import Derived.Test.YtncnfblnelkmbaaA5
import Derived.Test.YtncnfblnelkmbaaA1
import Derived.Test.YtncnfblnelkmbaaA3
/- Contract: the document's Settle. -/
namespace Go.Proofs.Ytncnfblnelkmbaa
set_option maxRecDepth 100000
open Go.RowKit Prm Lm Sm
set_option linter.unusedVariables false
set_option linter.unusedSimpArgs false

theorem rblk_set (A B : Option Addr) (n c m d : Nat) (l : Lo) (h : Cl) (j : Nat) (w : World) (hA : Lst holdK w A n l.held) (hB : Lst claimK w B m l.queue) (hw : LoW l) (hx : WnS h.w) (hn : n ≤ 400000) (hm : m ≤ 400000) :
    Calls Try.prog 26 #[.agg #[.slice A n c, .slice B m d], .int .i64 h.txn, .agg #[.int .i64 h.w.mode, .string h.w.lo, .string h.w.hi], .int .i64 (j : Int)] w fun e w' => RetL numK w (blk l h.txn h.w j).length (blk l h.txn h.w j) e w' := by
  have := rblk_any A B n c m d l h.txn h.w (j : Int) w hA hB hx hw.1 hw.2 hn hm
  rw [Int.toNat_natCast] at this
  exact this

set_option maxHeartbeats 16000000 in
set_option maxRecDepth 100000 in
theorem rsettle_in (A0 B0 : Option Addr) (n0 c0 m0 d0 : Nat) (l0 : Lo) (w : World) (hA : In_ holdK w A0 n0 c0 l0.held) (hB : In_ claimK w B0 m0 d0 l0.queue) (hw : LoW l0) (hn : n0 + m0 ≤ 300000) :
    Calls Try.prog 33 #[locV A0 n0 c0 B0 m0 d0] w fun e w' => RetSi w (Lm.settle l0) e w' := by
  have HI := Lib.hid hw
  rw [settle_is]
  generalize hR : fin l0 [] = R
  have HR := Lib.hid hR
  have H0 : Hid (Rs w A0 n0 c0 B0 m0 d0 none 0 0 l0 [] ((w.alloc (.cells #[.slice A0 n0 c0, .slice B0 m0 d0] 25)).alloc (.cells #[.slice none 0 0, .slice none 0 0] 25))) := by
    have h3 := Bx.new (w.alloc (.cells #[.slice A0 n0 c0, .slice B0 m0 d0] 25)) [.slice none 0 0, .slice none 0 0] 25
    rw [show (w.alloc (.cells #[.slice A0 n0 c0, .slice B0 m0 d0] 25)).heap.size = w.heap.size + 1 by simp] at h3
    exact Lib.hid ⟨(Bx.new w [.slice A0 n0 c0, .slice B0 m0 d0] 25).alloc _, h3, (Loc.first hA).q (((Q.refl w).alloc _).alloc _), (Loc.first hB).q (((Q.refl w).alloc _).alloc _), OwnK.nil_ _ _ _, ((Q.refl w).alloc _).alloc _⟩
  clear hA hB hR hw
  go_enter Try.func33, Try.ntmps33
  go_wp2
  generalize (w.alloc (.cells #[.slice A0 n0 c0, .slice B0 m0 d0] 25)).alloc (.cells #[.slice none 0 0, .slice none 0 0] 25) = W0 at H0 ⊢
  go_loopw [4, 5] (fun o mo wv => ∃ (A : Option Addr) (n c : Nat) (B : Option Addr) (m d : Nat) (C : Option Addr) (p q : Nat) (l : Lo) (os : List Int) (mr : Bool), o = .slice C p q ∧ mo = .bool mr ∧ Rs w A n c B m d C p q l os wv ∧ fin l os = R ∧ LoW l ∧ n + m ≤ 300000 ∧ p + m ≤ 300000 ∧ (mr = false → first l = none)) (fun _ mo wv => 2 * cellLen wv ⟨w.heap.size, 1, none⟩ + boolN mo)
  case atStart => exact ⟨A0, n0, c0, B0, m0, d0, none, 0, 0, l0, [], true, rfl, rfl, H0.out, HR.out, HI.out, hn, by omega, fun h => by cases h⟩
  case round =>
    obtain ⟨A, n, c, B, m, d, C, p, q, l, os, mr, rfl, rfl, hs, hf, hlw, hn2, hp2, hno⟩ := hrel
    have HW := Lib.hid hs
    have HF := Lib.hid hf
    have HLW := Lib.hid hlw
    have HNo := Lib.hid hno
    clear hs hf hlw hno H0
    obtain ⟨⟨b0, b1⟩, f0, f1⟩ := HW.out.b1.get2
    obtain ⟨⟨r0, r1⟩, g0, g1⟩ := HW.out.b3.get2
    cases mr with
    | false =>
      have HE2 := Lib.hid (show R = (l, os) by rw [← HF.out, fin_none (HNo.out rfl)])
      go_wp2
      refine bodyPost_ret (v := .tuple #[locV A n c B m d, .slice C p q]) (by simp [results, Try.results33, go_sem, r0, r1, g0, g1]) rfl ?_
      rw [HE2.out]
      exact HW.out.fin _ _
    | true =>
      have HC0 := Lib.hid (cellLen_is b1)
      obtain ⟨M0, hM0⟩ : ∃ M0, m = M0 := ⟨_, rfl⟩
      have HM0 := Lib.hid hM0
      clear hM0
      go_wp2
      have HC00 := Lib.hid (show cellLen wr ⟨w.heap.size, 1, none⟩ = M0 by rw [HC0.out, HM0.out])
      go_loopw [4, 5, 6] (fun o mo i wv => ∃ (A : Option Addr) (n c : Nat) (B : Option Addr) (m d : Nat) (C : Option Addr) (p q : Nat) (l : Lo) (os : List Int) (mr : Bool) (j : Nat), o = .slice C p q ∧ mo = .bool mr ∧ i = .int .i64 j ∧ j ≤ 400000 ∧ Rs w A n c B m d C p q l os wv ∧ fin l os = R ∧ LoW l ∧ n + m ≤ 300000 ∧ p + m ≤ 300000 ∧ (mr = false → first l = seek l j ∧ j ≤ m ∧ m = M0) ∧ (mr = true → m + 1 = M0)) (fun _ mo i wv => (1 - boolN mo) * (cellLen wv ⟨w.heap.size, 1, none⟩ + 1 - (intOf i).toNat))
      case atStart => exact ⟨A, n, c, B, m, d, C, p, q, l, os, false, 0, rfl, rfl, rfl, by omega, HW.out, HF.out, HLW.out, hn2, hp2, fun _ => ⟨rfl, Nat.zero_le _, HM0.out⟩, fun h => by cases h⟩
      case round =>
        clear HW HF HLW HNo HC0 HM0 hn2 hp2 b0 b1 f0 f1 r0 r1 g0 g1
        obtain ⟨A, n, c, B, m, d, C, p, q, l, os, mr, j, rfl, rfl, rfl, hj4, hs, hf, hlw, hn2, hp2, hno, hyes⟩ := hrel
        have HW := Lib.hid hs
        have HF := Lib.hid hf
        have HLW := Lib.hid hlw
        have HNo := Lib.hid hno
        have HYes := Lib.hid hyes
        have NB := Lib.hid (show n ≤ 400000 ∧ m ≤ 400000 ∧ m * 56 ≤ 140737488355328 ∧ (n + 1) * 48 ≤ 140737488355328 ∧ n * 48 ≤ 140737488355328 by omega)
        have HBl := Lib.hid hs.h2.inn.len
        clear hs hf hlw hno hyes
        obtain ⟨⟨b0, b1⟩, f0, f1⟩ := HW.out.b1.get2
        obtain ⟨⟨r0, r1⟩, g0, g1⟩ := HW.out.b3.get2
        have HCL := Lib.hid (cellLen_is b1)
        cases mr with
        | true =>
          have hy := HYes.out rfl
          by_cases hlt : (j : Int) < (m : Int)
          all_goals
            go_wp2
            go_roundw
            case rel => exact ⟨A, n, c, B, m, d, C, p, q, l, os, true, rfl, rfl, HW.out, HF.out, HLW.out, hn2, hp2, fun h => by cases h⟩
            case measure => rw [HCL.out, HC00.out]; simp [boolN]; omega
        | false =>
          obtain ⟨hs1, hjm, hmM⟩ := HNo.out rfl
          have HS := Lib.hid hs1
          have HmM := Lib.hid hmM
          clear hs1 hmM
          by_cases hlt : j < m
          · have hjl : j < l.queue.length := by have := HBl.out; omega
            have hjm2 : (j : Int) < (m : Int) := by omega
            have HWn := Lib.hid (HLW.out.2 _ (List.getElem_mem hjl))
            obtain ⟨ad, hBe, hab, y0, y1, y2, y3, y4⟩ := load_claim HW.out.h2.inn.lst hlt hjl
            subst hBe
            have HSk := Lib.hid (seek_at hjl)
            have HFs := Lib.hid (fun hh => fin_some (l := l) (out := os) (i := j) hh hjl)
            have HGi := Lib.hid (HLW.out.give hjl)
            have HGh := Lib.hid (show (Lm.give l j l.queue[j]).queue = l.queue.take j ++ l.queue.drop (j + 1) from List.eraseIdx_eq_take_drop_succ ..)
            unfold Lm.give at HFs HGi HGh
            generalize l.queue[j] = h at y0 y1 y2 y3 y4 HSk HFs HGi HGh HWn
            have hcap := HW.out.h2.inn.le
            have hlr := HW.out.lt
            have HW2 := Lib.hid (HW.out.step ((Q.refl wr).alloc (.cells #[.int .i64 h.txn, .int .i64 h.w.mode, .string h.w.lo, .string h.w.hi, .int .u64 (h.til : Int)] 45)))
            have HX := Lib.hid (show Bx (wr.alloc (.cells #[.int .i64 h.txn, .int .i64 h.w.mode, .string h.w.lo, .string h.w.hi, .int .u64 (h.til : Int)] 45)) wr.heap.size [.int .i64 h.txn, .int .i64 h.w.mode, .string h.w.lo, .string h.w.hi, .int .u64 (h.til : Int)] from Bx.new wr [.int .i64 h.txn, .int .i64 h.w.mode, .string h.w.lo, .string h.w.hi, .int .u64 (h.til : Int)] 45)
            have b0 := box_ ((Q.refl wr).alloc (.cells #[.int .i64 h.txn, .int .i64 h.w.mode, .string h.w.lo, .string h.w.hi, .int .u64 (h.til : Int)] 45)) b0
            have b1 := box_ ((Q.refl wr).alloc (.cells #[.int .i64 h.txn, .int .i64 h.w.mode, .string h.w.lo, .string h.w.hi, .int .u64 (h.til : Int)] 45)) b1
            go_wp2_with fail
            generalize wr.alloc (.cells #[.int .i64 h.txn, .int .i64 h.w.mode, .string h.w.lo, .string h.w.hi, .int .u64 (h.til : Int)] 45) = w2 at HW2 HX b0 b1 ⊢
            generalize hcb : wr.heap.size = cb at HX ⊢
            have HCB := Lib.hid (show w.heap.size + 1 < cb by omega)
            refine (rblk_set A (some ad) n c m d l h j _ HW2.out.h1.inn.lst HW2.out.h2.inn.lst HLW.out HWn.out NB.out.1 NB.out.2.1).mono ?_
            rintro e w3 ⟨Ab, cb2, rfl, ob, q3⟩
            have HW3 := Lib.hid (HW2.out.step q3)
            have HX3 := Lib.hid (HX.out.q q3)
            clear q3 ob y0 y1 y2 y3 y4 b0 b1 f0 f1 r0 r1 g0 g1 HW2 HX hcb hab HW
            have HW := HW3
            clear HW3
            obtain ⟨⟨b0, b1⟩, f0, f1⟩ := HW.out.b1.get2
            obtain ⟨⟨r0, r1⟩, g0, g1⟩ := HW.out.b3.get2
            have HCL3 := Lib.hid (cellLen_is b1)
            cases hbd : blk l h.txn h.w j with
            | cons a0 as0 =>
              have HN3 := Lib.hid (show first l = seek l (j + 1) by rw [HS.out, HSk.out, if_neg (fun e => by rw [hbd] at e; cases e)])
              have hpos : 0 < (a0 :: as0).length := by simp
              clear hbd
              generalize (a0 :: as0).length = len0 at hpos ⊢
              go_wp2
              go_roundw
              case rel => exact ⟨A, n, c, some ad, m, d, C, p, q, l, os, false, j + 1, rfl, rfl, by go_num, by omega, HW.out, HF.out, HLW.out, hn2, hp2, fun _ => ⟨HN3.out, by omega, HmM.out⟩, fun h => by cases h⟩
              case measure => rw [HCL3.out, HCL.out]; simp [boolN, intOf]; omega
            | nil =>
              have HG := Lib.hid (HFs.out (show first l = some j by rw [HS.out, HSk.out, if_pos hbd]))
              clear hbd
              obtain ⟨⟨x0, x1, x2, x3, x4⟩, _⟩ := HX3.out.get5
              obtain ⟨m1, rfl⟩ : ∃ m1, m = m1 + 1 := ⟨m - 1, by omega⟩
              have NT := Lib.hid (show (0 + j) * 56 ≤ 140737488355328 ∧ (j + (m1 + 1 - (j + 1))) * 56 ≤ 140737488355328 ∧ m1 * 56 ≤ 140737488355328 by have := NB.out.2.2.1; omega)
              have e1 : j ≤ d := by omega
              have e2 : (j : Int) ≤ (d : Int) := by omega
              have e3 : (j : Int) + 1 ≤ (m1 : Int) + 1 := by omega
              have e4 : (j : Int) + 1 ≤ (d : Int) := by omega
              have e5 : j + 1 ≤ d := by omega
              have hjw : j + 1 ≤ 9223372036854775807 := by omega
              have hjle : j ≤ m1 + 1 := by omega
              have hj1 : j + 1 ≤ m1 + 1 := by omega
              have hle2 : m1 + 1 ≤ d := hcap
              have b1e := box_ ((Q.refl w3).alloc (.cells #[] 45)) b1
              have tok1 : True := trivial
              have hlen : (l.queue.take j).length = j := by rw [List.length_take, HBl.out]; omega
              have HTk := Lib.hid hlen
              clear hlen
              have HGq := Lib.hid (show l.queue.eraseIdx j = l.queue.take j ++ l.queue.drop (j + 1) from List.eraseIdx_eq_take_drop_succ ..)
              have HDr := Lib.hid (show (l.queue.drop (j + 1)).length = m1 - j by rw [List.length_drop, HBl.out]; omega)
              by_cases hd : d = j + 1
              · subst hd
                have e9 : m1 = j := by omega
                subst e9
                have HD0 := Lib.hid (show l.queue.drop (m1 + 1) = [] from List.drop_of_length_le (by rw [HBl.out]; exact Nat.le_refl _))
                go_wp2_with (first
                  | (at_builtin
                     have _t := tok1
                     refine wpl_appKM claimK rfl _ _ 23 rfl rfl w3.heap.size (some ⟨w3.heap.size, 0, none⟩) 0 0 [] rfl (OwnK.lit0 claimK w3 _ (Nat.le_refl _)) (some ad) m1 (m1 + 1) (l.queue.take m1) rfl ((HW.out.h2.inn.lst.takeK hjle).q ((Q.refl _).alloc _)) (fun e => by cases e) m1 (by omega) (l.queue.take m1) (by simp) (by have := NT.out.1; show m1 * 56 ≤ _; omega) (by simp) ?_
                     intro A4 c4 w4 o4 b4
                     clear tok1
                     have Q4 := Lib.hid (show Q w3 w4 from ((Q.refl w3).alloc (.cells #[] 45)).below.trans b4)
                     have O4 := Lib.hid o4
                     have b0 := box_ Q4.out b0
                     have b1 := box_ Q4.out b1
                     have x0 := box_ Q4.out x0
                     have x1 := box_ Q4.out x1
                     have x2 := box_ Q4.out x2
                     have x3 := box_ Q4.out x3
                     have x4 := box_ Q4.out x4
                     clear o4 b4)
                  | (at_builtin
                     go_loud (
                     refine wpl_appKM claimK rfl _ _ 23 rfl rfl w3.heap.size A4 m1 c4 (l.queue.take m1) rfl O4.out _ _ _ (l.queue.drop (m1 + 1)) rfl (by rw [HD0.out]; simpa using Lst.nil (K := claimK) w4 _) (fun e => by cases e) m1 (by omega) (l.queue.eraseIdx m1) HGq.out.symm NT.out.2.2 Q4.out.size ?_
                     intro B5 d5 w5 o5 b5
                     have Q5 := Lib.hid (show Q w3 w5 from Q4.out.below.trans b5)
                     have O5 := Lib.hid o5
                     clear b0 b1 b1e f0 f1
                     obtain ⟨⟨b0, b1⟩, f0, f1⟩ := (HW.out.step Q5.out).b1.get2
                     clear o5 b5)))
                have HW5 := Lib.hid (HW.out.putC Q5.out O5.out NT.out.2.2)
                have HX5 := Lib.hid ((HX3.out.q Q5.out).far (p := ⟨w.heap.size, 1, none⟩) (by have := HCB.out; show w.heap.size ≠ cb; omega) (.slice B5 m1 d5))
                generalize w5.setCell ⟨w.heap.size, 1, none⟩ (.slice B5 m1 d5) = w6 at HW5 HX5 ⊢
                clear b0 b1 f0 f1 r0 r1 g0 g1 x0 x1 x2 x3 x4
                obtain ⟨⟨b0, b1⟩, f0, f1⟩ := HW5.out.b1.get2
                obtain ⟨⟨x0, x1, x2, x3, x4⟩, _⟩ := HX5.out.get5
                have HBs := Lib.hid (Nat.le_refl w6.heap.size)
                have NF0 := Lib.hid NB.out.2.2.2.2
                have NF1 := Lib.hid NB.out.2.2.2.1
                refine wp_region_heldL 12 (Below (w6.heap.size) w6) (by kernel_rfl) ?szz0 (fun hHeld => ?rzz0)
                case szz0 =>
                  exact Below.drew (Below.refl _ _)
                case' rzz0 => skip
                generalize hgen : w6.drew = D0 at hHeld ⊢
                clear hgen
                refine wpAnyL_take (i := 1) (oi := ?ozz1) (v := ?vzz1) ?hzz1 ?azz1 ?bzz1 ?czz1 ?kzz1 ?qzz1 ?yzz1 ?szz1 ?rzz1
                case hzz1 => simp only [List.getElem?_toArray, List.getElem?_cons_zero, List.getElem?_cons_succ]; rfl
                case azz1 => kernel_rfl
                case bzz1 => kernel_rfl
                case czz1 => kernel_rfl
                case kzz1 => kernel_rfl
                case yzz1 =>
                  refine Or.inl ⟨by rfl, ?_⟩
                  intro w hSw
                  have zb0 := box_ hSw b0; have zb1 := box_ hSw b1; have zx0 := box_ hSw x0; have zx1 := box_ hSw x1; have zx2 := box_ hSw x2; have zx3 := box_ hSw x3; have zx4 := box_ hSw x4; clear hSw
                  go_simp
                  try with_reducible rfl
                case qzz1 => exact fun _ _ _ h => h
                case szz1 => first | assumption | trivial
                case' rzz1 => simp only [Act.put, List.setIfInBounds_toArray, List.set_cons_zero, List.set_cons_succ]
                refine wpAnyL_take (i := 2) (oi := ?ozz2) (v := ?vzz2) ?hzz2 ?azz2 ?bzz2 ?czz2 ?kzz2 ?qzz2 ?yzz2 ?szz2 ?rzz2
                case hzz2 => simp only [List.getElem?_toArray, List.getElem?_cons_zero, List.getElem?_cons_succ]; rfl
                case azz2 => kernel_rfl
                case bzz2 => kernel_rfl
                case czz2 => kernel_rfl
                case kzz2 => kernel_rfl
                case yzz2 =>
                  refine Or.inl ⟨by rfl, ?_⟩
                  intro w hSw
                  have zb0 := box_ hSw b0; have zb1 := box_ hSw b1; have zx0 := box_ hSw x0; have zx1 := box_ hSw x1; have zx2 := box_ hSw x2; have zx3 := box_ hSw x3; have zx4 := box_ hSw x4; clear hSw
                  go_simp
                  try with_reducible rfl
                case qzz2 => exact fun _ _ _ h => h
                case szz2 => first | assumption | trivial
                case' rzz2 => simp only [Act.put, List.setIfInBounds_toArray, List.set_cons_zero, List.set_cons_succ]
                refine wpAnyL_take (i := 4) (oi := ?ozz3) (v := ?vzz3) ?hzz3 ?azz3 ?bzz3 ?czz3 ?kzz3 ?qzz3 ?yzz3 ?szz3 ?rzz3
                case hzz3 => simp only [List.getElem?_toArray, List.getElem?_cons_zero, List.getElem?_cons_succ]; rfl
                case azz3 => kernel_rfl
                case bzz3 => kernel_rfl
                case czz3 => kernel_rfl
                case kzz3 => kernel_rfl
                case yzz3 =>
                  refine Or.inl ⟨by rfl, ?_⟩
                  intro w hSw
                  have zb0 := box_ hSw b0; have zb1 := box_ hSw b1; have zx0 := box_ hSw x0; have zx1 := box_ hSw x1; have zx2 := box_ hSw x2; have zx3 := box_ hSw x3; have zx4 := box_ hSw x4; clear hSw
                  go_simp
                  try with_reducible rfl
                case qzz3 => exact fun _ _ _ h => h
                case szz3 => first | assumption | trivial
                case' rzz3 => simp only [Act.put, List.setIfInBounds_toArray, List.set_cons_zero, List.set_cons_succ]
                refine wpAnyL_take (i := 5) (oi := ?ozz4) (v := ?vzz4) ?hzz4 ?azz4 ?bzz4 ?czz4 ?kzz4 ?qzz4 ?yzz4 ?szz4 ?rzz4
                case hzz4 => simp only [List.getElem?_toArray, List.getElem?_cons_zero, List.getElem?_cons_succ]; rfl
                case azz4 => kernel_rfl
                case bzz4 => kernel_rfl
                case czz4 => kernel_rfl
                case kzz4 => kernel_rfl
                case yzz4 =>
                  refine Or.inl ⟨by rfl, ?_⟩
                  intro w hSw
                  have zb0 := box_ hSw b0; have zb1 := box_ hSw b1; have zx0 := box_ hSw x0; have zx1 := box_ hSw x1; have zx2 := box_ hSw x2; have zx3 := box_ hSw x3; have zx4 := box_ hSw x4; clear hSw
                  go_simp
                  try with_reducible rfl
                case qzz4 => exact fun _ _ _ h => h
                case szz4 => first | assumption | trivial
                case' rzz4 => simp only [Act.put, List.setIfInBounds_toArray, List.set_cons_zero, List.set_cons_succ]
                refine wpAnyL_take (i := 6) (oi := ?ozz5) (v := ?vzz5) ?hzz5 ?azz5 ?bzz5 ?czz5 ?kzz5 ?qzz5 ?yzz5 ?szz5 ?rzz5
                case hzz5 => simp only [List.getElem?_toArray, List.getElem?_cons_zero, List.getElem?_cons_succ]; rfl
                case azz5 => kernel_rfl
                case bzz5 => kernel_rfl
                case czz5 => kernel_rfl
                case kzz5 => kernel_rfl
                case yzz5 =>
                  refine Or.inl ⟨by rfl, ?_⟩
                  intro w hSw
                  have zb0 := box_ hSw b0; have zb1 := box_ hSw b1; have zx0 := box_ hSw x0; have zx1 := box_ hSw x1; have zx2 := box_ hSw x2; have zx3 := box_ hSw x3; have zx4 := box_ hSw x4; clear hSw
                  go_simp
                  try with_reducible rfl
                case qzz5 => exact fun _ _ _ h => h
                case szz5 => first | assumption | trivial
                case' rzz5 => simp only [Act.put, List.setIfInBounds_toArray, List.set_cons_zero, List.set_cons_succ]
                refine wpAnyL_take (i := 7) (oi := ?ozz6) (v := ?vzz6) ?hzz6 ?azz6 ?bzz6 ?czz6 ?kzz6 ?qzz6 ?yzz6 ?szz6 ?rzz6
                case hzz6 => simp only [List.getElem?_toArray, List.getElem?_cons_zero, List.getElem?_cons_succ]; rfl
                case azz6 => kernel_rfl
                case bzz6 => kernel_rfl
                case czz6 => kernel_rfl
                case kzz6 => kernel_rfl
                case yzz6 =>
                  refine Or.inl ⟨by rfl, ?_⟩
                  intro w hSw
                  have zb0 := box_ hSw b0; have zb1 := box_ hSw b1; have zx0 := box_ hSw x0; have zx1 := box_ hSw x1; have zx2 := box_ hSw x2; have zx3 := box_ hSw x3; have zx4 := box_ hSw x4; clear hSw
                  go_simp
                  try with_reducible rfl
                case qzz6 => exact fun _ _ _ h => h
                case szz6 => first | assumption | trivial
                case' rzz6 => simp only [Act.put, List.setIfInBounds_toArray, List.set_cons_zero, List.set_cons_succ]
                refine wpAnyL_take (i := 8) (oi := ?ozz7) (v := ?vzz7) ?hzz7 ?azz7 ?bzz7 ?czz7 ?kzz7 ?qzz7 ?yzz7 ?szz7 ?rzz7
                case hzz7 => simp only [List.getElem?_toArray, List.getElem?_cons_zero, List.getElem?_cons_succ]; rfl
                case azz7 => kernel_rfl
                case bzz7 => kernel_rfl
                case czz7 => kernel_rfl
                case kzz7 => kernel_rfl
                case yzz7 =>
                  refine Or.inl ⟨by rfl, ?_⟩
                  intro w hSw
                  have zb0 := box_ hSw b0; have zb1 := box_ hSw b1; have zx0 := box_ hSw x0; have zx1 := box_ hSw x1; have zx2 := box_ hSw x2; have zx3 := box_ hSw x3; have zx4 := box_ hSw x4; clear hSw
                  go_simp
                  try with_reducible rfl
                case qzz7 => exact fun _ _ _ h => h
                case szz7 => first | assumption | trivial
                case' rzz7 => simp only [Act.put, List.setIfInBounds_toArray, List.set_cons_zero, List.set_cons_succ]
                refine wpAnyL_ready (rs := [0, 9]) (by kernel_rfl) (by simp) ?_
                refine AllReadyL.cons (o := ?ozz23) ?hzz23 (fun K hK => ?kzz23) ?mzz23
                case hzz23 => simp only [List.getElem?_toArray, List.getElem?_cons_zero]; rfl
                case kzz23 =>
                  go_simp
                  have OE := Lib.hid (OwnK.lit0 holdK D0 (w6.heap.size) (Nat.le_trans HBs.out hHeld.size))
                  have qa := below_al hHeld HBs.out (.cells #[] 55)
                  have OE0 := Lib.hid (show D0.heap.size < (D0.alloc (.cells #[] 55)).heap.size by simp)
                  have OE : Hid (OwnK holdK (D0.alloc (.cells #[] 55)) (w6.heap.size) (some ⟨D0.heap.size, 0, none⟩) 0 0 []) := OE
                  generalize D0.alloc (.cells #[] 55) = Y0 at OE OE0 qa ⊢
                  generalize D0.heap.size = ne at OE OE0 ⊢
                  refine hK.out _ _ ?Szz23 (fun hHeld => ?Rzz23)
                  case Szz23 =>
                    exact qa
                  case Rzz23 =>
                    clear hK K
                    try simp only [Act.put, List.setIfInBounds_toArray, List.set_cons_zero, List.set_cons_succ]
                    refine wpAnyL_ready (rs := [3, 9]) (by kernel_rfl) (by simp) ?_
                    refine AllReadyL.cons (o := ?ozz16) ?hzz16 (fun K hK => ?kzz16) ?mzz16
                    case hzz16 => simp only [List.getElem?_toArray, List.getElem?_cons_zero, List.getElem?_cons_succ]; rfl
                    case kzz16 =>
                      refine step_appKM holdK (by rfl) _ _ _ rfl (by rfl) (w6.heap.size) _ 0 0 [] (by rfl) OE.out A n c (l.held) (by rfl) (HW5.out.h1.inn.lst.q hHeld) (HW5.out.h1.inn.nil) n (by omega) (l.held) (by simp) NF0.out (Nat.le_trans HBs.out hHeld.size) ?_
                      intro A6 c6 w61 o6 b6 g6
                      have q6 := hHeld.trans b6
                      have O6 := Lib.hid o6
                      clear o6 g6
                      refine hK.out _ _ ?Szz16 (fun hHeld => ?Rzz16)
                      case Szz16 =>
                        exact q6
                      case Rzz16 =>
                        clear hK K
                        try simp only [Act.put, List.setIfInBounds_toArray, List.set_cons_zero, List.set_cons_succ]
                        refine wpAnyL_ready (rs := [9]) (by kernel_rfl) (by simp) ?_
                        refine AllReadyL.cons (o := ?ozz11) ?hzz11 (fun K hK => ?kzz11) ?mzz11
                        case hzz11 => simp only [List.getElem?_toArray, List.getElem?_cons_zero, List.getElem?_cons_succ]; rfl
                        case kzz11 =>
                          go_simp
                          have OB : Hid (OwnK holdK (w61.alloc (.cells #[.int .i64 h.txn, .int .i64 h.w.mode, .string h.w.lo, .string h.w.hi] 55)) (w6.heap.size) (some ⟨w61.heap.size, 0, none⟩) 1 1 [⟨h.txn, h.w⟩]) := Lib.hid (OwnK.lit1 holdK w61 (w6.heap.size) (Nat.le_trans HBs.out hHeld.size) ⟨h.txn, h.w⟩)
                          have OB0 := Lib.hid (show w61.heap.size < (w61.alloc (.cells #[.int .i64 h.txn, .int .i64 h.w.mode, .string h.w.lo, .string h.w.hi] 55)).heap.size by simp)
                          have qa := below_al hHeld HBs.out (.cells #[.int .i64 h.txn, .int .i64 h.w.mode, .string h.w.lo, .string h.w.hi] 55)
                          have O6 := Lib.hid (O6.out.alloc (.cells #[.int .i64 h.txn, .int .i64 h.w.mode, .string h.w.lo, .string h.w.hi] 55))
                          generalize w61.alloc (.cells #[.int .i64 h.txn, .int .i64 h.w.mode, .string h.w.lo, .string h.w.hi] 55) = Y2 at OB OB0 qa O6 ⊢
                          generalize w61.heap.size = nb at OB OB0 ⊢
                          refine hK.out _ _ ?Szz11 (fun hHeld => ?Rzz11)
                          case Szz11 =>
                            exact qa
                          case Rzz11 =>
                            clear hK K
                            try simp only [Act.put, List.setIfInBounds_toArray, List.set_cons_zero, List.set_cons_succ]
                            refine wpAnyL_ready (rs := [10]) (by kernel_rfl) (by simp) ?_
                            refine AllReadyL.cons (o := ?ozz10) ?hzz10 (fun K hK => ?kzz10) ?mzz10
                            case hzz10 => simp only [List.getElem?_toArray, List.getElem?_cons_zero, List.getElem?_cons_succ]; rfl
                            case kzz10 =>
                              refine step_appKM holdK (by rfl) _ _ _ rfl (by rfl) (w6.heap.size) A6 n c6 (l.held) (by rfl) O6.out _ 1 1 [⟨h.txn, h.w⟩] (by rfl) OB.out.lst (fun e => by cases e) (n + 1) rfl (l.held ++ [⟨h.txn, h.w⟩]) rfl NF1.out (Nat.le_trans HBs.out hHeld.size) ?_
                              intro A7 c7 w73 o7 b7 g7
                              have q7 := hHeld.trans b7
                              refine hK.out _ _ ?Szz10 (fun hHeld => ?Rzz10)
                              case Szz10 =>
                                exact q7
                              case Rzz10 =>
                                clear hK K
                                try simp only [Act.put, List.setIfInBounds_toArray, List.set_cons_zero, List.set_cons_succ]
                                refine wpAnyL_take (i := 11) (oi := ?ozz8) (v := ?vzz8) ?hzz8 ?azz8 ?bzz8 ?czz8 ?kzz8 ?qzz8 ?yzz8 ?szz8 ?rzz8
                                case hzz8 => simp only [List.getElem?_toArray, List.getElem?_cons_zero, List.getElem?_cons_succ]; rfl
                                case azz8 => kernel_rfl
                                case bzz8 => kernel_rfl
                                case czz8 => kernel_rfl
                                case kzz8 => kernel_rfl
                                case yzz8 =>
                                  refine Or.inl ⟨by rfl, ?_⟩
                                  intro w hSw
                                  have zb0 := box_ hSw b0; have zb1 := box_ hSw b1; have zx0 := box_ hSw x0; have zx1 := box_ hSw x1; have zx2 := box_ hSw x2; have zx3 := box_ hSw x3; have zx4 := box_ hSw x4; clear hSw
                                  go_simp
                                  try with_reducible rfl
                                case qzz8 => exact fun _ _ _ h => h
                                case szz8 => first | assumption | trivial
                                case' rzz8 => simp only [Act.put, List.setIfInBounds_toArray, List.set_cons_zero, List.set_cons_succ]
                                refine wpAnyL_ready (rs := [12]) (by kernel_rfl) (by simp) ?_
                                refine AllReadyL.consK (o := ?ozz9) ?hzz9 ?lzz9 (fun K hK => ?kzz9) ?mzz9
                                case hzz9 => simp only [List.getElem?_toArray, List.getElem?_cons_zero, List.getElem?_cons_succ]; rfl
                                case lzz9 => kernel_rfl
                                case kzz9 =>
                                  have HZ := Lib.hid hHeld
                                  obtain ⟨⟨p0, p1⟩, p2, p3⟩ := (HW5.out.step hHeld).b1.get2
                                  go_simp
                                  refine hK.out _ _ ?Rzz9
                                  case Rzz9 =>
                                    clear hK K
                                    try simp only [Act.put, List.setIfInBounds_toArray, List.set_cons_zero, List.set_cons_succ]
                                    refine wpAnyH_done (by kernel_rfl) ?_ _
                                    clear b0 b1 f0 f1 x0 x1 x2 x3 x4 p0 p1 p2 p3
                                    have HW7 := Lib.hid (HW5.out.putH HZ.out o7 NF1.out)
                                    have HX7 := Lib.hid ((HX5.out.q HZ.out).far (p := ⟨w.heap.size, 0, none⟩) (by have := HCB.out; show w.heap.size ≠ cb; omega) (.slice A7 (n + 1) c7))
                                    clear o7 HZ
                                    go_upto_region 14 with (fail)
                                    generalize w73.setCell ⟨w.heap.size, 0, none⟩ (.slice A7 (n + 1) c7) = w8 at HW7 HX7 ⊢
                                    obtain ⟨⟨x0, x1, x2, x3, x4⟩, _⟩ := HX7.out.get5
                                    have hl7 := HW7.out.lt
                                    go_wp2_with (
                                      at_builtin
                                      refine wpl_appKG numK rfl _ _ 29 rfl rfl (w.heap.size + 1 + 1) C p q os rfl (HW7.out.o3.alloc _) (some ⟨w8.heap.size, 0, none⟩) 1 1 [h.txn] rfl (lst_lit1 w8 h.txn) (fun e => by cases e) (by show (p + 1) * 8 ≤ _; omega) (by simp; omega) ?_
                                      intro C8 q8 w9 o8 gr8 _
                                      have HW9 := Lib.hid (HW7.out.tell ((Q.refl w8).alloc (.cells #[.int .i64 h.txn] 3)) o8 gr8)
                                      clear o8 gr8)
                                    go_roundw
                                    case rel => exact ⟨A7, n + 1, c7, B5, m1, d5, C8, p + 1, q8, ⟨l.held ++ [⟨h.txn, h.w⟩], l.queue.eraseIdx m1⟩, os ++ [h.txn], true, m1 + 1, rfl, rfl, by go_num, by omega, HW9.out, (HG.out.symm.trans HF.out), HGi.out, by omega, by omega, fun h => (by cases h), fun _ => HmM.out⟩
                                    case measure => rw [HCL.out]; simp [boolN, intOf]; omega
                                case' mzz9 => skip
                                exact AllReadyL.nil
                            case' mzz10 => skip
                            exact AllReadyL.nil
                        case' mzz11 => skip
                        exact AllReadyL.nil
                    case' mzz16 => skip
                    refine AllReadyL.cons (o := ?ozz17) ?hzz17 (fun K hK => ?kzz17) ?mzz17
                    case hzz17 => simp only [List.getElem?_toArray, List.getElem?_cons_zero, List.getElem?_cons_succ]; rfl
                    case kzz17 =>
                      go_simp
                      have OB : Hid (OwnK holdK (Y0.alloc (.cells #[.int .i64 h.txn, .int .i64 h.w.mode, .string h.w.lo, .string h.w.hi] 55)) (w6.heap.size) (some ⟨Y0.heap.size, 0, none⟩) 1 1 [⟨h.txn, h.w⟩]) := Lib.hid (OwnK.lit1 holdK Y0 (w6.heap.size) (Nat.le_trans HBs.out hHeld.size) ⟨h.txn, h.w⟩)
                      have OB0 := Lib.hid (show Y0.heap.size < (Y0.alloc (.cells #[.int .i64 h.txn, .int .i64 h.w.mode, .string h.w.lo, .string h.w.hi] 55)).heap.size by simp)
                      have qa := below_al hHeld HBs.out (.cells #[.int .i64 h.txn, .int .i64 h.w.mode, .string h.w.lo, .string h.w.hi] 55)
                      have OE := Lib.hid (OE.out.alloc (.cells #[.int .i64 h.txn, .int .i64 h.w.mode, .string h.w.lo, .string h.w.hi] 55))
                      have hne : ne ≠ Y0.heap.size := by have := OE0.out; omega
                      generalize Y0.alloc (.cells #[.int .i64 h.txn, .int .i64 h.w.mode, .string h.w.lo, .string h.w.hi] 55) = Y4 at OB OB0 qa OE ⊢
                      generalize Y0.heap.size = nb at OB OB0 hne ⊢
                      refine hK.out _ _ ?Szz17 (fun hHeld => ?Rzz17)
                      case Szz17 =>
                        exact qa
                      case Rzz17 =>
                        clear hK K
                        try simp only [Act.put, List.setIfInBounds_toArray, List.set_cons_zero, List.set_cons_succ]
                        refine wpAnyL_ready (rs := [3]) (by kernel_rfl) (by simp) ?_
                        refine AllReadyL.cons (o := ?ozz15) ?hzz15 (fun K hK => ?kzz15) ?mzz15
                        case hzz15 => simp only [List.getElem?_toArray, List.getElem?_cons_zero, List.getElem?_cons_succ]; rfl
                        case kzz15 =>
                          refine step_appKM holdK (by rfl) _ _ _ rfl (by rfl) (w6.heap.size) _ 0 0 [] (by rfl) OE.out A n c (l.held) (by rfl) (HW5.out.h1.inn.lst.q hHeld) (HW5.out.h1.inn.nil) n (by omega) (l.held) (by simp) NF0.out (Nat.le_trans HBs.out hHeld.size) ?_
                          intro A6 c6 w65 o6 b6 g6
                          have q6 := hHeld.trans b6
                          have O6 := Lib.hid o6
                          have OB := Lib.hid (OwnK.away OB.out g6 (by intro a b e1 e2; injection e1 with e1; injection e2 with e2; subst e1 e2; exact hne) (fun _ => trivial))
                          clear o6 g6
                          refine hK.out _ _ ?Szz15 (fun hHeld => ?Rzz15)
                          case Szz15 =>
                            exact q6
                          case Rzz15 =>
                            clear hK K
                            try simp only [Act.put, List.setIfInBounds_toArray, List.set_cons_zero, List.set_cons_succ]
                            refine wpAnyL_ready (rs := [10]) (by kernel_rfl) (by simp) ?_
                            refine AllReadyL.cons (o := ?ozz14) ?hzz14 (fun K hK => ?kzz14) ?mzz14
                            case hzz14 => simp only [List.getElem?_toArray, List.getElem?_cons_zero, List.getElem?_cons_succ]; rfl
                            case kzz14 =>
                              refine step_appKM holdK (by rfl) _ _ _ rfl (by rfl) (w6.heap.size) A6 n c6 (l.held) (by rfl) O6.out _ 1 1 [⟨h.txn, h.w⟩] (by rfl) OB.out.lst (fun e => by cases e) (n + 1) rfl (l.held ++ [⟨h.txn, h.w⟩]) rfl NF1.out (Nat.le_trans HBs.out hHeld.size) ?_
                              intro A7 c7 w76 o7 b7 g7
                              have q7 := hHeld.trans b7
                              refine hK.out _ _ ?Szz14 (fun hHeld => ?Rzz14)
                              case Szz14 =>
                                exact q7
                              case Rzz14 =>
                                clear hK K
                                try simp only [Act.put, List.setIfInBounds_toArray, List.set_cons_zero, List.set_cons_succ]
                                refine wpAnyL_take (i := 11) (oi := ?ozz12) (v := ?vzz12) ?hzz12 ?azz12 ?bzz12 ?czz12 ?kzz12 ?qzz12 ?yzz12 ?szz12 ?rzz12
                                case hzz12 => simp only [List.getElem?_toArray, List.getElem?_cons_zero, List.getElem?_cons_succ]; rfl
                                case azz12 => kernel_rfl
                                case bzz12 => kernel_rfl
                                case czz12 => kernel_rfl
                                case kzz12 => kernel_rfl
                                case yzz12 =>
                                  refine Or.inl ⟨by rfl, ?_⟩
                                  intro w hSw
                                  have zb0 := box_ hSw b0; have zb1 := box_ hSw b1; have zx0 := box_ hSw x0; have zx1 := box_ hSw x1; have zx2 := box_ hSw x2; have zx3 := box_ hSw x3; have zx4 := box_ hSw x4; clear hSw
                                  go_simp
                                  try with_reducible rfl
                                case qzz12 => exact fun _ _ _ h => h
                                case szz12 => first | assumption | trivial
                                case' rzz12 => simp only [Act.put, List.setIfInBounds_toArray, List.set_cons_zero, List.set_cons_succ]
                                refine wpAnyL_ready (rs := [12]) (by kernel_rfl) (by simp) ?_
                                refine AllReadyL.consK (o := ?ozz13) ?hzz13 ?lzz13 (fun K hK => ?kzz13) ?mzz13
                                case hzz13 => simp only [List.getElem?_toArray, List.getElem?_cons_zero, List.getElem?_cons_succ]; rfl
                                case lzz13 => kernel_rfl
                                case kzz13 =>
                                  have HZ := Lib.hid hHeld
                                  obtain ⟨⟨p0, p1⟩, p2, p3⟩ := (HW5.out.step hHeld).b1.get2
                                  go_simp
                                  refine hK.out _ _ ?Rzz13
                                  case Rzz13 =>
                                    clear hK K
                                    try simp only [Act.put, List.setIfInBounds_toArray, List.set_cons_zero, List.set_cons_succ]
                                    refine wpAnyH_done (by kernel_rfl) ?_ _
                                    clear b0 b1 f0 f1 x0 x1 x2 x3 x4 p0 p1 p2 p3
                                    have HW7 := Lib.hid (HW5.out.putH HZ.out o7 NF1.out)
                                    have HX7 := Lib.hid ((HX5.out.q HZ.out).far (p := ⟨w.heap.size, 0, none⟩) (by have := HCB.out; show w.heap.size ≠ cb; omega) (.slice A7 (n + 1) c7))
                                    clear o7 HZ
                                    go_upto_region 14 with (fail)
                                    generalize w76.setCell ⟨w.heap.size, 0, none⟩ (.slice A7 (n + 1) c7) = w8 at HW7 HX7 ⊢
                                    obtain ⟨⟨x0, x1, x2, x3, x4⟩, _⟩ := HX7.out.get5
                                    have hl7 := HW7.out.lt
                                    go_wp2_with (
                                      at_builtin
                                      refine wpl_appKG numK rfl _ _ 29 rfl rfl (w.heap.size + 1 + 1) C p q os rfl (HW7.out.o3.alloc _) (some ⟨w8.heap.size, 0, none⟩) 1 1 [h.txn] rfl (lst_lit1 w8 h.txn) (fun e => by cases e) (by show (p + 1) * 8 ≤ _; omega) (by simp; omega) ?_
                                      intro C8 q8 w9 o8 gr8 _
                                      have HW9 := Lib.hid (HW7.out.tell ((Q.refl w8).alloc (.cells #[.int .i64 h.txn] 3)) o8 gr8)
                                      clear o8 gr8)
                                    go_roundw
                                    case rel => exact ⟨A7, n + 1, c7, B5, m1, d5, C8, p + 1, q8, ⟨l.held ++ [⟨h.txn, h.w⟩], l.queue.eraseIdx m1⟩, os ++ [h.txn], true, m1 + 1, rfl, rfl, by go_num, by omega, HW9.out, (HG.out.symm.trans HF.out), HGi.out, by omega, by omega, fun h => (by cases h), fun _ => HmM.out⟩
                                    case measure => rw [HCL.out]; simp [boolN, intOf]; omega
                                case' mzz13 => skip
                                exact AllReadyL.nil
                            case' mzz14 => skip
                            exact AllReadyL.nil
                        case' mzz15 => skip
                        exact AllReadyL.nil
                    case' mzz17 => skip
                    exact AllReadyL.nil
                case' mzz23 => skip
                refine AllReadyL.cons (o := ?ozz24) ?hzz24 (fun K hK => ?kzz24) ?mzz24
                case hzz24 => simp only [List.getElem?_toArray, List.getElem?_cons_zero, List.getElem?_cons_succ]; rfl
                case kzz24 =>
                  go_simp
                  have OB : Hid (OwnK holdK (D0.alloc (.cells #[.int .i64 h.txn, .int .i64 h.w.mode, .string h.w.lo, .string h.w.hi] 55)) (w6.heap.size) (some ⟨D0.heap.size, 0, none⟩) 1 1 [⟨h.txn, h.w⟩]) := Lib.hid (OwnK.lit1 holdK D0 (w6.heap.size) (Nat.le_trans HBs.out hHeld.size) ⟨h.txn, h.w⟩)
                  have OB0 := Lib.hid (show D0.heap.size < (D0.alloc (.cells #[.int .i64 h.txn, .int .i64 h.w.mode, .string h.w.lo, .string h.w.hi] 55)).heap.size by simp)
                  have qa := below_al hHeld HBs.out (.cells #[.int .i64 h.txn, .int .i64 h.w.mode, .string h.w.lo, .string h.w.hi] 55)
                  generalize D0.alloc (.cells #[.int .i64 h.txn, .int .i64 h.w.mode, .string h.w.lo, .string h.w.hi] 55) = Y7 at OB OB0 qa ⊢
                  generalize D0.heap.size = nb at OB OB0 ⊢
                  refine hK.out _ _ ?Szz24 (fun hHeld => ?Rzz24)
                  case Szz24 =>
                    exact qa
                  case Rzz24 =>
                    clear hK K
                    try simp only [Act.put, List.setIfInBounds_toArray, List.set_cons_zero, List.set_cons_succ]
                    refine wpAnyL_ready (rs := [0]) (by kernel_rfl) (by simp) ?_
                    refine AllReadyL.cons (o := ?ozz22) ?hzz22 (fun K hK => ?kzz22) ?mzz22
                    case hzz22 => simp only [List.getElem?_toArray, List.getElem?_cons_zero]; rfl
                    case kzz22 =>
                      go_simp
                      have OE := Lib.hid (OwnK.lit0 holdK Y7 (w6.heap.size) (Nat.le_trans HBs.out hHeld.size))
                      have qa := below_al hHeld HBs.out (.cells #[] 55)
                      have OB := Lib.hid (OB.out.alloc (.cells #[] 55))
                      have hne : Y7.heap.size ≠ nb := by have := OB0.out; omega
                      have OE0 := Lib.hid (show Y7.heap.size < (Y7.alloc (.cells #[] 55)).heap.size by simp)
                      have OE : Hid (OwnK holdK (Y7.alloc (.cells #[] 55)) (w6.heap.size) (some ⟨Y7.heap.size, 0, none⟩) 0 0 []) := OE
                      generalize Y7.alloc (.cells #[] 55) = Y8 at OE OE0 qa OB ⊢
                      generalize Y7.heap.size = ne at OE OE0 hne ⊢
                      refine hK.out _ _ ?Szz22 (fun hHeld => ?Rzz22)
                      case Szz22 =>
                        exact qa
                      case Rzz22 =>
                        clear hK K
                        try simp only [Act.put, List.setIfInBounds_toArray, List.set_cons_zero, List.set_cons_succ]
                        refine wpAnyL_ready (rs := [3]) (by kernel_rfl) (by simp) ?_
                        refine AllReadyL.cons (o := ?ozz21) ?hzz21 (fun K hK => ?kzz21) ?mzz21
                        case hzz21 => simp only [List.getElem?_toArray, List.getElem?_cons_zero, List.getElem?_cons_succ]; rfl
                        case kzz21 =>
                          refine step_appKM holdK (by rfl) _ _ _ rfl (by rfl) (w6.heap.size) _ 0 0 [] (by rfl) OE.out A n c (l.held) (by rfl) (HW5.out.h1.inn.lst.q hHeld) (HW5.out.h1.inn.nil) n (by omega) (l.held) (by simp) NF0.out (Nat.le_trans HBs.out hHeld.size) ?_
                          intro A6 c6 w69 o6 b6 g6
                          have q6 := hHeld.trans b6
                          have O6 := Lib.hid o6
                          have OB := Lib.hid (OwnK.away OB.out g6 (by intro a b e1 e2; injection e1 with e1; injection e2 with e2; subst e1 e2; exact hne) (fun _ => trivial))
                          clear o6 g6
                          refine hK.out _ _ ?Szz21 (fun hHeld => ?Rzz21)
                          case Szz21 =>
                            exact q6
                          case Rzz21 =>
                            clear hK K
                            try simp only [Act.put, List.setIfInBounds_toArray, List.set_cons_zero, List.set_cons_succ]
                            refine wpAnyL_ready (rs := [10]) (by kernel_rfl) (by simp) ?_
                            refine AllReadyL.cons (o := ?ozz20) ?hzz20 (fun K hK => ?kzz20) ?mzz20
                            case hzz20 => simp only [List.getElem?_toArray, List.getElem?_cons_zero, List.getElem?_cons_succ]; rfl
                            case kzz20 =>
                              refine step_appKM holdK (by rfl) _ _ _ rfl (by rfl) (w6.heap.size) A6 n c6 (l.held) (by rfl) O6.out _ 1 1 [⟨h.txn, h.w⟩] (by rfl) OB.out.lst (fun e => by cases e) (n + 1) rfl (l.held ++ [⟨h.txn, h.w⟩]) rfl NF1.out (Nat.le_trans HBs.out hHeld.size) ?_
                              intro A7 c7 w710 o7 b7 g7
                              have q7 := hHeld.trans b7
                              refine hK.out _ _ ?Szz20 (fun hHeld => ?Rzz20)
                              case Szz20 =>
                                exact q7
                              case Rzz20 =>
                                clear hK K
                                try simp only [Act.put, List.setIfInBounds_toArray, List.set_cons_zero, List.set_cons_succ]
                                refine wpAnyL_take (i := 11) (oi := ?ozz18) (v := ?vzz18) ?hzz18 ?azz18 ?bzz18 ?czz18 ?kzz18 ?qzz18 ?yzz18 ?szz18 ?rzz18
                                case hzz18 => simp only [List.getElem?_toArray, List.getElem?_cons_zero, List.getElem?_cons_succ]; rfl
                                case azz18 => kernel_rfl
                                case bzz18 => kernel_rfl
                                case czz18 => kernel_rfl
                                case kzz18 => kernel_rfl
                                case yzz18 =>
                                  refine Or.inl ⟨by rfl, ?_⟩
                                  intro w hSw
                                  have zb0 := box_ hSw b0; have zb1 := box_ hSw b1; have zx0 := box_ hSw x0; have zx1 := box_ hSw x1; have zx2 := box_ hSw x2; have zx3 := box_ hSw x3; have zx4 := box_ hSw x4; clear hSw
                                  go_simp
                                  try with_reducible rfl
                                case qzz18 => exact fun _ _ _ h => h
                                case szz18 => first | assumption | trivial
                                case' rzz18 => simp only [Act.put, List.setIfInBounds_toArray, List.set_cons_zero, List.set_cons_succ]
                                refine wpAnyL_ready (rs := [12]) (by kernel_rfl) (by simp) ?_
                                refine AllReadyL.consK (o := ?ozz19) ?hzz19 ?lzz19 (fun K hK => ?kzz19) ?mzz19
                                case hzz19 => simp only [List.getElem?_toArray, List.getElem?_cons_zero, List.getElem?_cons_succ]; rfl
                                case lzz19 => kernel_rfl
                                case kzz19 =>
                                  have HZ := Lib.hid hHeld
                                  obtain ⟨⟨p0, p1⟩, p2, p3⟩ := (HW5.out.step hHeld).b1.get2
                                  go_simp
                                  refine hK.out _ _ ?Rzz19
                                  case Rzz19 =>
                                    clear hK K
                                    try simp only [Act.put, List.setIfInBounds_toArray, List.set_cons_zero, List.set_cons_succ]
                                    refine wpAnyH_done (by kernel_rfl) ?_ _
                                    clear b0 b1 f0 f1 x0 x1 x2 x3 x4 p0 p1 p2 p3
                                    have HW7 := Lib.hid (HW5.out.putH HZ.out o7 NF1.out)
                                    have HX7 := Lib.hid ((HX5.out.q HZ.out).far (p := ⟨w.heap.size, 0, none⟩) (by have := HCB.out; show w.heap.size ≠ cb; omega) (.slice A7 (n + 1) c7))
                                    clear o7 HZ
                                    go_upto_region 14 with (fail)
                                    generalize w710.setCell ⟨w.heap.size, 0, none⟩ (.slice A7 (n + 1) c7) = w8 at HW7 HX7 ⊢
                                    obtain ⟨⟨x0, x1, x2, x3, x4⟩, _⟩ := HX7.out.get5
                                    have hl7 := HW7.out.lt
                                    go_wp2_with (
                                      at_builtin
                                      refine wpl_appKG numK rfl _ _ 29 rfl rfl (w.heap.size + 1 + 1) C p q os rfl (HW7.out.o3.alloc _) (some ⟨w8.heap.size, 0, none⟩) 1 1 [h.txn] rfl (lst_lit1 w8 h.txn) (fun e => by cases e) (by show (p + 1) * 8 ≤ _; omega) (by simp; omega) ?_
                                      intro C8 q8 w9 o8 gr8 _
                                      have HW9 := Lib.hid (HW7.out.tell ((Q.refl w8).alloc (.cells #[.int .i64 h.txn] 3)) o8 gr8)
                                      clear o8 gr8)
                                    go_roundw
                                    case rel => exact ⟨A7, n + 1, c7, B5, m1, d5, C8, p + 1, q8, ⟨l.held ++ [⟨h.txn, h.w⟩], l.queue.eraseIdx m1⟩, os ++ [h.txn], true, m1 + 1, rfl, rfl, by go_num, by omega, HW9.out, (HG.out.symm.trans HF.out), HGi.out, by omega, by omega, fun h => (by cases h), fun _ => HmM.out⟩
                                    case measure => rw [HCL.out]; simp [boolN, intOf]; omega
                                case' mzz19 => skip
                                exact AllReadyL.nil
                            case' mzz20 => skip
                            exact AllReadyL.nil
                        case' mzz21 => skip
                        exact AllReadyL.nil
                    case' mzz22 => skip
                    exact AllReadyL.nil
                case' mzz24 => skip
                exact AllReadyL.nil
              · have hdd : ¬ ((d : Int) = (j : Int) + 1) := by omega
                go_wp2_with (first
                  | (at_builtin
                     have _t := tok1
                     refine wpl_appKM claimK rfl _ _ 23 rfl rfl w3.heap.size (some ⟨w3.heap.size, 0, none⟩) 0 0 [] rfl (OwnK.lit0 claimK w3 _ (Nat.le_refl _)) (some ad) j d (l.queue.take j) rfl ((HW.out.h2.inn.lst.takeK hjle).q ((Q.refl _).alloc _)) (fun e => by cases e) j (by omega) (l.queue.take j) (by simp) (by have := NT.out.1; show j * 56 ≤ _; omega) (by simp) ?_
                     intro A4 c4 w4 o4 b4
                     clear tok1
                     have Q4 := Lib.hid (show Q w3 w4 from ((Q.refl w3).alloc (.cells #[] 45)).below.trans b4)
                     have O4 := Lib.hid o4
                     have b0 := box_ Q4.out b0
                     have b1 := box_ Q4.out b1
                     have x0 := box_ Q4.out x0
                     have x1 := box_ Q4.out x1
                     have x2 := box_ Q4.out x2
                     have x3 := box_ Q4.out x3
                     have x4 := box_ Q4.out x4
                     clear o4 b4)
                  | (at_builtin
                     go_loud (
                     refine wpl_appKM claimK rfl _ _ 23 rfl rfl w3.heap.size A4 j c4 (l.queue.take j) rfl O4.out _ _ _ (l.queue.drop (j + 1)) rfl (by have := ((HW.out.h2.inn.lst.q Q4.out).dropK hj1); rw [show m1 + 1 - (j + 1) = m1 - j by omega] at this; exact this) (fun e => by cases e) m1 (by omega) (l.queue.eraseIdx j) HGq.out.symm NT.out.2.2 Q4.out.size ?_
                     intro B5 d5 w5 o5 b5
                     have Q5 := Lib.hid (show Q w3 w5 from Q4.out.below.trans b5)
                     have O5 := Lib.hid o5
                     clear b0 b1 b1e f0 f1
                     obtain ⟨⟨b0, b1⟩, f0, f1⟩ := (HW.out.step Q5.out).b1.get2
                     clear o5 b5)))
                have HW5 := Lib.hid (HW.out.putC Q5.out O5.out NT.out.2.2)
                have HX5 := Lib.hid ((HX3.out.q Q5.out).far (p := ⟨w.heap.size, 1, none⟩) (by have := HCB.out; show w.heap.size ≠ cb; omega) (.slice B5 m1 d5))
                generalize w5.setCell ⟨w.heap.size, 1, none⟩ (.slice B5 m1 d5) = w6 at HW5 HX5 ⊢
                clear b0 b1 f0 f1 r0 r1 g0 g1 x0 x1 x2 x3 x4
                obtain ⟨⟨b0, b1⟩, f0, f1⟩ := HW5.out.b1.get2
                obtain ⟨⟨x0, x1, x2, x3, x4⟩, _⟩ := HX5.out.get5
                have HBs := Lib.hid (Nat.le_refl w6.heap.size)
                have NF0 := Lib.hid NB.out.2.2.2.2
                have NF1 := Lib.hid NB.out.2.2.2.1
                refine wp_region_heldL 12 (Below (w6.heap.size) w6) (by kernel_rfl) ?szz25 (fun hHeld => ?rzz25)
                case szz25 =>
                  exact Below.drew (Below.refl _ _)
                case' rzz25 => skip
                generalize hgen : w6.drew = D0 at hHeld ⊢
                clear hgen
                refine wpAnyL_take (i := 1) (oi := ?ozz26) (v := ?vzz26) ?hzz26 ?azz26 ?bzz26 ?czz26 ?kzz26 ?qzz26 ?yzz26 ?szz26 ?rzz26
                case hzz26 => simp only [List.getElem?_toArray, List.getElem?_cons_zero, List.getElem?_cons_succ]; rfl
                case azz26 => kernel_rfl
                case bzz26 => kernel_rfl
                case czz26 => kernel_rfl
                case kzz26 => kernel_rfl
                case yzz26 =>
                  refine Or.inl ⟨by rfl, ?_⟩
                  intro w hSw
                  have zb0 := box_ hSw b0; have zb1 := box_ hSw b1; have zx0 := box_ hSw x0; have zx1 := box_ hSw x1; have zx2 := box_ hSw x2; have zx3 := box_ hSw x3; have zx4 := box_ hSw x4; clear hSw
                  go_simp
                  try with_reducible rfl
                case qzz26 => exact fun _ _ _ h => h
                case szz26 => first | assumption | trivial
                case' rzz26 => simp only [Act.put, List.setIfInBounds_toArray, List.set_cons_zero, List.set_cons_succ]
                refine wpAnyL_take (i := 2) (oi := ?ozz27) (v := ?vzz27) ?hzz27 ?azz27 ?bzz27 ?czz27 ?kzz27 ?qzz27 ?yzz27 ?szz27 ?rzz27
                case hzz27 => simp only [List.getElem?_toArray, List.getElem?_cons_zero, List.getElem?_cons_succ]; rfl
                case azz27 => kernel_rfl
                case bzz27 => kernel_rfl
                case czz27 => kernel_rfl
                case kzz27 => kernel_rfl
                case yzz27 =>
                  refine Or.inl ⟨by rfl, ?_⟩
                  intro w hSw
                  have zb0 := box_ hSw b0; have zb1 := box_ hSw b1; have zx0 := box_ hSw x0; have zx1 := box_ hSw x1; have zx2 := box_ hSw x2; have zx3 := box_ hSw x3; have zx4 := box_ hSw x4; clear hSw
                  go_simp
                  try with_reducible rfl
                case qzz27 => exact fun _ _ _ h => h
                case szz27 => first | assumption | trivial
                case' rzz27 => simp only [Act.put, List.setIfInBounds_toArray, List.set_cons_zero, List.set_cons_succ]
                refine wpAnyL_take (i := 4) (oi := ?ozz28) (v := ?vzz28) ?hzz28 ?azz28 ?bzz28 ?czz28 ?kzz28 ?qzz28 ?yzz28 ?szz28 ?rzz28
                case hzz28 => simp only [List.getElem?_toArray, List.getElem?_cons_zero, List.getElem?_cons_succ]; rfl
                case azz28 => kernel_rfl
                case bzz28 => kernel_rfl
                case czz28 => kernel_rfl
                case kzz28 => kernel_rfl
                case yzz28 =>
                  refine Or.inl ⟨by rfl, ?_⟩
                  intro w hSw
                  have zb0 := box_ hSw b0; have zb1 := box_ hSw b1; have zx0 := box_ hSw x0; have zx1 := box_ hSw x1; have zx2 := box_ hSw x2; have zx3 := box_ hSw x3; have zx4 := box_ hSw x4; clear hSw
                  go_simp
                  try with_reducible rfl
                case qzz28 => exact fun _ _ _ h => h
                case szz28 => first | assumption | trivial
                case' rzz28 => simp only [Act.put, List.setIfInBounds_toArray, List.set_cons_zero, List.set_cons_succ]
                refine wpAnyL_take (i := 5) (oi := ?ozz29) (v := ?vzz29) ?hzz29 ?azz29 ?bzz29 ?czz29 ?kzz29 ?qzz29 ?yzz29 ?szz29 ?rzz29
                case hzz29 => simp only [List.getElem?_toArray, List.getElem?_cons_zero, List.getElem?_cons_succ]; rfl
                case azz29 => kernel_rfl
                case bzz29 => kernel_rfl
                case czz29 => kernel_rfl
                case kzz29 => kernel_rfl
                case yzz29 =>
                  refine Or.inl ⟨by rfl, ?_⟩
                  intro w hSw
                  have zb0 := box_ hSw b0; have zb1 := box_ hSw b1; have zx0 := box_ hSw x0; have zx1 := box_ hSw x1; have zx2 := box_ hSw x2; have zx3 := box_ hSw x3; have zx4 := box_ hSw x4; clear hSw
                  go_simp
                  try with_reducible rfl
                case qzz29 => exact fun _ _ _ h => h
                case szz29 => first | assumption | trivial
                case' rzz29 => simp only [Act.put, List.setIfInBounds_toArray, List.set_cons_zero, List.set_cons_succ]
                refine wpAnyL_take (i := 6) (oi := ?ozz30) (v := ?vzz30) ?hzz30 ?azz30 ?bzz30 ?czz30 ?kzz30 ?qzz30 ?yzz30 ?szz30 ?rzz30
                case hzz30 => simp only [List.getElem?_toArray, List.getElem?_cons_zero, List.getElem?_cons_succ]; rfl
                case azz30 => kernel_rfl
                case bzz30 => kernel_rfl
                case czz30 => kernel_rfl
                case kzz30 => kernel_rfl
                case yzz30 =>
                  refine Or.inl ⟨by rfl, ?_⟩
                  intro w hSw
                  have zb0 := box_ hSw b0; have zb1 := box_ hSw b1; have zx0 := box_ hSw x0; have zx1 := box_ hSw x1; have zx2 := box_ hSw x2; have zx3 := box_ hSw x3; have zx4 := box_ hSw x4; clear hSw
                  go_simp
                  try with_reducible rfl
                case qzz30 => exact fun _ _ _ h => h
                case szz30 => first | assumption | trivial
                case' rzz30 => simp only [Act.put, List.setIfInBounds_toArray, List.set_cons_zero, List.set_cons_succ]
                refine wpAnyL_take (i := 7) (oi := ?ozz31) (v := ?vzz31) ?hzz31 ?azz31 ?bzz31 ?czz31 ?kzz31 ?qzz31 ?yzz31 ?szz31 ?rzz31
                case hzz31 => simp only [List.getElem?_toArray, List.getElem?_cons_zero, List.getElem?_cons_succ]; rfl
                case azz31 => kernel_rfl
                case bzz31 => kernel_rfl
                case czz31 => kernel_rfl
                case kzz31 => kernel_rfl
                case yzz31 =>
                  refine Or.inl ⟨by rfl, ?_⟩
                  intro w hSw
                  have zb0 := box_ hSw b0; have zb1 := box_ hSw b1; have zx0 := box_ hSw x0; have zx1 := box_ hSw x1; have zx2 := box_ hSw x2; have zx3 := box_ hSw x3; have zx4 := box_ hSw x4; clear hSw
                  go_simp
                  try with_reducible rfl
                case qzz31 => exact fun _ _ _ h => h
                case szz31 => first | assumption | trivial
                case' rzz31 => simp only [Act.put, List.setIfInBounds_toArray, List.set_cons_zero, List.set_cons_succ]
                refine wpAnyL_take (i := 8) (oi := ?ozz32) (v := ?vzz32) ?hzz32 ?azz32 ?bzz32 ?czz32 ?kzz32 ?qzz32 ?yzz32 ?szz32 ?rzz32
                case hzz32 => simp only [List.getElem?_toArray, List.getElem?_cons_zero, List.getElem?_cons_succ]; rfl
                case azz32 => kernel_rfl
                case bzz32 => kernel_rfl
                case czz32 => kernel_rfl
                case kzz32 => kernel_rfl
                case yzz32 =>
                  refine Or.inl ⟨by rfl, ?_⟩
                  intro w hSw
                  have zb0 := box_ hSw b0; have zb1 := box_ hSw b1; have zx0 := box_ hSw x0; have zx1 := box_ hSw x1; have zx2 := box_ hSw x2; have zx3 := box_ hSw x3; have zx4 := box_ hSw x4; clear hSw
                  go_simp
                  try with_reducible rfl
                case qzz32 => exact fun _ _ _ h => h
                case szz32 => first | assumption | trivial
                case' rzz32 => simp only [Act.put, List.setIfInBounds_toArray, List.set_cons_zero, List.set_cons_succ]
                refine wpAnyL_ready (rs := [0, 9]) (by kernel_rfl) (by simp) ?_
                refine AllReadyL.cons (o := ?ozz48) ?hzz48 (fun K hK => ?kzz48) ?mzz48
                case hzz48 => simp only [List.getElem?_toArray, List.getElem?_cons_zero]; rfl
                case kzz48 =>
                  go_simp
                  have OE := Lib.hid (OwnK.lit0 holdK D0 (w6.heap.size) (Nat.le_trans HBs.out hHeld.size))
                  have qa := below_al hHeld HBs.out (.cells #[] 55)
                  have OE0 := Lib.hid (show D0.heap.size < (D0.alloc (.cells #[] 55)).heap.size by simp)
                  have OE : Hid (OwnK holdK (D0.alloc (.cells #[] 55)) (w6.heap.size) (some ⟨D0.heap.size, 0, none⟩) 0 0 []) := OE
                  generalize D0.alloc (.cells #[] 55) = Y0 at OE OE0 qa ⊢
                  generalize D0.heap.size = ne at OE OE0 ⊢
                  refine hK.out _ _ ?Szz48 (fun hHeld => ?Rzz48)
                  case Szz48 =>
                    exact qa
                  case Rzz48 =>
                    clear hK K
                    try simp only [Act.put, List.setIfInBounds_toArray, List.set_cons_zero, List.set_cons_succ]
                    refine wpAnyL_ready (rs := [3, 9]) (by kernel_rfl) (by simp) ?_
                    refine AllReadyL.cons (o := ?ozz41) ?hzz41 (fun K hK => ?kzz41) ?mzz41
                    case hzz41 => simp only [List.getElem?_toArray, List.getElem?_cons_zero, List.getElem?_cons_succ]; rfl
                    case kzz41 =>
                      refine step_appKM holdK (by rfl) _ _ _ rfl (by rfl) (w6.heap.size) _ 0 0 [] (by rfl) OE.out A n c (l.held) (by rfl) (HW5.out.h1.inn.lst.q hHeld) (HW5.out.h1.inn.nil) n (by omega) (l.held) (by simp) NF0.out (Nat.le_trans HBs.out hHeld.size) ?_
                      intro A6 c6 w61 o6 b6 g6
                      have q6 := hHeld.trans b6
                      have O6 := Lib.hid o6
                      clear o6 g6
                      refine hK.out _ _ ?Szz41 (fun hHeld => ?Rzz41)
                      case Szz41 =>
                        exact q6
                      case Rzz41 =>
                        clear hK K
                        try simp only [Act.put, List.setIfInBounds_toArray, List.set_cons_zero, List.set_cons_succ]
                        refine wpAnyL_ready (rs := [9]) (by kernel_rfl) (by simp) ?_
                        refine AllReadyL.cons (o := ?ozz36) ?hzz36 (fun K hK => ?kzz36) ?mzz36
                        case hzz36 => simp only [List.getElem?_toArray, List.getElem?_cons_zero, List.getElem?_cons_succ]; rfl
                        case kzz36 =>
                          go_simp
                          have OB : Hid (OwnK holdK (w61.alloc (.cells #[.int .i64 h.txn, .int .i64 h.w.mode, .string h.w.lo, .string h.w.hi] 55)) (w6.heap.size) (some ⟨w61.heap.size, 0, none⟩) 1 1 [⟨h.txn, h.w⟩]) := Lib.hid (OwnK.lit1 holdK w61 (w6.heap.size) (Nat.le_trans HBs.out hHeld.size) ⟨h.txn, h.w⟩)
                          have OB0 := Lib.hid (show w61.heap.size < (w61.alloc (.cells #[.int .i64 h.txn, .int .i64 h.w.mode, .string h.w.lo, .string h.w.hi] 55)).heap.size by simp)
                          have qa := below_al hHeld HBs.out (.cells #[.int .i64 h.txn, .int .i64 h.w.mode, .string h.w.lo, .string h.w.hi] 55)
                          have O6 := Lib.hid (O6.out.alloc (.cells #[.int .i64 h.txn, .int .i64 h.w.mode, .string h.w.lo, .string h.w.hi] 55))
                          generalize w61.alloc (.cells #[.int .i64 h.txn, .int .i64 h.w.mode, .string h.w.lo, .string h.w.hi] 55) = Y2 at OB OB0 qa O6 ⊢
                          generalize w61.heap.size = nb at OB OB0 ⊢
                          refine hK.out _ _ ?Szz36 (fun hHeld => ?Rzz36)
                          case Szz36 =>
                            exact qa
                          case Rzz36 =>
                            clear hK K
                            try simp only [Act.put, List.setIfInBounds_toArray, List.set_cons_zero, List.set_cons_succ]
                            refine wpAnyL_ready (rs := [10]) (by kernel_rfl) (by simp) ?_
                            refine AllReadyL.cons (o := ?ozz35) ?hzz35 (fun K hK => ?kzz35) ?mzz35
                            case hzz35 => simp only [List.getElem?_toArray, List.getElem?_cons_zero, List.getElem?_cons_succ]; rfl
                            case kzz35 =>
                              refine step_appKM holdK (by rfl) _ _ _ rfl (by rfl) (w6.heap.size) A6 n c6 (l.held) (by rfl) O6.out _ 1 1 [⟨h.txn, h.w⟩] (by rfl) OB.out.lst (fun e => by cases e) (n + 1) rfl (l.held ++ [⟨h.txn, h.w⟩]) rfl NF1.out (Nat.le_trans HBs.out hHeld.size) ?_
                              intro A7 c7 w73 o7 b7 g7
                              have q7 := hHeld.trans b7
                              refine hK.out _ _ ?Szz35 (fun hHeld => ?Rzz35)
                              case Szz35 =>
                                exact q7
                              case Rzz35 =>
                                clear hK K
                                try simp only [Act.put, List.setIfInBounds_toArray, List.set_cons_zero, List.set_cons_succ]
                                refine wpAnyL_take (i := 11) (oi := ?ozz33) (v := ?vzz33) ?hzz33 ?azz33 ?bzz33 ?czz33 ?kzz33 ?qzz33 ?yzz33 ?szz33 ?rzz33
                                case hzz33 => simp only [List.getElem?_toArray, List.getElem?_cons_zero, List.getElem?_cons_succ]; rfl
                                case azz33 => kernel_rfl
                                case bzz33 => kernel_rfl
                                case czz33 => kernel_rfl
                                case kzz33 => kernel_rfl
                                case yzz33 =>
                                  refine Or.inl ⟨by rfl, ?_⟩
                                  intro w hSw
                                  have zb0 := box_ hSw b0; have zb1 := box_ hSw b1; have zx0 := box_ hSw x0; have zx1 := box_ hSw x1; have zx2 := box_ hSw x2; have zx3 := box_ hSw x3; have zx4 := box_ hSw x4; clear hSw
                                  go_simp
                                  try with_reducible rfl
                                case qzz33 => exact fun _ _ _ h => h
                                case szz33 => first | assumption | trivial
                                case' rzz33 => simp only [Act.put, List.setIfInBounds_toArray, List.set_cons_zero, List.set_cons_succ]
                                refine wpAnyL_ready (rs := [12]) (by kernel_rfl) (by simp) ?_
                                refine AllReadyL.consK (o := ?ozz34) ?hzz34 ?lzz34 (fun K hK => ?kzz34) ?mzz34
                                case hzz34 => simp only [List.getElem?_toArray, List.getElem?_cons_zero, List.getElem?_cons_succ]; rfl
                                case lzz34 => kernel_rfl
                                case kzz34 =>
                                  have HZ := Lib.hid hHeld
                                  obtain ⟨⟨p0, p1⟩, p2, p3⟩ := (HW5.out.step hHeld).b1.get2
                                  go_simp
                                  refine hK.out _ _ ?Rzz34
                                  case Rzz34 =>
                                    clear hK K
                                    try simp only [Act.put, List.setIfInBounds_toArray, List.set_cons_zero, List.set_cons_succ]
                                    refine wpAnyH_done (by kernel_rfl) ?_ _
                                    clear b0 b1 f0 f1 x0 x1 x2 x3 x4 p0 p1 p2 p3
                                    have HW7 := Lib.hid (HW5.out.putH HZ.out o7 NF1.out)
                                    have HX7 := Lib.hid ((HX5.out.q HZ.out).far (p := ⟨w.heap.size, 0, none⟩) (by have := HCB.out; show w.heap.size ≠ cb; omega) (.slice A7 (n + 1) c7))
                                    clear o7 HZ
                                    go_upto_region 14 with (fail)
                                    generalize w73.setCell ⟨w.heap.size, 0, none⟩ (.slice A7 (n + 1) c7) = w8 at HW7 HX7 ⊢
                                    obtain ⟨⟨x0, x1, x2, x3, x4⟩, _⟩ := HX7.out.get5
                                    have hl7 := HW7.out.lt
                                    go_wp2_with (
                                      at_builtin
                                      refine wpl_appKG numK rfl _ _ 29 rfl rfl (w.heap.size + 1 + 1) C p q os rfl (HW7.out.o3.alloc _) (some ⟨w8.heap.size, 0, none⟩) 1 1 [h.txn] rfl (lst_lit1 w8 h.txn) (fun e => by cases e) (by show (p + 1) * 8 ≤ _; omega) (by simp; omega) ?_
                                      intro C8 q8 w9 o8 gr8 _
                                      have HW9 := Lib.hid (HW7.out.tell ((Q.refl w8).alloc (.cells #[.int .i64 h.txn] 3)) o8 gr8)
                                      clear o8 gr8)
                                    go_roundw
                                    case rel => exact ⟨A7, n + 1, c7, B5, m1, d5, C8, p + 1, q8, ⟨l.held ++ [⟨h.txn, h.w⟩], l.queue.eraseIdx j⟩, os ++ [h.txn], true, j + 1, rfl, rfl, by go_num, by omega, HW9.out, (HG.out.symm.trans HF.out), HGi.out, by omega, by omega, fun h => (by cases h), fun _ => HmM.out⟩
                                    case measure => rw [HCL.out]; simp [boolN, intOf]; omega
                                case' mzz34 => skip
                                exact AllReadyL.nil
                            case' mzz35 => skip
                            exact AllReadyL.nil
                        case' mzz36 => skip
                        exact AllReadyL.nil
                    case' mzz41 => skip
                    refine AllReadyL.cons (o := ?ozz42) ?hzz42 (fun K hK => ?kzz42) ?mzz42
                    case hzz42 => simp only [List.getElem?_toArray, List.getElem?_cons_zero, List.getElem?_cons_succ]; rfl
                    case kzz42 =>
                      go_simp
                      have OB : Hid (OwnK holdK (Y0.alloc (.cells #[.int .i64 h.txn, .int .i64 h.w.mode, .string h.w.lo, .string h.w.hi] 55)) (w6.heap.size) (some ⟨Y0.heap.size, 0, none⟩) 1 1 [⟨h.txn, h.w⟩]) := Lib.hid (OwnK.lit1 holdK Y0 (w6.heap.size) (Nat.le_trans HBs.out hHeld.size) ⟨h.txn, h.w⟩)
                      have OB0 := Lib.hid (show Y0.heap.size < (Y0.alloc (.cells #[.int .i64 h.txn, .int .i64 h.w.mode, .string h.w.lo, .string h.w.hi] 55)).heap.size by simp)
                      have qa := below_al hHeld HBs.out (.cells #[.int .i64 h.txn, .int .i64 h.w.mode, .string h.w.lo, .string h.w.hi] 55)
                      have OE := Lib.hid (OE.out.alloc (.cells #[.int .i64 h.txn, .int .i64 h.w.mode, .string h.w.lo, .string h.w.hi] 55))
                      have hne : ne ≠ Y0.heap.size := by have := OE0.out; omega
                      generalize Y0.alloc (.cells #[.int .i64 h.txn, .int .i64 h.w.mode, .string h.w.lo, .string h.w.hi] 55) = Y4 at OB OB0 qa OE ⊢
                      generalize Y0.heap.size = nb at OB OB0 hne ⊢
                      refine hK.out _ _ ?Szz42 (fun hHeld => ?Rzz42)
                      case Szz42 =>
                        exact qa
                      case Rzz42 =>
                        clear hK K
                        try simp only [Act.put, List.setIfInBounds_toArray, List.set_cons_zero, List.set_cons_succ]
                        refine wpAnyL_ready (rs := [3]) (by kernel_rfl) (by simp) ?_
                        refine AllReadyL.cons (o := ?ozz40) ?hzz40 (fun K hK => ?kzz40) ?mzz40
                        case hzz40 => simp only [List.getElem?_toArray, List.getElem?_cons_zero, List.getElem?_cons_succ]; rfl
                        case kzz40 =>
                          refine step_appKM holdK (by rfl) _ _ _ rfl (by rfl) (w6.heap.size) _ 0 0 [] (by rfl) OE.out A n c (l.held) (by rfl) (HW5.out.h1.inn.lst.q hHeld) (HW5.out.h1.inn.nil) n (by omega) (l.held) (by simp) NF0.out (Nat.le_trans HBs.out hHeld.size) ?_
                          intro A6 c6 w65 o6 b6 g6
                          have q6 := hHeld.trans b6
                          have O6 := Lib.hid o6
                          have OB := Lib.hid (OwnK.away OB.out g6 (by intro a b e1 e2; injection e1 with e1; injection e2 with e2; subst e1 e2; exact hne) (fun _ => trivial))
                          clear o6 g6
                          refine hK.out _ _ ?Szz40 (fun hHeld => ?Rzz40)
                          case Szz40 =>
                            exact q6
                          case Rzz40 =>
                            clear hK K
                            try simp only [Act.put, List.setIfInBounds_toArray, List.set_cons_zero, List.set_cons_succ]
                            refine wpAnyL_ready (rs := [10]) (by kernel_rfl) (by simp) ?_
                            refine AllReadyL.cons (o := ?ozz39) ?hzz39 (fun K hK => ?kzz39) ?mzz39
                            case hzz39 => simp only [List.getElem?_toArray, List.getElem?_cons_zero, List.getElem?_cons_succ]; rfl
                            case kzz39 =>
                              refine step_appKM holdK (by rfl) _ _ _ rfl (by rfl) (w6.heap.size) A6 n c6 (l.held) (by rfl) O6.out _ 1 1 [⟨h.txn, h.w⟩] (by rfl) OB.out.lst (fun e => by cases e) (n + 1) rfl (l.held ++ [⟨h.txn, h.w⟩]) rfl NF1.out (Nat.le_trans HBs.out hHeld.size) ?_
                              intro A7 c7 w76 o7 b7 g7
                              have q7 := hHeld.trans b7
                              refine hK.out _ _ ?Szz39 (fun hHeld => ?Rzz39)
                              case Szz39 =>
                                exact q7
                              case Rzz39 =>
                                clear hK K
                                try simp only [Act.put, List.setIfInBounds_toArray, List.set_cons_zero, List.set_cons_succ]
                                refine wpAnyL_take (i := 11) (oi := ?ozz37) (v := ?vzz37) ?hzz37 ?azz37 ?bzz37 ?czz37 ?kzz37 ?qzz37 ?yzz37 ?szz37 ?rzz37
                                case hzz37 => simp only [List.getElem?_toArray, List.getElem?_cons_zero, List.getElem?_cons_succ]; rfl
                                case azz37 => kernel_rfl
                                case bzz37 => kernel_rfl
                                case czz37 => kernel_rfl
                                case kzz37 => kernel_rfl
                                case yzz37 =>
                                  refine Or.inl ⟨by rfl, ?_⟩
                                  intro w hSw
                                  have zb0 := box_ hSw b0; have zb1 := box_ hSw b1; have zx0 := box_ hSw x0; have zx1 := box_ hSw x1; have zx2 := box_ hSw x2; have zx3 := box_ hSw x3; have zx4 := box_ hSw x4; clear hSw
                                  go_simp
                                  try with_reducible rfl
                                case qzz37 => exact fun _ _ _ h => h
                                case szz37 => first | assumption | trivial
                                case' rzz37 => simp only [Act.put, List.setIfInBounds_toArray, List.set_cons_zero, List.set_cons_succ]
                                refine wpAnyL_ready (rs := [12]) (by kernel_rfl) (by simp) ?_
                                refine AllReadyL.consK (o := ?ozz38) ?hzz38 ?lzz38 (fun K hK => ?kzz38) ?mzz38
                                case hzz38 => simp only [List.getElem?_toArray, List.getElem?_cons_zero, List.getElem?_cons_succ]; rfl
                                case lzz38 => kernel_rfl
                                case kzz38 =>
                                  have HZ := Lib.hid hHeld
                                  obtain ⟨⟨p0, p1⟩, p2, p3⟩ := (HW5.out.step hHeld).b1.get2
                                  go_simp
                                  refine hK.out _ _ ?Rzz38
                                  case Rzz38 =>
                                    clear hK K
                                    try simp only [Act.put, List.setIfInBounds_toArray, List.set_cons_zero, List.set_cons_succ]
                                    refine wpAnyH_done (by kernel_rfl) ?_ _
                                    clear b0 b1 f0 f1 x0 x1 x2 x3 x4 p0 p1 p2 p3
                                    have HW7 := Lib.hid (HW5.out.putH HZ.out o7 NF1.out)
                                    have HX7 := Lib.hid ((HX5.out.q HZ.out).far (p := ⟨w.heap.size, 0, none⟩) (by have := HCB.out; show w.heap.size ≠ cb; omega) (.slice A7 (n + 1) c7))
                                    clear o7 HZ
                                    go_upto_region 14 with (fail)
                                    generalize w76.setCell ⟨w.heap.size, 0, none⟩ (.slice A7 (n + 1) c7) = w8 at HW7 HX7 ⊢
                                    obtain ⟨⟨x0, x1, x2, x3, x4⟩, _⟩ := HX7.out.get5
                                    have hl7 := HW7.out.lt
                                    go_wp2_with (
                                      at_builtin
                                      refine wpl_appKG numK rfl _ _ 29 rfl rfl (w.heap.size + 1 + 1) C p q os rfl (HW7.out.o3.alloc _) (some ⟨w8.heap.size, 0, none⟩) 1 1 [h.txn] rfl (lst_lit1 w8 h.txn) (fun e => by cases e) (by show (p + 1) * 8 ≤ _; omega) (by simp; omega) ?_
                                      intro C8 q8 w9 o8 gr8 _
                                      have HW9 := Lib.hid (HW7.out.tell ((Q.refl w8).alloc (.cells #[.int .i64 h.txn] 3)) o8 gr8)
                                      clear o8 gr8)
                                    go_roundw
                                    case rel => exact ⟨A7, n + 1, c7, B5, m1, d5, C8, p + 1, q8, ⟨l.held ++ [⟨h.txn, h.w⟩], l.queue.eraseIdx j⟩, os ++ [h.txn], true, j + 1, rfl, rfl, by go_num, by omega, HW9.out, (HG.out.symm.trans HF.out), HGi.out, by omega, by omega, fun h => (by cases h), fun _ => HmM.out⟩
                                    case measure => rw [HCL.out]; simp [boolN, intOf]; omega
                                case' mzz38 => skip
                                exact AllReadyL.nil
                            case' mzz39 => skip
                            exact AllReadyL.nil
                        case' mzz40 => skip
                        exact AllReadyL.nil
                    case' mzz42 => skip
                    exact AllReadyL.nil
                case' mzz48 => skip
                refine AllReadyL.cons (o := ?ozz49) ?hzz49 (fun K hK => ?kzz49) ?mzz49
                case hzz49 => simp only [List.getElem?_toArray, List.getElem?_cons_zero, List.getElem?_cons_succ]; rfl
                case kzz49 =>
                  go_simp
                  have OB : Hid (OwnK holdK (D0.alloc (.cells #[.int .i64 h.txn, .int .i64 h.w.mode, .string h.w.lo, .string h.w.hi] 55)) (w6.heap.size) (some ⟨D0.heap.size, 0, none⟩) 1 1 [⟨h.txn, h.w⟩]) := Lib.hid (OwnK.lit1 holdK D0 (w6.heap.size) (Nat.le_trans HBs.out hHeld.size) ⟨h.txn, h.w⟩)
                  have OB0 := Lib.hid (show D0.heap.size < (D0.alloc (.cells #[.int .i64 h.txn, .int .i64 h.w.mode, .string h.w.lo, .string h.w.hi] 55)).heap.size by simp)
                  have qa := below_al hHeld HBs.out (.cells #[.int .i64 h.txn, .int .i64 h.w.mode, .string h.w.lo, .string h.w.hi] 55)
                  generalize D0.alloc (.cells #[.int .i64 h.txn, .int .i64 h.w.mode, .string h.w.lo, .string h.w.hi] 55) = Y7 at OB OB0 qa ⊢
                  generalize D0.heap.size = nb at OB OB0 ⊢
                  refine hK.out _ _ ?Szz49 (fun hHeld => ?Rzz49)
                  case Szz49 =>
                    exact qa
                  case Rzz49 =>
                    clear hK K
                    try simp only [Act.put, List.setIfInBounds_toArray, List.set_cons_zero, List.set_cons_succ]
                    refine wpAnyL_ready (rs := [0]) (by kernel_rfl) (by simp) ?_
                    refine AllReadyL.cons (o := ?ozz47) ?hzz47 (fun K hK => ?kzz47) ?mzz47
                    case hzz47 => simp only [List.getElem?_toArray, List.getElem?_cons_zero]; rfl
                    case kzz47 =>
                      go_simp
                      have OE := Lib.hid (OwnK.lit0 holdK Y7 (w6.heap.size) (Nat.le_trans HBs.out hHeld.size))
                      have qa := below_al hHeld HBs.out (.cells #[] 55)
                      have OB := Lib.hid (OB.out.alloc (.cells #[] 55))
                      have hne : Y7.heap.size ≠ nb := by have := OB0.out; omega
                      have OE0 := Lib.hid (show Y7.heap.size < (Y7.alloc (.cells #[] 55)).heap.size by simp)
                      have OE : Hid (OwnK holdK (Y7.alloc (.cells #[] 55)) (w6.heap.size) (some ⟨Y7.heap.size, 0, none⟩) 0 0 []) := OE
                      generalize Y7.alloc (.cells #[] 55) = Y8 at OE OE0 qa OB ⊢
                      generalize Y7.heap.size = ne at OE OE0 hne ⊢
                      refine hK.out _ _ ?Szz47 (fun hHeld => ?Rzz47)
                      case Szz47 =>
                        exact qa
                      case Rzz47 =>
                        clear hK K
                        try simp only [Act.put, List.setIfInBounds_toArray, List.set_cons_zero, List.set_cons_succ]
                        refine wpAnyL_ready (rs := [3]) (by kernel_rfl) (by simp) ?_
                        refine AllReadyL.cons (o := ?ozz46) ?hzz46 (fun K hK => ?kzz46) ?mzz46
                        case hzz46 => simp only [List.getElem?_toArray, List.getElem?_cons_zero, List.getElem?_cons_succ]; rfl
                        case kzz46 =>
                          refine step_appKM holdK (by rfl) _ _ _ rfl (by rfl) (w6.heap.size) _ 0 0 [] (by rfl) OE.out A n c (l.held) (by rfl) (HW5.out.h1.inn.lst.q hHeld) (HW5.out.h1.inn.nil) n (by omega) (l.held) (by simp) NF0.out (Nat.le_trans HBs.out hHeld.size) ?_
                          intro A6 c6 w69 o6 b6 g6
                          have q6 := hHeld.trans b6
                          have O6 := Lib.hid o6
                          have OB := Lib.hid (OwnK.away OB.out g6 (by intro a b e1 e2; injection e1 with e1; injection e2 with e2; subst e1 e2; exact hne) (fun _ => trivial))
                          clear o6 g6
                          refine hK.out _ _ ?Szz46 (fun hHeld => ?Rzz46)
                          case Szz46 =>
                            exact q6
                          case Rzz46 =>
                            clear hK K
                            try simp only [Act.put, List.setIfInBounds_toArray, List.set_cons_zero, List.set_cons_succ]
                            refine wpAnyL_ready (rs := [10]) (by kernel_rfl) (by simp) ?_
                            refine AllReadyL.cons (o := ?ozz45) ?hzz45 (fun K hK => ?kzz45) ?mzz45
                            case hzz45 => simp only [List.getElem?_toArray, List.getElem?_cons_zero, List.getElem?_cons_succ]; rfl
                            case kzz45 =>
                              refine step_appKM holdK (by rfl) _ _ _ rfl (by rfl) (w6.heap.size) A6 n c6 (l.held) (by rfl) O6.out _ 1 1 [⟨h.txn, h.w⟩] (by rfl) OB.out.lst (fun e => by cases e) (n + 1) rfl (l.held ++ [⟨h.txn, h.w⟩]) rfl NF1.out (Nat.le_trans HBs.out hHeld.size) ?_
                              intro A7 c7 w710 o7 b7 g7
                              have q7 := hHeld.trans b7
                              refine hK.out _ _ ?Szz45 (fun hHeld => ?Rzz45)
                              case Szz45 =>
                                exact q7
                              case Rzz45 =>
                                clear hK K
                                try simp only [Act.put, List.setIfInBounds_toArray, List.set_cons_zero, List.set_cons_succ]
                                refine wpAnyL_take (i := 11) (oi := ?ozz43) (v := ?vzz43) ?hzz43 ?azz43 ?bzz43 ?czz43 ?kzz43 ?qzz43 ?yzz43 ?szz43 ?rzz43
                                case hzz43 => simp only [List.getElem?_toArray, List.getElem?_cons_zero, List.getElem?_cons_succ]; rfl
                                case azz43 => kernel_rfl
                                case bzz43 => kernel_rfl
                                case czz43 => kernel_rfl
                                case kzz43 => kernel_rfl
                                case yzz43 =>
                                  refine Or.inl ⟨by rfl, ?_⟩
                                  intro w hSw
                                  have zb0 := box_ hSw b0; have zb1 := box_ hSw b1; have zx0 := box_ hSw x0; have zx1 := box_ hSw x1; have zx2 := box_ hSw x2; have zx3 := box_ hSw x3; have zx4 := box_ hSw x4; clear hSw
                                  go_simp
                                  try with_reducible rfl
                                case qzz43 => exact fun _ _ _ h => h
                                case szz43 => first | assumption | trivial
                                case' rzz43 => simp only [Act.put, List.setIfInBounds_toArray, List.set_cons_zero, List.set_cons_succ]
                                refine wpAnyL_ready (rs := [12]) (by kernel_rfl) (by simp) ?_
                                refine AllReadyL.consK (o := ?ozz44) ?hzz44 ?lzz44 (fun K hK => ?kzz44) ?mzz44
                                case hzz44 => simp only [List.getElem?_toArray, List.getElem?_cons_zero, List.getElem?_cons_succ]; rfl
                                case lzz44 => kernel_rfl
                                case kzz44 =>
                                  have HZ := Lib.hid hHeld
                                  obtain ⟨⟨p0, p1⟩, p2, p3⟩ := (HW5.out.step hHeld).b1.get2
                                  go_simp
                                  refine hK.out _ _ ?Rzz44
                                  case Rzz44 =>
                                    clear hK K
                                    try simp only [Act.put, List.setIfInBounds_toArray, List.set_cons_zero, List.set_cons_succ]
                                    refine wpAnyH_done (by kernel_rfl) ?_ _
                                    clear b0 b1 f0 f1 x0 x1 x2 x3 x4 p0 p1 p2 p3
                                    have HW7 := Lib.hid (HW5.out.putH HZ.out o7 NF1.out)
                                    have HX7 := Lib.hid ((HX5.out.q HZ.out).far (p := ⟨w.heap.size, 0, none⟩) (by have := HCB.out; show w.heap.size ≠ cb; omega) (.slice A7 (n + 1) c7))
                                    clear o7 HZ
                                    go_upto_region 14 with (fail)
                                    generalize w710.setCell ⟨w.heap.size, 0, none⟩ (.slice A7 (n + 1) c7) = w8 at HW7 HX7 ⊢
                                    obtain ⟨⟨x0, x1, x2, x3, x4⟩, _⟩ := HX7.out.get5
                                    have hl7 := HW7.out.lt
                                    go_wp2_with (
                                      at_builtin
                                      refine wpl_appKG numK rfl _ _ 29 rfl rfl (w.heap.size + 1 + 1) C p q os rfl (HW7.out.o3.alloc _) (some ⟨w8.heap.size, 0, none⟩) 1 1 [h.txn] rfl (lst_lit1 w8 h.txn) (fun e => by cases e) (by show (p + 1) * 8 ≤ _; omega) (by simp; omega) ?_
                                      intro C8 q8 w9 o8 gr8 _
                                      have HW9 := Lib.hid (HW7.out.tell ((Q.refl w8).alloc (.cells #[.int .i64 h.txn] 3)) o8 gr8)
                                      clear o8 gr8)
                                    go_roundw
                                    case rel => exact ⟨A7, n + 1, c7, B5, m1, d5, C8, p + 1, q8, ⟨l.held ++ [⟨h.txn, h.w⟩], l.queue.eraseIdx j⟩, os ++ [h.txn], true, j + 1, rfl, rfl, by go_num, by omega, HW9.out, (HG.out.symm.trans HF.out), HGi.out, by omega, by omega, fun h => (by cases h), fun _ => HmM.out⟩
                                    case measure => rw [HCL.out]; simp [boolN, intOf]; omega
                                case' mzz44 => skip
                                exact AllReadyL.nil
                            case' mzz45 => skip
                            exact AllReadyL.nil
                        case' mzz46 => skip
                        exact AllReadyL.nil
                    case' mzz47 => skip
                    exact AllReadyL.nil
                case' mzz49 => skip
                exact AllReadyL.nil
          · have hlt' : ¬ (j : Int) < (m : Int) := by omega
            have HNone := Lib.hid (show first l = none by rw [HS.out, seek_end (by have := HBl.out; omega)])
            go_wp2
            go_roundw
            case rel => exact ⟨A, n, c, B, m, d, C, p, q, l, os, false, rfl, rfl, HW.out, HF.out, HLW.out, hn2, hp2, fun _ => HNone.out⟩
            case measure => rw [HCL.out, HC00.out]; have := HmM.out; simp [boolN]; omega
end Go.Proofs.Ytncnfblnelkmbaa

/- Contract: lock.Settle. -/
namespace Go.Proofs.Ytncnfblnelkmbaa
set_option maxRecDepth 100000
open Go.RowKit Prm Lm Sm
set_option linter.unusedVariables false
set_option linter.unusedSimpArgs false

end Go.Proofs.Ytncnfblnelkmbaa

/- Contracts: slices.DeleteFunc at holds and claims of the call's own. -/
namespace Go.Proofs.Ytncnfblnelkmbaa
set_option maxRecDepth 100000
open Go.RowKit Prm Lm Sm
set_option linter.unusedVariables false
set_option linter.unusedSimpArgs false

theorem grown_q {w w' : World} (q : Q w w') (b : Option Nat) : w.grownBy w' b := ⟨q.below.os, q.below.tape, q.below.output, q.size, fun i hi _ => q.below.block i hi⟩

end Go.Proofs.Ytncnfblnelkmbaa

/- Contract: lock.Free. -/
namespace Go.Proofs.Ytncnfblnelkmbaa
set_option maxRecDepth 100000
open Go.RowKit Prm Lm Sm
set_option linter.unusedVariables false
set_option linter.unusedSimpArgs false

theorem stay_H (l : Lo) (txn : Int) : stay (isH txn) l.held = (Lm.keep l txn).held := by
  show l.held.filter _ = l.held.filter _
  congr 1; funext h; simp [isH]
theorem stay_C (l : Lo) (txn : Int) : stay (isC txn) l.queue = (Lm.keep l txn).queue := by
  show l.queue.filter _ = l.queue.filter _
  congr 1; funext h; simp [isC]
theorem LoI.keep {l : Lo} (h : LoI l) (txn : Int) : LoI (Lm.keep l txn) := ⟨fun a ha => h.1 a (List.mem_filter.1 ha).1, fun a ha => h.2 a (List.mem_filter.1 ha).1⟩

end Go.Proofs.Ytncnfblnelkmbaa
