/- Contracts: the document's Pop. -/
import Derived.Test.YtbclamfpoigneaaAlRefPut
import Derived.Test.YtbclamfpoigneaaHeldL
import Derived.Test.YtbclamfpoigneaaGrow
import Derived.Deep.DeepCutAuto
namespace Go.Proofs.Ytbclamfpoigneaa
set_option maxRecDepth 100000
open Go.RowKit
set_option linter.unusedVariables false
set_option linter.unusedSimpArgs false
namespace Am

theorem bst1_c {l : List Al} {i k m : Nat} {c : Bool} (hm : l.length = m) (hk : k = 2 * i + 1) (hc : c = (decide (k < m) && less (g l k) (g l i))) : bst1 l i = if c = true then k else i := by
  subst hk hc hm
  unfold bst1
  simp only [Bool.and_eq_true, decide_eq_true_eq]
theorem bst_c {l : List Al} {i k m : Nat} {c : Bool} (hm : l.length = m) (hk : k = 2 * i + 2) (hc : c = (decide (k < m) && less (g l k) (g l (bst1 l i)))) : bst l i = if c = true then k else bst1 l i := by
  subst hk hc hm
  unfold bst
  simp only [Bool.and_eq_true, decide_eq_true_eq]
theorem bst1_lt {l : List Al} {i : Nat} (hi : i < l.length) : bst1 l i < l.length := by
  rcases bst1_cases l i with ⟨h, _⟩ | ⟨h, h1, _⟩ <;> omega
theorem bst_lt {l : List Al} {i : Nat} (hi : i < l.length) : bst l i < l.length ∧ (bst l i = i ∨ i < bst l i) := by
  rcases bst_cases l i with ⟨h, _⟩ | ⟨_, _, h1, _, h2, _⟩
  · exact ⟨by omega, .inl h⟩
  · exact ⟨h1, .inr h2⟩
theorem sink_end {f : Nat} {l : List Al} {i : Nat} (h : bst l i = i) : sink f l i = l := by
  cases f with
  | zero => rfl
  | succ f => unfold sink; rw [if_pos h]
theorem sink_step {f : Nat} {l : List Al} {i : Nat} (h : ¬ bst l i = i) (hf : l.length ≤ i + f) (hi : i < l.length) : ∃ f', sink f l i = sink f' (swp l i (bst l i)) (bst l i) ∧ (swp l i (bst l i)).length ≤ bst l i + f' := by
  cases f with
  | zero => omega
  | succ f =>
    have hb := bst_lt hi
    refine ⟨f, ?_, by rw [swp_len]; omega⟩
    conv => lhs; unfold sink
    rw [if_neg h]
/-- what a pop answers. -/
def RetP (w : World) (h : List Al) (e : Ending) (w' : World) : Prop :=
  ∃ A c, e = .returned (.tuple #[.slice A (popR h).length c, alV (g h 0), .bool (decide (0 < h.length))]) ∧ In_ alK w' A (popR h).length c (popR h) ∧ (0 < h.length → OwnK alK w' w.heap.size A (popR h).length c (popR h)) ∧ Q w w'
/-- the loop's: where the box of the first one lies, and that of the answer. -/
structure Pl (w : World) (b r : Nat) (h : List Al) (m : Nat) (A : Option Addr) (c : Nat) (l : List Al) (wr : World) : Prop where
  o : OwnK alK wr (w.heap.size + 2) A m c l
  fb : Bx wr b [.int .u64 ((g h 0).at_ : Int), .int .i64 (g h 0).id]
  fr : Bx wr r [.int .u64 0, .int .i64 0]
  q : Q w wr
set_option maxHeartbeats 8000000 in
theorem rpop_any (A : Option Addr) (n c : Nat) (h : List Al) (w : World) (hA : In_ alK w A n c h) (hn : n ≤ 900000) :
    Calls Try.prog 13 #[.slice A n c] w (RetP w h) := by
  have HA := Lib.hid hA
  have HL := Lib.hid hA.len
  have qr := (Q.refl w).alloc (.cells #[.int .u64 0, .int .i64 0] 25)
  have B0 := Lib.hid (And.intro (Bx.new w [.int .u64 0, .int .i64 0] 25) qr)
  clear qr
  by_cases h0 : n = 0
  · subst h0
    have hnil : h = [] := List.eq_nil_of_length_eq_zero HL.out
    subst hnil
    clear hA
    unfold RetP alV
    go_enter Try.func13, Try.ntmps13
    go_wp2
    have b := B0.out.1
    have r0 := (b 0 _ rfl).1
    have r1 := (b 1 _ rfl).1
    refine bodyPost_ret (v := .tuple #[.slice A 0 c, .agg #[.int .u64 0, .int .i64 0], .bool false]) (by simp [results, Try.results13, go_sem, r0, r1]) rfl ?_
    exact ⟨A, c, rfl, HA.out.q B0.out.2, fun e => absurd e (by simp), B0.out.2⟩
  have hnp : 0 < n := by omega
  obtain ⟨m, hm⟩ : ∃ m, n = m + 1 := ⟨n - 1, by omega⟩
  have h0l : 0 < h.length := by rw [HL.out]; exact hnp
  obtain ⟨ad, rfl, hab, y0, y1⟩ := load_al hA.lst hnp h0l
  rw [show ad.add (0 * 2) = ad from rfl] at y0 y1
  have hnl : ¬ (n : Int) = 0 := by omega
  have hg0 := g_lt h0l
  have hb0 : (0 + m) * alK.bs ≤ 140737488355328 := by show (0 + m) * 16 ≤ _; omega
  have hwn : IntKind.i64.wrap ((n : Int) - 1) = (m : Int) := by rw [IntKind.wrap_i64]; omega
  have hmc : m ≤ c := by have := hA.le; omega
  have hmn : m ≤ n := by omega
  have hcm := hA.cap
  rw [← hg0] at y0 y1
  have hla : Lst alK w (some ad) m (h.take m) := by
    refine Lst.headG hA.lst hmn
  have HLA := Lib.hid hla
  have hdl : h.take m = h.dropLast := by rw [List.dropLast_eq_take, HL.out, hm]; rfl
  have HM := Lib.hid hm
  have HDL := Lib.hid hdl
  clear hm hdl
  have hfirst : (Value.agg #[.int .u64 ((g h 0).at_ : Int), .int .i64 (g h 0).id]) = alV (g h 0) := rfl
  clear hA hla hg0
  generalize hgf : g h 0 = f at y0 y1
  have HGF := Lib.hid hgf
  clear hgf hfirst
  have x0 := box_ B0.out.2 y0
  have x1 := box_ B0.out.2 y1
  have B1 := Lib.hid (And.intro (B0.out.2.alloc (.cells #[.int .u64 (f.at_ : Int), .int .i64 f.id] 25)) (And.intro (B0.out.1.alloc (.cells #[.int .u64 (f.at_ : Int), .int .i64 f.id] 25)) (Bx.new (w.alloc (.cells #[.int .u64 0, .int .i64 0] 25)) [.int .u64 (f.at_ : Int), .int .i64 f.id] 25)))
  rw [show (w.alloc (.cells #[.int .u64 0, .int .i64 0] 25)).heap.size = w.heap.size + 1 by simp] at B1
  clear B0
  go_enter Try.func13, Try.ntmps13
  go_upto_region 4 with (fail)
  change Hid (_ ∧ _ ∧ Bx ((w.alloc (.cells #[.int .u64 0, .int .i64 0] 25)).alloc (.cells #[.int .u64 (f.at_ : Int), .int .i64 f.id] 25)) _ _) at B1
  clear x0 x1
  generalize ((w.alloc (.cells #[.int .u64 0, .int .i64 0] 25)).alloc (.cells #[.int .u64 (f.at_ : Int), .int .i64 f.id] 25)) = W1 at B1 ⊢
  have hw1 : w.heap.size + 2 ≤ W1.heap.size := by have := B1.out.2.2.lt; omega
  go_upto_region 5 with (at_builtin
                         refine wpl_appK alK rfl (.tmp 17) (.tmp 22) 22 rfl rfl W1.heap.size (some ⟨W1.heap.size, 0, none⟩) 0 0 [] rfl (OwnK.lit0 alK W1 W1.heap.size (Nat.le_refl _)) (some ad) m c (h.take m) rfl (HLA.out.q (B1.out.1.alloc _)) (fun e => by cases e) hb0 (by simp) ?_
                         intro A2 c2 w2 o2 b2
                         have q2 : Q W1 w2 := ((Q.refl W1).alloc (.cells #[] 25)).below.trans b2
                         have O2 := Lib.hid (And.intro (o2.lower (b2 := w.heap.size + 2) hw1) q2)
                         clear o2 b2 q2)
  have o2l : OwnK alK w2 (w.heap.size + 2) A2 m c2 (h.take m) := by have := O2.out.1; simpa using this
  have P2 : Hid (Pl w (w.heap.size + 1) w.heap.size h m A2 c2 (h.take m) w2) := Lib.hid ⟨o2l, by rw [HGF.out]; exact B1.out.2.2.q O2.out.2, B1.out.2.1.q O2.out.2, B1.out.1.trans O2.out.2⟩
  clear o2l B1 O2
  by_cases hm0 : m = 0
  · have hpop : popR h = [] := by unfold popR; rw [if_pos (by rw [HL.out, HM.out]; omega)]
    have HPP := Lib.hid hpop
    subst hm0
    clear hpop
    obtain ⟨⟨b0, b1⟩, _⟩ := P2.out.fb.get2
    rw [HGF.out] at b0 b1
    go_upto_region 6 with (fail)
    refine wp_region_heldL 3 (Q w2) (by kernel_rfl) ?szz70 (fun hHeld => ?rzz70)
    case szz70 =>
      exact (Q.refl w2).drew
    case' rzz70 => skip
    generalize hgen : w2.drew = D0 at hHeld ⊢
    clear hgen
    refine wpAnyL_take (i := 0) (oi := ?ozz71) (v := ?vzz71) ?hzz71 ?azz71 ?bzz71 ?czz71 ?kzz71 ?qzz71 ?yzz71 ?szz71 ?rzz71
    case hzz71 => simp only [List.getElem?_toArray, List.getElem?_cons_zero]; rfl
    case azz71 => kernel_rfl
    case bzz71 => kernel_rfl
    case czz71 => kernel_rfl
    case kzz71 => kernel_rfl
    case yzz71 =>
      refine Or.inl ⟨by rfl, ?_⟩
      intro w hSw
      skip
      go_simp
      try with_reducible rfl
    case qzz71 => exact fun _ _ _ h => h
    case szz71 => first | assumption | trivial
    case' rzz71 => simp only [Act.put, List.setIfInBounds_toArray, List.set_cons_zero, List.set_cons_succ]
    refine wpAnyL_ready (rs := [1, 2]) (by kernel_rfl) (by simp) ?_
    refine AllReadyL.cons (o := ?ozz78) ?hzz78 (fun K hK => ?kzz78) ?mzz78
    case hzz78 => simp only [List.getElem?_toArray, List.getElem?_cons_zero, List.getElem?_cons_succ]; rfl
    case kzz78 =>
      have hSw := hHeld
      have a0 := box_ hSw b0; have a1 := box_ hSw b1; clear hSw
      go_simp
      refine hK.out _ _ ?Szz78 (fun hHeld => ?Rzz78)
      case Szz78 =>
        first | exact hHeld | trivial
      case Rzz78 =>
        clear hK K
        try simp only [Act.put, List.setIfInBounds_toArray, List.set_cons_zero, List.set_cons_succ]
        refine wpAnyL_take (i := 2) (oi := ?ozz72) (v := ?vzz72) ?hzz72 ?azz72 ?bzz72 ?czz72 ?kzz72 ?qzz72 ?yzz72 ?szz72 ?rzz72
        case hzz72 => simp only [List.getElem?_toArray, List.getElem?_cons_zero, List.getElem?_cons_succ]; rfl
        case azz72 => kernel_rfl
        case bzz72 => kernel_rfl
        case czz72 => kernel_rfl
        case kzz72 => kernel_rfl
        case yzz72 =>
          refine Or.inl ⟨by rfl, ?_⟩
          intro w hSw
          skip
          go_simp
          try with_reducible rfl
        case qzz72 => exact fun _ _ _ h => h
        case szz72 => first | assumption | trivial
        case' rzz72 => simp only [Act.put, List.setIfInBounds_toArray, List.set_cons_zero, List.set_cons_succ]
        refine wpAnyL_ready (rs := [3]) (by kernel_rfl) (by simp) ?_
        refine AllReadyL.consK (o := ?ozz74) ?hzz74 ?lzz74 (fun K hK => ?kzz74) ?mzz74
        case hzz74 => simp only [List.getElem?_toArray, List.getElem?_cons_zero, List.getElem?_cons_succ]; rfl
        case lzz74 => kernel_rfl
        case kzz74 =>
          have HZ := Lib.hid hHeld
          obtain ⟨⟨st0, st1⟩, st2, st3⟩ := (P2.out.fr.q HZ.out).get2
          go_simp
          clear st0 st1 st2 st3
          refine hK.out _ _ ?Rzz74
          case Rzz74 =>
            clear hK K
            try simp only [Act.put, List.setIfInBounds_toArray, List.set_cons_zero, List.set_cons_succ]
            refine wpAnyH_take (i := 4) (oi := ?ozz73) (v := ?vzz73) ?hzz73 ?azz73 ?bzz73 ?czz73 ?qzz73 ?yzz73 ?szz73 ?rzz73
            case hzz73 => simp only [List.getElem?_toArray, List.getElem?_cons_zero, List.getElem?_cons_succ]; rfl
            case azz73 => kernel_rfl
            case bzz73 => kernel_rfl
            case czz73 => kernel_rfl
            case yzz73 =>
              refine Or.inl ⟨by rfl, ?_⟩
              intro w hSw
              skip
              go_simp
              try with_reducible rfl
            case qzz73 => exact fun _ _ _ h => h
            case szz73 => first | assumption | trivial
            case' rzz73 => simp only [Act.put, List.setIfInBounds_toArray, List.set_cons_zero, List.set_cons_succ]
            refine wpAnyH_done (by kernel_rfl) ?_ _
            have Z1 := Lib.hid ((P2.out.fr.q HZ.out).set2 (.int .u64 (f.at_ : Int)) (.int .i64 f.id))
            have Z2 := Lib.hid ((P2.out.o.q HZ.out).set2 (b := w.heap.size) (by omega) (.int .u64 (f.at_ : Int)) (.int .i64 f.id))
            have Z3 := Lib.hid ((P2.out.q.trans HZ.out).set2 (b := w.heap.size) (Nat.le_refl _) (.int .u64 (f.at_ : Int)) (.int .i64 f.id))
            generalize ((D0.setCell ⟨w.heap.size, 0, none⟩ (.int .u64 (f.at_ : Int))).setCell ⟨w.heap.size, 1, none⟩ (.int .i64 f.id)) = W9 at Z1 Z2 Z3 ⊢
            go_wp2
            obtain ⟨⟨r0, r1⟩, _⟩ := Z1.out.get2
            refine bodyPost_ret (v := .tuple #[.slice A2 0 c2, .agg #[.int .u64 (f.at_ : Int), .int .i64 f.id], .bool true]) (by simp [results, Try.results13, go_sem, r0, r1]) rfl ?_
            refine ⟨A2, c2, ?_, ?_, fun _ => ?_, Z3.out⟩
            · rw [HPP.out, HGF.out, decide_eq_true (by rw [HL.out]; exact hnp)]; rfl
            · rw [HPP.out]; exact (Z2.out.in_ (by simp))
            · rw [HPP.out]; exact Z2.out.lower (by omega)
        case' mzz74 => skip
        exact AllReadyL.nil
    case' mzz78 => skip
    refine AllReadyL.cons (o := ?ozz79) ?hzz79 (fun K hK => ?kzz79) ?mzz79
    case hzz79 => simp only [List.getElem?_toArray, List.getElem?_cons_zero, List.getElem?_cons_succ]; rfl
    case kzz79 =>
      go_simp
      refine hK.out _ _ ?Szz79 (fun hHeld => ?Rzz79)
      case Szz79 =>
        first | exact hHeld | trivial
      case Rzz79 =>
        clear hK K
        try simp only [Act.put, List.setIfInBounds_toArray, List.set_cons_zero, List.set_cons_succ]
        refine wpAnyL_take (i := 1) (oi := ?ozz75) (v := ?vzz75) ?hzz75 ?azz75 ?bzz75 ?czz75 ?kzz75 ?qzz75 ?yzz75 ?szz75 ?rzz75
        case hzz75 => simp only [List.getElem?_toArray, List.getElem?_cons_zero, List.getElem?_cons_succ]; rfl
        case azz75 => kernel_rfl
        case bzz75 => kernel_rfl
        case czz75 => kernel_rfl
        case kzz75 => kernel_rfl
        case yzz75 =>
          refine Or.inl ⟨by rfl, ?_⟩
          intro w hSw
          have a0 := box_ hSw b0; have a1 := box_ hSw b1; clear hSw
          go_simp
          try with_reducible rfl
        case qzz75 => exact fun _ _ _ h => h
        case szz75 => first | assumption | trivial
        case' rzz75 => simp only [Act.put, List.setIfInBounds_toArray, List.set_cons_zero, List.set_cons_succ]
        refine wpAnyL_ready (rs := [3]) (by kernel_rfl) (by simp) ?_
        refine AllReadyL.consK (o := ?ozz77) ?hzz77 ?lzz77 (fun K hK => ?kzz77) ?mzz77
        case hzz77 => simp only [List.getElem?_toArray, List.getElem?_cons_zero, List.getElem?_cons_succ]; rfl
        case lzz77 => kernel_rfl
        case kzz77 =>
          have HZ := Lib.hid hHeld
          obtain ⟨⟨st0, st1⟩, st2, st3⟩ := (P2.out.fr.q HZ.out).get2
          go_simp
          clear st0 st1 st2 st3
          refine hK.out _ _ ?Rzz77
          case Rzz77 =>
            clear hK K
            try simp only [Act.put, List.setIfInBounds_toArray, List.set_cons_zero, List.set_cons_succ]
            refine wpAnyH_take (i := 4) (oi := ?ozz76) (v := ?vzz76) ?hzz76 ?azz76 ?bzz76 ?czz76 ?qzz76 ?yzz76 ?szz76 ?rzz76
            case hzz76 => simp only [List.getElem?_toArray, List.getElem?_cons_zero, List.getElem?_cons_succ]; rfl
            case azz76 => kernel_rfl
            case bzz76 => kernel_rfl
            case czz76 => kernel_rfl
            case yzz76 =>
              refine Or.inl ⟨by rfl, ?_⟩
              intro w hSw
              skip
              go_simp
              try with_reducible rfl
            case qzz76 => exact fun _ _ _ h => h
            case szz76 => first | assumption | trivial
            case' rzz76 => simp only [Act.put, List.setIfInBounds_toArray, List.set_cons_zero, List.set_cons_succ]
            refine wpAnyH_done (by kernel_rfl) ?_ _
            have Z1 := Lib.hid ((P2.out.fr.q HZ.out).set2 (.int .u64 (f.at_ : Int)) (.int .i64 f.id))
            have Z2 := Lib.hid ((P2.out.o.q HZ.out).set2 (b := w.heap.size) (by omega) (.int .u64 (f.at_ : Int)) (.int .i64 f.id))
            have Z3 := Lib.hid ((P2.out.q.trans HZ.out).set2 (b := w.heap.size) (Nat.le_refl _) (.int .u64 (f.at_ : Int)) (.int .i64 f.id))
            generalize ((D0.setCell ⟨w.heap.size, 0, none⟩ (.int .u64 (f.at_ : Int))).setCell ⟨w.heap.size, 1, none⟩ (.int .i64 f.id)) = W9 at Z1 Z2 Z3 ⊢
            go_wp2
            obtain ⟨⟨r0, r1⟩, _⟩ := Z1.out.get2
            refine bodyPost_ret (v := .tuple #[.slice A2 0 c2, .agg #[.int .u64 (f.at_ : Int), .int .i64 f.id], .bool true]) (by simp [results, Try.results13, go_sem, r0, r1]) rfl ?_
            refine ⟨A2, c2, ?_, ?_, fun _ => ?_, Z3.out⟩
            · rw [HPP.out, HGF.out, decide_eq_true (by rw [HL.out]; exact hnp)]; rfl
            · rw [HPP.out]; exact (Z2.out.in_ (by simp))
            · rw [HPP.out]; exact Z2.out.lower (by omega)
        case' mzz77 => skip
        exact AllReadyL.nil
    case' mzz79 => skip
    exact AllReadyL.nil
  have hmp : 0 < m := by omega
  have hml : ¬ (m : Int) = 0 := by omega
  have hmb : ((m : Int) == 0) = false := by simpa using hml
  have hmm : (m : Int) < (n : Int) := by have := HM.out; omega
  have hmm2 : m < n := by have := HM.out; omega
  obtain ⟨gb, rfl⟩ := own_some P2.out.o hmp
  have hgb := P2.out.o.block_lt.1
  have hmh : m < h.length := by rw [HL.out, HM.out]; omega
  obtain ⟨ad2, he2, hab2, z0, z1⟩ := load_al (HA.out.lst.q P2.out.q) hmm2 hmh
  injection he2 with he2
  subst he2
  have htl : (h.take m).length = m := by rw [List.length_take, HL.out]; have := HM.out; omega
  obtain ⟨a0, a1, a2, a3⟩ := own_cells2 P2.out.o (k := 0) (by rw [htl]; exact hmp)
  rw [Nat.zero_mul] at a0 a2
  rw [Nat.zero_mul, Nat.zero_add] at a1 a3
  have hpop : popR h = sink h.length ((h.take m).set 0 h[m]) 0 := by
    unfold popR
    rw [if_neg (by rw [HL.out]; have := HM.out; omega), HDL.out]
    have e : h.length - 1 = m := by rw [HL.out, HM.out]; omega
    rw [e, g_lt hmh]
  have HPP := Lib.hid hpop
  clear hpop
  generalize h[m] = lst at z0 z1 HPP
  have P3 : Hid (Pl w (w.heap.size + 1) w.heap.size h m (some ⟨gb, 0, none⟩) c2 ((h.take m).set 0 lst) ((w2.setCell ⟨gb, 0, none⟩ (.int .u64 (lst.at_ : Int))).setCell ⟨gb, 1, none⟩ (.int .i64 lst.id))) := Lib.hid
    ⟨own_put2 P2.out.o (k := 0) (by rw [htl]; exact hmp) lst, P2.out.fb.far2 (c := gb) (by omega) _ _, P2.out.fr.far2 (c := gb) (by omega) _ _, P2.out.q.set2 (b := gb) (by omega) _ _⟩
  go_upto_region 8 with (fail)
  generalize ((w2.setCell ⟨gb, 0, none⟩ (.int .u64 (lst.at_ : Int))).setCell ⟨gb, 1, none⟩ (.int .i64 lst.id)) = w3 at P3 ⊢
  clear a0 a1 a2 a3 z0 z1 P2 hb0 hwn hmc hcm y0 y1 hw1 hgb hab hab2 hmm hmm2 htl hmh h0 hnl HLA h0l
  go_wp2
  go_loopw [6, 7] (fun ov iv wr => ∃ (i fu : Nat) (A4 : Option Addr) (c4 : Nat) (l : List Al), ov = .slice A4 m c4 ∧ iv = .int .i64 (i : Nat) ∧ i < m ∧ popR h = sink fu l i ∧ m ≤ i + fu ∧ Pl w (w.heap.size + 1) w.heap.size h m A4 c4 l wr) (fun _ i _ => m - (intOf i).toNat)
  case atStart => exact ⟨0, h.length, some ⟨gb, 0, none⟩, c2, _, rfl, rfl, hmp, HPP.out, by rw [HL.out]; omega, P3.out⟩
  case round =>
    obtain ⟨i, fu, A4, c4, l, rfl, rfl, him, hsk, hfu, hp⟩ := hrel
    have P4 := Lib.hid hp
    have HSK := Lib.hid hsk
    have HLL := Lib.hid hp.o.len
    clear hp hsk
    obtain ⟨i2, hi2⟩ : ∃ i2, i2 = 2 * i := ⟨_, rfl⟩
    obtain ⟨k1, hk1⟩ : ∃ k1, k1 = 2 * i + 1 := ⟨_, rfl⟩
    obtain ⟨k2, hk2⟩ : ∃ k2, k2 = 2 * i + 2 := ⟨_, rfl⟩
    have hW0 : IntKind.i64.wrap (2 * (i : Int)) = (i2 : Int) := by rw [IntKind.wrap_i64]; omega
    have hW1 : IntKind.i64.wrap ((i2 : Int) + 1) = (k1 : Int) := by rw [IntKind.wrap_i64]; omega
    have hW2 : IntKind.i64.wrap ((i2 : Int) + 2) = (k2 : Int) := by rw [IntKind.wrap_i64]; omega
    have HK := Lib.hid (And.intro hi2 (And.intro hk1 hk2))
    clear hi2 hk1 hk2
    have hil : i < l.length := by rw [HLL.out]; exact him
    obtain ⟨ad4, rfl, hab4, i0, i1⟩ := load_al P4.out.o.lst him hil
    have hgi := g_lt hil
    obtain ⟨c1, hc1⟩ : ∃ c1, c1 = (decide (k1 < m) && less (g l k1) (g l i)) := ⟨_, rfl⟩
    have HC1 := Lib.hid hc1
    have hE1 := bst1_c HLL.out HK.out.2.1 hc1
    clear hc1
    go_upto_region 10 with (fail)
    go_cut [56] (fun s56 wx => s56 = .bool c1 ∧ Q wr wx)
    case first =>
      by_cases hkm : k1 < m
      case neg =>
        have hkn : ¬ (k1 : Int) < (m : Int) := by omega
        have HE : Hid (c1 = false) := Lib.hid (by rw [HC1.out, decide_eq_false hkm, Bool.false_and])
        refine wp_region_held_drew (S := Q wr) (by kernel_rfl) ?szz80 (fun hHeld => ?rzz80)
        case szz80 =>
          exact (Q.refl wr).drew
        case' rzz80 => skip
        refine wpAnyH_take (i := 0) (oi := ?ozz81) (v := ?vzz81) ?hzz81 ?azz81 ?bzz81 ?czz81 ?qzz81 ?yzz81 ?szz81 ?rzz81
        case hzz81 => simp only [List.getElem?_toArray, List.getElem?_cons_zero]; rfl
        case azz81 => kernel_rfl
        case bzz81 => kernel_rfl
        case czz81 => kernel_rfl
        case yzz81 =>
          refine Or.inl ⟨by rfl, ?_⟩
          intro w hSw
          skip
          go_simp
          try with_reducible rfl
        case qzz81 => exact fun _ _ _ h => h
        case szz81 => first | assumption | trivial
        case' rzz81 => simp only [Act.put, List.setIfInBounds_toArray, List.set_cons_zero, List.set_cons_succ]
        refine wpAnyH_take (i := 1) (oi := ?ozz82) (v := ?vzz82) ?hzz82 ?azz82 ?bzz82 ?czz82 ?qzz82 ?yzz82 ?szz82 ?rzz82
        case hzz82 => simp only [List.getElem?_toArray, List.getElem?_cons_zero, List.getElem?_cons_succ]; rfl
        case azz82 => kernel_rfl
        case bzz82 => kernel_rfl
        case czz82 => kernel_rfl
        case yzz82 =>
          refine Or.inl ⟨by rfl, ?_⟩
          intro w hSw
          skip
          go_simp
          try with_reducible rfl
        case qzz82 => exact fun _ _ _ h => h
        case szz82 => first | assumption | trivial
        case' rzz82 => simp only [Act.put, List.setIfInBounds_toArray, List.set_cons_zero, List.set_cons_succ]
        refine wpAnyH_take (i := 2) (oi := ?ozz83) (v := ?vzz83) ?hzz83 ?azz83 ?bzz83 ?czz83 ?qzz83 ?yzz83 ?szz83 ?rzz83
        case hzz83 => simp only [List.getElem?_toArray, List.getElem?_cons_zero, List.getElem?_cons_succ]; rfl
        case azz83 => kernel_rfl
        case bzz83 => kernel_rfl
        case czz83 => kernel_rfl
        case yzz83 =>
          refine Or.inl ⟨by rfl, ?_⟩
          intro w hSw
          skip
          go_simp
          try with_reducible rfl
        case qzz83 => exact fun _ _ _ h => h
        case szz83 => first | assumption | trivial
        case' rzz83 => simp only [Act.put, List.setIfInBounds_toArray, List.set_cons_zero, List.set_cons_succ]
        refine wpAnyH_take (i := 3) (oi := ?ozz84) (v := ?vzz84) ?hzz84 ?azz84 ?bzz84 ?czz84 ?qzz84 ?yzz84 ?szz84 ?rzz84
        case hzz84 => simp only [List.getElem?_toArray, List.getElem?_cons_zero, List.getElem?_cons_succ]; rfl
        case azz84 => kernel_rfl
        case bzz84 => kernel_rfl
        case czz84 => kernel_rfl
        case yzz84 =>
          refine Or.inl ⟨by rfl, ?_⟩
          intro w hSw
          skip
          go_simp
          try with_reducible rfl
        case qzz84 => exact fun _ _ _ h => h
        case szz84 => first | assumption | trivial
        case' rzz84 => simp only [Act.put, List.setIfInBounds_toArray, List.set_cons_zero, List.set_cons_succ]
        refine wpAnyH_take (i := 4) (oi := ?ozz85) (v := ?vzz85) ?hzz85 ?azz85 ?bzz85 ?czz85 ?qzz85 ?yzz85 ?szz85 ?rzz85
        case hzz85 => simp only [List.getElem?_toArray, List.getElem?_cons_zero, List.getElem?_cons_succ]; rfl
        case azz85 => kernel_rfl
        case bzz85 => kernel_rfl
        case czz85 => kernel_rfl
        case yzz85 =>
          refine Or.inl ⟨by rfl, ?_⟩
          intro w hSw
          skip
          go_simp
          try with_reducible rfl
        case qzz85 => exact fun _ _ _ h => h
        case szz85 => first | assumption | trivial
        case' rzz85 => simp only [Act.put, List.setIfInBounds_toArray, List.set_cons_zero, List.set_cons_succ]
        refine wpAnyH_take (i := 5) (oi := ?ozz86) (v := ?vzz86) ?hzz86 ?azz86 ?bzz86 ?czz86 ?qzz86 ?yzz86 ?szz86 ?rzz86
        case hzz86 => simp only [List.getElem?_toArray, List.getElem?_cons_zero, List.getElem?_cons_succ]; rfl
        case azz86 => kernel_rfl
        case bzz86 => kernel_rfl
        case czz86 => kernel_rfl
        case yzz86 =>
          refine Or.inl ⟨by rfl, ?_⟩
          intro w hSw
          skip
          go_simp
          try with_reducible rfl
        case qzz86 => exact fun _ _ _ h => h
        case szz86 => first | assumption | trivial
        case' rzz86 => simp only [Act.put, List.setIfInBounds_toArray, List.set_cons_zero, List.set_cons_succ]
        refine wpAnyH_take (i := 6) (oi := ?ozz87) (v := ?vzz87) ?hzz87 ?azz87 ?bzz87 ?czz87 ?qzz87 ?yzz87 ?szz87 ?rzz87
        case hzz87 => simp only [List.getElem?_toArray, List.getElem?_cons_zero, List.getElem?_cons_succ]; rfl
        case azz87 => kernel_rfl
        case bzz87 => kernel_rfl
        case czz87 => kernel_rfl
        case yzz87 =>
          refine Or.inl ⟨by rfl, ?_⟩
          intro w hSw
          skip
          go_simp
          try with_reducible rfl
        case qzz87 => exact fun _ _ _ h => h
        case szz87 => first | assumption | trivial
        case' rzz87 => simp only [Act.put, List.setIfInBounds_toArray, List.set_cons_zero, List.set_cons_succ]
        refine wpAnyH_take (i := 7) (oi := ?ozz88) (v := undef) ?hzz88 ?azz88 ?bzz88 ?czz88 ?qzz88 ?yzz88 ?szz88 ?rzz88
        case hzz88 => simp only [List.getElem?_toArray, List.getElem?_cons_zero, List.getElem?_cons_succ]; rfl
        case azz88 => kernel_rfl
        case bzz88 => kernel_rfl
        case czz88 => kernel_rfl
        case yzz88 => exact Or.inr ⟨by rfl, rfl⟩
        case qzz88 => exact fun _ _ _ h => h
        case szz88 => first | assumption | trivial
        case' rzz88 => simp only [Act.put, List.setIfInBounds_toArray, List.set_cons_zero, List.set_cons_succ]
        refine wpAnyH_take (i := 8) (oi := ?ozz89) (v := undef) ?hzz89 ?azz89 ?bzz89 ?czz89 ?qzz89 ?yzz89 ?szz89 ?rzz89
        case hzz89 => simp only [List.getElem?_toArray, List.getElem?_cons_zero, List.getElem?_cons_succ]; rfl
        case azz89 => kernel_rfl
        case bzz89 => kernel_rfl
        case czz89 => kernel_rfl
        case yzz89 => exact Or.inr ⟨by rfl, rfl⟩
        case qzz89 => exact fun _ _ _ h => h
        case szz89 => first | assumption | trivial
        case' rzz89 => simp only [Act.put, List.setIfInBounds_toArray, List.set_cons_zero, List.set_cons_succ]
        refine wpAnyH_take (i := 9) (oi := ?ozz90) (v := undef) ?hzz90 ?azz90 ?bzz90 ?czz90 ?qzz90 ?yzz90 ?szz90 ?rzz90
        case hzz90 => simp only [List.getElem?_toArray, List.getElem?_cons_zero, List.getElem?_cons_succ]; rfl
        case azz90 => kernel_rfl
        case bzz90 => kernel_rfl
        case czz90 => kernel_rfl
        case yzz90 => exact Or.inr ⟨by rfl, rfl⟩
        case qzz90 => exact fun _ _ _ h => h
        case szz90 => first | assumption | trivial
        case' rzz90 => simp only [Act.put, List.setIfInBounds_toArray, List.set_cons_zero, List.set_cons_succ]
        refine wpAnyH_take (i := 10) (oi := ?ozz91) (v := undef) ?hzz91 ?azz91 ?bzz91 ?czz91 ?qzz91 ?yzz91 ?szz91 ?rzz91
        case hzz91 => simp only [List.getElem?_toArray, List.getElem?_cons_zero, List.getElem?_cons_succ]; rfl
        case azz91 => kernel_rfl
        case bzz91 => kernel_rfl
        case czz91 => kernel_rfl
        case yzz91 => exact Or.inr ⟨by rfl, rfl⟩
        case qzz91 => exact fun _ _ _ h => h
        case szz91 => first | assumption | trivial
        case' rzz91 => simp only [Act.put, List.setIfInBounds_toArray, List.set_cons_zero, List.set_cons_succ]
        refine wpAnyH_take (i := 11) (oi := ?ozz92) (v := undef) ?hzz92 ?azz92 ?bzz92 ?czz92 ?qzz92 ?yzz92 ?szz92 ?rzz92
        case hzz92 => simp only [List.getElem?_toArray, List.getElem?_cons_zero, List.getElem?_cons_succ]; rfl
        case azz92 => kernel_rfl
        case bzz92 => kernel_rfl
        case czz92 => kernel_rfl
        case yzz92 => exact Or.inr ⟨by rfl, rfl⟩
        case qzz92 => exact fun _ _ _ h => h
        case szz92 => first | assumption | trivial
        case' rzz92 => simp only [Act.put, List.setIfInBounds_toArray, List.set_cons_zero, List.set_cons_succ]
        refine wpAnyH_take (i := 12) (oi := ?ozz93) (v := undef) ?hzz93 ?azz93 ?bzz93 ?czz93 ?qzz93 ?yzz93 ?szz93 ?rzz93
        case hzz93 => simp only [List.getElem?_toArray, List.getElem?_cons_zero, List.getElem?_cons_succ]; rfl
        case azz93 => kernel_rfl
        case bzz93 => kernel_rfl
        case czz93 => kernel_rfl
        case yzz93 => exact Or.inr ⟨by rfl, rfl⟩
        case qzz93 => exact fun _ _ _ h => h
        case szz93 => first | assumption | trivial
        case' rzz93 => simp only [Act.put, List.setIfInBounds_toArray, List.set_cons_zero, List.set_cons_succ]
        refine wpAnyH_take (i := 13) (oi := ?ozz94) (v := undef) ?hzz94 ?azz94 ?bzz94 ?czz94 ?qzz94 ?yzz94 ?szz94 ?rzz94
        case hzz94 => simp only [List.getElem?_toArray, List.getElem?_cons_zero, List.getElem?_cons_succ]; rfl
        case azz94 => kernel_rfl
        case bzz94 => kernel_rfl
        case czz94 => kernel_rfl
        case yzz94 => exact Or.inr ⟨by rfl, rfl⟩
        case qzz94 => exact fun _ _ _ h => h
        case szz94 => first | assumption | trivial
        case' rzz94 => simp only [Act.put, List.setIfInBounds_toArray, List.set_cons_zero, List.set_cons_succ]
        refine wpAnyH_take (i := 14) (oi := ?ozz95) (v := undef) ?hzz95 ?azz95 ?bzz95 ?czz95 ?qzz95 ?yzz95 ?szz95 ?rzz95
        case hzz95 => simp only [List.getElem?_toArray, List.getElem?_cons_zero, List.getElem?_cons_succ]; rfl
        case azz95 => kernel_rfl
        case bzz95 => kernel_rfl
        case czz95 => kernel_rfl
        case yzz95 => exact Or.inr ⟨by rfl, rfl⟩
        case qzz95 => exact fun _ _ _ h => h
        case szz95 => first | assumption | trivial
        case' rzz95 => simp only [Act.put, List.setIfInBounds_toArray, List.set_cons_zero, List.set_cons_succ]
        refine wpAnyH_take (i := 15) (oi := ?ozz96) (v := undef) ?hzz96 ?azz96 ?bzz96 ?czz96 ?qzz96 ?yzz96 ?szz96 ?rzz96
        case hzz96 => simp only [List.getElem?_toArray, List.getElem?_cons_zero, List.getElem?_cons_succ]; rfl
        case azz96 => kernel_rfl
        case bzz96 => kernel_rfl
        case czz96 => kernel_rfl
        case yzz96 => exact Or.inr ⟨by rfl, rfl⟩
        case qzz96 => exact fun _ _ _ h => h
        case szz96 => first | assumption | trivial
        case' rzz96 => simp only [Act.put, List.setIfInBounds_toArray, List.set_cons_zero, List.set_cons_succ]
        refine wpAnyH_take (i := 16) (oi := ?ozz97) (v := undef) ?hzz97 ?azz97 ?bzz97 ?czz97 ?qzz97 ?yzz97 ?szz97 ?rzz97
        case hzz97 => simp only [List.getElem?_toArray, List.getElem?_cons_zero, List.getElem?_cons_succ]; rfl
        case azz97 => kernel_rfl
        case bzz97 => kernel_rfl
        case czz97 => kernel_rfl
        case yzz97 => exact Or.inr ⟨by rfl, rfl⟩
        case qzz97 => exact fun _ _ _ h => h
        case szz97 => first | assumption | trivial
        case' rzz97 => simp only [Act.put, List.setIfInBounds_toArray, List.set_cons_zero, List.set_cons_succ]
        refine wpAnyH_take (i := 17) (oi := ?ozz98) (v := undef) ?hzz98 ?azz98 ?bzz98 ?czz98 ?qzz98 ?yzz98 ?szz98 ?rzz98
        case hzz98 => simp only [List.getElem?_toArray, List.getElem?_cons_zero, List.getElem?_cons_succ]; rfl
        case azz98 => kernel_rfl
        case bzz98 => kernel_rfl
        case czz98 => kernel_rfl
        case yzz98 => exact Or.inr ⟨by rfl, rfl⟩
        case qzz98 => exact fun _ _ _ h => h
        case szz98 => first | assumption | trivial
        case' rzz98 => simp only [Act.put, List.setIfInBounds_toArray, List.set_cons_zero, List.set_cons_succ]
        refine wpAnyH_take (i := 18) (oi := ?ozz99) (v := ?vzz99) ?hzz99 ?azz99 ?bzz99 ?czz99 ?qzz99 ?yzz99 ?szz99 ?rzz99
        case hzz99 => simp only [List.getElem?_toArray, List.getElem?_cons_zero, List.getElem?_cons_succ]; rfl
        case azz99 => kernel_rfl
        case bzz99 => kernel_rfl
        case czz99 => kernel_rfl
        case yzz99 =>
          refine Or.inl ⟨by rfl, ?_⟩
          intro w hSw
          skip
          go_simp
          try with_reducible rfl
        case qzz99 => exact fun _ _ _ h => h
        case szz99 => first | assumption | trivial
        case' rzz99 => simp only [Act.put, List.setIfInBounds_toArray, List.set_cons_zero, List.set_cons_succ]
        refine wpAnyH_done (by kernel_rfl) ?_ _
        go_wp2_with fail
        go_meet
        exact ⟨by first | (rw [HE.out]; done) | (rw [HE.out]; rfl), hHeld⟩
      have hkn : (k1 : Int) < (m : Int) := by omega
      have hkl : k1 < l.length := by rw [HLL.out]; exact hkm
      obtain ⟨ad6, he6, _, x0, x1⟩ := load_al P4.out.o.lst hkm hkl
      injection he6 with he6
      subst he6
      have hgk := g_lt hkl
      have K1 := Lib.hid (fun W => rless_any (l[k1]) (l[i]) W)
      cases hb : less (l[k1]) (l[i]) with
      | false =>
        rw [hb] at K1
        have HE : Hid (c1 = false) := Lib.hid (by rw [HC1.out, hgk, hgi, hb, Bool.and_false])
        generalize l[k1] = x at x0 x1 K1
        generalize l[i] = y at i0 i1 K1
        clear hb hgk hgi hkl
        refine wp_region_held_drew (S := Q wr) (by kernel_rfl) ?szz120 (fun hHeld => ?rzz120)
        case szz120 =>
          exact (Q.refl wr).drew
        case' rzz120 => skip
        refine wpAnyH_take (i := 0) (oi := ?ozz121) (v := ?vzz121) ?hzz121 ?azz121 ?bzz121 ?czz121 ?qzz121 ?yzz121 ?szz121 ?rzz121
        case hzz121 => simp only [List.getElem?_toArray, List.getElem?_cons_zero]; rfl
        case azz121 => kernel_rfl
        case bzz121 => kernel_rfl
        case czz121 => kernel_rfl
        case yzz121 =>
          refine Or.inl ⟨by rfl, ?_⟩
          intro w hSw
          skip
          go_simp
          try with_reducible rfl
        case qzz121 => exact fun _ _ _ h => h
        case szz121 => first | assumption | trivial
        case' rzz121 => simp only [Act.put, List.setIfInBounds_toArray, List.set_cons_zero, List.set_cons_succ]
        refine wpAnyH_take (i := 1) (oi := ?ozz122) (v := ?vzz122) ?hzz122 ?azz122 ?bzz122 ?czz122 ?qzz122 ?yzz122 ?szz122 ?rzz122
        case hzz122 => simp only [List.getElem?_toArray, List.getElem?_cons_zero, List.getElem?_cons_succ]; rfl
        case azz122 => kernel_rfl
        case bzz122 => kernel_rfl
        case czz122 => kernel_rfl
        case yzz122 =>
          refine Or.inl ⟨by rfl, ?_⟩
          intro w hSw
          skip
          go_simp
          try with_reducible rfl
        case qzz122 => exact fun _ _ _ h => h
        case szz122 => first | assumption | trivial
        case' rzz122 => simp only [Act.put, List.setIfInBounds_toArray, List.set_cons_zero, List.set_cons_succ]
        refine wpAnyH_take (i := 2) (oi := ?ozz123) (v := ?vzz123) ?hzz123 ?azz123 ?bzz123 ?czz123 ?qzz123 ?yzz123 ?szz123 ?rzz123
        case hzz123 => simp only [List.getElem?_toArray, List.getElem?_cons_zero, List.getElem?_cons_succ]; rfl
        case azz123 => kernel_rfl
        case bzz123 => kernel_rfl
        case czz123 => kernel_rfl
        case yzz123 =>
          refine Or.inl ⟨by rfl, ?_⟩
          intro w hSw
          skip
          go_simp
          try with_reducible rfl
        case qzz123 => exact fun _ _ _ h => h
        case szz123 => first | assumption | trivial
        case' rzz123 => simp only [Act.put, List.setIfInBounds_toArray, List.set_cons_zero, List.set_cons_succ]
        refine wpAnyH_take (i := 3) (oi := ?ozz124) (v := ?vzz124) ?hzz124 ?azz124 ?bzz124 ?czz124 ?qzz124 ?yzz124 ?szz124 ?rzz124
        case hzz124 => simp only [List.getElem?_toArray, List.getElem?_cons_zero, List.getElem?_cons_succ]; rfl
        case azz124 => kernel_rfl
        case bzz124 => kernel_rfl
        case czz124 => kernel_rfl
        case yzz124 =>
          refine Or.inl ⟨by rfl, ?_⟩
          intro w hSw
          skip
          go_simp
          try with_reducible rfl
        case qzz124 => exact fun _ _ _ h => h
        case szz124 => first | assumption | trivial
        case' rzz124 => simp only [Act.put, List.setIfInBounds_toArray, List.set_cons_zero, List.set_cons_succ]
        refine wpAnyH_take (i := 4) (oi := ?ozz125) (v := ?vzz125) ?hzz125 ?azz125 ?bzz125 ?czz125 ?qzz125 ?yzz125 ?szz125 ?rzz125
        case hzz125 => simp only [List.getElem?_toArray, List.getElem?_cons_zero, List.getElem?_cons_succ]; rfl
        case azz125 => kernel_rfl
        case bzz125 => kernel_rfl
        case czz125 => kernel_rfl
        case yzz125 =>
          refine Or.inl ⟨by rfl, ?_⟩
          intro w hSw
          skip
          go_simp
          try with_reducible rfl
        case qzz125 => exact fun _ _ _ h => h
        case szz125 => first | assumption | trivial
        case' rzz125 => simp only [Act.put, List.setIfInBounds_toArray, List.set_cons_zero, List.set_cons_succ]
        refine wpAnyH_take (i := 5) (oi := ?ozz126) (v := ?vzz126) ?hzz126 ?azz126 ?bzz126 ?czz126 ?qzz126 ?yzz126 ?szz126 ?rzz126
        case hzz126 => simp only [List.getElem?_toArray, List.getElem?_cons_zero, List.getElem?_cons_succ]; rfl
        case azz126 => kernel_rfl
        case bzz126 => kernel_rfl
        case czz126 => kernel_rfl
        case yzz126 =>
          refine Or.inl ⟨by rfl, ?_⟩
          intro w hSw
          skip
          go_simp
          try with_reducible rfl
        case qzz126 => exact fun _ _ _ h => h
        case szz126 => first | assumption | trivial
        case' rzz126 => simp only [Act.put, List.setIfInBounds_toArray, List.set_cons_zero, List.set_cons_succ]
        refine wpAnyH_take (i := 6) (oi := ?ozz127) (v := ?vzz127) ?hzz127 ?azz127 ?bzz127 ?czz127 ?qzz127 ?yzz127 ?szz127 ?rzz127
        case hzz127 => simp only [List.getElem?_toArray, List.getElem?_cons_zero, List.getElem?_cons_succ]; rfl
        case azz127 => kernel_rfl
        case bzz127 => kernel_rfl
        case czz127 => kernel_rfl
        case yzz127 =>
          refine Or.inl ⟨by rfl, ?_⟩
          intro w hSw
          skip
          go_simp
          try with_reducible rfl
        case qzz127 => exact fun _ _ _ h => h
        case szz127 => first | assumption | trivial
        case' rzz127 => simp only [Act.put, List.setIfInBounds_toArray, List.set_cons_zero, List.set_cons_succ]
        refine wpAnyH_take (i := 7) (oi := ?ozz128) (v := ?vzz128) ?hzz128 ?azz128 ?bzz128 ?czz128 ?qzz128 ?yzz128 ?szz128 ?rzz128
        case hzz128 => simp only [List.getElem?_toArray, List.getElem?_cons_zero, List.getElem?_cons_succ]; rfl
        case azz128 => kernel_rfl
        case bzz128 => kernel_rfl
        case czz128 => kernel_rfl
        case yzz128 =>
          refine Or.inl ⟨by rfl, ?_⟩
          intro w hSw
          skip
          go_simp
          try with_reducible rfl
        case qzz128 => exact fun _ _ _ h => h
        case szz128 => first | assumption | trivial
        case' rzz128 => simp only [Act.put, List.setIfInBounds_toArray, List.set_cons_zero, List.set_cons_succ]
        refine wpAnyH_take (i := 8) (oi := ?ozz129) (v := ?vzz129) ?hzz129 ?azz129 ?bzz129 ?czz129 ?qzz129 ?yzz129 ?szz129 ?rzz129
        case hzz129 => simp only [List.getElem?_toArray, List.getElem?_cons_zero, List.getElem?_cons_succ]; rfl
        case azz129 => kernel_rfl
        case bzz129 => kernel_rfl
        case czz129 => kernel_rfl
        case yzz129 =>
          refine Or.inl ⟨by rfl, ?_⟩
          intro w hSw
          skip
          go_simp
          try with_reducible rfl
        case qzz129 => exact fun _ _ _ h => h
        case szz129 => first | assumption | trivial
        case' rzz129 => simp only [Act.put, List.setIfInBounds_toArray, List.set_cons_zero, List.set_cons_succ]
        refine wpAnyH_take (i := 9) (oi := ?ozz130) (v := ?vzz130) ?hzz130 ?azz130 ?bzz130 ?czz130 ?qzz130 ?yzz130 ?szz130 ?rzz130
        case hzz130 => simp only [List.getElem?_toArray, List.getElem?_cons_zero, List.getElem?_cons_succ]; rfl
        case azz130 => kernel_rfl
        case bzz130 => kernel_rfl
        case czz130 => kernel_rfl
        case yzz130 =>
          refine Or.inl ⟨by rfl, ?_⟩
          intro w hSw
          skip
          go_simp
          try with_reducible rfl
        case qzz130 => exact fun _ _ _ h => h
        case szz130 => first | assumption | trivial
        case' rzz130 => simp only [Act.put, List.setIfInBounds_toArray, List.set_cons_zero, List.set_cons_succ]
        refine wpAnyH_take (i := 10) (oi := ?ozz131) (v := ?vzz131) ?hzz131 ?azz131 ?bzz131 ?czz131 ?qzz131 ?yzz131 ?szz131 ?rzz131
        case hzz131 => simp only [List.getElem?_toArray, List.getElem?_cons_zero, List.getElem?_cons_succ]; rfl
        case azz131 => kernel_rfl
        case bzz131 => kernel_rfl
        case czz131 => kernel_rfl
        case yzz131 =>
          refine Or.inl ⟨by rfl, ?_⟩
          intro w hSw
          skip
          go_simp
          try with_reducible rfl
        case qzz131 => exact fun _ _ _ h => h
        case szz131 => first | assumption | trivial
        case' rzz131 => simp only [Act.put, List.setIfInBounds_toArray, List.set_cons_zero, List.set_cons_succ]
        refine wpAnyH_take (i := 11) (oi := ?ozz132) (v := ?vzz132) ?hzz132 ?azz132 ?bzz132 ?czz132 ?qzz132 ?yzz132 ?szz132 ?rzz132
        case hzz132 => simp only [List.getElem?_toArray, List.getElem?_cons_zero, List.getElem?_cons_succ]; rfl
        case azz132 => kernel_rfl
        case bzz132 => kernel_rfl
        case czz132 => kernel_rfl
        case yzz132 =>
          refine Or.inl ⟨by rfl, ?_⟩
          intro w hSw
          skip
          go_simp
          try with_reducible rfl
        case qzz132 => exact fun _ _ _ h => h
        case szz132 => first | assumption | trivial
        case' rzz132 => simp only [Act.put, List.setIfInBounds_toArray, List.set_cons_zero, List.set_cons_succ]
        refine wpAnyH_take (i := 12) (oi := ?ozz133) (v := ?vzz133) ?hzz133 ?azz133 ?bzz133 ?czz133 ?qzz133 ?yzz133 ?szz133 ?rzz133
        case hzz133 => simp only [List.getElem?_toArray, List.getElem?_cons_zero, List.getElem?_cons_succ]; rfl
        case azz133 => kernel_rfl
        case bzz133 => kernel_rfl
        case czz133 => kernel_rfl
        case yzz133 =>
          refine Or.inl ⟨by rfl, ?_⟩
          intro w hSw
          have a0 := box_ hSw x0; have a1 := box_ hSw x1; clear hSw
          go_simp
          try with_reducible rfl
        case qzz133 => exact fun _ _ _ h => h
        case szz133 => first | assumption | trivial
        case' rzz133 => simp only [Act.put, List.setIfInBounds_toArray, List.set_cons_zero, List.set_cons_succ]
        refine wpAnyH_take (i := 13) (oi := ?ozz134) (v := ?vzz134) ?hzz134 ?azz134 ?bzz134 ?czz134 ?qzz134 ?yzz134 ?szz134 ?rzz134
        case hzz134 => simp only [List.getElem?_toArray, List.getElem?_cons_zero, List.getElem?_cons_succ]; rfl
        case azz134 => kernel_rfl
        case bzz134 => kernel_rfl
        case czz134 => kernel_rfl
        case yzz134 =>
          refine Or.inl ⟨by rfl, ?_⟩
          intro w hSw
          skip
          go_simp
          try with_reducible rfl
        case qzz134 => exact fun _ _ _ h => h
        case szz134 => first | assumption | trivial
        case' rzz134 => simp only [Act.put, List.setIfInBounds_toArray, List.set_cons_zero, List.set_cons_succ]
        refine wpAnyH_take (i := 14) (oi := ?ozz135) (v := ?vzz135) ?hzz135 ?azz135 ?bzz135 ?czz135 ?qzz135 ?yzz135 ?szz135 ?rzz135
        case hzz135 => simp only [List.getElem?_toArray, List.getElem?_cons_zero, List.getElem?_cons_succ]; rfl
        case azz135 => kernel_rfl
        case bzz135 => kernel_rfl
        case czz135 => kernel_rfl
        case yzz135 =>
          refine Or.inl ⟨by rfl, ?_⟩
          intro w hSw
          skip
          go_simp
          try with_reducible rfl
        case qzz135 => exact fun _ _ _ h => h
        case szz135 => first | assumption | trivial
        case' rzz135 => simp only [Act.put, List.setIfInBounds_toArray, List.set_cons_zero, List.set_cons_succ]
        refine wpAnyH_take (i := 15) (oi := ?ozz136) (v := ?vzz136) ?hzz136 ?azz136 ?bzz136 ?czz136 ?qzz136 ?yzz136 ?szz136 ?rzz136
        case hzz136 => simp only [List.getElem?_toArray, List.getElem?_cons_zero, List.getElem?_cons_succ]; rfl
        case azz136 => kernel_rfl
        case bzz136 => kernel_rfl
        case czz136 => kernel_rfl
        case yzz136 =>
          refine Or.inl ⟨by rfl, ?_⟩
          intro w hSw
          skip
          go_simp
          try with_reducible rfl
        case qzz136 => exact fun _ _ _ h => h
        case szz136 => first | assumption | trivial
        case' rzz136 => simp only [Act.put, List.setIfInBounds_toArray, List.set_cons_zero, List.set_cons_succ]
        refine wpAnyH_take (i := 16) (oi := ?ozz137) (v := ?vzz137) ?hzz137 ?azz137 ?bzz137 ?czz137 ?qzz137 ?yzz137 ?szz137 ?rzz137
        case hzz137 => simp only [List.getElem?_toArray, List.getElem?_cons_zero, List.getElem?_cons_succ]; rfl
        case azz137 => kernel_rfl
        case bzz137 => kernel_rfl
        case czz137 => kernel_rfl
        case yzz137 =>
          refine Or.inl ⟨by rfl, ?_⟩
          intro w hSw
          have a2 := box_ hSw i0; have a3 := box_ hSw i1; clear hSw
          go_simp
          try with_reducible rfl
        case qzz137 => exact fun _ _ _ h => h
        case szz137 => first | assumption | trivial
        case' rzz137 => simp only [Act.put, List.setIfInBounds_toArray, List.set_cons_zero, List.set_cons_succ]
        refine wpAnyH_ready (rs := [17]) (by kernel_rfl) (by simp) ?_
        refine AllReadyH.cons (o := ?ozz139) ?hzz139 (fun K hK => ?kzz139) ?mzz139
        case hzz139 => simp only [List.getElem?_toArray, List.getElem?_cons_zero, List.getElem?_cons_succ]; rfl
        case kzz139 =>
          go_simp
          refine (K1.out _).mono ?_
          rintro e v2 ⟨rfl, q2⟩
          go_wp2_with fail
          refine hK.out _ _ ?Szz139 (fun hHeld => ?Rzz139)
          case Szz139 =>
            exact hHeld.trans q2
          case Rzz139 =>
            clear hK K
            try simp only [Act.put, List.setIfInBounds_toArray, List.set_cons_zero, List.set_cons_succ]
            refine wpAnyH_take (i := 18) (oi := ?ozz138) (v := ?vzz138) ?hzz138 ?azz138 ?bzz138 ?czz138 ?qzz138 ?yzz138 ?szz138 ?rzz138
            case hzz138 => simp only [List.getElem?_toArray, List.getElem?_cons_zero, List.getElem?_cons_succ]; rfl
            case azz138 => kernel_rfl
            case bzz138 => kernel_rfl
            case czz138 => kernel_rfl
            case yzz138 =>
              refine Or.inl ⟨by rfl, ?_⟩
              intro w hSw
              skip
              go_simp
              try with_reducible rfl
            case qzz138 => exact fun _ _ _ h => h
            case szz138 => first | assumption | trivial
            case' rzz138 => simp only [Act.put, List.setIfInBounds_toArray, List.set_cons_zero, List.set_cons_succ]
            refine wpAnyH_done (by kernel_rfl) ?_ _
            go_wp2_with fail
            go_meet
            exact ⟨by first | (rw [HE.out]; done) | (rw [HE.out]; rfl), hHeld⟩
        case' mzz139 => skip
        exact AllReadyH.nil
      | true =>
        rw [hb] at K1
        have HE : Hid (c1 = true) := Lib.hid (by rw [HC1.out, hgk, hgi, hb, decide_eq_true hkm]; rfl)
        generalize l[k1] = x at x0 x1 K1
        generalize l[i] = y at i0 i1 K1
        clear hb hgk hgi hkl
        refine wp_region_held_drew (S := Q wr) (by kernel_rfl) ?szz100 (fun hHeld => ?rzz100)
        case szz100 =>
          exact (Q.refl wr).drew
        case' rzz100 => skip
        refine wpAnyH_take (i := 0) (oi := ?ozz101) (v := ?vzz101) ?hzz101 ?azz101 ?bzz101 ?czz101 ?qzz101 ?yzz101 ?szz101 ?rzz101
        case hzz101 => simp only [List.getElem?_toArray, List.getElem?_cons_zero]; rfl
        case azz101 => kernel_rfl
        case bzz101 => kernel_rfl
        case czz101 => kernel_rfl
        case yzz101 =>
          refine Or.inl ⟨by rfl, ?_⟩
          intro w hSw
          skip
          go_simp
          try with_reducible rfl
        case qzz101 => exact fun _ _ _ h => h
        case szz101 => first | assumption | trivial
        case' rzz101 => simp only [Act.put, List.setIfInBounds_toArray, List.set_cons_zero, List.set_cons_succ]
        refine wpAnyH_take (i := 1) (oi := ?ozz102) (v := ?vzz102) ?hzz102 ?azz102 ?bzz102 ?czz102 ?qzz102 ?yzz102 ?szz102 ?rzz102
        case hzz102 => simp only [List.getElem?_toArray, List.getElem?_cons_zero, List.getElem?_cons_succ]; rfl
        case azz102 => kernel_rfl
        case bzz102 => kernel_rfl
        case czz102 => kernel_rfl
        case yzz102 =>
          refine Or.inl ⟨by rfl, ?_⟩
          intro w hSw
          skip
          go_simp
          try with_reducible rfl
        case qzz102 => exact fun _ _ _ h => h
        case szz102 => first | assumption | trivial
        case' rzz102 => simp only [Act.put, List.setIfInBounds_toArray, List.set_cons_zero, List.set_cons_succ]
        refine wpAnyH_take (i := 2) (oi := ?ozz103) (v := ?vzz103) ?hzz103 ?azz103 ?bzz103 ?czz103 ?qzz103 ?yzz103 ?szz103 ?rzz103
        case hzz103 => simp only [List.getElem?_toArray, List.getElem?_cons_zero, List.getElem?_cons_succ]; rfl
        case azz103 => kernel_rfl
        case bzz103 => kernel_rfl
        case czz103 => kernel_rfl
        case yzz103 =>
          refine Or.inl ⟨by rfl, ?_⟩
          intro w hSw
          skip
          go_simp
          try with_reducible rfl
        case qzz103 => exact fun _ _ _ h => h
        case szz103 => first | assumption | trivial
        case' rzz103 => simp only [Act.put, List.setIfInBounds_toArray, List.set_cons_zero, List.set_cons_succ]
        refine wpAnyH_take (i := 3) (oi := ?ozz104) (v := ?vzz104) ?hzz104 ?azz104 ?bzz104 ?czz104 ?qzz104 ?yzz104 ?szz104 ?rzz104
        case hzz104 => simp only [List.getElem?_toArray, List.getElem?_cons_zero, List.getElem?_cons_succ]; rfl
        case azz104 => kernel_rfl
        case bzz104 => kernel_rfl
        case czz104 => kernel_rfl
        case yzz104 =>
          refine Or.inl ⟨by rfl, ?_⟩
          intro w hSw
          skip
          go_simp
          try with_reducible rfl
        case qzz104 => exact fun _ _ _ h => h
        case szz104 => first | assumption | trivial
        case' rzz104 => simp only [Act.put, List.setIfInBounds_toArray, List.set_cons_zero, List.set_cons_succ]
        refine wpAnyH_take (i := 4) (oi := ?ozz105) (v := ?vzz105) ?hzz105 ?azz105 ?bzz105 ?czz105 ?qzz105 ?yzz105 ?szz105 ?rzz105
        case hzz105 => simp only [List.getElem?_toArray, List.getElem?_cons_zero, List.getElem?_cons_succ]; rfl
        case azz105 => kernel_rfl
        case bzz105 => kernel_rfl
        case czz105 => kernel_rfl
        case yzz105 =>
          refine Or.inl ⟨by rfl, ?_⟩
          intro w hSw
          skip
          go_simp
          try with_reducible rfl
        case qzz105 => exact fun _ _ _ h => h
        case szz105 => first | assumption | trivial
        case' rzz105 => simp only [Act.put, List.setIfInBounds_toArray, List.set_cons_zero, List.set_cons_succ]
        refine wpAnyH_take (i := 5) (oi := ?ozz106) (v := ?vzz106) ?hzz106 ?azz106 ?bzz106 ?czz106 ?qzz106 ?yzz106 ?szz106 ?rzz106
        case hzz106 => simp only [List.getElem?_toArray, List.getElem?_cons_zero, List.getElem?_cons_succ]; rfl
        case azz106 => kernel_rfl
        case bzz106 => kernel_rfl
        case czz106 => kernel_rfl
        case yzz106 =>
          refine Or.inl ⟨by rfl, ?_⟩
          intro w hSw
          skip
          go_simp
          try with_reducible rfl
        case qzz106 => exact fun _ _ _ h => h
        case szz106 => first | assumption | trivial
        case' rzz106 => simp only [Act.put, List.setIfInBounds_toArray, List.set_cons_zero, List.set_cons_succ]
        refine wpAnyH_take (i := 6) (oi := ?ozz107) (v := ?vzz107) ?hzz107 ?azz107 ?bzz107 ?czz107 ?qzz107 ?yzz107 ?szz107 ?rzz107
        case hzz107 => simp only [List.getElem?_toArray, List.getElem?_cons_zero, List.getElem?_cons_succ]; rfl
        case azz107 => kernel_rfl
        case bzz107 => kernel_rfl
        case czz107 => kernel_rfl
        case yzz107 =>
          refine Or.inl ⟨by rfl, ?_⟩
          intro w hSw
          skip
          go_simp
          try with_reducible rfl
        case qzz107 => exact fun _ _ _ h => h
        case szz107 => first | assumption | trivial
        case' rzz107 => simp only [Act.put, List.setIfInBounds_toArray, List.set_cons_zero, List.set_cons_succ]
        refine wpAnyH_take (i := 7) (oi := ?ozz108) (v := ?vzz108) ?hzz108 ?azz108 ?bzz108 ?czz108 ?qzz108 ?yzz108 ?szz108 ?rzz108
        case hzz108 => simp only [List.getElem?_toArray, List.getElem?_cons_zero, List.getElem?_cons_succ]; rfl
        case azz108 => kernel_rfl
        case bzz108 => kernel_rfl
        case czz108 => kernel_rfl
        case yzz108 =>
          refine Or.inl ⟨by rfl, ?_⟩
          intro w hSw
          skip
          go_simp
          try with_reducible rfl
        case qzz108 => exact fun _ _ _ h => h
        case szz108 => first | assumption | trivial
        case' rzz108 => simp only [Act.put, List.setIfInBounds_toArray, List.set_cons_zero, List.set_cons_succ]
        refine wpAnyH_take (i := 8) (oi := ?ozz109) (v := ?vzz109) ?hzz109 ?azz109 ?bzz109 ?czz109 ?qzz109 ?yzz109 ?szz109 ?rzz109
        case hzz109 => simp only [List.getElem?_toArray, List.getElem?_cons_zero, List.getElem?_cons_succ]; rfl
        case azz109 => kernel_rfl
        case bzz109 => kernel_rfl
        case czz109 => kernel_rfl
        case yzz109 =>
          refine Or.inl ⟨by rfl, ?_⟩
          intro w hSw
          skip
          go_simp
          try with_reducible rfl
        case qzz109 => exact fun _ _ _ h => h
        case szz109 => first | assumption | trivial
        case' rzz109 => simp only [Act.put, List.setIfInBounds_toArray, List.set_cons_zero, List.set_cons_succ]
        refine wpAnyH_take (i := 9) (oi := ?ozz110) (v := ?vzz110) ?hzz110 ?azz110 ?bzz110 ?czz110 ?qzz110 ?yzz110 ?szz110 ?rzz110
        case hzz110 => simp only [List.getElem?_toArray, List.getElem?_cons_zero, List.getElem?_cons_succ]; rfl
        case azz110 => kernel_rfl
        case bzz110 => kernel_rfl
        case czz110 => kernel_rfl
        case yzz110 =>
          refine Or.inl ⟨by rfl, ?_⟩
          intro w hSw
          skip
          go_simp
          try with_reducible rfl
        case qzz110 => exact fun _ _ _ h => h
        case szz110 => first | assumption | trivial
        case' rzz110 => simp only [Act.put, List.setIfInBounds_toArray, List.set_cons_zero, List.set_cons_succ]
        refine wpAnyH_take (i := 10) (oi := ?ozz111) (v := ?vzz111) ?hzz111 ?azz111 ?bzz111 ?czz111 ?qzz111 ?yzz111 ?szz111 ?rzz111
        case hzz111 => simp only [List.getElem?_toArray, List.getElem?_cons_zero, List.getElem?_cons_succ]; rfl
        case azz111 => kernel_rfl
        case bzz111 => kernel_rfl
        case czz111 => kernel_rfl
        case yzz111 =>
          refine Or.inl ⟨by rfl, ?_⟩
          intro w hSw
          skip
          go_simp
          try with_reducible rfl
        case qzz111 => exact fun _ _ _ h => h
        case szz111 => first | assumption | trivial
        case' rzz111 => simp only [Act.put, List.setIfInBounds_toArray, List.set_cons_zero, List.set_cons_succ]
        refine wpAnyH_take (i := 11) (oi := ?ozz112) (v := ?vzz112) ?hzz112 ?azz112 ?bzz112 ?czz112 ?qzz112 ?yzz112 ?szz112 ?rzz112
        case hzz112 => simp only [List.getElem?_toArray, List.getElem?_cons_zero, List.getElem?_cons_succ]; rfl
        case azz112 => kernel_rfl
        case bzz112 => kernel_rfl
        case czz112 => kernel_rfl
        case yzz112 =>
          refine Or.inl ⟨by rfl, ?_⟩
          intro w hSw
          skip
          go_simp
          try with_reducible rfl
        case qzz112 => exact fun _ _ _ h => h
        case szz112 => first | assumption | trivial
        case' rzz112 => simp only [Act.put, List.setIfInBounds_toArray, List.set_cons_zero, List.set_cons_succ]
        refine wpAnyH_take (i := 12) (oi := ?ozz113) (v := ?vzz113) ?hzz113 ?azz113 ?bzz113 ?czz113 ?qzz113 ?yzz113 ?szz113 ?rzz113
        case hzz113 => simp only [List.getElem?_toArray, List.getElem?_cons_zero, List.getElem?_cons_succ]; rfl
        case azz113 => kernel_rfl
        case bzz113 => kernel_rfl
        case czz113 => kernel_rfl
        case yzz113 =>
          refine Or.inl ⟨by rfl, ?_⟩
          intro w hSw
          have a0 := box_ hSw x0; have a1 := box_ hSw x1; clear hSw
          go_simp
          try with_reducible rfl
        case qzz113 => exact fun _ _ _ h => h
        case szz113 => first | assumption | trivial
        case' rzz113 => simp only [Act.put, List.setIfInBounds_toArray, List.set_cons_zero, List.set_cons_succ]
        refine wpAnyH_take (i := 13) (oi := ?ozz114) (v := ?vzz114) ?hzz114 ?azz114 ?bzz114 ?czz114 ?qzz114 ?yzz114 ?szz114 ?rzz114
        case hzz114 => simp only [List.getElem?_toArray, List.getElem?_cons_zero, List.getElem?_cons_succ]; rfl
        case azz114 => kernel_rfl
        case bzz114 => kernel_rfl
        case czz114 => kernel_rfl
        case yzz114 =>
          refine Or.inl ⟨by rfl, ?_⟩
          intro w hSw
          skip
          go_simp
          try with_reducible rfl
        case qzz114 => exact fun _ _ _ h => h
        case szz114 => first | assumption | trivial
        case' rzz114 => simp only [Act.put, List.setIfInBounds_toArray, List.set_cons_zero, List.set_cons_succ]
        refine wpAnyH_take (i := 14) (oi := ?ozz115) (v := ?vzz115) ?hzz115 ?azz115 ?bzz115 ?czz115 ?qzz115 ?yzz115 ?szz115 ?rzz115
        case hzz115 => simp only [List.getElem?_toArray, List.getElem?_cons_zero, List.getElem?_cons_succ]; rfl
        case azz115 => kernel_rfl
        case bzz115 => kernel_rfl
        case czz115 => kernel_rfl
        case yzz115 =>
          refine Or.inl ⟨by rfl, ?_⟩
          intro w hSw
          skip
          go_simp
          try with_reducible rfl
        case qzz115 => exact fun _ _ _ h => h
        case szz115 => first | assumption | trivial
        case' rzz115 => simp only [Act.put, List.setIfInBounds_toArray, List.set_cons_zero, List.set_cons_succ]
        refine wpAnyH_take (i := 15) (oi := ?ozz116) (v := ?vzz116) ?hzz116 ?azz116 ?bzz116 ?czz116 ?qzz116 ?yzz116 ?szz116 ?rzz116
        case hzz116 => simp only [List.getElem?_toArray, List.getElem?_cons_zero, List.getElem?_cons_succ]; rfl
        case azz116 => kernel_rfl
        case bzz116 => kernel_rfl
        case czz116 => kernel_rfl
        case yzz116 =>
          refine Or.inl ⟨by rfl, ?_⟩
          intro w hSw
          skip
          go_simp
          try with_reducible rfl
        case qzz116 => exact fun _ _ _ h => h
        case szz116 => first | assumption | trivial
        case' rzz116 => simp only [Act.put, List.setIfInBounds_toArray, List.set_cons_zero, List.set_cons_succ]
        refine wpAnyH_take (i := 16) (oi := ?ozz117) (v := ?vzz117) ?hzz117 ?azz117 ?bzz117 ?czz117 ?qzz117 ?yzz117 ?szz117 ?rzz117
        case hzz117 => simp only [List.getElem?_toArray, List.getElem?_cons_zero, List.getElem?_cons_succ]; rfl
        case azz117 => kernel_rfl
        case bzz117 => kernel_rfl
        case czz117 => kernel_rfl
        case yzz117 =>
          refine Or.inl ⟨by rfl, ?_⟩
          intro w hSw
          have a2 := box_ hSw i0; have a3 := box_ hSw i1; clear hSw
          go_simp
          try with_reducible rfl
        case qzz117 => exact fun _ _ _ h => h
        case szz117 => first | assumption | trivial
        case' rzz117 => simp only [Act.put, List.setIfInBounds_toArray, List.set_cons_zero, List.set_cons_succ]
        refine wpAnyH_ready (rs := [17]) (by kernel_rfl) (by simp) ?_
        refine AllReadyH.cons (o := ?ozz119) ?hzz119 (fun K hK => ?kzz119) ?mzz119
        case hzz119 => simp only [List.getElem?_toArray, List.getElem?_cons_zero, List.getElem?_cons_succ]; rfl
        case kzz119 =>
          go_simp
          refine (K1.out _).mono ?_
          rintro e v2 ⟨rfl, q2⟩
          go_wp2_with fail
          refine hK.out _ _ ?Szz119 (fun hHeld => ?Rzz119)
          case Szz119 =>
            exact hHeld.trans q2
          case Rzz119 =>
            clear hK K
            try simp only [Act.put, List.setIfInBounds_toArray, List.set_cons_zero, List.set_cons_succ]
            refine wpAnyH_take (i := 18) (oi := ?ozz118) (v := ?vzz118) ?hzz118 ?azz118 ?bzz118 ?czz118 ?qzz118 ?yzz118 ?szz118 ?rzz118
            case hzz118 => simp only [List.getElem?_toArray, List.getElem?_cons_zero, List.getElem?_cons_succ]; rfl
            case azz118 => kernel_rfl
            case bzz118 => kernel_rfl
            case czz118 => kernel_rfl
            case yzz118 =>
              refine Or.inl ⟨by rfl, ?_⟩
              intro w hSw
              skip
              go_simp
              try with_reducible rfl
            case qzz118 => exact fun _ _ _ h => h
            case szz118 => first | assumption | trivial
            case' rzz118 => simp only [Act.put, List.setIfInBounds_toArray, List.set_cons_zero, List.set_cons_succ]
            refine wpAnyH_done (by kernel_rfl) ?_ _
            go_wp2_with fail
            go_meet
            exact ⟨by first | (rw [HE.out]; done) | (rw [HE.out]; rfl), hHeld⟩
        case' mzz119 => skip
        exact AllReadyH.nil
    case rest =>
      obtain ⟨rfl, qc⟩ := hcut
      have P5 : Hid (Pl w (w.heap.size + 1) w.heap.size h m (some ad4) c4 l wc) := Lib.hid ⟨P4.out.o.q qc, P4.out.fb.q qc, P4.out.fr.q qc, P4.out.q.trans qc⟩
      clear qc i0 i1 P4
      have hbl : bst1 l i < l.length := bst1_lt hil
      have hbm : bst1 l i < m := by rw [HLL.out] at hbl; exact hbl
      generalize hb1 : bst1 l i = b1 at *
      have HB1 := Lib.hid hb1
      have HE1 := Lib.hid hE1
      clear hb1 hE1
      generalize wc = v5 at P5 ⊢
      go_upto_if 56 with (fail)
      go_cut [8] (fun s8 wx => s8 = .int .i64 (b1 : Nat) ∧ v5 = wx)
      case first =>
        cases c1 with
        | true =>
          have h9 := HE1.out
          rw [if_pos rfl] at h9
          subst h9
          go_wp2_with fail
          go_meet
          exact ⟨rfl, rfl⟩
        | false =>
          have h9 := HE1.out
          rw [if_neg (by simp)] at h9
          have h9 := Lib.hid h9
          go_wp2_with fail
          go_meet
          exact ⟨by first | (rw [h9.out]; done) | (rw [h9.out]; rfl), rfl⟩
      case rest =>
      obtain ⟨rfl, rfl⟩ := hcut
      obtain ⟨ad5, he5, _, i0, i1⟩ := load_al P5.out.o.lst hbm hbl
      injection he5 with he5
      subst he5
      have hgb := g_lt hbl
      obtain ⟨c2v, hc2⟩ : ∃ c2v, c2v = (decide (k2 < m) && less (g l k2) (g l b1)) := ⟨_, rfl⟩
      have HC2 := Lib.hid hc2
      have hE2 := bst_c (l := l) (i := i) (k := k2) (m := m) (c := c2v) HLL.out HK.out.2.2 (by rw [HB1.out]; exact hc2)
      rw [HB1.out] at hE2
      have HE2 := Lib.hid hE2
      clear hc2 hE2
      go_upto_region 12 with (fail)
      go_cut [78] (fun s78 wx => s78 = .bool c2v ∧ Q v5 wx)
      case first =>
        by_cases hkm : k2 < m
        case neg =>
          have hkn : ¬ (k2 : Int) < (m : Int) := by omega
          have HE : Hid (c2v = false) := Lib.hid (by rw [HC2.out, decide_eq_false hkm, Bool.false_and])
          refine wp_region_held_drew (S := Q v5) (by kernel_rfl) ?szz140 (fun hHeld => ?rzz140)
          case szz140 =>
            exact (Q.refl v5).drew
          case' rzz140 => skip
          refine wpAnyH_take (i := 0) (oi := ?ozz141) (v := ?vzz141) ?hzz141 ?azz141 ?bzz141 ?czz141 ?qzz141 ?yzz141 ?szz141 ?rzz141
          case hzz141 => simp only [List.getElem?_toArray, List.getElem?_cons_zero]; rfl
          case azz141 => kernel_rfl
          case bzz141 => kernel_rfl
          case czz141 => kernel_rfl
          case yzz141 =>
            refine Or.inl ⟨by rfl, ?_⟩
            intro w hSw
            skip
            go_simp
            try with_reducible rfl
          case qzz141 => exact fun _ _ _ h => h
          case szz141 => first | assumption | trivial
          case' rzz141 => simp only [Act.put, List.setIfInBounds_toArray, List.set_cons_zero, List.set_cons_succ]
          refine wpAnyH_take (i := 1) (oi := ?ozz142) (v := ?vzz142) ?hzz142 ?azz142 ?bzz142 ?czz142 ?qzz142 ?yzz142 ?szz142 ?rzz142
          case hzz142 => simp only [List.getElem?_toArray, List.getElem?_cons_zero, List.getElem?_cons_succ]; rfl
          case azz142 => kernel_rfl
          case bzz142 => kernel_rfl
          case czz142 => kernel_rfl
          case yzz142 =>
            refine Or.inl ⟨by rfl, ?_⟩
            intro w hSw
            skip
            go_simp
            try with_reducible rfl
          case qzz142 => exact fun _ _ _ h => h
          case szz142 => first | assumption | trivial
          case' rzz142 => simp only [Act.put, List.setIfInBounds_toArray, List.set_cons_zero, List.set_cons_succ]
          refine wpAnyH_take (i := 2) (oi := ?ozz143) (v := ?vzz143) ?hzz143 ?azz143 ?bzz143 ?czz143 ?qzz143 ?yzz143 ?szz143 ?rzz143
          case hzz143 => simp only [List.getElem?_toArray, List.getElem?_cons_zero, List.getElem?_cons_succ]; rfl
          case azz143 => kernel_rfl
          case bzz143 => kernel_rfl
          case czz143 => kernel_rfl
          case yzz143 =>
            refine Or.inl ⟨by rfl, ?_⟩
            intro w hSw
            skip
            go_simp
            try with_reducible rfl
          case qzz143 => exact fun _ _ _ h => h
          case szz143 => first | assumption | trivial
          case' rzz143 => simp only [Act.put, List.setIfInBounds_toArray, List.set_cons_zero, List.set_cons_succ]
          refine wpAnyH_take (i := 3) (oi := ?ozz144) (v := ?vzz144) ?hzz144 ?azz144 ?bzz144 ?czz144 ?qzz144 ?yzz144 ?szz144 ?rzz144
          case hzz144 => simp only [List.getElem?_toArray, List.getElem?_cons_zero, List.getElem?_cons_succ]; rfl
          case azz144 => kernel_rfl
          case bzz144 => kernel_rfl
          case czz144 => kernel_rfl
          case yzz144 =>
            refine Or.inl ⟨by rfl, ?_⟩
            intro w hSw
            skip
            go_simp
            try with_reducible rfl
          case qzz144 => exact fun _ _ _ h => h
          case szz144 => first | assumption | trivial
          case' rzz144 => simp only [Act.put, List.setIfInBounds_toArray, List.set_cons_zero, List.set_cons_succ]
          refine wpAnyH_take (i := 4) (oi := ?ozz145) (v := ?vzz145) ?hzz145 ?azz145 ?bzz145 ?czz145 ?qzz145 ?yzz145 ?szz145 ?rzz145
          case hzz145 => simp only [List.getElem?_toArray, List.getElem?_cons_zero, List.getElem?_cons_succ]; rfl
          case azz145 => kernel_rfl
          case bzz145 => kernel_rfl
          case czz145 => kernel_rfl
          case yzz145 =>
            refine Or.inl ⟨by rfl, ?_⟩
            intro w hSw
            skip
            go_simp
            try with_reducible rfl
          case qzz145 => exact fun _ _ _ h => h
          case szz145 => first | assumption | trivial
          case' rzz145 => simp only [Act.put, List.setIfInBounds_toArray, List.set_cons_zero, List.set_cons_succ]
          refine wpAnyH_take (i := 5) (oi := ?ozz146) (v := ?vzz146) ?hzz146 ?azz146 ?bzz146 ?czz146 ?qzz146 ?yzz146 ?szz146 ?rzz146
          case hzz146 => simp only [List.getElem?_toArray, List.getElem?_cons_zero, List.getElem?_cons_succ]; rfl
          case azz146 => kernel_rfl
          case bzz146 => kernel_rfl
          case czz146 => kernel_rfl
          case yzz146 =>
            refine Or.inl ⟨by rfl, ?_⟩
            intro w hSw
            skip
            go_simp
            try with_reducible rfl
          case qzz146 => exact fun _ _ _ h => h
          case szz146 => first | assumption | trivial
          case' rzz146 => simp only [Act.put, List.setIfInBounds_toArray, List.set_cons_zero, List.set_cons_succ]
          refine wpAnyH_take (i := 6) (oi := ?ozz147) (v := ?vzz147) ?hzz147 ?azz147 ?bzz147 ?czz147 ?qzz147 ?yzz147 ?szz147 ?rzz147
          case hzz147 => simp only [List.getElem?_toArray, List.getElem?_cons_zero, List.getElem?_cons_succ]; rfl
          case azz147 => kernel_rfl
          case bzz147 => kernel_rfl
          case czz147 => kernel_rfl
          case yzz147 =>
            refine Or.inl ⟨by rfl, ?_⟩
            intro w hSw
            skip
            go_simp
            try with_reducible rfl
          case qzz147 => exact fun _ _ _ h => h
          case szz147 => first | assumption | trivial
          case' rzz147 => simp only [Act.put, List.setIfInBounds_toArray, List.set_cons_zero, List.set_cons_succ]
          refine wpAnyH_take (i := 7) (oi := ?ozz148) (v := undef) ?hzz148 ?azz148 ?bzz148 ?czz148 ?qzz148 ?yzz148 ?szz148 ?rzz148
          case hzz148 => simp only [List.getElem?_toArray, List.getElem?_cons_zero, List.getElem?_cons_succ]; rfl
          case azz148 => kernel_rfl
          case bzz148 => kernel_rfl
          case czz148 => kernel_rfl
          case yzz148 => exact Or.inr ⟨by rfl, rfl⟩
          case qzz148 => exact fun _ _ _ h => h
          case szz148 => first | assumption | trivial
          case' rzz148 => simp only [Act.put, List.setIfInBounds_toArray, List.set_cons_zero, List.set_cons_succ]
          refine wpAnyH_take (i := 8) (oi := ?ozz149) (v := undef) ?hzz149 ?azz149 ?bzz149 ?czz149 ?qzz149 ?yzz149 ?szz149 ?rzz149
          case hzz149 => simp only [List.getElem?_toArray, List.getElem?_cons_zero, List.getElem?_cons_succ]; rfl
          case azz149 => kernel_rfl
          case bzz149 => kernel_rfl
          case czz149 => kernel_rfl
          case yzz149 => exact Or.inr ⟨by rfl, rfl⟩
          case qzz149 => exact fun _ _ _ h => h
          case szz149 => first | assumption | trivial
          case' rzz149 => simp only [Act.put, List.setIfInBounds_toArray, List.set_cons_zero, List.set_cons_succ]
          refine wpAnyH_take (i := 9) (oi := ?ozz150) (v := undef) ?hzz150 ?azz150 ?bzz150 ?czz150 ?qzz150 ?yzz150 ?szz150 ?rzz150
          case hzz150 => simp only [List.getElem?_toArray, List.getElem?_cons_zero, List.getElem?_cons_succ]; rfl
          case azz150 => kernel_rfl
          case bzz150 => kernel_rfl
          case czz150 => kernel_rfl
          case yzz150 => exact Or.inr ⟨by rfl, rfl⟩
          case qzz150 => exact fun _ _ _ h => h
          case szz150 => first | assumption | trivial
          case' rzz150 => simp only [Act.put, List.setIfInBounds_toArray, List.set_cons_zero, List.set_cons_succ]
          refine wpAnyH_take (i := 10) (oi := ?ozz151) (v := undef) ?hzz151 ?azz151 ?bzz151 ?czz151 ?qzz151 ?yzz151 ?szz151 ?rzz151
          case hzz151 => simp only [List.getElem?_toArray, List.getElem?_cons_zero, List.getElem?_cons_succ]; rfl
          case azz151 => kernel_rfl
          case bzz151 => kernel_rfl
          case czz151 => kernel_rfl
          case yzz151 => exact Or.inr ⟨by rfl, rfl⟩
          case qzz151 => exact fun _ _ _ h => h
          case szz151 => first | assumption | trivial
          case' rzz151 => simp only [Act.put, List.setIfInBounds_toArray, List.set_cons_zero, List.set_cons_succ]
          refine wpAnyH_take (i := 11) (oi := ?ozz152) (v := undef) ?hzz152 ?azz152 ?bzz152 ?czz152 ?qzz152 ?yzz152 ?szz152 ?rzz152
          case hzz152 => simp only [List.getElem?_toArray, List.getElem?_cons_zero, List.getElem?_cons_succ]; rfl
          case azz152 => kernel_rfl
          case bzz152 => kernel_rfl
          case czz152 => kernel_rfl
          case yzz152 => exact Or.inr ⟨by rfl, rfl⟩
          case qzz152 => exact fun _ _ _ h => h
          case szz152 => first | assumption | trivial
          case' rzz152 => simp only [Act.put, List.setIfInBounds_toArray, List.set_cons_zero, List.set_cons_succ]
          refine wpAnyH_take (i := 12) (oi := ?ozz153) (v := undef) ?hzz153 ?azz153 ?bzz153 ?czz153 ?qzz153 ?yzz153 ?szz153 ?rzz153
          case hzz153 => simp only [List.getElem?_toArray, List.getElem?_cons_zero, List.getElem?_cons_succ]; rfl
          case azz153 => kernel_rfl
          case bzz153 => kernel_rfl
          case czz153 => kernel_rfl
          case yzz153 => exact Or.inr ⟨by rfl, rfl⟩
          case qzz153 => exact fun _ _ _ h => h
          case szz153 => first | assumption | trivial
          case' rzz153 => simp only [Act.put, List.setIfInBounds_toArray, List.set_cons_zero, List.set_cons_succ]
          refine wpAnyH_take (i := 13) (oi := ?ozz154) (v := undef) ?hzz154 ?azz154 ?bzz154 ?czz154 ?qzz154 ?yzz154 ?szz154 ?rzz154
          case hzz154 => simp only [List.getElem?_toArray, List.getElem?_cons_zero, List.getElem?_cons_succ]; rfl
          case azz154 => kernel_rfl
          case bzz154 => kernel_rfl
          case czz154 => kernel_rfl
          case yzz154 => exact Or.inr ⟨by rfl, rfl⟩
          case qzz154 => exact fun _ _ _ h => h
          case szz154 => first | assumption | trivial
          case' rzz154 => simp only [Act.put, List.setIfInBounds_toArray, List.set_cons_zero, List.set_cons_succ]
          refine wpAnyH_take (i := 14) (oi := ?ozz155) (v := undef) ?hzz155 ?azz155 ?bzz155 ?czz155 ?qzz155 ?yzz155 ?szz155 ?rzz155
          case hzz155 => simp only [List.getElem?_toArray, List.getElem?_cons_zero, List.getElem?_cons_succ]; rfl
          case azz155 => kernel_rfl
          case bzz155 => kernel_rfl
          case czz155 => kernel_rfl
          case yzz155 => exact Or.inr ⟨by rfl, rfl⟩
          case qzz155 => exact fun _ _ _ h => h
          case szz155 => first | assumption | trivial
          case' rzz155 => simp only [Act.put, List.setIfInBounds_toArray, List.set_cons_zero, List.set_cons_succ]
          refine wpAnyH_take (i := 15) (oi := ?ozz156) (v := undef) ?hzz156 ?azz156 ?bzz156 ?czz156 ?qzz156 ?yzz156 ?szz156 ?rzz156
          case hzz156 => simp only [List.getElem?_toArray, List.getElem?_cons_zero, List.getElem?_cons_succ]; rfl
          case azz156 => kernel_rfl
          case bzz156 => kernel_rfl
          case czz156 => kernel_rfl
          case yzz156 => exact Or.inr ⟨by rfl, rfl⟩
          case qzz156 => exact fun _ _ _ h => h
          case szz156 => first | assumption | trivial
          case' rzz156 => simp only [Act.put, List.setIfInBounds_toArray, List.set_cons_zero, List.set_cons_succ]
          refine wpAnyH_take (i := 16) (oi := ?ozz157) (v := undef) ?hzz157 ?azz157 ?bzz157 ?czz157 ?qzz157 ?yzz157 ?szz157 ?rzz157
          case hzz157 => simp only [List.getElem?_toArray, List.getElem?_cons_zero, List.getElem?_cons_succ]; rfl
          case azz157 => kernel_rfl
          case bzz157 => kernel_rfl
          case czz157 => kernel_rfl
          case yzz157 => exact Or.inr ⟨by rfl, rfl⟩
          case qzz157 => exact fun _ _ _ h => h
          case szz157 => first | assumption | trivial
          case' rzz157 => simp only [Act.put, List.setIfInBounds_toArray, List.set_cons_zero, List.set_cons_succ]
          refine wpAnyH_take (i := 17) (oi := ?ozz158) (v := undef) ?hzz158 ?azz158 ?bzz158 ?czz158 ?qzz158 ?yzz158 ?szz158 ?rzz158
          case hzz158 => simp only [List.getElem?_toArray, List.getElem?_cons_zero, List.getElem?_cons_succ]; rfl
          case azz158 => kernel_rfl
          case bzz158 => kernel_rfl
          case czz158 => kernel_rfl
          case yzz158 => exact Or.inr ⟨by rfl, rfl⟩
          case qzz158 => exact fun _ _ _ h => h
          case szz158 => first | assumption | trivial
          case' rzz158 => simp only [Act.put, List.setIfInBounds_toArray, List.set_cons_zero, List.set_cons_succ]
          refine wpAnyH_take (i := 18) (oi := ?ozz159) (v := ?vzz159) ?hzz159 ?azz159 ?bzz159 ?czz159 ?qzz159 ?yzz159 ?szz159 ?rzz159
          case hzz159 => simp only [List.getElem?_toArray, List.getElem?_cons_zero, List.getElem?_cons_succ]; rfl
          case azz159 => kernel_rfl
          case bzz159 => kernel_rfl
          case czz159 => kernel_rfl
          case yzz159 =>
            refine Or.inl ⟨by rfl, ?_⟩
            intro w hSw
            skip
            go_simp
            try with_reducible rfl
          case qzz159 => exact fun _ _ _ h => h
          case szz159 => first | assumption | trivial
          case' rzz159 => simp only [Act.put, List.setIfInBounds_toArray, List.set_cons_zero, List.set_cons_succ]
          refine wpAnyH_done (by kernel_rfl) ?_ _
          go_wp2_with fail
          go_meet
          exact ⟨by first | (rw [HE.out]; done) | (rw [HE.out]; rfl), hHeld⟩
        have hkn : (k2 : Int) < (m : Int) := by omega
        have hkl : k2 < l.length := by rw [HLL.out]; exact hkm
        obtain ⟨ad6, he6, _, x0, x1⟩ := load_al P5.out.o.lst hkm hkl
        injection he6 with he6
        subst he6
        have hgk := g_lt hkl
        have K1 := Lib.hid (fun W => rless_any (l[k2]) (l[b1]) W)
        cases hb : less (l[k2]) (l[b1]) with
        | false =>
          rw [hb] at K1
          have HE : Hid (c2v = false) := Lib.hid (by rw [HC2.out, hgk, hgb, hb, Bool.and_false])
          generalize l[k2] = x at x0 x1 K1
          generalize l[b1] = y at i0 i1 K1
          clear hb hgk hgb hkl
          refine wp_region_held_drew (S := Q v5) (by kernel_rfl) ?szz180 (fun hHeld => ?rzz180)
          case szz180 =>
            exact (Q.refl v5).drew
          case' rzz180 => skip
          refine wpAnyH_take (i := 0) (oi := ?ozz181) (v := ?vzz181) ?hzz181 ?azz181 ?bzz181 ?czz181 ?qzz181 ?yzz181 ?szz181 ?rzz181
          case hzz181 => simp only [List.getElem?_toArray, List.getElem?_cons_zero]; rfl
          case azz181 => kernel_rfl
          case bzz181 => kernel_rfl
          case czz181 => kernel_rfl
          case yzz181 =>
            refine Or.inl ⟨by rfl, ?_⟩
            intro w hSw
            skip
            go_simp
            try with_reducible rfl
          case qzz181 => exact fun _ _ _ h => h
          case szz181 => first | assumption | trivial
          case' rzz181 => simp only [Act.put, List.setIfInBounds_toArray, List.set_cons_zero, List.set_cons_succ]
          refine wpAnyH_take (i := 1) (oi := ?ozz182) (v := ?vzz182) ?hzz182 ?azz182 ?bzz182 ?czz182 ?qzz182 ?yzz182 ?szz182 ?rzz182
          case hzz182 => simp only [List.getElem?_toArray, List.getElem?_cons_zero, List.getElem?_cons_succ]; rfl
          case azz182 => kernel_rfl
          case bzz182 => kernel_rfl
          case czz182 => kernel_rfl
          case yzz182 =>
            refine Or.inl ⟨by rfl, ?_⟩
            intro w hSw
            skip
            go_simp
            try with_reducible rfl
          case qzz182 => exact fun _ _ _ h => h
          case szz182 => first | assumption | trivial
          case' rzz182 => simp only [Act.put, List.setIfInBounds_toArray, List.set_cons_zero, List.set_cons_succ]
          refine wpAnyH_take (i := 2) (oi := ?ozz183) (v := ?vzz183) ?hzz183 ?azz183 ?bzz183 ?czz183 ?qzz183 ?yzz183 ?szz183 ?rzz183
          case hzz183 => simp only [List.getElem?_toArray, List.getElem?_cons_zero, List.getElem?_cons_succ]; rfl
          case azz183 => kernel_rfl
          case bzz183 => kernel_rfl
          case czz183 => kernel_rfl
          case yzz183 =>
            refine Or.inl ⟨by rfl, ?_⟩
            intro w hSw
            skip
            go_simp
            try with_reducible rfl
          case qzz183 => exact fun _ _ _ h => h
          case szz183 => first | assumption | trivial
          case' rzz183 => simp only [Act.put, List.setIfInBounds_toArray, List.set_cons_zero, List.set_cons_succ]
          refine wpAnyH_take (i := 3) (oi := ?ozz184) (v := ?vzz184) ?hzz184 ?azz184 ?bzz184 ?czz184 ?qzz184 ?yzz184 ?szz184 ?rzz184
          case hzz184 => simp only [List.getElem?_toArray, List.getElem?_cons_zero, List.getElem?_cons_succ]; rfl
          case azz184 => kernel_rfl
          case bzz184 => kernel_rfl
          case czz184 => kernel_rfl
          case yzz184 =>
            refine Or.inl ⟨by rfl, ?_⟩
            intro w hSw
            skip
            go_simp
            try with_reducible rfl
          case qzz184 => exact fun _ _ _ h => h
          case szz184 => first | assumption | trivial
          case' rzz184 => simp only [Act.put, List.setIfInBounds_toArray, List.set_cons_zero, List.set_cons_succ]
          refine wpAnyH_take (i := 4) (oi := ?ozz185) (v := ?vzz185) ?hzz185 ?azz185 ?bzz185 ?czz185 ?qzz185 ?yzz185 ?szz185 ?rzz185
          case hzz185 => simp only [List.getElem?_toArray, List.getElem?_cons_zero, List.getElem?_cons_succ]; rfl
          case azz185 => kernel_rfl
          case bzz185 => kernel_rfl
          case czz185 => kernel_rfl
          case yzz185 =>
            refine Or.inl ⟨by rfl, ?_⟩
            intro w hSw
            skip
            go_simp
            try with_reducible rfl
          case qzz185 => exact fun _ _ _ h => h
          case szz185 => first | assumption | trivial
          case' rzz185 => simp only [Act.put, List.setIfInBounds_toArray, List.set_cons_zero, List.set_cons_succ]
          refine wpAnyH_take (i := 5) (oi := ?ozz186) (v := ?vzz186) ?hzz186 ?azz186 ?bzz186 ?czz186 ?qzz186 ?yzz186 ?szz186 ?rzz186
          case hzz186 => simp only [List.getElem?_toArray, List.getElem?_cons_zero, List.getElem?_cons_succ]; rfl
          case azz186 => kernel_rfl
          case bzz186 => kernel_rfl
          case czz186 => kernel_rfl
          case yzz186 =>
            refine Or.inl ⟨by rfl, ?_⟩
            intro w hSw
            skip
            go_simp
            try with_reducible rfl
          case qzz186 => exact fun _ _ _ h => h
          case szz186 => first | assumption | trivial
          case' rzz186 => simp only [Act.put, List.setIfInBounds_toArray, List.set_cons_zero, List.set_cons_succ]
          refine wpAnyH_take (i := 6) (oi := ?ozz187) (v := ?vzz187) ?hzz187 ?azz187 ?bzz187 ?czz187 ?qzz187 ?yzz187 ?szz187 ?rzz187
          case hzz187 => simp only [List.getElem?_toArray, List.getElem?_cons_zero, List.getElem?_cons_succ]; rfl
          case azz187 => kernel_rfl
          case bzz187 => kernel_rfl
          case czz187 => kernel_rfl
          case yzz187 =>
            refine Or.inl ⟨by rfl, ?_⟩
            intro w hSw
            skip
            go_simp
            try with_reducible rfl
          case qzz187 => exact fun _ _ _ h => h
          case szz187 => first | assumption | trivial
          case' rzz187 => simp only [Act.put, List.setIfInBounds_toArray, List.set_cons_zero, List.set_cons_succ]
          refine wpAnyH_take (i := 7) (oi := ?ozz188) (v := ?vzz188) ?hzz188 ?azz188 ?bzz188 ?czz188 ?qzz188 ?yzz188 ?szz188 ?rzz188
          case hzz188 => simp only [List.getElem?_toArray, List.getElem?_cons_zero, List.getElem?_cons_succ]; rfl
          case azz188 => kernel_rfl
          case bzz188 => kernel_rfl
          case czz188 => kernel_rfl
          case yzz188 =>
            refine Or.inl ⟨by rfl, ?_⟩
            intro w hSw
            skip
            go_simp
            try with_reducible rfl
          case qzz188 => exact fun _ _ _ h => h
          case szz188 => first | assumption | trivial
          case' rzz188 => simp only [Act.put, List.setIfInBounds_toArray, List.set_cons_zero, List.set_cons_succ]
          refine wpAnyH_take (i := 8) (oi := ?ozz189) (v := ?vzz189) ?hzz189 ?azz189 ?bzz189 ?czz189 ?qzz189 ?yzz189 ?szz189 ?rzz189
          case hzz189 => simp only [List.getElem?_toArray, List.getElem?_cons_zero, List.getElem?_cons_succ]; rfl
          case azz189 => kernel_rfl
          case bzz189 => kernel_rfl
          case czz189 => kernel_rfl
          case yzz189 =>
            refine Or.inl ⟨by rfl, ?_⟩
            intro w hSw
            skip
            go_simp
            try with_reducible rfl
          case qzz189 => exact fun _ _ _ h => h
          case szz189 => first | assumption | trivial
          case' rzz189 => simp only [Act.put, List.setIfInBounds_toArray, List.set_cons_zero, List.set_cons_succ]
          refine wpAnyH_take (i := 9) (oi := ?ozz190) (v := ?vzz190) ?hzz190 ?azz190 ?bzz190 ?czz190 ?qzz190 ?yzz190 ?szz190 ?rzz190
          case hzz190 => simp only [List.getElem?_toArray, List.getElem?_cons_zero, List.getElem?_cons_succ]; rfl
          case azz190 => kernel_rfl
          case bzz190 => kernel_rfl
          case czz190 => kernel_rfl
          case yzz190 =>
            refine Or.inl ⟨by rfl, ?_⟩
            intro w hSw
            skip
            go_simp
            try with_reducible rfl
          case qzz190 => exact fun _ _ _ h => h
          case szz190 => first | assumption | trivial
          case' rzz190 => simp only [Act.put, List.setIfInBounds_toArray, List.set_cons_zero, List.set_cons_succ]
          refine wpAnyH_take (i := 10) (oi := ?ozz191) (v := ?vzz191) ?hzz191 ?azz191 ?bzz191 ?czz191 ?qzz191 ?yzz191 ?szz191 ?rzz191
          case hzz191 => simp only [List.getElem?_toArray, List.getElem?_cons_zero, List.getElem?_cons_succ]; rfl
          case azz191 => kernel_rfl
          case bzz191 => kernel_rfl
          case czz191 => kernel_rfl
          case yzz191 =>
            refine Or.inl ⟨by rfl, ?_⟩
            intro w hSw
            skip
            go_simp
            try with_reducible rfl
          case qzz191 => exact fun _ _ _ h => h
          case szz191 => first | assumption | trivial
          case' rzz191 => simp only [Act.put, List.setIfInBounds_toArray, List.set_cons_zero, List.set_cons_succ]
          refine wpAnyH_take (i := 11) (oi := ?ozz192) (v := ?vzz192) ?hzz192 ?azz192 ?bzz192 ?czz192 ?qzz192 ?yzz192 ?szz192 ?rzz192
          case hzz192 => simp only [List.getElem?_toArray, List.getElem?_cons_zero, List.getElem?_cons_succ]; rfl
          case azz192 => kernel_rfl
          case bzz192 => kernel_rfl
          case czz192 => kernel_rfl
          case yzz192 =>
            refine Or.inl ⟨by rfl, ?_⟩
            intro w hSw
            skip
            go_simp
            try with_reducible rfl
          case qzz192 => exact fun _ _ _ h => h
          case szz192 => first | assumption | trivial
          case' rzz192 => simp only [Act.put, List.setIfInBounds_toArray, List.set_cons_zero, List.set_cons_succ]
          refine wpAnyH_take (i := 12) (oi := ?ozz193) (v := ?vzz193) ?hzz193 ?azz193 ?bzz193 ?czz193 ?qzz193 ?yzz193 ?szz193 ?rzz193
          case hzz193 => simp only [List.getElem?_toArray, List.getElem?_cons_zero, List.getElem?_cons_succ]; rfl
          case azz193 => kernel_rfl
          case bzz193 => kernel_rfl
          case czz193 => kernel_rfl
          case yzz193 =>
            refine Or.inl ⟨by rfl, ?_⟩
            intro w hSw
            have a0 := box_ hSw x0; have a1 := box_ hSw x1; clear hSw
            go_simp
            try with_reducible rfl
          case qzz193 => exact fun _ _ _ h => h
          case szz193 => first | assumption | trivial
          case' rzz193 => simp only [Act.put, List.setIfInBounds_toArray, List.set_cons_zero, List.set_cons_succ]
          refine wpAnyH_take (i := 13) (oi := ?ozz194) (v := ?vzz194) ?hzz194 ?azz194 ?bzz194 ?czz194 ?qzz194 ?yzz194 ?szz194 ?rzz194
          case hzz194 => simp only [List.getElem?_toArray, List.getElem?_cons_zero, List.getElem?_cons_succ]; rfl
          case azz194 => kernel_rfl
          case bzz194 => kernel_rfl
          case czz194 => kernel_rfl
          case yzz194 =>
            refine Or.inl ⟨by rfl, ?_⟩
            intro w hSw
            skip
            go_simp
            try with_reducible rfl
          case qzz194 => exact fun _ _ _ h => h
          case szz194 => first | assumption | trivial
          case' rzz194 => simp only [Act.put, List.setIfInBounds_toArray, List.set_cons_zero, List.set_cons_succ]
          refine wpAnyH_take (i := 14) (oi := ?ozz195) (v := ?vzz195) ?hzz195 ?azz195 ?bzz195 ?czz195 ?qzz195 ?yzz195 ?szz195 ?rzz195
          case hzz195 => simp only [List.getElem?_toArray, List.getElem?_cons_zero, List.getElem?_cons_succ]; rfl
          case azz195 => kernel_rfl
          case bzz195 => kernel_rfl
          case czz195 => kernel_rfl
          case yzz195 =>
            refine Or.inl ⟨by rfl, ?_⟩
            intro w hSw
            skip
            go_simp
            try with_reducible rfl
          case qzz195 => exact fun _ _ _ h => h
          case szz195 => first | assumption | trivial
          case' rzz195 => simp only [Act.put, List.setIfInBounds_toArray, List.set_cons_zero, List.set_cons_succ]
          refine wpAnyH_take (i := 15) (oi := ?ozz196) (v := ?vzz196) ?hzz196 ?azz196 ?bzz196 ?czz196 ?qzz196 ?yzz196 ?szz196 ?rzz196
          case hzz196 => simp only [List.getElem?_toArray, List.getElem?_cons_zero, List.getElem?_cons_succ]; rfl
          case azz196 => kernel_rfl
          case bzz196 => kernel_rfl
          case czz196 => kernel_rfl
          case yzz196 =>
            refine Or.inl ⟨by rfl, ?_⟩
            intro w hSw
            skip
            go_simp
            try with_reducible rfl
          case qzz196 => exact fun _ _ _ h => h
          case szz196 => first | assumption | trivial
          case' rzz196 => simp only [Act.put, List.setIfInBounds_toArray, List.set_cons_zero, List.set_cons_succ]
          refine wpAnyH_take (i := 16) (oi := ?ozz197) (v := ?vzz197) ?hzz197 ?azz197 ?bzz197 ?czz197 ?qzz197 ?yzz197 ?szz197 ?rzz197
          case hzz197 => simp only [List.getElem?_toArray, List.getElem?_cons_zero, List.getElem?_cons_succ]; rfl
          case azz197 => kernel_rfl
          case bzz197 => kernel_rfl
          case czz197 => kernel_rfl
          case yzz197 =>
            refine Or.inl ⟨by rfl, ?_⟩
            intro w hSw
            have a2 := box_ hSw i0; have a3 := box_ hSw i1; clear hSw
            go_simp
            try with_reducible rfl
          case qzz197 => exact fun _ _ _ h => h
          case szz197 => first | assumption | trivial
          case' rzz197 => simp only [Act.put, List.setIfInBounds_toArray, List.set_cons_zero, List.set_cons_succ]
          refine wpAnyH_ready (rs := [17]) (by kernel_rfl) (by simp) ?_
          refine AllReadyH.cons (o := ?ozz199) ?hzz199 (fun K hK => ?kzz199) ?mzz199
          case hzz199 => simp only [List.getElem?_toArray, List.getElem?_cons_zero, List.getElem?_cons_succ]; rfl
          case kzz199 =>
            go_simp
            refine (K1.out _).mono ?_
            rintro e v2 ⟨rfl, q2⟩
            go_wp2_with fail
            refine hK.out _ _ ?Szz199 (fun hHeld => ?Rzz199)
            case Szz199 =>
              exact hHeld.trans q2
            case Rzz199 =>
              clear hK K
              try simp only [Act.put, List.setIfInBounds_toArray, List.set_cons_zero, List.set_cons_succ]
              refine wpAnyH_take (i := 18) (oi := ?ozz198) (v := ?vzz198) ?hzz198 ?azz198 ?bzz198 ?czz198 ?qzz198 ?yzz198 ?szz198 ?rzz198
              case hzz198 => simp only [List.getElem?_toArray, List.getElem?_cons_zero, List.getElem?_cons_succ]; rfl
              case azz198 => kernel_rfl
              case bzz198 => kernel_rfl
              case czz198 => kernel_rfl
              case yzz198 =>
                refine Or.inl ⟨by rfl, ?_⟩
                intro w hSw
                skip
                go_simp
                try with_reducible rfl
              case qzz198 => exact fun _ _ _ h => h
              case szz198 => first | assumption | trivial
              case' rzz198 => simp only [Act.put, List.setIfInBounds_toArray, List.set_cons_zero, List.set_cons_succ]
              refine wpAnyH_done (by kernel_rfl) ?_ _
              go_wp2_with fail
              go_meet
              exact ⟨by first | (rw [HE.out]; done) | (rw [HE.out]; rfl), hHeld⟩
          case' mzz199 => skip
          exact AllReadyH.nil
        | true =>
          rw [hb] at K1
          have HE : Hid (c2v = true) := Lib.hid (by rw [HC2.out, hgk, hgb, hb, decide_eq_true hkm]; rfl)
          generalize l[k2] = x at x0 x1 K1
          generalize l[b1] = y at i0 i1 K1
          clear hb hgk hgb hkl
          refine wp_region_held_drew (S := Q v5) (by kernel_rfl) ?szz160 (fun hHeld => ?rzz160)
          case szz160 =>
            exact (Q.refl v5).drew
          case' rzz160 => skip
          refine wpAnyH_take (i := 0) (oi := ?ozz161) (v := ?vzz161) ?hzz161 ?azz161 ?bzz161 ?czz161 ?qzz161 ?yzz161 ?szz161 ?rzz161
          case hzz161 => simp only [List.getElem?_toArray, List.getElem?_cons_zero]; rfl
          case azz161 => kernel_rfl
          case bzz161 => kernel_rfl
          case czz161 => kernel_rfl
          case yzz161 =>
            refine Or.inl ⟨by rfl, ?_⟩
            intro w hSw
            skip
            go_simp
            try with_reducible rfl
          case qzz161 => exact fun _ _ _ h => h
          case szz161 => first | assumption | trivial
          case' rzz161 => simp only [Act.put, List.setIfInBounds_toArray, List.set_cons_zero, List.set_cons_succ]
          refine wpAnyH_take (i := 1) (oi := ?ozz162) (v := ?vzz162) ?hzz162 ?azz162 ?bzz162 ?czz162 ?qzz162 ?yzz162 ?szz162 ?rzz162
          case hzz162 => simp only [List.getElem?_toArray, List.getElem?_cons_zero, List.getElem?_cons_succ]; rfl
          case azz162 => kernel_rfl
          case bzz162 => kernel_rfl
          case czz162 => kernel_rfl
          case yzz162 =>
            refine Or.inl ⟨by rfl, ?_⟩
            intro w hSw
            skip
            go_simp
            try with_reducible rfl
          case qzz162 => exact fun _ _ _ h => h
          case szz162 => first | assumption | trivial
          case' rzz162 => simp only [Act.put, List.setIfInBounds_toArray, List.set_cons_zero, List.set_cons_succ]
          refine wpAnyH_take (i := 2) (oi := ?ozz163) (v := ?vzz163) ?hzz163 ?azz163 ?bzz163 ?czz163 ?qzz163 ?yzz163 ?szz163 ?rzz163
          case hzz163 => simp only [List.getElem?_toArray, List.getElem?_cons_zero, List.getElem?_cons_succ]; rfl
          case azz163 => kernel_rfl
          case bzz163 => kernel_rfl
          case czz163 => kernel_rfl
          case yzz163 =>
            refine Or.inl ⟨by rfl, ?_⟩
            intro w hSw
            skip
            go_simp
            try with_reducible rfl
          case qzz163 => exact fun _ _ _ h => h
          case szz163 => first | assumption | trivial
          case' rzz163 => simp only [Act.put, List.setIfInBounds_toArray, List.set_cons_zero, List.set_cons_succ]
          refine wpAnyH_take (i := 3) (oi := ?ozz164) (v := ?vzz164) ?hzz164 ?azz164 ?bzz164 ?czz164 ?qzz164 ?yzz164 ?szz164 ?rzz164
          case hzz164 => simp only [List.getElem?_toArray, List.getElem?_cons_zero, List.getElem?_cons_succ]; rfl
          case azz164 => kernel_rfl
          case bzz164 => kernel_rfl
          case czz164 => kernel_rfl
          case yzz164 =>
            refine Or.inl ⟨by rfl, ?_⟩
            intro w hSw
            skip
            go_simp
            try with_reducible rfl
          case qzz164 => exact fun _ _ _ h => h
          case szz164 => first | assumption | trivial
          case' rzz164 => simp only [Act.put, List.setIfInBounds_toArray, List.set_cons_zero, List.set_cons_succ]
          refine wpAnyH_take (i := 4) (oi := ?ozz165) (v := ?vzz165) ?hzz165 ?azz165 ?bzz165 ?czz165 ?qzz165 ?yzz165 ?szz165 ?rzz165
          case hzz165 => simp only [List.getElem?_toArray, List.getElem?_cons_zero, List.getElem?_cons_succ]; rfl
          case azz165 => kernel_rfl
          case bzz165 => kernel_rfl
          case czz165 => kernel_rfl
          case yzz165 =>
            refine Or.inl ⟨by rfl, ?_⟩
            intro w hSw
            skip
            go_simp
            try with_reducible rfl
          case qzz165 => exact fun _ _ _ h => h
          case szz165 => first | assumption | trivial
          case' rzz165 => simp only [Act.put, List.setIfInBounds_toArray, List.set_cons_zero, List.set_cons_succ]
          refine wpAnyH_take (i := 5) (oi := ?ozz166) (v := ?vzz166) ?hzz166 ?azz166 ?bzz166 ?czz166 ?qzz166 ?yzz166 ?szz166 ?rzz166
          case hzz166 => simp only [List.getElem?_toArray, List.getElem?_cons_zero, List.getElem?_cons_succ]; rfl
          case azz166 => kernel_rfl
          case bzz166 => kernel_rfl
          case czz166 => kernel_rfl
          case yzz166 =>
            refine Or.inl ⟨by rfl, ?_⟩
            intro w hSw
            skip
            go_simp
            try with_reducible rfl
          case qzz166 => exact fun _ _ _ h => h
          case szz166 => first | assumption | trivial
          case' rzz166 => simp only [Act.put, List.setIfInBounds_toArray, List.set_cons_zero, List.set_cons_succ]
          refine wpAnyH_take (i := 6) (oi := ?ozz167) (v := ?vzz167) ?hzz167 ?azz167 ?bzz167 ?czz167 ?qzz167 ?yzz167 ?szz167 ?rzz167
          case hzz167 => simp only [List.getElem?_toArray, List.getElem?_cons_zero, List.getElem?_cons_succ]; rfl
          case azz167 => kernel_rfl
          case bzz167 => kernel_rfl
          case czz167 => kernel_rfl
          case yzz167 =>
            refine Or.inl ⟨by rfl, ?_⟩
            intro w hSw
            skip
            go_simp
            try with_reducible rfl
          case qzz167 => exact fun _ _ _ h => h
          case szz167 => first | assumption | trivial
          case' rzz167 => simp only [Act.put, List.setIfInBounds_toArray, List.set_cons_zero, List.set_cons_succ]
          refine wpAnyH_take (i := 7) (oi := ?ozz168) (v := ?vzz168) ?hzz168 ?azz168 ?bzz168 ?czz168 ?qzz168 ?yzz168 ?szz168 ?rzz168
          case hzz168 => simp only [List.getElem?_toArray, List.getElem?_cons_zero, List.getElem?_cons_succ]; rfl
          case azz168 => kernel_rfl
          case bzz168 => kernel_rfl
          case czz168 => kernel_rfl
          case yzz168 =>
            refine Or.inl ⟨by rfl, ?_⟩
            intro w hSw
            skip
            go_simp
            try with_reducible rfl
          case qzz168 => exact fun _ _ _ h => h
          case szz168 => first | assumption | trivial
          case' rzz168 => simp only [Act.put, List.setIfInBounds_toArray, List.set_cons_zero, List.set_cons_succ]
          refine wpAnyH_take (i := 8) (oi := ?ozz169) (v := ?vzz169) ?hzz169 ?azz169 ?bzz169 ?czz169 ?qzz169 ?yzz169 ?szz169 ?rzz169
          case hzz169 => simp only [List.getElem?_toArray, List.getElem?_cons_zero, List.getElem?_cons_succ]; rfl
          case azz169 => kernel_rfl
          case bzz169 => kernel_rfl
          case czz169 => kernel_rfl
          case yzz169 =>
            refine Or.inl ⟨by rfl, ?_⟩
            intro w hSw
            skip
            go_simp
            try with_reducible rfl
          case qzz169 => exact fun _ _ _ h => h
          case szz169 => first | assumption | trivial
          case' rzz169 => simp only [Act.put, List.setIfInBounds_toArray, List.set_cons_zero, List.set_cons_succ]
          refine wpAnyH_take (i := 9) (oi := ?ozz170) (v := ?vzz170) ?hzz170 ?azz170 ?bzz170 ?czz170 ?qzz170 ?yzz170 ?szz170 ?rzz170
          case hzz170 => simp only [List.getElem?_toArray, List.getElem?_cons_zero, List.getElem?_cons_succ]; rfl
          case azz170 => kernel_rfl
          case bzz170 => kernel_rfl
          case czz170 => kernel_rfl
          case yzz170 =>
            refine Or.inl ⟨by rfl, ?_⟩
            intro w hSw
            skip
            go_simp
            try with_reducible rfl
          case qzz170 => exact fun _ _ _ h => h
          case szz170 => first | assumption | trivial
          case' rzz170 => simp only [Act.put, List.setIfInBounds_toArray, List.set_cons_zero, List.set_cons_succ]
          refine wpAnyH_take (i := 10) (oi := ?ozz171) (v := ?vzz171) ?hzz171 ?azz171 ?bzz171 ?czz171 ?qzz171 ?yzz171 ?szz171 ?rzz171
          case hzz171 => simp only [List.getElem?_toArray, List.getElem?_cons_zero, List.getElem?_cons_succ]; rfl
          case azz171 => kernel_rfl
          case bzz171 => kernel_rfl
          case czz171 => kernel_rfl
          case yzz171 =>
            refine Or.inl ⟨by rfl, ?_⟩
            intro w hSw
            skip
            go_simp
            try with_reducible rfl
          case qzz171 => exact fun _ _ _ h => h
          case szz171 => first | assumption | trivial
          case' rzz171 => simp only [Act.put, List.setIfInBounds_toArray, List.set_cons_zero, List.set_cons_succ]
          refine wpAnyH_take (i := 11) (oi := ?ozz172) (v := ?vzz172) ?hzz172 ?azz172 ?bzz172 ?czz172 ?qzz172 ?yzz172 ?szz172 ?rzz172
          case hzz172 => simp only [List.getElem?_toArray, List.getElem?_cons_zero, List.getElem?_cons_succ]; rfl
          case azz172 => kernel_rfl
          case bzz172 => kernel_rfl
          case czz172 => kernel_rfl
          case yzz172 =>
            refine Or.inl ⟨by rfl, ?_⟩
            intro w hSw
            skip
            go_simp
            try with_reducible rfl
          case qzz172 => exact fun _ _ _ h => h
          case szz172 => first | assumption | trivial
          case' rzz172 => simp only [Act.put, List.setIfInBounds_toArray, List.set_cons_zero, List.set_cons_succ]
          refine wpAnyH_take (i := 12) (oi := ?ozz173) (v := ?vzz173) ?hzz173 ?azz173 ?bzz173 ?czz173 ?qzz173 ?yzz173 ?szz173 ?rzz173
          case hzz173 => simp only [List.getElem?_toArray, List.getElem?_cons_zero, List.getElem?_cons_succ]; rfl
          case azz173 => kernel_rfl
          case bzz173 => kernel_rfl
          case czz173 => kernel_rfl
          case yzz173 =>
            refine Or.inl ⟨by rfl, ?_⟩
            intro w hSw
            have a0 := box_ hSw x0; have a1 := box_ hSw x1; clear hSw
            go_simp
            try with_reducible rfl
          case qzz173 => exact fun _ _ _ h => h
          case szz173 => first | assumption | trivial
          case' rzz173 => simp only [Act.put, List.setIfInBounds_toArray, List.set_cons_zero, List.set_cons_succ]
          refine wpAnyH_take (i := 13) (oi := ?ozz174) (v := ?vzz174) ?hzz174 ?azz174 ?bzz174 ?czz174 ?qzz174 ?yzz174 ?szz174 ?rzz174
          case hzz174 => simp only [List.getElem?_toArray, List.getElem?_cons_zero, List.getElem?_cons_succ]; rfl
          case azz174 => kernel_rfl
          case bzz174 => kernel_rfl
          case czz174 => kernel_rfl
          case yzz174 =>
            refine Or.inl ⟨by rfl, ?_⟩
            intro w hSw
            skip
            go_simp
            try with_reducible rfl
          case qzz174 => exact fun _ _ _ h => h
          case szz174 => first | assumption | trivial
          case' rzz174 => simp only [Act.put, List.setIfInBounds_toArray, List.set_cons_zero, List.set_cons_succ]
          refine wpAnyH_take (i := 14) (oi := ?ozz175) (v := ?vzz175) ?hzz175 ?azz175 ?bzz175 ?czz175 ?qzz175 ?yzz175 ?szz175 ?rzz175
          case hzz175 => simp only [List.getElem?_toArray, List.getElem?_cons_zero, List.getElem?_cons_succ]; rfl
          case azz175 => kernel_rfl
          case bzz175 => kernel_rfl
          case czz175 => kernel_rfl
          case yzz175 =>
            refine Or.inl ⟨by rfl, ?_⟩
            intro w hSw
            skip
            go_simp
            try with_reducible rfl
          case qzz175 => exact fun _ _ _ h => h
          case szz175 => first | assumption | trivial
          case' rzz175 => simp only [Act.put, List.setIfInBounds_toArray, List.set_cons_zero, List.set_cons_succ]
          refine wpAnyH_take (i := 15) (oi := ?ozz176) (v := ?vzz176) ?hzz176 ?azz176 ?bzz176 ?czz176 ?qzz176 ?yzz176 ?szz176 ?rzz176
          case hzz176 => simp only [List.getElem?_toArray, List.getElem?_cons_zero, List.getElem?_cons_succ]; rfl
          case azz176 => kernel_rfl
          case bzz176 => kernel_rfl
          case czz176 => kernel_rfl
          case yzz176 =>
            refine Or.inl ⟨by rfl, ?_⟩
            intro w hSw
            skip
            go_simp
            try with_reducible rfl
          case qzz176 => exact fun _ _ _ h => h
          case szz176 => first | assumption | trivial
          case' rzz176 => simp only [Act.put, List.setIfInBounds_toArray, List.set_cons_zero, List.set_cons_succ]
          refine wpAnyH_take (i := 16) (oi := ?ozz177) (v := ?vzz177) ?hzz177 ?azz177 ?bzz177 ?czz177 ?qzz177 ?yzz177 ?szz177 ?rzz177
          case hzz177 => simp only [List.getElem?_toArray, List.getElem?_cons_zero, List.getElem?_cons_succ]; rfl
          case azz177 => kernel_rfl
          case bzz177 => kernel_rfl
          case czz177 => kernel_rfl
          case yzz177 =>
            refine Or.inl ⟨by rfl, ?_⟩
            intro w hSw
            have a2 := box_ hSw i0; have a3 := box_ hSw i1; clear hSw
            go_simp
            try with_reducible rfl
          case qzz177 => exact fun _ _ _ h => h
          case szz177 => first | assumption | trivial
          case' rzz177 => simp only [Act.put, List.setIfInBounds_toArray, List.set_cons_zero, List.set_cons_succ]
          refine wpAnyH_ready (rs := [17]) (by kernel_rfl) (by simp) ?_
          refine AllReadyH.cons (o := ?ozz179) ?hzz179 (fun K hK => ?kzz179) ?mzz179
          case hzz179 => simp only [List.getElem?_toArray, List.getElem?_cons_zero, List.getElem?_cons_succ]; rfl
          case kzz179 =>
            go_simp
            refine (K1.out _).mono ?_
            rintro e v2 ⟨rfl, q2⟩
            go_wp2_with fail
            refine hK.out _ _ ?Szz179 (fun hHeld => ?Rzz179)
            case Szz179 =>
              exact hHeld.trans q2
            case Rzz179 =>
              clear hK K
              try simp only [Act.put, List.setIfInBounds_toArray, List.set_cons_zero, List.set_cons_succ]
              refine wpAnyH_take (i := 18) (oi := ?ozz178) (v := ?vzz178) ?hzz178 ?azz178 ?bzz178 ?czz178 ?qzz178 ?yzz178 ?szz178 ?rzz178
              case hzz178 => simp only [List.getElem?_toArray, List.getElem?_cons_zero, List.getElem?_cons_succ]; rfl
              case azz178 => kernel_rfl
              case bzz178 => kernel_rfl
              case czz178 => kernel_rfl
              case yzz178 =>
                refine Or.inl ⟨by rfl, ?_⟩
                intro w hSw
                skip
                go_simp
                try with_reducible rfl
              case qzz178 => exact fun _ _ _ h => h
              case szz178 => first | assumption | trivial
              case' rzz178 => simp only [Act.put, List.setIfInBounds_toArray, List.set_cons_zero, List.set_cons_succ]
              refine wpAnyH_done (by kernel_rfl) ?_ _
              go_wp2_with fail
              go_meet
              exact ⟨by first | (rw [HE.out]; done) | (rw [HE.out]; rfl), hHeld⟩
          case' mzz179 => skip
          exact AllReadyH.nil
      case rest =>
        obtain ⟨rfl, qc⟩ := hcut
        have P5b : Hid (Pl w (w.heap.size + 1) w.heap.size h m (some ad4) c4 l wc) := Lib.hid ⟨P5.out.o.q qc, P5.out.fb.q qc, P5.out.fr.q qc, P5.out.q.trans qc⟩
        clear qc i0 i1 P5
        generalize wc = v5b at P5b ⊢
        generalize hb2 : bst l i = b2 at HE2
        have HB2 := Lib.hid hb2
        clear hb2
        go_upto_if 78 with (fail)
        go_cut [8] (fun s8 wx => s8 = .int .i64 (b2 : Nat) ∧ v5b = wx)
        case first =>
          cases c2v with
          | true =>
            have h9 := HE2.out
            rw [if_pos rfl] at h9
            subst h9
            go_wp2_with fail
            go_meet
            exact ⟨rfl, rfl⟩
          | false =>
            have h9 := HE2.out
            rw [if_neg (by simp)] at h9
            have h9 := Lib.hid h9
            go_wp2_with fail
            go_meet
            exact ⟨by first | (rw [h9.out]; done) | (rw [h9.out]; rfl), rfl⟩
        case rest =>
        obtain ⟨rfl, rfl⟩ := hcut
        have qc := Q.refl v5b
        have P5 := P5b
        have P6 : Hid (Pl w (w.heap.size + 1) w.heap.size h m (some ad4) c4 l v5b) := P5b
        clear qc P5 P5b hgb hgi hab4 hbl hbm
        have hbl := bst_lt hil
        rw [HLL.out, HB2.out] at hbl
        have hend := fun (e : bst l i = i) => HSK.out.trans (sink_end e)
        have hstp := fun (e : ¬ bst l i = i) => sink_step (f := fu) e (by rw [HLL.out]; exact hfu) hil
        rw [HB2.out] at hend hstp
        have HE := Lib.hid hend
        have HS := Lib.hid hstp
        clear hend hstp
        generalize v5b = v6 at P6 ⊢
        by_cases hbi : b2 = i
        · subst hbi
          have HPR := Lib.hid (HE.out rfl)
          obtain ⟨⟨b0, b1⟩, _⟩ := P6.out.fb.get2
          rw [HGF.out] at b0 b1
          clear HE HS hbl
          go_upto_region 15 with (fail)
          refine wp_region_heldL 3 (Q v6) (by kernel_rfl) ?szz200 (fun hHeld => ?rzz200)
          case szz200 =>
            exact (Q.refl v6).drew
          case' rzz200 => skip
          generalize hgen : v6.drew = D0 at hHeld ⊢
          clear hgen
          refine wpAnyL_take (i := 0) (oi := ?ozz201) (v := ?vzz201) ?hzz201 ?azz201 ?bzz201 ?czz201 ?kzz201 ?qzz201 ?yzz201 ?szz201 ?rzz201
          case hzz201 => simp only [List.getElem?_toArray, List.getElem?_cons_zero]; rfl
          case azz201 => kernel_rfl
          case bzz201 => kernel_rfl
          case czz201 => kernel_rfl
          case kzz201 => kernel_rfl
          case yzz201 =>
            refine Or.inl ⟨by rfl, ?_⟩
            intro w hSw
            skip
            go_simp
            try with_reducible rfl
          case qzz201 => exact fun _ _ _ h => h
          case szz201 => first | assumption | trivial
          case' rzz201 => simp only [Act.put, List.setIfInBounds_toArray, List.set_cons_zero, List.set_cons_succ]
          refine wpAnyL_ready (rs := [1, 2]) (by kernel_rfl) (by simp) ?_
          refine AllReadyL.cons (o := ?ozz208) ?hzz208 (fun K hK => ?kzz208) ?mzz208
          case hzz208 => simp only [List.getElem?_toArray, List.getElem?_cons_zero, List.getElem?_cons_succ]; rfl
          case kzz208 =>
            have hSw := hHeld
            have a0 := box_ hSw b0; have a1 := box_ hSw b1; clear hSw
            go_simp
            refine hK.out _ _ ?Szz208 (fun hHeld => ?Rzz208)
            case Szz208 =>
              first | exact hHeld | trivial
            case Rzz208 =>
              clear hK K
              try simp only [Act.put, List.setIfInBounds_toArray, List.set_cons_zero, List.set_cons_succ]
              refine wpAnyL_take (i := 2) (oi := ?ozz202) (v := ?vzz202) ?hzz202 ?azz202 ?bzz202 ?czz202 ?kzz202 ?qzz202 ?yzz202 ?szz202 ?rzz202
              case hzz202 => simp only [List.getElem?_toArray, List.getElem?_cons_zero, List.getElem?_cons_succ]; rfl
              case azz202 => kernel_rfl
              case bzz202 => kernel_rfl
              case czz202 => kernel_rfl
              case kzz202 => kernel_rfl
              case yzz202 =>
                refine Or.inl ⟨by rfl, ?_⟩
                intro w hSw
                skip
                go_simp
                try with_reducible rfl
              case qzz202 => exact fun _ _ _ h => h
              case szz202 => first | assumption | trivial
              case' rzz202 => simp only [Act.put, List.setIfInBounds_toArray, List.set_cons_zero, List.set_cons_succ]
              refine wpAnyL_ready (rs := [3]) (by kernel_rfl) (by simp) ?_
              refine AllReadyL.consK (o := ?ozz204) ?hzz204 ?lzz204 (fun K hK => ?kzz204) ?mzz204
              case hzz204 => simp only [List.getElem?_toArray, List.getElem?_cons_zero, List.getElem?_cons_succ]; rfl
              case lzz204 => kernel_rfl
              case kzz204 =>
                have HZ := Lib.hid hHeld
                obtain ⟨⟨st0, st1⟩, st2, st3⟩ := (P6.out.fr.q HZ.out).get2
                go_simp
                clear st0 st1 st2 st3
                refine hK.out _ _ ?Rzz204
                case Rzz204 =>
                  clear hK K
                  try simp only [Act.put, List.setIfInBounds_toArray, List.set_cons_zero, List.set_cons_succ]
                  refine wpAnyH_take (i := 4) (oi := ?ozz203) (v := ?vzz203) ?hzz203 ?azz203 ?bzz203 ?czz203 ?qzz203 ?yzz203 ?szz203 ?rzz203
                  case hzz203 => simp only [List.getElem?_toArray, List.getElem?_cons_zero, List.getElem?_cons_succ]; rfl
                  case azz203 => kernel_rfl
                  case bzz203 => kernel_rfl
                  case czz203 => kernel_rfl
                  case yzz203 =>
                    refine Or.inl ⟨by rfl, ?_⟩
                    intro w hSw
                    skip
                    go_simp
                    try with_reducible rfl
                  case qzz203 => exact fun _ _ _ h => h
                  case szz203 => first | assumption | trivial
                  case' rzz203 => simp only [Act.put, List.setIfInBounds_toArray, List.set_cons_zero, List.set_cons_succ]
                  refine wpAnyH_done (by kernel_rfl) ?_ _
                  have Z1 := Lib.hid ((P6.out.fr.q HZ.out).set2 (.int .u64 (f.at_ : Int)) (.int .i64 f.id))
                  have Z2 := Lib.hid ((P6.out.o.q HZ.out).set2 (b := w.heap.size) (by omega) (.int .u64 (f.at_ : Int)) (.int .i64 f.id))
                  have Z3 := Lib.hid ((P6.out.q.trans HZ.out).set2 (b := w.heap.size) (Nat.le_refl _) (.int .u64 (f.at_ : Int)) (.int .i64 f.id))
                  generalize ((D0.setCell ⟨w.heap.size, 0, none⟩ (.int .u64 (f.at_ : Int))).setCell ⟨w.heap.size, 1, none⟩ (.int .i64 f.id)) = W9 at Z1 Z2 Z3 ⊢
                  go_wp2
                  obtain ⟨⟨r0, r1⟩, _⟩ := Z1.out.get2
                  refine bodyPost_ret (v := .tuple #[.slice (some ad4) m c4, .agg #[.int .u64 (f.at_ : Int), .int .i64 f.id], .bool true]) (by simp [results, Try.results13, go_sem, r0, r1]) rfl ?_
                  refine ⟨some ad4, c4, ?_, ?_, fun _ => ?_, Z3.out⟩
                  · first | (rw [HPR.out, HGF.out, decide_eq_true (by rw [HL.out]; exact hnp), HLL.out]; done) | (rw [HPR.out, HGF.out, decide_eq_true (by rw [HL.out]; exact hnp), HLL.out]; rfl)
                  · rw [HPR.out, HLL.out]; exact (Z2.out.in_ (by show m * 16 ≤ _; omega))
                  · rw [HPR.out, HLL.out]; exact Z2.out.lower (by omega)
              case' mzz204 => skip
              exact AllReadyL.nil
          case' mzz208 => skip
          refine AllReadyL.cons (o := ?ozz209) ?hzz209 (fun K hK => ?kzz209) ?mzz209
          case hzz209 => simp only [List.getElem?_toArray, List.getElem?_cons_zero, List.getElem?_cons_succ]; rfl
          case kzz209 =>
            go_simp
            refine hK.out _ _ ?Szz209 (fun hHeld => ?Rzz209)
            case Szz209 =>
              first | exact hHeld | trivial
            case Rzz209 =>
              clear hK K
              try simp only [Act.put, List.setIfInBounds_toArray, List.set_cons_zero, List.set_cons_succ]
              refine wpAnyL_take (i := 1) (oi := ?ozz205) (v := ?vzz205) ?hzz205 ?azz205 ?bzz205 ?czz205 ?kzz205 ?qzz205 ?yzz205 ?szz205 ?rzz205
              case hzz205 => simp only [List.getElem?_toArray, List.getElem?_cons_zero, List.getElem?_cons_succ]; rfl
              case azz205 => kernel_rfl
              case bzz205 => kernel_rfl
              case czz205 => kernel_rfl
              case kzz205 => kernel_rfl
              case yzz205 =>
                refine Or.inl ⟨by rfl, ?_⟩
                intro w hSw
                have a0 := box_ hSw b0; have a1 := box_ hSw b1; clear hSw
                go_simp
                try with_reducible rfl
              case qzz205 => exact fun _ _ _ h => h
              case szz205 => first | assumption | trivial
              case' rzz205 => simp only [Act.put, List.setIfInBounds_toArray, List.set_cons_zero, List.set_cons_succ]
              refine wpAnyL_ready (rs := [3]) (by kernel_rfl) (by simp) ?_
              refine AllReadyL.consK (o := ?ozz207) ?hzz207 ?lzz207 (fun K hK => ?kzz207) ?mzz207
              case hzz207 => simp only [List.getElem?_toArray, List.getElem?_cons_zero, List.getElem?_cons_succ]; rfl
              case lzz207 => kernel_rfl
              case kzz207 =>
                have HZ := Lib.hid hHeld
                obtain ⟨⟨st0, st1⟩, st2, st3⟩ := (P6.out.fr.q HZ.out).get2
                go_simp
                clear st0 st1 st2 st3
                refine hK.out _ _ ?Rzz207
                case Rzz207 =>
                  clear hK K
                  try simp only [Act.put, List.setIfInBounds_toArray, List.set_cons_zero, List.set_cons_succ]
                  refine wpAnyH_take (i := 4) (oi := ?ozz206) (v := ?vzz206) ?hzz206 ?azz206 ?bzz206 ?czz206 ?qzz206 ?yzz206 ?szz206 ?rzz206
                  case hzz206 => simp only [List.getElem?_toArray, List.getElem?_cons_zero, List.getElem?_cons_succ]; rfl
                  case azz206 => kernel_rfl
                  case bzz206 => kernel_rfl
                  case czz206 => kernel_rfl
                  case yzz206 =>
                    refine Or.inl ⟨by rfl, ?_⟩
                    intro w hSw
                    skip
                    go_simp
                    try with_reducible rfl
                  case qzz206 => exact fun _ _ _ h => h
                  case szz206 => first | assumption | trivial
                  case' rzz206 => simp only [Act.put, List.setIfInBounds_toArray, List.set_cons_zero, List.set_cons_succ]
                  refine wpAnyH_done (by kernel_rfl) ?_ _
                  have Z1 := Lib.hid ((P6.out.fr.q HZ.out).set2 (.int .u64 (f.at_ : Int)) (.int .i64 f.id))
                  have Z2 := Lib.hid ((P6.out.o.q HZ.out).set2 (b := w.heap.size) (by omega) (.int .u64 (f.at_ : Int)) (.int .i64 f.id))
                  have Z3 := Lib.hid ((P6.out.q.trans HZ.out).set2 (b := w.heap.size) (Nat.le_refl _) (.int .u64 (f.at_ : Int)) (.int .i64 f.id))
                  generalize ((D0.setCell ⟨w.heap.size, 0, none⟩ (.int .u64 (f.at_ : Int))).setCell ⟨w.heap.size, 1, none⟩ (.int .i64 f.id)) = W9 at Z1 Z2 Z3 ⊢
                  go_wp2
                  obtain ⟨⟨r0, r1⟩, _⟩ := Z1.out.get2
                  refine bodyPost_ret (v := .tuple #[.slice (some ad4) m c4, .agg #[.int .u64 (f.at_ : Int), .int .i64 f.id], .bool true]) (by simp [results, Try.results13, go_sem, r0, r1]) rfl ?_
                  refine ⟨some ad4, c4, ?_, ?_, fun _ => ?_, Z3.out⟩
                  · first | (rw [HPR.out, HGF.out, decide_eq_true (by rw [HL.out]; exact hnp), HLL.out]; done) | (rw [HPR.out, HGF.out, decide_eq_true (by rw [HL.out]; exact hnp), HLL.out]; rfl)
                  · rw [HPR.out, HLL.out]; exact (Z2.out.in_ (by show m * 16 ≤ _; omega))
                  · rw [HPR.out, HLL.out]; exact Z2.out.lower (by omega)
              case' mzz207 => skip
              exact AllReadyL.nil
          case' mzz209 => skip
          exact AllReadyL.nil
        · have hne : ¬ (b2 : Int) = (i : Int) := by omega
          obtain ⟨fu2, hs1, hs2⟩ := HS.out hbi
          have HS2 := Lib.hid (HSK.out.trans hs1)
          have hbm : b2 < m := hbl.1
          have hbg : i < b2 := by omega
          rw [swp_len, HLL.out] at hs2
          have K2 := Lib.hid (fun W (hA : In_ alK W (some ad4) m c4 l) => rswap_any (some ad4) m c4 l i b2 W hA him hbm (by omega))
          clear HE HS hs1 hbl
          go_wp2_with fail
          refine (K2.out _ (P6.out.o.in_ (by show m * 16 ≤ _; omega))).mono ?_
          rintro e v7 ⟨A7, c7, rfl, o7, q7⟩
          have P7 : Hid (Pl w (w.heap.size + 1) w.heap.size h m A7 c7 (swp l i b2) v7) := Lib.hid ⟨o7.lower (by have := P6.out.fb.lt; omega), P6.out.fb.q q7, P6.out.fr.q q7, P6.out.q.trans q7⟩
          clear o7 q7
          go_wp2
          go_roundw
          case rel => exact ⟨b2, fu2, A7, c7, swp l i b2, rfl, by go_num, hbm, HS2.out, hs2, P7.out⟩
          case measure => simp [intOf]; omega
end Am
end Go.Proofs.Ytbclamfpoigneaa
