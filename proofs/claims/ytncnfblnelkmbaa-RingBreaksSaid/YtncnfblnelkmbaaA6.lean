/- Ring3: merged. -/
import Derived.Test.YtncnfblnelkmbaaA5
import Derived.Test.YtncnfblnelkmbaaA3
/- Contracts: ring.Ring, ring.Victim. -/
namespace Go.Proofs.Ytncnfblnelkmbaa
set_option maxRecDepth 100000
open Go.RowKit Lm Sm
set_option linter.unusedVariables false
set_option linter.unusedSimpArgs false

/-- where ring.Ring stands: the first k of the rows are laid. -/
structure Rg (w : World) (A : Option Addr) (n c : Nat) (B : Option Addr) (m d : Nat) (G H : Nat) (A1 : Option Addr) (n1 c1 ga : Nat) (all : List Int) (f : Int → List Int) (k : Nat) (hs : List Hdr) (wr : World) : Prop where
  bl : Bx wr w.heap.size [.slice A n c, .slice B m d]
  g1 : Bx wr G [.slice A1 n1 c1]
  g2 : Bx wr H [.slice (some ⟨ga, 0, none⟩) n1 n1]
  la : Fa ga ga wr A1 n1 all
  lh : OwnK hdrK wr ga (some ⟨ga, 0, none⟩) n1 n1 hs
  el : ∀ i (h : i < hs.length) (h2 : i < all.length), i < k → Fa ga ga wr hs[i].1 hs[i].2.1 (f all[i]) ∧ ∀ ad, hs[i].1 = some ad → ad.spot = none
  q : Q w wr
  hG : G < ga
  hw : w.heap.size < ga
  hH : ga < H
section
variable {w wr w2 : World} {A B A1 A2 : Option Addr} {n c m d G H n1 c1 ga k n2 c2 : Nat} {all : List Int} {f : Int → List Int} {hs : List Hdr}
theorem Rg.step (h : Rg w A n c B m d G H A1 n1 c1 ga all f k hs wr) (q : Q wr w2) : Rg w A n c B m d G H A1 n1 c1 ga all f k hs w2 :=
  ⟨h.bl.q q, h.g1.q q, h.g2.q q, h.la.q q, h.lh.q q, fun i h1 h2 h3 => ⟨(h.el i h1 h2 h3).1.q q, (h.el i h1 h2 h3).2⟩, h.q.trans q, h.hG, h.hw, h.hH⟩
theorem Rg.put (h : Rg w A n c B m d G H A1 n1 c1 ga all f k hs wr) (hk : k < all.length) (hl : hs.length = all.length) (fa : Fa ga ga wr A2 n2 (f all[k])) (sp : ∀ ad, A2 = some ad → ad.spot = none) :
    Rg w A n c B m d G H A1 n1 c1 ga all f (k + 1) (hs.set k (A2, n2, c2)) (wr.setCell ⟨ga, k, none⟩ (.slice A2 n2 c2)) := by
  refine ⟨h.bl.far (p := ⟨ga, k, none⟩) (by show ga ≠ _; have := h.hw; omega) _, h.g1.far (p := ⟨ga, k, none⟩) (by show ga ≠ _; have := h.hG; omega) _, h.g2.far (p := ⟨ga, k, none⟩) (by show ga ≠ _; have := h.hH; omega) _, h.la.set _ _, hdr_put h.lh (by omega) (A2, n2, c2), fun i h1 h2 h3 => ?_, h.q.setCell (p := ⟨ga, k, none⟩) (by show w.heap.size ≤ ga; have := h.hw; omega) _, h.hG, h.hw, h.hH⟩
  by_cases e : i = k
  · subst e
    have e1 : (hs.set i (A2, n2, c2))[i] = (A2, n2, c2) := by simp
    rw [e1]
    exact ⟨fa.set _ _, sp⟩
  · have hi : i < hs.length := by simpa using h1
    have e1 : (hs.set k (A2, n2, c2))[i] = hs[i] := by rw [List.getElem_set_ne (by omega)]
    rw [e1]
    obtain ⟨a, b⟩ := h.el i hi h2 (by omega)
    exact ⟨a.set _ _, b⟩
theorem Rg.bk (h : Rg w A n c B m d G H A1 n1 c1 ga all f k hs wr) (hk : all.length ≤ k) : Bk G H A1 n1 c1 ⟨ga, 0, none⟩ all hs f wr :=
  ⟨h.g1, h.g2, h.la.lst, h.lh.lst, fun i h1 h2 => ⟨(h.el i h1 h2 (by omega)).1.lst, (h.el i h1 h2 (by omega)).2⟩⟩
end

set_option maxHeartbeats 8000000 in
set_option maxRecDepth 100000 in
theorem lring_any (A B : Option Addr) (n c m d : Nat) (l : Lo) (txn : Int) (w : World) (hA : Lst holdK w A n l.held) (hB : In_ claimK w B m d l.queue) (hi : I64H l.held) (hj : I64C l.queue) (hn : n + m ≤ 4000) :
    Calls Try.prog 15 #[locV A n c B m d, .int .i64 txn] w fun e w' => RetL numK w (ring l txn).length (ring l txn) e w' := by
  have hnd := nodes_few hA.len hB.len hn
  have KR := Lib.hid (fun W q => lreach_any A B n c m d l txn W (hA.q q) (hB.q q) hi hj hn)
  have KA := Lib.hid (fun x W q => lafter_any A B n c m d l x W (hA.q q) (hB.q q) hi hj hn)
  have hrl := Nat.le_trans (reach_len l txn) hnd
  have KW := Lib.hid (fun G H A1 n1 c1 (ga : Addr) hs W (b : Bk G H A1 n1 c1 ga (reach l txn) hs (aft l) W) (h4 : n1 ≤ 4000) => walk_ring txn (backs l txn) (nodes l) (ring l txn) G H W
    (fun W2 x q _ => ring1_any G H A1 n1 c1 ga (reach l txn) hs (aft l) x W2 (b.q q) h4 (aft_rise l) (fun y => Nat.le_trans (aft_len l y) hnd))
    (fun x _ y hy => backs_node hy) hnd (fun x => Nat.le_trans (backs_len l txn x) hnd) (node_i64 hi hj) (ring_rise l txn) (fun x => mem_ring.trans rc_ring.symm))
  have R0 := Lib.hid (Bx.new w [.slice A n c, .slice B m d] 25)
  have Q0 := Lib.hid ((Q.refl w).alloc (.cells #[.slice A n c, .slice B m d] 25))
  generalize ring l txn = out at KW ⊢
  generalize reach l txn = all at KR KW hrl
  generalize aft l = f at KA KW
  clear hA hB hi hj
  go_enter Try.func15, Try.ntmps15
  go_upto_region 1 with (fail)
  have R0 : Hid (Bx (w.alloc (.cells #[.slice A n c, .slice B m d] 25)) w.heap.size [.slice A n c, .slice B m d]) := R0
  generalize w.alloc (.cells #[.slice A n c, .slice B m d] 25) = W0 at R0 Q0 ⊢
  obtain ⟨⟨b0, b1⟩, f0, f1⟩ := R0.out.get2
  go_wp2_with fail
  refine (KR.out _ Q0.out).mono ?_
  rintro e w1 ⟨A1, c1, rfl, o1, q1⟩
  have O1 := Lib.hid (o1.lst.q ((Q.refl w1).alloc (.cells #[.slice A1 all.length c1] 29)))
  have L1 := Lib.hid (show ∀ ad, A1 = some ad → ad.block < w1.heap.size from fun ad e => (o1.blk e).2)
  have X1 := Lib.hid (Bx.new w1 [.slice A1 all.length c1] 29)
  have hq := q1.trans ((Q.refl w1).alloc (.cells #[.slice A1 all.length c1] 29))
  have R1 := Lib.hid (R0.out.q hq)
  have Q1 := Lib.hid (Q0.out.trans hq)
  have hG1 : w1.heap.size < (w1.alloc (.cells #[.slice A1 all.length c1] 29)).heap.size := by simp
  have hG2 : w.heap.size < w1.heap.size := Nat.lt_of_lt_of_le R0.out.lt q1.size
  clear o1 q1 hq b0 b1 f0 f1 R0 Q0
  go_upto_region 2 with (fail)
  have X1 : Hid (Bx (w1.alloc (.cells #[.slice A1 all.length c1] 29)) w1.heap.size [.slice A1 all.length c1]) := X1
  generalize w1.alloc (.cells #[.slice A1 all.length c1] 29) = W1 at O1 X1 R1 Q1 hG1 ⊢
  generalize w1.heap.size = G at L1 X1 hG1 hG2 ⊢
  have g0 := (X1.out 0 _ rfl).1
  go_upto_region 3 with (refine wpl_makeH rfl _ _ rfl W1.heap.size all.length rfl rfl (by omega) (Nat.le_refl _) ?_
                         intro w3 o3 q3
                         have HQ3 := Lib.hid q3
                         have O3 := Lib.hid o3
                         clear o3 q3)
  have RG := Lib.hid (show Rg w A n c B m d G w3.heap.size A1 all.length c1 W1.heap.size all f 0 (List.replicate all.length (none, 0, 0)) (w3.alloc (.cells #[.slice (some ⟨W1.heap.size, 0, none⟩) all.length all.length] 52)) from by
    have qa := (Q.refl w3).alloc (.cells #[.slice (some ⟨W1.heap.size, 0, none⟩) all.length all.length] 52)
    have qb := HQ3.out.trans qa
    exact ⟨R1.out.q qb, X1.out.q qb, Bx.new w3 [.slice (some ⟨W1.heap.size, 0, none⟩) all.length all.length] 52, ⟨O1.out.q qb, fun ad e _ => ⟨by have := L1.out ad e; omega, by have := L1.out ad e; omega⟩⟩, O3.out.q qa, fun i h1 h2 h3 => by omega, Q1.out.trans qb, hG1, by omega, O3.out.block_lt.2⟩)
  clear O1 L1 X1 R1 Q1 HQ3 O3 g0
  generalize w3.alloc (.cells #[.slice (some ⟨W1.heap.size, 0, none⟩) all.length all.length] 52) = W3 at RG ⊢
  generalize w3.heap.size = H at RG ⊢
  generalize W1.heap.size = ga at RG hG1 ⊢
  have g0 := (RG.out.g1 0 _ rfl).1
  go_wp2
  clear g0
  go_loopw [17] (fun i wr => ∃ (k : Nat) (hs : List Hdr), k ≤ all.length ∧ i = .int .i64 k ∧ hs.length = all.length ∧ Rg w A n c B m d G H A1 all.length c1 ga all f k hs wr) (fun i _ => all.length - (intOf i).toNat)
  case atStart => exact ⟨0, _, Nat.zero_le _, rfl, by simp, RG.out⟩
  case round =>
    clear RG
    obtain ⟨k, hs, hk, rfl, hhl, rg⟩ := hrel
    have RG := Lib.hid rg
    clear rg
    by_cases hlt : k < all.length
    · have hki : (k : Int) < (all.length : Int) := by omega
      obtain ⟨ad, hae, hab, x0⟩ := load_num RG.out.la.lst hlt hlt
      subst hae
      have HPt := Lib.hid (fun A2 n2 c2 W (q : Q wr W) (h1 : Fa ga ga W A2 n2 (f all[k])) h2 => (RG.out.step q).put (c2 := c2) hlt hhl h1 h2)
      generalize all[k] = u at x0 HPt
      obtain ⟨⟨b0, b1⟩, f0, f1⟩ := RG.out.bl.get2
      have g0 := (RG.out.g2 0 _ rfl).1
      have hgl : ga < wr.heap.size := RG.out.lh.block_lt.2
      go_wp2
      refine wp_region_heldL 6 (Q wr) (by kernel_rfl) ?szz0 (fun hHeld => ?rzz0)
      case szz0 =>
        exact (Q.refl wr).drew
      case' rzz0 => skip
      generalize hgen : wr.drew = D0 at hHeld ⊢
      clear hgen
      refine wpAnyL_take (i := 0) (oi := ?ozz1) (v := ?vzz1) ?hzz1 ?azz1 ?bzz1 ?czz1 ?kzz1 ?qzz1 ?yzz1 ?szz1 ?rzz1
      case hzz1 => simp only [List.getElem?_toArray, List.getElem?_cons_zero]; rfl
      case azz1 => kernel_rfl
      case bzz1 => kernel_rfl
      case czz1 => kernel_rfl
      case kzz1 => kernel_rfl
      case yzz1 =>
        refine Or.inl ⟨by rfl, ?_⟩
        intro w hSw
        have z0 := box_ hSw b0; have z1 := box_ hSw b1; have z2 := box_ hSw g0; clear hSw
        go_simp
        try with_reducible rfl
      case qzz1 => exact fun _ _ _ h => h
      case szz1 => first | assumption | trivial
      case' rzz1 => simp only [Act.put, List.setIfInBounds_toArray, List.set_cons_zero, List.set_cons_succ]
      refine wpAnyL_take (i := 1) (oi := ?ozz2) (v := ?vzz2) ?hzz2 ?azz2 ?bzz2 ?czz2 ?kzz2 ?qzz2 ?yzz2 ?szz2 ?rzz2
      case hzz2 => simp only [List.getElem?_toArray, List.getElem?_cons_zero, List.getElem?_cons_succ]; rfl
      case azz2 => kernel_rfl
      case bzz2 => kernel_rfl
      case czz2 => kernel_rfl
      case kzz2 => kernel_rfl
      case yzz2 =>
        refine Or.inl ⟨by rfl, ?_⟩
        intro w hSw
        have z0 := box_ hSw b0; have z1 := box_ hSw b1; have z2 := box_ hSw g0; clear hSw
        go_simp
        try with_reducible rfl
      case qzz2 => exact fun _ _ _ h => h
      case szz2 => first | assumption | trivial
      case' rzz2 => simp only [Act.put, List.setIfInBounds_toArray, List.set_cons_zero, List.set_cons_succ]
      refine wpAnyL_take (i := 2) (oi := ?ozz3) (v := ?vzz3) ?hzz3 ?azz3 ?bzz3 ?czz3 ?kzz3 ?qzz3 ?yzz3 ?szz3 ?rzz3
      case hzz3 => simp only [List.getElem?_toArray, List.getElem?_cons_zero, List.getElem?_cons_succ]; rfl
      case azz3 => kernel_rfl
      case bzz3 => kernel_rfl
      case czz3 => kernel_rfl
      case kzz3 => kernel_rfl
      case yzz3 =>
        refine Or.inl ⟨by rfl, ?_⟩
        intro w hSw
        have z0 := box_ hSw b0; have z1 := box_ hSw b1; have z2 := box_ hSw g0; clear hSw
        go_simp
        try with_reducible rfl
      case qzz3 => exact fun _ _ _ h => h
      case szz3 => first | assumption | trivial
      case' rzz3 => simp only [Act.put, List.setIfInBounds_toArray, List.set_cons_zero, List.set_cons_succ]
      refine wpAnyL_take (i := 3) (oi := ?ozz4) (v := ?vzz4) ?hzz4 ?azz4 ?bzz4 ?czz4 ?kzz4 ?qzz4 ?yzz4 ?szz4 ?rzz4
      case hzz4 => simp only [List.getElem?_toArray, List.getElem?_cons_zero, List.getElem?_cons_succ]; rfl
      case azz4 => kernel_rfl
      case bzz4 => kernel_rfl
      case czz4 => kernel_rfl
      case kzz4 => kernel_rfl
      case yzz4 =>
        refine Or.inl ⟨by rfl, ?_⟩
        intro w hSw
        have z0 := box_ hSw b0; have z1 := box_ hSw b1; have z2 := box_ hSw g0; clear hSw
        go_simp
        try with_reducible rfl
      case qzz4 => exact fun _ _ _ h => h
      case szz4 => first | assumption | trivial
      case' rzz4 => simp only [Act.put, List.setIfInBounds_toArray, List.set_cons_zero, List.set_cons_succ]
      refine wpAnyL_ready (rs := [4]) (by kernel_rfl) (by simp) ?_
      refine AllReadyL.cons (o := ?ozz7) ?hzz7 (fun K hK => ?kzz7) ?mzz7
      case hzz7 => simp only [List.getElem?_toArray, List.getElem?_cons_zero, List.getElem?_cons_succ]; rfl
      case kzz7 =>
        go_simp
        refine (KA.out u _ (RG.out.q.trans hHeld)).mono ?_
        rintro e v1 ⟨A4, c4, rfl, o1, q1⟩
        have HD := Lib.hid (o1.lower (b2 := ga + 1) (Nat.lt_of_lt_of_le hgl hHeld.size))
        go_wp2_with fail
        refine hK.out _ _ ?Szz7 (fun hHeld => ?Rzz7)
        case Szz7 =>
          exact hHeld.trans q1
        case Rzz7 =>
          clear hK K
          try simp only [Act.put, List.setIfInBounds_toArray, List.set_cons_zero, List.set_cons_succ]
          refine wpAnyL_take (i := 5) (oi := ?ozz5) (v := ?vzz5) ?hzz5 ?azz5 ?bzz5 ?czz5 ?kzz5 ?qzz5 ?yzz5 ?szz5 ?rzz5
          case hzz5 => simp only [List.getElem?_toArray, List.getElem?_cons_zero, List.getElem?_cons_succ]; rfl
          case azz5 => kernel_rfl
          case bzz5 => kernel_rfl
          case czz5 => kernel_rfl
          case kzz5 => kernel_rfl
          case yzz5 =>
            refine Or.inl ⟨by rfl, ?_⟩
            intro w hSw
            have z0 := box_ hSw b0; have z1 := box_ hSw b1; have z2 := box_ hSw g0; clear hSw
            go_simp
            try with_reducible rfl
          case qzz5 => exact fun _ _ _ h => h
          case szz5 => first | assumption | trivial
          case' rzz5 => simp only [Act.put, List.setIfInBounds_toArray, List.set_cons_zero, List.set_cons_succ]
          refine wpAnyL_ready (rs := [6]) (by kernel_rfl) (by simp) ?_
          refine AllReadyL.consK (o := ?ozz6) ?hzz6 ?lzz6 (fun K hK => ?kzz6) ?mzz6
          case hzz6 => simp only [List.getElem?_toArray, List.getElem?_cons_zero, List.getElem?_cons_succ]; rfl
          case lzz6 => kernel_rfl
          case kzz6 =>
            have HZ := Lib.hid hHeld
            have hgk := hdr_cell ((RG.out.step hHeld).lh) (k := k) (by omega)
            obtain ⟨p0, p1⟩ := hgk
            have X5 := Lib.hid HD.out
            go_simp
            refine hK.out _ _ ?Rzz6
            case Rzz6 =>
              clear hK K
              try simp only [Act.put, List.setIfInBounds_toArray, List.set_cons_zero, List.set_cons_succ]
              refine wpAnyH_done (by kernel_rfl) ?_ _
              have FA := Lib.hid (show Fa ga ga v1 A4 (f u).length (f u) from Fa.own X5.out (Nat.lt_succ_self _) (Nat.lt_succ_self _))
              have RG2 := Lib.hid (HPt.out A4 (f u).length c4 _ HZ.out FA.out X5.out.spot)
              clear X5 FA HPt x0 b0 b1 f0 f1 g0 p0 p1
              go_wp2
              go_roundw
              case rel => exact ⟨k + 1, hs.set k (A4, (f u).length, c4), by omega, by go_num, by rw [List.length_set]; exact hhl, RG2.out⟩
              case measure => simp [intOf]; omega
          case' mzz6 => skip
          exact AllReadyL.nil
      case' mzz7 => skip
      exact AllReadyL.nil

    · have hkn : k = all.length := by omega
      have BK := Lib.hid (RG.out.bk (by omega))
      have KK := Lib.hid (KW.out G H A1 all.length c1 ⟨ga, 0, none⟩ hs wr BK.out hrl)
      go_wp2_with fail
      refine KK.out.mono ?_
      rintro e w5 ⟨A5, c5, rfl, o5, q5⟩
      have O5 := Lib.hid (o5.lower RG.out.q.size)
      have Q5 := Lib.hid (RG.out.q.trans q5)
      clear o5 q5
      go_wp2
      go_ret
      exact ⟨A5, c5, rfl, O5.out, Q5.out⟩

set_option maxHeartbeats 2000000 in
theorem lvictim_any (A B : Option Addr) (n c m d : Nat) (l : Lo) (txn : Int) (w : World) (hA : Lst holdK w A n l.held) (hB : In_ claimK w B m d l.queue) (hi : I64H l.held) (hj : I64C l.queue) (hn : n + m ≤ 4000) :
    Calls Try.prog 17 #[locV A n c B m d, .int .i64 txn] w fun e w' => e = .returned (.tuple #[.int .i64 ((ring l txn).getLast?.getD 0), .bool (decide (ring l txn ≠ []))]) ∧ Q w w' := by
  have KR := Lib.hid (fun W q => lring_any A B n c m d l txn W (hA.q q) (hB.q q) hi hj hn)
  have HNd := Lib.hid (show (ring l txn).length ≤ 4000 by have := ring_len l txn; have := nodes_len l; have := hA.len; have := hB.len; omega)
  have R0 := Lib.hid (Bx.new w [.slice A n c, .slice B m d] 25)
  have Q0 := Lib.hid ((Q.refl w).alloc (.cells #[.slice A n c, .slice B m d] 25))
  generalize ring l txn = r at KR HNd ⊢
  clear hA hB hi hj
  cases r with
  | nil =>
    simp only [List.getLast?_nil, Option.getD_none, ne_eq, not_true_eq_false, decide_false]
    go_enter Try.func17, Try.ntmps17
    go_upto_region 1 with (fail)
    generalize w.alloc (.cells #[.slice A n c, .slice B m d] 25) = W0 at R0 Q0 ⊢
    obtain ⟨⟨b0, b1⟩, f0, f1⟩ := R0.out.get2
    go_wp2_with fail
    refine (KR.out _ Q0.out).mono ?_
    rintro e w1 ⟨A1, c1, rfl, o1, q1⟩
    have O1 := Lib.hid o1
    have Q1 := Lib.hid (Q0.out.trans q1)
    clear o1 q1 b0 b1 f0 f1
    go_wp2
    refine bodyPost_ret (v := .tuple #[.int .i64 0, .bool false]) (by simp [results, Try.results17, go_sem]) rfl ?_
    exact ⟨rfl, Q1.out⟩
  | cons a r =>
    have hlast : (a :: r).getLast? = some (a :: r)[r.length] := by
      rw [List.getLast?_eq_getElem?, List.getElem?_eq_getElem (by simp)]; simp
    have hne : decide (a :: r ≠ []) = true := by simp
    rw [hlast, Option.getD_some, hne]
    have HV := Lib.hid (fun W A (h : Lst numK W A (a :: r).length (a :: r)) => load_num h (k := r.length) (by simp) (by simp))
    generalize (a :: r)[r.length] = v at HV ⊢
    clear hlast hne
    go_enter Try.func17, Try.ntmps17
    go_upto_region 1 with (fail)
    generalize w.alloc (.cells #[.slice A n c, .slice B m d] 25) = W0 at R0 Q0 ⊢
    obtain ⟨⟨b0, b1⟩, f0, f1⟩ := R0.out.get2
    go_wp2_with fail
    refine (KR.out _ Q0.out).mono ?_
    rintro e w1 ⟨A1, c1, rfl, o1, q1⟩
    have O1 := Lib.hid o1
    have Q1 := Lib.hid (Q0.out.trans q1)
    clear o1 q1 b0 b1 f0 f1
    obtain ⟨ad, hae, hab, x0⟩ := HV.out _ _ O1.out.lst
    subst hae
    have hle : r.length + 1 ≤ 4000 := HNd.out
    have hlen : (a :: r).length = r.length + 1 := rfl
    rw [hlen] at O1 ⊢
    go_wp2
    refine bodyPost_ret (v := .tuple #[.int .i64 v, .bool true]) (by simp [results, Try.results17, go_sem]) rfl ?_
    exact ⟨rfl, Q1.out⟩
end Go.Proofs.Ytncnfblnelkmbaa
