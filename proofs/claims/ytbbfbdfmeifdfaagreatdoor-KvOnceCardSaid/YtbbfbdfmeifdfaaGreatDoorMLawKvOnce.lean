/- For every room, every list of batches and every two batches: behind at most 100 commits and one that is OK, a batch of the same token is told that it is there, behind a crash, too. No condition. -/
import Derived.Test.YtbbfbdfmeifdfaaGreatDoorJ11
import Derived.Test.YtbbfbdfmeifdfaaGreatDoorJ3
namespace Go.Proofs.YtbbfbdfmeifdfaaGreatDoor.kvOnce
set_option maxRecDepth 100000
open Go.ChangeShapes Go.WideShapes Go.ChangeAt Go.RowKit Dkm Prm Km Wm
set_option linter.unusedVariables false
set_option linter.unusedSimpArgs false

/-- the law's two batches, in boxes. -/
structure Oz (w : World) (kb : Int) (tb : ByteArray) (D : Option Addr) (dn dc : Nat) (ka : Int) (ta : ByteArray) (E : Option Addr) (en ec : Nat) (wi : World) : Prop where
  b1 : Bx wi (w.heap.size + 1) [.int .i64 kb, .string tb, .slice D dn dc]
  b2 : Bx wi (w.heap.size + 1 + 1) [.int .i64 ka, .string ta, .slice E en ec]
  q : Q w wi
section
variable {w wi wj : World} {kb ka : Int} {tb ta : ByteArray} {D E : Option Addr} {dn dc en ec : Nat}
theorem Oz.step (h : Oz w kb tb D dn dc ka ta E en ec wi) (q : Q wi wj) : Oz w kb tb D dn dc ka ta E en ec wj := ⟨h.b1.q q, h.b2.q q, h.q.trans q⟩
theorem Oz.new (w : World) (room kb ka : Int) (tb ta : ByteArray) (A D E : Option Addr) (n c dn dc en ec : Nat) : Oz w kb tb D dn dc ka ta E en ec (((w.alloc (.cells #[.int .i64 room, .slice A n c, .int .i64 kb, .string tb, .slice D dn dc, .int .i64 ka, .string ta, .slice E en ec] 76)).alloc (.cells #[.int .i64 kb, .string tb, .slice D dn dc] 48)).alloc (.cells #[.int .i64 ka, .string ta, .slice E en ec] 48)) := by
  refine ⟨?_, ?_, (((Q.refl w).alloc _).alloc _).alloc _⟩
  · have := (Bx.new (w.alloc (.cells #[.int .i64 room, .slice A n c, .int .i64 kb, .string tb, .slice D dn dc, .int .i64 ka, .string ta, .slice E en ec] 76)) [.int .i64 kb, .string tb, .slice D dn dc] 48).alloc (.cells #[.int .i64 ka, .string ta, .slice E en ec] 48)
    simpa using this
  · have := Bx.new ((w.alloc (.cells #[.int .i64 room, .slice A n c, .int .i64 kb, .string tb, .slice D dn dc, .int .i64 ka, .string ta, .slice E en ec] 76)).alloc (.cells #[.int .i64 kb, .string tb, .slice D dn dc] 48)) [.int .i64 ka, .string ta, .slice E en ec] 48
    simpa using this
theorem Oz.stk (h : Oz w kb tb D dn dc ka ta E en ec wi) {g : Nat} (hg : w.heap.size + 1 + 1 < g) (us : List (Nat × Value)) : Oz w kb tb D dn dc ka ta E en ec (Go.Proofs.YtbbfbdfmeifdfaaGreatDoor.stk wi g us) :=
  ⟨h.b1.far_stk (by omega) us, h.b2.far_stk (by omega) us, Q.stk (by omega) us h.q⟩
end

set_option maxHeartbeats 8000000 in
set_option maxRecDepth 100000 in
theorem walk (room : Int) (A : Option Addr) (n c : Nat) (rl : List BRaw) (bl : List Bm.Bt) (kb : Int) (tb : ByteArray) (D : Option Addr) (dn dc : Nat) (wb : List Wr) (ka : Int) (ta : ByteArray) (E : Option Addr) (en ec : Nat) (wa : List Wr) (w : World) (hT : ∃ a b, Kt w a b)
    (hroom : room ≤ 9223372036854775807) (hA : In_ rawK w A n c rl) (hbl : bl.length = n) (hst : ∀ i, ∀ h1 : i < rl.length, ∀ h2 : i < bl.length, Stands w rl[i] bl[i]) (hD : In_ writeK w D dn dc wb) (hE : In_ writeK w E en ec wa) :
    Calls Tryz.prog 7 #[.agg #[.int .i64 room, .slice A n c, .int .i64 kb, .string tb, .slice D dn dc, .int .i64 ka, .string ta, .slice E en ec]] w fun e w' => e = .returned (.bool true) ∧ Q w w' := by
  obtain ⟨a, b, hT⟩ := hT
  have HT := Lib.hid hT
  have HA := Lib.hid hA
  have HS := Lib.hid hst
  have HB := Lib.hid hbl
  have HL := Lib.hid hA.len
  have HD := Lib.hid hD
  have HE := Lib.hid hE
  have hn0 : n ≤ 9223372036854775807 := hA.max
  have Z0 := Lib.hid (Oz.new w room kb ka tb ta A D E n c dn dc en ec)
  clear hT hA hst hbl hD hE
  by_cases hr : room < 0
  · have KN := Lib.hid (fun W => ref_new_neg room W hr)
    have KO := Lib.hid (fun (W : World) (q : Q w W) => kOpen_no none 0 0 ⟨[], 0, 0, false⟩ W a b (HT.out.q q) (kr0 W).dsk ⟨by simp, by simp, ⟨by simp, by simp⟩, ⟨by simp, by simp⟩⟩ (by rw [redd_none (by simp)]; decide) (by rw [rec_new]; simp))
    generalize openM ⟨[], 0, 0, false⟩ = y at KO
    obtain ⟨y, er⟩ := y
    obtain ⟨⟨l2, room2, fuse2, off2⟩, frm2, seg2, run2, s2, down2⟩ := y
    clear hr
    go_enter Tryz.func7, Tryz.ntmps7
    go_upto_region 5 with (fail)
    generalize (((w.alloc (.cells #[.int .i64 room, .slice A n c, .int .i64 kb, .string tb, .slice D dn dc, .int .i64 ka, .string ta, .slice E en ec] 76)).alloc (.cells #[.int .i64 kb, .string tb, .slice D dn dc] 48)).alloc (.cells #[.int .i64 ka, .string ta, .slice E en ec] 48)) = W at Z0 ⊢
    go_wp2_with fail
    refine (kshown_any a b _ (HT.out.q Z0.out.q)).mono ?_
    rintro e w1 ⟨rfl, q1⟩
    go_wp2_with fail
    refine (KN.out _).mono ?_
    rintro e w2 ⟨rfl, q2⟩
    have QA := Lib.hid (((Z0.out.q.trans q1).trans q2).alloc (.cells #[.slice none 0 0, .int .i64 0, .int .i64 0, .bool false] 24))
    clear q1 q2
    go_wp2_with fail
    refine (KO.out _ QA.out).mono ?_
    rintro e w3 ⟨p, rfl, k3, q3⟩
    obtain ⟨A2, n2, c2, B2, bn2, bc2, C2, cn2, cc2⟩ := p
    have QB := Lib.hid ((QA.out.trans q3).alloc (.cells #[.slice A2 n2 c2, .int .i64 room2, .int .i64 fuse2, .bool off2, .int .i64 frm2, .int .i64 seg2, .int .i64 run2, .slice B2 bn2 bc2, .slice C2 cn2 cc2, .bool down2] 32))
    clear k3 q3 QA
    go_wp2
    go_ret
    exact ⟨by first | rfl | simp, by first | exact QB.out | exact QB.out.drew⟩
  have hr0 : 0 ≤ room := by omega
  have KN := Lib.hid (fun W => ref_new_any room W hr0)
  have HK0 := Lib.hid (kg_new hr0 hroom)
  have KO := Lib.hid (fun (W : World) (q : Q w W) => by
    have := kOpen_no none 0 0 ⟨[], room, -1, false⟩ W a b (HT.out.q q) (kr0 W).dsk HK0.out.bnd (by rw [redd_none (by simp)]; decide) (by rw [rec_new]; simp)
    rw [open_new] at this
    exact this)
  clear hr hr0 hroom
  go_enter Tryz.func7, Tryz.ntmps7
  go_upto_region 5 with (fail)
  generalize (((w.alloc (.cells #[.int .i64 room, .slice A n c, .int .i64 kb, .string tb, .slice D dn dc, .int .i64 ka, .string ta, .slice E en ec] 76)).alloc (.cells #[.int .i64 kb, .string tb, .slice D dn dc] 48)).alloc (.cells #[.int .i64 ka, .string ta, .slice E en ec] 48)) = W at Z0 ⊢
  go_wp2_with fail
  refine (kshown_any a b _ (HT.out.q Z0.out.q)).mono ?_
  rintro e w1 ⟨rfl, q1⟩
  go_wp2_with fail
  refine (KN.out _).mono ?_
  rintro e w2 ⟨rfl, q2⟩
  have Z1 := Lib.hid (((Z0.out.step q1).step q2).step ((Q.refl w2).alloc (.cells #[.slice none 0 0, .int .i64 room, .int .i64 (-1), .bool false] 24)))
  clear q1 q2 Z0
  go_wp2_with fail
  refine (KO.out _ Z1.out.q).mono ?_
  rintro e w3 ⟨p, rfl, k3, q3⟩
  obtain ⟨A3, n3, c3, B3, bn3, bc3, C3, cn3, cc3⟩ := p
  have X0 : Hid (Kb (w3.alloc (.cells #[.slice A3 n3 c3, .int .i64 room, .int .i64 (-1), .bool false, .int .i64 1, .int .i64 1, .int .i64 0, .slice B3 bn3 bc3, .slice C3 cn3 cc3, .bool false] 32)) w3.heap.size ⟨A3, n3, c3, B3, bn3, bc3, C3, cn3, cc3⟩ ⟨⟨[], room, -1, false⟩, 1, 1, 0, ⟨[], []⟩, false⟩) := Lib.hid (Kb.new k3)
  have O0 : Hid (Oz w kb tb D dn dc ka ta E en ec (w3.alloc (.cells #[.slice A3 n3 c3, .int .i64 room, .int .i64 (-1), .bool false, .int .i64 1, .int .i64 1, .int .i64 0, .slice B3 bn3 bc3, .slice C3 cn3 cc3, .bool false] 32))) := Lib.hid ((Z1.out.step q3).step ((Q.refl w3).alloc _))
  have hg : w.heap.size + 1 + 1 < w3.heap.size := by have := (Z1.out.step q3).b2.lt; omega
  clear k3 q3 Z1 KO KN
  go_upto_region 10 with (fail)
  generalize w3.alloc (.cells #[.slice A3 n3 c3, .int .i64 room, .int .i64 (-1), .bool false, .int .i64 1, .int .i64 1, .int .i64 0, .slice B3 bn3 bc3, .slice C3 cn3 cc3, .bool false] 32) = W1 at X0 O0 ⊢
  generalize w3.heap.size = g at X0 hg ⊢
  go_wp2
  go_loopw [12] (fun i wr => ∃ (j : Nat) (p : Kp) (x : Ks), j ≤ n ∧ j ≤ 100 ∧ i = .int .i64 j ∧ Kb wr g p x ∧ Kg j x ∧ Oz w kb tb D dn dc ka ta E en ec wr) (fun i _ => n - (intOf i).toNat)
  case atStart => exact ⟨0, _, _, Nat.zero_le _, Nat.zero_le _, rfl, X0.out, HK0.out, O0.out⟩
  case round =>
    obtain ⟨j, p, x, hj, hj2, rfl, x1, hkg, ho⟩ := hrel
    have X := Lib.hid x1
    have HG := Lib.hid hkg
    have O1 := Lib.hid ho
    clear x1 X0 hkg ho O0 HK0
    by_cases hlt : j < n ∧ j < 100
    · obtain ⟨hlt, hlt2⟩ := hlt
      have hjn : (j : Int) < (n : Int) := by omega
      have hjn2 : (j : Int) < 100 := by omega
      have hj0 : (0 : Int) ≤ (j : Int) := by omega
      have hrl : j < rl.length := by have := HL.out; omega
      have hbl : j < bl.length := by have := HB.out; omega
      obtain ⟨ad, rfl, hab0, y0, y1, y2⟩ := load_raw HA.out.lst hlt hrl
      obtain ⟨e1, e2, hC⟩ := HS.out j hrl hbl
      generalize rl[j] = r at y0 y1 y2 e1 e2 hC
      generalize bl[j] = bb at e1 e2 hC
      obtain ⟨rk, rt, CC, pp, qq⟩ := r
      obtain ⟨k, tok, ws⟩ := bb
      simp only at e1 e2 hC y0 y1 y2
      subst e1 e2
      have y0 := box_ O1.out.q y0
      have y1 := box_ O1.out.q y1
      have y2 := box_ O1.out.q y2
      have KC := Lib.hid (fun W (y : Q wr W) => Com_kg HG.out (by omega) p rk rt CC pp qq ws W a b ((HT.out.q O1.out.q).q y) (X.out.is.q y) ((hC.lst.q O1.out.q).q y) hC.max)
      have HG2 := Lib.hid (HG.out.com ⟨rk, rt, ws⟩)
      generalize comM x ⟨rk, rt, ws⟩ = T at KC HG2
      obtain ⟨T, er⟩ := T
      obtain ⟨⟨l2, room2, fuse2, off2⟩, frm2, seg2, run2, s2, down2⟩ := T
      obtain ⟨A1, n1, c1, B1, bn1, bc1, C1, cn1, cc1⟩ := p
      obtain ⟨⟨l1, room1, fuse1, off1⟩, frm1, seg1, run1, s1, down1⟩ := x
      simp only at KC HG2
      clear hC
      go_upto_region 13 with (fail)
      refine wp_region_heldL 9 (fun w' => Bx w' g (kL ⟨A1, n1, c1, B1, bn1, bc1, C1, cn1, cc1⟩ ⟨⟨l1, room1, fuse1, off1⟩, frm1, seg1, run1, s1, down1⟩) ∧ w'.cell? (ad.add (j * 3)) = some (.int .i64 rk) ∧ w'.cell? ⟨(ad.add (j * 3)).block, (ad.add (j * 3)).off + 1, none⟩ = some (.string rt) ∧ w'.cell? ⟨(ad.add (j * 3)).block, (ad.add (j * 3)).off + 2, none⟩ = some (.slice CC pp qq)) (by kernel_rfl) ?szz0 (fun hHeld => ?rzz0)
      case szz0 =>
        exact ⟨X.out.box.drew, y0, y1, y2⟩
      case' rzz0 => skip
      refine wpAnyL_take (i := 0) (oi := ?ozz1) (v := ?vzz1) ?hzz1 ?azz1 ?bzz1 ?czz1 ?kzz1 ?qzz1 ?yzz1 ?szz1 ?rzz1
      case hzz1 => simp only [List.getElem?_toArray, List.getElem?_cons_zero]; rfl
      case azz1 => kernel_rfl
      case bzz1 => kernel_rfl
      case czz1 => kernel_rfl
      case kzz1 => kernel_rfl
      case yzz1 =>
        refine Or.inl ⟨by rfl, ?_⟩
        intro w hSw
        obtain ⟨s0, s1, s2, s3⟩ := hSw
        obtain ⟨z0, z1, z2, z3, z4, z5, z6, z7, z8, z9⟩ := kget s0
        go_simp
        try with_reducible rfl
      case qzz1 => exact fun _ _ _ h => h
      case szz1 => first | assumption | trivial
      case' rzz1 => simp only [Act.put, List.setIfInBounds_toArray, List.set_cons_zero, List.set_cons_succ]
      refine wpAnyL_take (i := 1) (oi := ?ozz2) (v := ?vzz2) ?hzz2 ?azz2 ?bzz2 ?czz2 ?kzz2 ?qzz2 ?yzz2 ?szz2 ?rzz2
      case hzz2 => simp only [List.getElem?_toArray, List.getElem?_cons_zero, List.getElem?_cons_succ]; rfl
      case azz2 => kernel_rfl
      case bzz2 => kernel_rfl
      case czz2 => kernel_rfl
      case kzz2 => kernel_rfl
      case yzz2 =>
        refine Or.inl ⟨by rfl, ?_⟩
        intro w hSw
        obtain ⟨s0, s1, s2, s3⟩ := hSw
        obtain ⟨z0, z1, z2, z3, z4, z5, z6, z7, z8, z9⟩ := kget s0
        go_simp
        try with_reducible rfl
      case qzz2 => exact fun _ _ _ h => h
      case szz2 => first | assumption | trivial
      case' rzz2 => simp only [Act.put, List.setIfInBounds_toArray, List.set_cons_zero, List.set_cons_succ]
      refine wpAnyL_take (i := 2) (oi := ?ozz3) (v := ?vzz3) ?hzz3 ?azz3 ?bzz3 ?czz3 ?kzz3 ?qzz3 ?yzz3 ?szz3 ?rzz3
      case hzz3 => simp only [List.getElem?_toArray, List.getElem?_cons_zero, List.getElem?_cons_succ]; rfl
      case azz3 => kernel_rfl
      case bzz3 => kernel_rfl
      case czz3 => kernel_rfl
      case kzz3 => kernel_rfl
      case yzz3 =>
        refine Or.inl ⟨by rfl, ?_⟩
        intro w hSw
        obtain ⟨s0, s1, s2, s3⟩ := hSw
        obtain ⟨z0, z1, z2, z3, z4, z5, z6, z7, z8, z9⟩ := kget s0
        go_simp
        try with_reducible rfl
      case qzz3 => exact fun _ _ _ h => h
      case szz3 => first | assumption | trivial
      case' rzz3 => simp only [Act.put, List.setIfInBounds_toArray, List.set_cons_zero, List.set_cons_succ]
      refine wpAnyL_take (i := 3) (oi := ?ozz4) (v := ?vzz4) ?hzz4 ?azz4 ?bzz4 ?czz4 ?kzz4 ?qzz4 ?yzz4 ?szz4 ?rzz4
      case hzz4 => simp only [List.getElem?_toArray, List.getElem?_cons_zero, List.getElem?_cons_succ]; rfl
      case azz4 => kernel_rfl
      case bzz4 => kernel_rfl
      case czz4 => kernel_rfl
      case kzz4 => kernel_rfl
      case yzz4 =>
        refine Or.inl ⟨by rfl, ?_⟩
        intro w hSw
        obtain ⟨s0, s1, s2, s3⟩ := hSw
        obtain ⟨z0, z1, z2, z3, z4, z5, z6, z7, z8, z9⟩ := kget s0
        go_simp
        try with_reducible rfl
      case qzz4 => exact fun _ _ _ h => h
      case szz4 => first | assumption | trivial
      case' rzz4 => simp only [Act.put, List.setIfInBounds_toArray, List.set_cons_zero, List.set_cons_succ]
      refine wpAnyL_take (i := 4) (oi := ?ozz5) (v := ?vzz5) ?hzz5 ?azz5 ?bzz5 ?czz5 ?kzz5 ?qzz5 ?yzz5 ?szz5 ?rzz5
      case hzz5 => simp only [List.getElem?_toArray, List.getElem?_cons_zero, List.getElem?_cons_succ]; rfl
      case azz5 => kernel_rfl
      case bzz5 => kernel_rfl
      case czz5 => kernel_rfl
      case kzz5 => kernel_rfl
      case yzz5 =>
        refine Or.inl ⟨by rfl, ?_⟩
        intro w hSw
        obtain ⟨s0, s1, s2, s3⟩ := hSw
        obtain ⟨z0, z1, z2, z3, z4, z5, z6, z7, z8, z9⟩ := kget s0
        go_simp
        try with_reducible rfl
      case qzz5 => exact fun _ _ _ h => h
      case szz5 => first | assumption | trivial
      case' rzz5 => simp only [Act.put, List.setIfInBounds_toArray, List.set_cons_zero, List.set_cons_succ]
      refine wpAnyL_ready (rs := [5]) (by kernel_rfl) (by simp) ?_
      refine AllReadyL.cons (o := ?ozz12) ?hzz12 (fun K hK => ?kzz12) ?mzz12
      case hzz12 => simp only [List.getElem?_toArray, List.getElem?_cons_zero, List.getElem?_cons_succ]; rfl
      case kzz12 =>
        go_simp
        refine (KC.out _ ((Q.refl _).drew)).mono ?_
        rintro e w5 ⟨p5, rfl, k5, q5⟩
        obtain ⟨A5, n5, c5, B5, bn5, bc5, C5, cn5, cc5⟩ := p5
        have QK := Lib.hid ((Q.refl wr).drew.trans q5)
        have BX := Lib.hid (X.out.box.q QK.out)
        have U0 := Kb.whole BX.out k5
        have O0 := (O1.out.step QK.out).stk hg (us10 ⟨A5, n5, c5, B5, bn5, bc5, C5, cn5, cc5⟩ ⟨⟨l2, room2, fuse2, off2⟩, frm2, seg2, run2, s2, down2⟩)
        dsimp only [us10, stk] at U0 O0
        have U := Lib.hid U0
        have OO := Lib.hid O0
        clear U0 O0 k5
        go_wp2_with fail
        refine hK.out _ _ ?Szz12 (fun hHeld => ?Rzz12)
        case Szz12 =>
          exact ⟨BX.out, box_ QK.out y0, box_ QK.out y1, box_ QK.out y2⟩
        case Rzz12 =>
          clear hK K
          try simp only [Act.put, List.setIfInBounds_toArray, List.set_cons_zero, List.set_cons_succ]
          refine wpAnyL_take (i := 6) (oi := ?ozz6) (v := ?vzz6) ?hzz6 ?azz6 ?bzz6 ?czz6 ?kzz6 ?qzz6 ?yzz6 ?szz6 ?rzz6
          case hzz6 => simp only [List.getElem?_toArray, List.getElem?_cons_zero, List.getElem?_cons_succ]; rfl
          case azz6 => kernel_rfl
          case bzz6 => kernel_rfl
          case czz6 => kernel_rfl
          case kzz6 => kernel_rfl
          case yzz6 =>
            refine Or.inl ⟨by rfl, ?_⟩
            intro w hSw
            obtain ⟨s0, s1, s2, s3⟩ := hSw
            obtain ⟨z0, z1, z2, z3, z4, z5, z6, z7, z8, z9⟩ := kget s0
            go_simp
            try with_reducible rfl
          case qzz6 => exact fun _ _ _ h => h
          case szz6 => first | assumption | trivial
          case' rzz6 => simp only [Act.put, List.setIfInBounds_toArray, List.set_cons_zero, List.set_cons_succ]
          refine wpAnyL_take (i := 7) (oi := ?ozz7) (v := ?vzz7) ?hzz7 ?azz7 ?bzz7 ?czz7 ?kzz7 ?qzz7 ?yzz7 ?szz7 ?rzz7
          case hzz7 => simp only [List.getElem?_toArray, List.getElem?_cons_zero, List.getElem?_cons_succ]; rfl
          case azz7 => kernel_rfl
          case bzz7 => kernel_rfl
          case czz7 => kernel_rfl
          case kzz7 => kernel_rfl
          case yzz7 =>
            refine Or.inl ⟨by rfl, ?_⟩
            intro w hSw
            obtain ⟨s0, s1, s2, s3⟩ := hSw
            obtain ⟨z0, z1, z2, z3, z4, z5, z6, z7, z8, z9⟩ := kget s0
            go_simp
            try with_reducible rfl
          case qzz7 => exact fun _ _ _ h => h
          case szz7 => first | assumption | trivial
          case' rzz7 => simp only [Act.put, List.setIfInBounds_toArray, List.set_cons_zero, List.set_cons_succ]
          refine wpAnyL_ready (rs := [8, 9]) (by kernel_rfl) (by simp) ?_
          refine AllReadyL.cons (o := ?ozz10) ?hzz10 (fun K hK => ?kzz10) ?mzz10
          case hzz10 => simp only [List.getElem?_toArray, List.getElem?_cons_zero, List.getElem?_cons_succ]; rfl
          case kzz10 =>
            go_simp
            refine hK.out _ _ ?Szz10 (fun hHeld => ?Rzz10)
            case Szz10 =>
              exact ⟨BX.out, box_ QK.out y0, box_ QK.out y1, box_ QK.out y2⟩
            case Rzz10 =>
              clear hK K
              try simp only [Act.put, List.setIfInBounds_toArray, List.set_cons_zero, List.set_cons_succ]
              refine wpAnyL_ready (rs := [9]) (by kernel_rfl) (by simp) ?_
              refine AllReadyL.consK (o := ?ozz8) ?hzz8 ?lzz8 (fun K hK => ?kzz8) ?mzz8
              case hzz8 => simp only [List.getElem?_toArray, List.getElem?_cons_zero, List.getElem?_cons_succ]; rfl
              case lzz8 => kernel_rfl
              case kzz8 =>
                obtain ⟨e0, e1, e2, e3, e4, e5, e6, e7, e8, e9⟩ := kget BX.out
                obtain ⟨f0, f1, f2, f3, f4, f5, f6, f7, f8, f9⟩ := kfree BX.out
                go_simp
                refine hK.out _ _ ?Rzz8
                case Rzz8 =>
                  clear hK K
                  try simp only [Act.put, List.setIfInBounds_toArray, List.set_cons_zero, List.set_cons_succ]
                  refine wpAnyH_done (by kernel_rfl) ?_ _
                  go_wp2
                  go_roundw
                  case rel => exact ⟨j + 1, ⟨A5, n5, c5, B5, bn5, bc5, C5, cn5, cc5⟩, ⟨⟨l2, room2, fuse2, off2⟩, frm2, seg2, run2, s2, down2⟩, by omega, by omega, by go_num, U.out, HG2.out, OO.out⟩
                  case measure => simp [intOf]; omega
              case' mzz8 => skip
              exact AllReadyL.nil
          case' mzz10 => skip
          refine AllReadyL.consK (o := ?ozz11) ?hzz11 ?lzz11 (fun K hK => ?kzz11) ?mzz11
          case hzz11 => simp only [List.getElem?_toArray, List.getElem?_cons_zero, List.getElem?_cons_succ]; rfl
          case lzz11 => kernel_rfl
          case kzz11 =>
            obtain ⟨e0, e1, e2, e3, e4, e5, e6, e7, e8, e9⟩ := kget BX.out
            obtain ⟨f0, f1, f2, f3, f4, f5, f6, f7, f8, f9⟩ := kfree BX.out
            go_simp
            refine hK.out _ _ ?Rzz11
            case Rzz11 =>
              clear hK K
              try simp only [Act.put, List.setIfInBounds_toArray, List.set_cons_zero, List.set_cons_succ]
              refine wpAnyH_take (i := 8) (oi := ?ozz9) (v := ?vzz9) ?hzz9 ?azz9 ?bzz9 ?czz9 ?qzz9 ?yzz9 ?szz9 ?rzz9
              case hzz9 => simp only [List.getElem?_toArray, List.getElem?_cons_zero, List.getElem?_cons_succ]; rfl
              case azz9 => kernel_rfl
              case bzz9 => kernel_rfl
              case czz9 => kernel_rfl
              case yzz9 =>
                refine Or.inl ⟨by rfl, ?_⟩
                intro w hSw
                skip
                go_simp
                try with_reducible rfl
              case qzz9 => exact fun _ _ _ h => h
              case szz9 => first | assumption | trivial
              case' rzz9 => simp only [Act.put, List.setIfInBounds_toArray, List.set_cons_zero, List.set_cons_succ]
              refine wpAnyH_done (by kernel_rfl) ?_ _
              go_wp2
              go_roundw
              case rel => exact ⟨j + 1, ⟨A5, n5, c5, B5, bn5, bc5, C5, cn5, cc5⟩, ⟨⟨l2, room2, fuse2, off2⟩, frm2, seg2, run2, s2, down2⟩, by omega, by omega, by go_num, U.out, HG2.out, OO.out⟩
              case measure => simp [intOf]; omega
          case' mzz11 => skip
          exact AllReadyL.nil
      case' mzz12 => skip
      exact AllReadyL.nil
    · have hexit : ¬((j : Int) < (n : Int)) ∨ ((j : Int) < (n : Int) ∧ ¬((j : Int) < 100)) := by
        by_cases h : j < n
        · exact .inr ⟨by omega, by omega⟩
        · exact .inl (by omega)
      have KC := Lib.hid (fun W (y : Q wr W) => Com_kg HG.out (by omega) p kb tb D dn dc wb W a b ((HT.out.q O1.out.q).q y) (X.out.is.q y) ((HD.out.lst.q O1.out.q).q y) HD.out.max)
      have HG2 := Lib.hid (HG.out.com ⟨kb, tb, wb⟩)
      have HOK := Lib.hid (fun h => (⟨(comM_ok (x := x) (b := ⟨kb, tb, wb⟩) h).2, (comM_ok (x := x) (b := ⟨kb, tb, wb⟩) h).1⟩ : _ ∧ _))
      have HF := Lib.hid (fun (h : (comM x ⟨kb, tb, wb⟩).2 = 0) => show (find tb (comM x ⟨kb, tb, wb⟩).1.s.toks).2 = true by
        obtain ⟨h1, h2⟩ := comM_ok h
        rw [h2, (Bm.doo_ok h1).2])
      generalize comM x ⟨kb, tb, wb⟩ = T at KC HG2 HF
      clear HOK
      obtain ⟨T, er⟩ := T
      obtain ⟨⟨l2, room2, fuse2, off2⟩, frm2, seg2, run2, s2, down2⟩ := T
      obtain ⟨A1, n1, c1, B1, bn1, bc1, C1, cn1, cc1⟩ := p
      obtain ⟨⟨l1, room1, fuse1, off1⟩, frm1, seg1, run1, s1, down1⟩ := x
      simp only at KC HG2 HF
      have KM := Lib.hid (fun W (y : Q w W) => refMayB_any ka tb E en ec wa W (HE.out.lst.q y) HE.out.max)
      obtain ⟨e0, e1, e2, e3, e4, e5, e6, e7, e8, e9⟩ := kget X.out.box
      obtain ⟨b0, b1, b2⟩ := O1.out.b1.get3.1
      clear hlt
      rcases hexit with hx1 | ⟨hx1, hx2⟩
      all_goals
        go_wp2_with fail
        refine (KC.out _ (Q.refl _)).mono ?_
        rintro e w5 ⟨p5, rfl, k5, q5⟩
        obtain ⟨A5, n5, c5, B5, bn5, bc5, C5, cn5, cc5⟩ := p5
        have BX := Lib.hid (X.out.box.q q5)
        have U0 := Kb.whole BX.out k5
        have O0 := (O1.out.step q5).stk hg (us10 ⟨A5, n5, c5, B5, bn5, bc5, C5, cn5, cc5⟩ ⟨⟨l2, room2, fuse2, off2⟩, frm2, seg2, run2, s2, down2⟩)
        dsimp only [us10, stk] at U0 O0
        have U := Lib.hid U0
        have OO := Lib.hid O0
        clear U0 O0 k5 q5 e0 e1 e2 e3 e4 e5 e6 e7 e8 e9 b0 b1 b2
        obtain ⟨e0, e1, e2, e3, e4, e5, e6, e7, e8, e9⟩ := kget BX.out
        obtain ⟨f0, f1, f2, f3, f4, f5, f6, f7, f8, f9⟩ := kfree BX.out
        go_upto_region 15 with (fail)
        generalize ((((((((((w5.setCell ⟨g, 0, none⟩ (.slice A5 n5 c5)).setCell ⟨g, 1, none⟩ (.int .i64 room2)).setCell ⟨g, 2, none⟩ (.int .i64 fuse2)).setCell ⟨g, 3, none⟩ (.bool off2)).setCell ⟨g, 4, none⟩ (.int .i64 frm2)).setCell ⟨g, 5, none⟩ (.int .i64 seg2)).setCell ⟨g, 6, none⟩ (.int .i64 run2)).setCell ⟨g, 7, none⟩ (.slice B5 bn5 bc5)).setCell ⟨g, 8, none⟩ (.slice C5 cn5 cc5)).setCell ⟨g, 9, none⟩ (.bool down2)) = W5 at U OO ⊢
        clear e0 e1 e2 e3 e4 e5 e6 e7 e8 e9 f0 f1 f2 f3 f4 f5 f6 f7 f8 f9 BX
        obtain ⟨⟨b0, b1, b2⟩, b3, b4, b5⟩ := OO.out.b1.get3
        obtain ⟨⟨d0, d1, d2⟩, d3, d4, d5⟩ := OO.out.b2.get3
        have V : Hid (Kb (W5.setCell ⟨w.heap.size + 1 + 1, 1, none⟩ (.string tb)) g ⟨A5, n5, c5, B5, bn5, bc5, C5, cn5, cc5⟩ ⟨⟨l2, room2, fuse2, off2⟩, frm2, seg2, run2, s2, down2⟩) := Lib.hid ⟨U.out.box.far (p := ⟨w.heap.size + 1 + 1, 1, none⟩) (by show w.heap.size + 1 + 1 ≠ g; omega) _, U.out.is.lone d0 (nt_int _ _) d2 (nt_slice _ _ _) _⟩
        have OV : Hid (Oz w kb tb D dn dc ka tb E en ec (W5.setCell ⟨w.heap.size + 1 + 1, 1, none⟩ (.string tb))) := Lib.hid ⟨OO.out.b1.far (p := ⟨w.heap.size + 1 + 1, 1, none⟩) (by show w.heap.size + 1 + 1 ≠ w.heap.size + 1; omega) _, OO.out.b2.set (k := 1) (by simp) (.string tb), OO.out.q.setCell (p := ⟨w.heap.size + 1 + 1, 1, none⟩) (by show w.heap.size ≤ w.heap.size + 1 + 1; omega) _⟩
        go_upto_region 16 with (fail)
        generalize W5.setCell ⟨w.heap.size + 1 + 1, 1, none⟩ (.string tb) = W6 at V OV ⊢
        clear b0 b1 b2 b3 b4 b5 d0 d1 d2 d3 d4 d5 U OO
        obtain ⟨d0, d1, d2⟩ := OV.out.b2.get3.1
        go_wp2_with fail
        refine (KM.out _ OV.out.q).mono ?_
        rintro e w7 ⟨rfl, q7⟩
        have V7 := Lib.hid (V.out.q q7)
        have O7 := Lib.hid (OV.out.step q7)
        clear q7 V OV d0 d1 d2
        by_cases he : er = 0
        · subst he
          cases hm : Bm.may ⟨ka, tb, wa⟩ with
          | false =>
            go_wp2
            go_ret
            exact ⟨by first | rfl | simp, by first | exact O7.out.q | exact O7.out.q.drew⟩
          | true =>
            have HF1 := Lib.hid (HF.out rfl)
            have hC1 : comM ⟨⟨l2, room2, fuse2, off2⟩, frm2, seg2, run2, s2, down2⟩ ⟨ka, tb, wa⟩ = (⟨⟨l2, room2, fuse2, off2⟩, frm2, seg2, run2, s2, down2⟩, 8) := com_there (b := ⟨kb, tb, wb⟩) HG2.out.kn.up HF1.out hm
            have KC1 := Lib.hid (fun W (y : Q w7 W) => Com_kg HG2.out (by omega) ⟨A5, n5, c5, B5, bn5, bc5, C5, cn5, cc5⟩ ka tb E en ec wa W a b ((HT.out.q O7.out.q).q y) (V7.out.is.q y) ((HE.out.lst.q O7.out.q).q y) HE.out.max)
            rw [hC1] at KC1
            have KR := Lib.hid (fun W (y : Q w7 W) => Crs_kg HG2.out (by omega) ⟨A5, n5, c5, B5, bn5, bc5, C5, cn5, cc5⟩ W a b ((HT.out.q O7.out.q).q y) (V7.out.is.q y))
            obtain ⟨c1, c2, c3, _, _⟩ := HG2.out.crash []
            rw [c1] at KR
            generalize (crsM ⟨⟨l2, room2, fuse2, off2⟩, frm2, seg2, run2, s2, down2⟩ []).1 = z at KR c2 c3
            have HZ := Lib.hid c2
            have hC2 : comM z ⟨ka, tb, wa⟩ = (z, 8) := com_there (b := ⟨kb, tb, wb⟩) c2.kn.up (by rw [c3]; exact HF1.out) hm
            have KC2 := Lib.hid (fun p W (y : Q w7 W) (hk : Kr W p z) => Com_kg HZ.out (by omega) p ka tb E en ec wa W a b ((HT.out.q O7.out.q).q y) hk ((HE.out.lst.q O7.out.q).q y) HE.out.max)
            rw [hC2] at KC2
            obtain ⟨⟨l4, room4, fuse4, off4⟩, frm4, seg4, run4, s4, down4⟩ := z
            simp only at KC1 KR KC2
            clear c1 c2 c3 hC1 hC2 KC HF HF1 KM
            obtain ⟨e0, e1, e2, e3, e4, e5, e6, e7, e8, e9⟩ := kget V7.out.box
            obtain ⟨d0, d1, d2⟩ := O7.out.b2.get3.1
            go_wp2_with fail
            refine (KC1.out _ (Q.refl _)).mono ?_
            rintro e w8 ⟨p8, rfl, k8, q8⟩
            obtain ⟨A8, n8, c8, B8, bn8, bc8, C8, cn8, cc8⟩ := p8
            have Y8 : Hid (Kb (w8.alloc (.cells #[.slice A8 n8 c8, .int .i64 room2, .int .i64 fuse2, .bool off2, .int .i64 frm2, .int .i64 seg2, .int .i64 run2, .slice B8 bn8 bc8, .slice C8 cn8 cc8, .bool down2] 32)) w8.heap.size ⟨A8, n8, c8, B8, bn8, bc8, C8, cn8, cc8⟩ ⟨⟨l2, room2, fuse2, off2⟩, frm2, seg2, run2, s2, down2⟩) := Lib.hid (Kb.new k8)
            have Q8 : Hid (Q w7 (w8.alloc (.cells #[.slice A8 n8 c8, .int .i64 room2, .int .i64 fuse2, .bool off2, .int .i64 frm2, .int .i64 seg2, .int .i64 run2, .slice B8 bn8 bc8, .slice C8 cn8 cc8, .bool down2] 32))) := Lib.hid (q8.alloc _)
            clear k8 q8 e0 e1 e2 e3 e4 e5 e6 e7 e8 e9 d0 d1 d2
            go_upto_region 20 with (fail)
            generalize w8.alloc (.cells #[.slice A8 n8 c8, .int .i64 room2, .int .i64 fuse2, .bool off2, .int .i64 frm2, .int .i64 seg2, .int .i64 run2, .slice B8 bn8 bc8, .slice C8 cn8 cc8, .bool down2] 32) = W8 at Y8 Q8 ⊢
            generalize w8.heap.size = g8 at Y8 ⊢
            obtain ⟨e0, e1, e2, e3, e4, e5, e6, e7, e8, e9⟩ := kget (V7.out.q Q8.out).box
            go_wp2_with fail
            refine (KR.out _ Q8.out).mono ?_
            rintro e w9 ⟨p9, rfl, k9, q9⟩
            obtain ⟨A9, n9, c9, B9, bn9, bc9, C9, cn9, cc9⟩ := p9
            have Y9 : Hid (Kb (w9.alloc (.cells #[.slice A9 n9 c9, .int .i64 room4, .int .i64 fuse4, .bool off4, .int .i64 frm4, .int .i64 seg4, .int .i64 run4, .slice B9 bn9 bc9, .slice C9 cn9 cc9, .bool down4] 32)) w9.heap.size ⟨A9, n9, c9, B9, bn9, bc9, C9, cn9, cc9⟩ ⟨⟨l4, room4, fuse4, off4⟩, frm4, seg4, run4, s4, down4⟩) := Lib.hid (Kb.new k9)
            have Q9 : Hid (Q w7 (w9.alloc (.cells #[.slice A9 n9 c9, .int .i64 room4, .int .i64 fuse4, .bool off4, .int .i64 frm4, .int .i64 seg4, .int .i64 run4, .slice B9 bn9 bc9, .slice C9 cn9 cc9, .bool down4] 32))) := Lib.hid ((Q8.out.trans q9).alloc _)
            have Z8 : Hid (Kb (w9.alloc (.cells #[.slice A9 n9 c9, .int .i64 room4, .int .i64 fuse4, .bool off4, .int .i64 frm4, .int .i64 seg4, .int .i64 run4, .slice B9 bn9 bc9, .slice C9 cn9 cc9, .bool down4] 32)) g8 ⟨A8, n8, c8, B8, bn8, bc8, C8, cn8, cc8⟩ ⟨⟨l2, room2, fuse2, off2⟩, frm2, seg2, run2, s2, down2⟩) := Lib.hid (Y8.out.q (q9.alloc _))
            clear k9 q9 Q8 Y8 e0 e1 e2 e3 e4 e5 e6 e7 e8 e9
            go_upto_region 21 with (fail)
            generalize w9.alloc (.cells #[.slice A9 n9 c9, .int .i64 room4, .int .i64 fuse4, .bool off4, .int .i64 frm4, .int .i64 seg4, .int .i64 run4, .slice B9 bn9 bc9, .slice C9 cn9 cc9, .bool down4] 32) = W9 at Y9 Q9 Z8 ⊢
            obtain ⟨e0, e1, e2, e3, e4, e5, e6, e7, e8, e9⟩ := kget Y9.out.box
            obtain ⟨d0, d1, d2⟩ := (O7.out.step Q9.out).b2.get3.1
            go_wp2_with fail
            refine (KC2.out _ _ Q9.out Y9.out.is).mono ?_
            rintro e wa ⟨pa, rfl, ka1, qa⟩
            obtain ⟨Aa, na, ca, Ba, bna, bca, Ca, cna, cca⟩ := pa
            have Qa : Hid (Q w7 (wa.alloc (.cells #[.slice Aa na ca, .int .i64 room4, .int .i64 fuse4, .bool off4, .int .i64 frm4, .int .i64 seg4, .int .i64 run4, .slice Ba bna bca, .slice Ca cna cca, .bool down4] 32))) := Lib.hid ((Q9.out.trans qa).alloc _)
            have Za : Hid (Kb (wa.alloc (.cells #[.slice Aa na ca, .int .i64 room4, .int .i64 fuse4, .bool off4, .int .i64 frm4, .int .i64 seg4, .int .i64 run4, .slice Ba bna bca, .slice Ca cna cca, .bool down4] 32)) g8 ⟨A8, n8, c8, B8, bn8, bc8, C8, cn8, cc8⟩ ⟨⟨l2, room2, fuse2, off2⟩, frm2, seg2, run2, s2, down2⟩) := Lib.hid (Z8.out.q (qa.alloc _))
            clear ka1 qa Q9 Y9 Z8 e0 e1 e2 e3 e4 e5 e6 e7 e8 e9 d0 d1 d2
            go_upto_region 22 with (fail)
            generalize wa.alloc (.cells #[.slice Aa na ca, .int .i64 room4, .int .i64 fuse4, .bool off4, .int .i64 frm4, .int .i64 seg4, .int .i64 run4, .slice Ba bna bca, .slice Ca cna cca, .bool down4] 32) = Wa at Qa Za ⊢
            obtain ⟨e0, e1, e2, e3, e4, e5, e6, e7, e8, e9⟩ := kget (V7.out.q Qa.out).box
            obtain ⟨f0, f1, f2, f3, f4, f5, f6, f7, f8, f9⟩ := kget Za.out.box
            go_wp2_with fail
            refine (ksame_one ⟨A5, n5, c5, B5, bn5, bc5, C5, cn5, cc5⟩ ⟨A8, n8, c8, B8, bn8, bc8, C8, cn8, cc8⟩ ⟨⟨l2, room2, fuse2, off2⟩, frm2, seg2, run2, s2, down2⟩ _ (V7.out.q Qa.out).is Za.out.is).mono ?_
            rintro e wb ⟨rfl, qb⟩
            have Qb := Lib.hid ((O7.out.q.trans Qa.out).trans qb)
            clear qb
            go_wp2
            go_ret
            exact ⟨by first | rfl | simp, by first | exact Qb.out | exact Qb.out.drew⟩
        · go_wp2
          go_ret
          exact ⟨by first | rfl | simp, by first | exact O7.out.q | exact O7.out.q.drew⟩
theorem opened (W : World) (args : Array Value) (hn : args.size = 1) (h : ∀ (j : Nat) t v, Tryz.f7.params[j]? = some t → args[j]? = some v → RdV W t v ∧ (false = true → RdU W t v.cells.toList)) (hL : laidMetH Tryz.prog Rows.kvOnceRow.laid W) :
    Calls Tryz.prog 7 args W fun e W' => e = .returned (.bool true) ∧ Q W W' := by
  obtain ⟨v, rfl⟩ := args1 hn
  rw [Tryz.params7] at h
  obtain ⟨cs, rfl, hr⟩ := (h 0 76 v rfl rfl).1.struct Tryz.underlying76
  obtain ⟨hl, _⟩ := hr.struct Tryz.underlying76
  rw [show Tryz.prog.cellsOf 76 = 8 by kernel_rfl] at hl
  match cs, hl with
  | [x0, x1, x2, x3, x4, x5, x6, x7], _ =>
    obtain ⟨room, e0, r0⟩ := (hr.field Tryz.underlying76 0 (ty := 3) 0 1 rfl (by kernel_rfl)).int Tryz.underlying3
    obtain ⟨A, n, c, rl, e1, iA, bl, hbl, hst⟩ := open_batches (hr.field Tryz.underlying76 1 (ty := 64) 1 1 rfl (by kernel_rfl))
    obtain ⟨kb, tb, D, dn, dc, wb, e2, _, hD, _⟩ := open_batch (hr.field Tryz.underlying76 2 (ty := 48) 2 3 rfl (by kernel_rfl))
    obtain ⟨ka, ta, E, en, ec, wa, e3, _, hE, _⟩ := open_batch (hr.field Tryz.underlying76 3 (ty := 48) 5 3 rfl (by kernel_rfl))
    simp at e0 e1 e2 e3
    obtain ⟨rfl, rfl, rfl⟩ := e2
    obtain ⟨rfl, rfl, rfl⟩ := e3
    subst e0 e1
    exact walk room A n c rl bl kb tb D dn dc wb ka ta E en ec wa W (kt_laid hL) (wf_i64 r0).2 iA hbl hst hD hE

theorem start_met (os : Os) : laidMetH Tryz.prog Rows.kvOnceRow.laid ((World.doorLaid Tryz.prog 600 os).forCall (fun _ _ => 0) ⟨#[], #[.agg #[.int .i64 0, .slice none 0 0, .int .i64 0, .string ⟨#[]⟩, .slice none 0 0, .int .i64 0, .string ⟨#[]⟩, .slice none 0 0]], []⟩).memory :=
  laidMetH_of_parts3 (fuel := 8) (laidMet_of_run' 8 (by kernel_rfl) (by kernel_rfl)) (by kernel_rfl) (by kernel_rfl)
theorem reads (os : Os) {H : Type} (enc : TypeId × Value → H) : ∃ places, DataW.whole enc Tryz.prog ((World.doorLaid Tryz.prog 600 os).forCall (fun _ _ => 0) ⟨#[], #[.agg #[.int .i64 0, .slice none 0 0, .int .i64 0, .string ⟨#[]⟩, .slice none 0 0, .int .i64 0, .string ⟨#[]⟩, .slice none 0 0]], []⟩).memory Tryz.f7.params.toList Rows.kvOnceSpec.vars false (#[.agg #[.int .i64 0, .slice none 0 0, .int .i64 0, .string ⟨#[]⟩, .slice none 0 0, .int .i64 0, .string ⟨#[]⟩, .slice none 0 0]] : Array Value).toList 8 = some ([.agg [.lit (.int .i64 0), .nil, .agg [.lit (.int .i64 0), .lit (.string []), .nil], .agg [.lit (.int .i64 0), .lit (.string []), .nil]]], [], places) :=
  ⟨[], by kernel_rfl⟩

set_option maxRecDepth 100000 in
theorem lifted (os : Os) (started : os.Started) (H : Type) (enc : TypeId × Value → H) (F : Stop.Interp) :
    ReturnsInHanded {} Tryz.checked os 7 .any ((OpenSpec.ofChange Rows.kvOnceSpec).preRow enc Tryz.prog Tryz.f7 Rows.kvOnceRow.domain false Rows.kvOnceRow.laid) (((OpenSpec.ofChange Rows.kvOnceSpec).at F).post enc Tryz.prog Tryz.f7 false true false false) := by
  obtain ⟨places, hx⟩ := reads os enc
  refine returnsInHanded_of_row (C := Tryz.checked) (s := OpenSpec.ofChange Rows.kvOnceSpec) ownKnob_ started (by kernel_rfl) Tryz.func7
    (witness_row_atRef (enc := enc) (C := Tryz.checked) false (World.doorLaid Tryz.prog 600 os) #[.agg #[.int .i64 0, .slice none 0 0, .int .i64 0, .string ⟨#[]⟩, .slice none 0 0, .int .i64 0, .string ⟨#[]⟩, .slice none 0 0]] rfl (by kernel_rfl) (by kernel_rfl) (by kernel_rfl)
      (OpenSpec.preRow_of_cond 8 hx (by kernel_rfl) (fun k hk => by cases hk) (by kernel_rfl) (start_met os))) ?_
  intro W base args ds gs before hval hW _ hcond hsz hL _ _
  exact framedC (s := Rows.kvOnceSpec) false Rows.kvOnceRow.laid 1 (by rw [Tryz.params7]; rfl) rfl (by kernel_rfl) (by kernel_rfl)
    (fun H ds h => by match ds, h with | [d0], _ => exact ⟨rfl, rfl, rfl⟩)
    opened H enc W base args ds gs before hval hW (fun h => by cases h) hsz hL

theorem over : Rows.KvOnceSaid :=
  OpenClaim.holds_of_cond 7 Tryz.f7 rfl rfl rfl rfl rfl rfl rfl ⟨rfl, rfl, rfl, rfl, rfl⟩ rfl rfl rfl rfl rfl (by kernel_rfl) Tryz.func7 (by kernel_rfl)
    (of_decide_eq_true (by kernel_rfl)) (by unfold Func.isWrapper; first | (rw [if_pos (by decide +kernel)]; kernel_rfl) | (rw [if_neg (by decide +kernel)]; exact ⟨rfl, rfl⟩))
    (fun os started H enc _ F => by rw [OpenClaim.pre_eq_preRow]; exact lifted os started H enc F)

/-- No parameter wants a stand-in; the program's own looks are as the card says. -/
theorem plain (f : FuncId) (fn : Func) (hf : Tryz.pinned.checked.prog.funcNamed "stanchion/stanchionlaw08.KvOnce" = some f) (hfn : Tryz.pinned.checked.prog.funcs[f]? = some fn) :
    true = Tryz.pinned.checked.prog.looks [] ∧ ∀ (j : Nat) t, fn.params[j]? = some t → Tryz.pinned.checked.prog.wantsStandIn t = false := by
  obtain rfl : f = 7 := Option.some.inj ((show Tryz.prog.funcNamed "stanchion/stanchionlaw08.KvOnce" = some 7 by kernel_rfl).symm.trans hf) |>.symm
  obtain rfl : fn = Tryz.f7 := (Option.some.inj (Tryz.func7.symm.trans hfn)).symm
  refine ⟨by kernel_rfl, fun j t ht => ?_⟩
  have h0 : (Tryz.f7.params.toList.all fun t => !(Tryz.prog.wantsStandIn t)) = true := by kernel_rfl
  have h1 := List.all_eq_true.1 h0 t (by rw [← Array.getElem?_toList] at ht; exact List.mem_of_getElem? ht)
  exact (by simpa using h1 : Tryz.prog.wantsStandIn t = false)

theorem proved : Rows.KvOnceCardSaid :=
  Claim7.holds_tied_plain_at .later [] _ _ _ _ over (fun _ h => by cases h) (by kernel_rfl) (fun _ h => by cases h) kvOnce_row_tie rfl ⟨rfl, rfl⟩ (by kernel_rfl) rfl plain (by kernel_rfl)
end Go.Proofs.YtbbfbdfmeifdfaaGreatDoor.kvOnce
