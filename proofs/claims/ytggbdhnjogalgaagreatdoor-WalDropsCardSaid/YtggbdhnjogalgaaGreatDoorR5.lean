/- WalPut3, DiskSv, WalCut: merged. -/
import Derived.Test.YtggbdhnjogalgaaGreatDoorR4
import Derived.Test.YtggbdhnjogalgaaGreatDoorR3
import Derived.Test.YtggbdhnjogalgaaGreatDoorR2
import Derived.Deep.DeepCutAuto
/- The contract of wal.Put, the other ways. -/
namespace Go.Proofs.YtggbdhnjogalgaaGreatDoor
set_option maxRecDepth 100000
open Go.RowKit Dkm Wm
set_option linter.unusedVariables false

set_option maxHeartbeats 1000000 in
theorem put_arg (seg : Int) (rec : ByteArray) (A : Option Addr) (n c : Nat) (room fuse : Int) (off : Bool) (l : List Fil) (w : World) (hd : Dsk w A n c l) (h1 : ¬ segOk seg) :
    Calls Tryz.prog 15 #[dkv A n c room fuse off, .int .i64 seg, .string rec] w fun e w' => RetW w ⟨l, room, fuse, off⟩ [.int .i64 seg, .int .i64 1] e w' := by
  have HD := Lib.hid hd
  have KU := Lib.hid (numbered_no seg h1)
  clear hd h1
  go_enter Tryz.func15, Tryz.ntmps15
  go_wp2_with fail
  refine (KU.out _).mono ?_
  rintro e w1 ⟨rfl, q1⟩
  have Y := Lib.hid ((Sb.new w A n c room fuse off).step q1)
  clear q1
  obtain ⟨⟨e0, e1, e2, e3⟩, f0, f1, f2', f3⟩ := Y.out.get
  go_wp2_with fail
  refine (wown_any A n c room fuse off l _ (HD.out.q Y.out.q)).mono ?_
  rintro e w4 ⟨A4, c4, rfl, ho, q4⟩
  have Z := Lib.hid (And.intro ho q4)
  obtain ⟨⟨s0, s1, s2, s3⟩, h0, h1, h2, h3⟩ := (Y.out.step q4).getR
  clear ho q4 e0 e1 e2 e3 f0 f1 f2' f3
  go_wp2
  refine bodyPost_ret (v := .tuple #[dkv A4 n c4 room fuse off, .int .i64 seg, .int .i64 1]) (by simp [results, Tryz.results15, go_sem, s0, s1, s2, s3]) rfl ?_
  exact Y.out.endW Z.out.2 (d := ⟨l, room, fuse, off⟩) Z.out.1 HD.out.few [.int .i64 seg, .int .i64 1] _ _ _ _
set_option maxHeartbeats 1000000 in
theorem put_big (seg : Int) (rec : ByteArray) (A : Option Addr) (n c : Nat) (room fuse : Int) (off : Bool) (l : List Fil) (w : World) (hd : Dsk w A n c l) (h1 : segOk seg) (h2 : 2048 < rec.size) (h3 : rec.size ≤ maxLen) :
    Calls Tryz.prog 15 #[dkv A n c room fuse off, .int .i64 seg, .string rec] w fun e w' => RetW w ⟨l, room, fuse, off⟩ [.int .i64 seg, .int .i64 4] e w' := by
  have HD := Lib.hid hd
  have KU := Lib.hid (numbered_yes seg h1)
  clear hd h1
  go_enter Tryz.func15, Tryz.ntmps15
  go_wp2_with fail
  refine (KU.out _).mono ?_
  rintro e w1 ⟨rfl, q1⟩
  have Y := Lib.hid ((Sb.new w A n c room fuse off).step q1)
  clear q1
  obtain ⟨⟨e0, e1, e2, e3⟩, f0, f1, f2', f3⟩ := Y.out.get
  go_wp2_with fail
  refine (wown_any A n c room fuse off l _ (HD.out.q Y.out.q)).mono ?_
  rintro e w4 ⟨A4, c4, rfl, ho, q4⟩
  have Z := Lib.hid (And.intro ho q4)
  obtain ⟨⟨s0, s1, s2, s3⟩, h0, h1, h2, h3⟩ := (Y.out.step q4).getR
  clear ho q4 e0 e1 e2 e3 f0 f1 f2' f3
  go_wp2
  refine bodyPost_ret (v := .tuple #[dkv A4 n c4 room fuse off, .int .i64 seg, .int .i64 4]) (by simp [results, Tryz.results15, go_sem, s0, s1, s2, s3]) rfl ?_
  exact Y.out.endW Z.out.2 (d := ⟨l, room, fuse, off⟩) Z.out.1 HD.out.few [.int .i64 seg, .int .i64 4] _ _ _ _

set_option maxHeartbeats 8000000 in
theorem put_serr (seg : Int) (rec : ByteArray) (A : Option Addr) (n c : Nat) (d : Dk) (w : World) (hT : Tab w) (hd : Dsk w A n c d.fs) (hB : Bnd 2305843009213693952 d) (h1 : segOk seg) (h2 : rec.size ≤ 2048) (h3 : 256 ≤ (redd (namB seg) d.fs).1.size) (he : (syn d (namB seg)).2 ≠ 0) :
    Calls Tryz.prog 15 #[dkv A n c d.room d.fuse d.off, .int .i64 seg, .string rec] w fun e w' => RetW w (((syn d (namB seg)).1, seg, (syn d (namB seg)).2)).1 [.int .i64 (((syn d (namB seg)).1, seg, (syn d (namB seg)).2)).2.1, .int .i64 (((syn d (namB seg)).1, seg, (syn d (namB seg)).2)).2.2] e w' := by
  obtain ⟨l, room, fuse, off⟩ := d
  have HT := Lib.hid hT
  have HD := Lib.hid hd
  have HN := Lib.hid hd.max
  have hmx : ∀ f ∈ l, f.sf.size + f.wt.size ≤ maxLen := fun f hf => Nat.le_trans (hB.sum f hf) (by unfold maxLen; omega)
  have hBs := hB.syn (namB seg)
  have hal := syn_len ⟨l, room, fuse, off⟩ (namB seg)
  have KS := Lib.hid (fun w hd => sync_any (namB seg) A n c ⟨l, room, fuse, off⟩ w hd hmx)
  have KR := Lib.hid (fun w hf => read_any (namB seg) A n c room fuse off l w hf HN.out hmx)
  have KN := Lib.hid (name_any seg)
  have KU := Lib.hid (numbered_yes seg h1)
  generalize syn ⟨l, room, fuse, off⟩ (namB seg) = r at hal KS hBs he ⊢
  obtain ⟨⟨l2, room2, fuse2, off2⟩, er⟩ := r
  have he' : ¬ er = 0 := he
  have h3' : 256 ≤ (redd (namB seg) l).1.size := h3
  generalize redd (namB seg) l = b at KR h3'
  obtain ⟨b, be⟩ := b
  have t3 : 256 ≤ b.size := h3'
  clear hT hd hB hmx h1 h3 h3' he
  go_enter Tryz.func15, Tryz.ntmps15
  go_wp2_with fail
  refine (KU.out _).mono ?_
  rintro e w1 ⟨rfl, q1⟩
  have X := Lib.hid ((Sb.new w A n c room fuse off).step q1)
  clear q1
  go_upto_region 5 with (fail)
  obtain ⟨⟨e0, e1, e2, e3⟩, f0, f1, f2', f3⟩ := X.out.get
  go_region_held3 (fun w' => w'.cell? ⟨w.heap.size, 0, none⟩ = some (.slice A n c) ∧ w'.cell? ⟨w.heap.size, 1, none⟩ = some (.int .i64 room) ∧ w'.cell? ⟨w.heap.size, 2, none⟩ = some (.int .i64 fuse) ∧ w'.cell? ⟨w.heap.size, 3, none⟩ = some (.bool off))
    (first
      | go_keep
      | (go_split_ands
         (repeat' apply And.intro) <;> exact box_ ‹Q _ _› (by assumption)))
    (first
      | (go_at_call 13
         (with_reducible refine (KN.out _ (HT.out.q (X.out.q.trans (Q.refl w1).drew))).mono ?_)
         rintro e w2 ⟨rfl, q2⟩)
      | (go_at_call 20
         (with_reducible refine (KR.out _ (HD.out.files.q (X.out.q.trans ((Q.refl w1).drew.trans q2)))).mono ?_)
         rintro e w3 ⟨rfl, q3⟩))
  have Y := Lib.hid (X.out.step (((Q.refl w1).drew.trans q2).trans q3))
  clear X q2 q3 e0 e1 e2 e3 f0 f1 f2' f3
  have DW := Lib.hid (HD.out.q Y.out.q)
  obtain ⟨⟨e0, e1, e2, e3⟩, f0, f1, f2', f3⟩ := Y.out.get
  go_upto_region 8 with (fail)
  generalize w3 = W at Y DW e0 e1 e2 e3 f0 f1 f2' f3 ⊢
  have QW := Lib.hid (Q.refl W)
  refine wp_region_heldL 7 (Q W) (by kernel_rfl) ?szz0 (fun hHeld => ?rzz0)
  case szz0 =>
    exact (Q.refl W).drew
  case' rzz0 => skip
  refine wpAnyL_take (i := 0) (oi := ?ozz1) (v := ?vzz1) ?hzz1 ?azz1 ?bzz1 ?czz1 ?kzz1 ?qzz1 ?yzz1 ?szz1 ?rzz1
  case hzz1 => simp only [List.getElem?_toArray, List.getElem?_cons_zero]; rfl
  case azz1 => kernel_rfl
  case bzz1 => kernel_rfl
  case czz1 => kernel_rfl
  case kzz1 => kernel_rfl
  case yzz1 =>
    refine Or.inl ⟨by rfl, ?_⟩
    intro w hSw
    have x0 := box_ hSw e0; have x1 := box_ hSw e1; have x2 := box_ hSw e2; have x3 := box_ hSw e3; clear hSw
    go_simp
    try with_reducible rfl
  case qzz1 => exact fun _ _ _ h => h
  case szz1 => first | assumption | trivial
  case' rzz1 => simp only [Act.put, List.setIfInBounds_toArray, List.set_cons_zero, List.set_cons_succ]
  refine wpAnyL_take (i := 1) (oi := ?ozz2) (v := ?vzz2) ?hzz2 ?azz2 ?bzz2 ?czz2 ?kzz2 ?qzz2 ?yzz2 ?szz2 ?rzz2
  case hzz2 => simp only [List.getElem?_toArray, List.getElem?_cons_zero, List.getElem?_cons_succ]; rfl
  case azz2 => kernel_rfl
  case bzz2 => kernel_rfl
  case czz2 => kernel_rfl
  case kzz2 => kernel_rfl
  case yzz2 =>
    refine Or.inl ⟨by rfl, ?_⟩
    intro w hSw
    skip
    go_simp
    try with_reducible rfl
  case qzz2 => exact fun _ _ _ h => h
  case szz2 => first | assumption | trivial
  case' rzz2 => simp only [Act.put, List.setIfInBounds_toArray, List.set_cons_zero, List.set_cons_succ]
  refine wpAnyL_ready (rs := [2]) (by kernel_rfl) (by simp) ?_
  refine AllReadyL.cons (o := ?ozz12) ?hzz12 (fun K hK => ?kzz12) ?mzz12
  case hzz12 => simp only [List.getElem?_toArray, List.getElem?_cons_zero, List.getElem?_cons_succ]; rfl
  case kzz12 =>
    go_simp
    refine (KN.out _ (HT.out.q (Y.out.q.trans hHeld))).mono ?_
    rintro e w3 ⟨rfl, q3⟩
    go_wp2_with fail
    refine hK.out _ _ ?Szz12 (fun hHeld => ?Rzz12)
    case Szz12 =>
      exact hHeld.trans q3
    case Rzz12 =>
      clear hK K
      try simp only [Act.put, List.setIfInBounds_toArray, List.set_cons_zero, List.set_cons_succ]
      refine wpAnyL_ready (rs := [3]) (by kernel_rfl) (by simp) ?_
      refine AllReadyL.cons (o := ?ozz11) ?hzz11 (fun K hK => ?kzz11) ?mzz11
      case hzz11 => simp only [List.getElem?_toArray, List.getElem?_cons_zero, List.getElem?_cons_succ]; rfl
      case kzz11 =>
        go_simp
        refine (KS.out _ (DW.out.q hHeld)).mono ?_
        rintro e w5 ⟨A5, n5, c5, rfl, ho, q5⟩
        obtain ⟨⟨x0, x1, x2, x3⟩, y0, y1, y2, y3⟩ := ((Y.out.step hHeld).step q5).get
        have Z5 := Lib.hid (And.intro ho (And.intro hHeld q5))
        go_wp2_with fail
        refine hK.out _ _ ?Szz11 (fun hHeld => ?Rzz11)
        case Szz11 =>
          exact hHeld.trans q5
        case Rzz11 =>
          clear hK K
          try simp only [Act.put, List.setIfInBounds_toArray, List.set_cons_zero, List.set_cons_succ]
          refine wpAnyL_take (i := 4) (oi := ?ozz3) (v := ?vzz3) ?hzz3 ?azz3 ?bzz3 ?czz3 ?kzz3 ?qzz3 ?yzz3 ?szz3 ?rzz3
          case hzz3 => simp only [List.getElem?_toArray, List.getElem?_cons_zero, List.getElem?_cons_succ]; rfl
          case azz3 => kernel_rfl
          case bzz3 => kernel_rfl
          case czz3 => kernel_rfl
          case kzz3 => kernel_rfl
          case yzz3 =>
            refine Or.inl ⟨by rfl, ?_⟩
            intro w hSw
            skip
            go_simp
            try with_reducible rfl
          case qzz3 => exact fun _ _ _ h => h
          case szz3 => first | assumption | trivial
          case' rzz3 => simp only [Act.put, List.setIfInBounds_toArray, List.set_cons_zero, List.set_cons_succ]
          refine wpAnyL_take (i := 5) (oi := ?ozz4) (v := ?vzz4) ?hzz4 ?azz4 ?bzz4 ?czz4 ?kzz4 ?qzz4 ?yzz4 ?szz4 ?rzz4
          case hzz4 => simp only [List.getElem?_toArray, List.getElem?_cons_zero, List.getElem?_cons_succ]; rfl
          case azz4 => kernel_rfl
          case bzz4 => kernel_rfl
          case czz4 => kernel_rfl
          case kzz4 => kernel_rfl
          case yzz4 =>
            refine Or.inl ⟨by rfl, ?_⟩
            intro w hSw
            skip
            go_simp
            try with_reducible rfl
          case qzz4 => exact fun _ _ _ h => h
          case szz4 => first | assumption | trivial
          case' rzz4 => simp only [Act.put, List.setIfInBounds_toArray, List.set_cons_zero, List.set_cons_succ]
          refine wpAnyL_ready (rs := [6, 7]) (by kernel_rfl) (by simp) ?_
          refine AllReadyL.cons (o := ?ozz9) ?hzz9 (fun K hK => ?kzz9) ?mzz9
          case hzz9 => simp only [List.getElem?_toArray, List.getElem?_cons_zero, List.getElem?_cons_succ]; rfl
          case kzz9 =>
            go_simp
            refine hK.out _ _ ?Szz9 (fun hHeld => ?Rzz9)
            case Szz9 =>
              exact hHeld
            case Rzz9 =>
              clear hK K
              try simp only [Act.put, List.setIfInBounds_toArray, List.set_cons_zero, List.set_cons_succ]
              refine wpAnyL_ready (rs := [7]) (by kernel_rfl) (by simp) ?_
              refine AllReadyL.consK (o := ?ozz6) ?hzz6 ?lzz6 (fun K hK => ?kzz6) ?mzz6
              case hzz6 => simp only [List.getElem?_toArray, List.getElem?_cons_zero, List.getElem?_cons_succ]; rfl
              case lzz6 => kernel_rfl
              case kzz6 =>
                go_simp
                refine hK.out _ _ ?Rzz6
                case Rzz6 =>
                  clear hK K
                  try simp only [Act.put, List.setIfInBounds_toArray, List.set_cons_zero, List.set_cons_succ]
                  refine wpAnyH_take (i := 8) (oi := ?ozz5) (v := ?vzz5) ?hzz5 ?azz5 ?bzz5 ?czz5 ?qzz5 ?yzz5 ?szz5 ?rzz5
                  case hzz5 => simp only [List.getElem?_toArray, List.getElem?_cons_zero, List.getElem?_cons_succ]; rfl
                  case azz5 => kernel_rfl
                  case bzz5 => kernel_rfl
                  case czz5 => kernel_rfl
                  case yzz5 =>
                    refine Or.inl ⟨by rfl, ?_⟩
                    intro w hSw
                    skip
                    go_simp
                    try with_reducible rfl
                  case qzz5 => exact fun _ _ _ h => h
                  case szz5 => first | assumption | trivial
                  case' rzz5 => simp only [Act.put, List.setIfInBounds_toArray, List.set_cons_zero, List.set_cons_succ]
                  refine wpAnyH_done (by kernel_rfl) ?_ _
                  have hn5 : n5 * 48 ≤ 140737488355328 := by have h1 := Z5.out.1.len; have h2 := HD.out.len; have h3 := HD.out.few; have h4 : l2.length = l.length := hal; have h5 : l2.length = n5 := h1; omega
                  have D1 := Lib.hid (Sd.new2 (room := room2) (fuse := fuse2) (off := off2) (L := l2) (Y.out.step Z5.out.2.1) Z5.out.2.2 Z5.out.1)
                  clear e0 e1 e2 e3 f0 f1 f2' f3 x0 x1 x2 x3 y0 y1 y2 y3
                  generalize ((((w5.setCell ⟨w.heap.size, 0, none⟩ (.slice A5 n5 c5)).setCell ⟨w.heap.size, 1, none⟩ (.int .i64 room2)).setCell ⟨w.heap.size, 2, none⟩ (.int .i64 fuse2)).setCell ⟨w.heap.size, 3, none⟩ (.bool off2)) = V at D1 ⊢
                  obtain ⟨⟨e0, e1, e2, e3⟩, f0, f1, f2', f3⟩ := D1.out.sb.get
                  obtain ⟨⟨s0, s1, s2, s3⟩, h0, h1, h2, h3⟩ := D1.out.sb.getR
                  go_wp2
                  refine bodyPost_ret (v := .tuple #[dkv A5 n5 c5 room2 fuse2 off2, .int .i64 seg, .int .i64 er]) (by simp [results, Tryz.results15, go_sem, s0, s1, s2, s3]) rfl ?_
                  exact D1.out.endW hn5 [.int .i64 seg, .int .i64 er] _ _ _ _
              case' mzz6 => skip
              exact AllReadyL.nil
          case' mzz9 => skip
          refine AllReadyL.consK (o := ?ozz10) ?hzz10 ?lzz10 (fun K hK => ?kzz10) ?mzz10
          case hzz10 => simp only [List.getElem?_toArray, List.getElem?_cons_zero, List.getElem?_cons_succ]; rfl
          case lzz10 => kernel_rfl
          case kzz10 =>
            go_simp
            refine hK.out _ _ ?Rzz10
            case Rzz10 =>
              clear hK K
              try simp only [Act.put, List.setIfInBounds_toArray, List.set_cons_zero, List.set_cons_succ]
              refine wpAnyH_take (i := 6) (oi := ?ozz7) (v := ?vzz7) ?hzz7 ?azz7 ?bzz7 ?czz7 ?qzz7 ?yzz7 ?szz7 ?rzz7
              case hzz7 => simp only [List.getElem?_toArray, List.getElem?_cons_zero, List.getElem?_cons_succ]; rfl
              case azz7 => kernel_rfl
              case bzz7 => kernel_rfl
              case czz7 => kernel_rfl
              case yzz7 =>
                refine Or.inl ⟨by rfl, ?_⟩
                intro w hSw
                skip
                go_simp
                try with_reducible rfl
              case qzz7 => exact fun _ _ _ h => h
              case szz7 => first | assumption | trivial
              case' rzz7 => simp only [Act.put, List.setIfInBounds_toArray, List.set_cons_zero, List.set_cons_succ]
              refine wpAnyH_take (i := 8) (oi := ?ozz8) (v := ?vzz8) ?hzz8 ?azz8 ?bzz8 ?czz8 ?qzz8 ?yzz8 ?szz8 ?rzz8
              case hzz8 => simp only [List.getElem?_toArray, List.getElem?_cons_zero, List.getElem?_cons_succ]; rfl
              case azz8 => kernel_rfl
              case bzz8 => kernel_rfl
              case czz8 => kernel_rfl
              case yzz8 =>
                refine Or.inl ⟨by rfl, ?_⟩
                intro w hSw
                skip
                go_simp
                try with_reducible rfl
              case qzz8 => exact fun _ _ _ h => h
              case szz8 => first | assumption | trivial
              case' rzz8 => simp only [Act.put, List.setIfInBounds_toArray, List.set_cons_zero, List.set_cons_succ]
              refine wpAnyH_done (by kernel_rfl) ?_ _
              have hn5 : n5 * 48 ≤ 140737488355328 := by have h1 := Z5.out.1.len; have h2 := HD.out.len; have h3 := HD.out.few; have h4 : l2.length = l.length := hal; have h5 : l2.length = n5 := h1; omega
              have D1 := Lib.hid (Sd.new2 (room := room2) (fuse := fuse2) (off := off2) (L := l2) (Y.out.step Z5.out.2.1) Z5.out.2.2 Z5.out.1)
              clear e0 e1 e2 e3 f0 f1 f2' f3 x0 x1 x2 x3 y0 y1 y2 y3
              generalize ((((w5.setCell ⟨w.heap.size, 0, none⟩ (.slice A5 n5 c5)).setCell ⟨w.heap.size, 1, none⟩ (.int .i64 room2)).setCell ⟨w.heap.size, 2, none⟩ (.int .i64 fuse2)).setCell ⟨w.heap.size, 3, none⟩ (.bool off2)) = V at D1 ⊢
              obtain ⟨⟨e0, e1, e2, e3⟩, f0, f1, f2', f3⟩ := D1.out.sb.get
              obtain ⟨⟨s0, s1, s2, s3⟩, h0, h1, h2, h3⟩ := D1.out.sb.getR
              go_wp2
              refine bodyPost_ret (v := .tuple #[dkv A5 n5 c5 room2 fuse2 off2, .int .i64 seg, .int .i64 er]) (by simp [results, Tryz.results15, go_sem, s0, s1, s2, s3]) rfl ?_
              exact D1.out.endW hn5 [.int .i64 seg, .int .i64 er] _ _ _ _
          case' mzz10 => skip
          exact AllReadyL.nil
      case' mzz11 => skip
      exact AllReadyL.nil
  case' mzz12 => skip
  exact AllReadyL.nil

set_option maxHeartbeats 8000000 in
theorem put_full (seg : Int) (rec : ByteArray) (A : Option Addr) (n c : Nat) (d : Dk) (w : World) (hT : Tab w) (hd : Dsk w A n c d.fs) (hB : Bnd 2305843009213693952 d) (h1 : segOk seg) (h2 : rec.size ≤ 2048) (h3 : 256 ≤ (redd (namB seg) d.fs).1.size) (he : (syn d (namB seg)).2 = 0) (hf : seg = 1000000) :
    Calls Tryz.prog 15 #[dkv A n c d.room d.fuse d.off, .int .i64 seg, .string rec] w fun e w' => RetW w (((syn d (namB seg)).1, seg, 5)).1 [.int .i64 (((syn d (namB seg)).1, seg, 5)).2.1, .int .i64 (((syn d (namB seg)).1, seg, 5)).2.2] e w' := by
  obtain ⟨l, room, fuse, off⟩ := d
  have HT := Lib.hid hT
  have HD := Lib.hid hd
  have HN := Lib.hid hd.max
  have hmx : ∀ f ∈ l, f.sf.size + f.wt.size ≤ maxLen := fun f hf => Nat.le_trans (hB.sum f hf) (by unfold maxLen; omega)
  have hBs := hB.syn (namB seg)
  have hal := syn_len ⟨l, room, fuse, off⟩ (namB seg)
  have KS := Lib.hid (fun w hd => sync_any (namB seg) A n c ⟨l, room, fuse, off⟩ w hd hmx)
  have KR := Lib.hid (fun w hf => read_any (namB seg) A n c room fuse off l w hf HN.out hmx)
  have KN := Lib.hid (name_any seg)
  have KU := Lib.hid (numbered_yes seg h1)
  have KU2 := Lib.hid (numbered_no (seg + 1) (by unfold segOk; omega))
  have r0 := h1.1
  have r1 := h1.2
  clear hf
  generalize syn ⟨l, room, fuse, off⟩ (namB seg) = r at hal KS hBs he ⊢
  obtain ⟨⟨l2, room2, fuse2, off2⟩, er⟩ := r
  have he' : er = 0 := he
  have h3' : 256 ≤ (redd (namB seg) l).1.size := h3
  generalize redd (namB seg) l = b at KR h3'
  obtain ⟨b, be⟩ := b
  have t3 : 256 ≤ b.size := h3'
  clear hT hd hB hmx h1 h3 h3' he
  go_enter Tryz.func15, Tryz.ntmps15
  go_wp2_with fail
  refine (KU.out _).mono ?_
  rintro e w1 ⟨rfl, q1⟩
  have X := Lib.hid ((Sb.new w A n c room fuse off).step q1)
  clear q1
  go_upto_region 5 with (fail)
  obtain ⟨⟨e0, e1, e2, e3⟩, f0, f1, f2', f3⟩ := X.out.get
  go_region_held3 (fun w' => w'.cell? ⟨w.heap.size, 0, none⟩ = some (.slice A n c) ∧ w'.cell? ⟨w.heap.size, 1, none⟩ = some (.int .i64 room) ∧ w'.cell? ⟨w.heap.size, 2, none⟩ = some (.int .i64 fuse) ∧ w'.cell? ⟨w.heap.size, 3, none⟩ = some (.bool off))
    (first
      | go_keep
      | (go_split_ands
         (repeat' apply And.intro) <;> exact box_ ‹Q _ _› (by assumption)))
    (first
      | (go_at_call 13
         (with_reducible refine (KN.out _ (HT.out.q (X.out.q.trans (Q.refl w1).drew))).mono ?_)
         rintro e w2 ⟨rfl, q2⟩)
      | (go_at_call 20
         (with_reducible refine (KR.out _ (HD.out.files.q (X.out.q.trans ((Q.refl w1).drew.trans q2)))).mono ?_)
         rintro e w3 ⟨rfl, q3⟩))
  have Y := Lib.hid (X.out.step (((Q.refl w1).drew.trans q2).trans q3))
  clear X q2 q3 e0 e1 e2 e3 f0 f1 f2' f3
  have DW := Lib.hid (HD.out.q Y.out.q)
  obtain ⟨⟨e0, e1, e2, e3⟩, f0, f1, f2', f3⟩ := Y.out.get
  go_upto_region 8 with (fail)
  generalize w3 = W at Y DW e0 e1 e2 e3 f0 f1 f2' f3 ⊢
  have QW := Lib.hid (Q.refl W)
  refine wp_region_heldL 7 (Q W) (by kernel_rfl) ?szz13 (fun hHeld => ?rzz13)
  case szz13 =>
    exact (Q.refl W).drew
  case' rzz13 => skip
  refine wpAnyL_take (i := 0) (oi := ?ozz14) (v := ?vzz14) ?hzz14 ?azz14 ?bzz14 ?czz14 ?kzz14 ?qzz14 ?yzz14 ?szz14 ?rzz14
  case hzz14 => simp only [List.getElem?_toArray, List.getElem?_cons_zero]; rfl
  case azz14 => kernel_rfl
  case bzz14 => kernel_rfl
  case czz14 => kernel_rfl
  case kzz14 => kernel_rfl
  case yzz14 =>
    refine Or.inl ⟨by rfl, ?_⟩
    intro w hSw
    have x0 := box_ hSw e0; have x1 := box_ hSw e1; have x2 := box_ hSw e2; have x3 := box_ hSw e3; clear hSw
    go_simp
    try with_reducible rfl
  case qzz14 => exact fun _ _ _ h => h
  case szz14 => first | assumption | trivial
  case' rzz14 => simp only [Act.put, List.setIfInBounds_toArray, List.set_cons_zero, List.set_cons_succ]
  refine wpAnyL_take (i := 1) (oi := ?ozz15) (v := ?vzz15) ?hzz15 ?azz15 ?bzz15 ?czz15 ?kzz15 ?qzz15 ?yzz15 ?szz15 ?rzz15
  case hzz15 => simp only [List.getElem?_toArray, List.getElem?_cons_zero, List.getElem?_cons_succ]; rfl
  case azz15 => kernel_rfl
  case bzz15 => kernel_rfl
  case czz15 => kernel_rfl
  case kzz15 => kernel_rfl
  case yzz15 =>
    refine Or.inl ⟨by rfl, ?_⟩
    intro w hSw
    skip
    go_simp
    try with_reducible rfl
  case qzz15 => exact fun _ _ _ h => h
  case szz15 => first | assumption | trivial
  case' rzz15 => simp only [Act.put, List.setIfInBounds_toArray, List.set_cons_zero, List.set_cons_succ]
  refine wpAnyL_ready (rs := [2]) (by kernel_rfl) (by simp) ?_
  refine AllReadyL.cons (o := ?ozz25) ?hzz25 (fun K hK => ?kzz25) ?mzz25
  case hzz25 => simp only [List.getElem?_toArray, List.getElem?_cons_zero, List.getElem?_cons_succ]; rfl
  case kzz25 =>
    go_simp
    refine (KN.out _ (HT.out.q (Y.out.q.trans hHeld))).mono ?_
    rintro e w3 ⟨rfl, q3⟩
    go_wp2_with fail
    refine hK.out _ _ ?Szz25 (fun hHeld => ?Rzz25)
    case Szz25 =>
      exact hHeld.trans q3
    case Rzz25 =>
      clear hK K
      try simp only [Act.put, List.setIfInBounds_toArray, List.set_cons_zero, List.set_cons_succ]
      refine wpAnyL_ready (rs := [3]) (by kernel_rfl) (by simp) ?_
      refine AllReadyL.cons (o := ?ozz24) ?hzz24 (fun K hK => ?kzz24) ?mzz24
      case hzz24 => simp only [List.getElem?_toArray, List.getElem?_cons_zero, List.getElem?_cons_succ]; rfl
      case kzz24 =>
        go_simp
        refine (KS.out _ (DW.out.q hHeld)).mono ?_
        rintro e w5 ⟨A5, n5, c5, rfl, ho, q5⟩
        obtain ⟨⟨x0, x1, x2, x3⟩, y0, y1, y2, y3⟩ := ((Y.out.step hHeld).step q5).get
        have Z5 := Lib.hid (And.intro ho (And.intro hHeld q5))
        go_wp2_with fail
        refine hK.out _ _ ?Szz24 (fun hHeld => ?Rzz24)
        case Szz24 =>
          exact hHeld.trans q5
        case Rzz24 =>
          clear hK K
          try simp only [Act.put, List.setIfInBounds_toArray, List.set_cons_zero, List.set_cons_succ]
          refine wpAnyL_take (i := 4) (oi := ?ozz16) (v := ?vzz16) ?hzz16 ?azz16 ?bzz16 ?czz16 ?kzz16 ?qzz16 ?yzz16 ?szz16 ?rzz16
          case hzz16 => simp only [List.getElem?_toArray, List.getElem?_cons_zero, List.getElem?_cons_succ]; rfl
          case azz16 => kernel_rfl
          case bzz16 => kernel_rfl
          case czz16 => kernel_rfl
          case kzz16 => kernel_rfl
          case yzz16 =>
            refine Or.inl ⟨by rfl, ?_⟩
            intro w hSw
            skip
            go_simp
            try with_reducible rfl
          case qzz16 => exact fun _ _ _ h => h
          case szz16 => first | assumption | trivial
          case' rzz16 => simp only [Act.put, List.setIfInBounds_toArray, List.set_cons_zero, List.set_cons_succ]
          refine wpAnyL_take (i := 5) (oi := ?ozz17) (v := ?vzz17) ?hzz17 ?azz17 ?bzz17 ?czz17 ?kzz17 ?qzz17 ?yzz17 ?szz17 ?rzz17
          case hzz17 => simp only [List.getElem?_toArray, List.getElem?_cons_zero, List.getElem?_cons_succ]; rfl
          case azz17 => kernel_rfl
          case bzz17 => kernel_rfl
          case czz17 => kernel_rfl
          case kzz17 => kernel_rfl
          case yzz17 =>
            refine Or.inl ⟨by rfl, ?_⟩
            intro w hSw
            skip
            go_simp
            try with_reducible rfl
          case qzz17 => exact fun _ _ _ h => h
          case szz17 => first | assumption | trivial
          case' rzz17 => simp only [Act.put, List.setIfInBounds_toArray, List.set_cons_zero, List.set_cons_succ]
          refine wpAnyL_ready (rs := [6, 7]) (by kernel_rfl) (by simp) ?_
          refine AllReadyL.cons (o := ?ozz22) ?hzz22 (fun K hK => ?kzz22) ?mzz22
          case hzz22 => simp only [List.getElem?_toArray, List.getElem?_cons_zero, List.getElem?_cons_succ]; rfl
          case kzz22 =>
            go_simp
            refine hK.out _ _ ?Szz22 (fun hHeld => ?Rzz22)
            case Szz22 =>
              exact hHeld
            case Rzz22 =>
              clear hK K
              try simp only [Act.put, List.setIfInBounds_toArray, List.set_cons_zero, List.set_cons_succ]
              refine wpAnyL_ready (rs := [7]) (by kernel_rfl) (by simp) ?_
              refine AllReadyL.consK (o := ?ozz19) ?hzz19 ?lzz19 (fun K hK => ?kzz19) ?mzz19
              case hzz19 => simp only [List.getElem?_toArray, List.getElem?_cons_zero, List.getElem?_cons_succ]; rfl
              case lzz19 => kernel_rfl
              case kzz19 =>
                go_simp
                refine hK.out _ _ ?Rzz19
                case Rzz19 =>
                  clear hK K
                  try simp only [Act.put, List.setIfInBounds_toArray, List.set_cons_zero, List.set_cons_succ]
                  refine wpAnyH_take (i := 8) (oi := ?ozz18) (v := ?vzz18) ?hzz18 ?azz18 ?bzz18 ?czz18 ?qzz18 ?yzz18 ?szz18 ?rzz18
                  case hzz18 => simp only [List.getElem?_toArray, List.getElem?_cons_zero, List.getElem?_cons_succ]; rfl
                  case azz18 => kernel_rfl
                  case bzz18 => kernel_rfl
                  case czz18 => kernel_rfl
                  case yzz18 =>
                    refine Or.inl ⟨by rfl, ?_⟩
                    intro w hSw
                    skip
                    go_simp
                    try with_reducible rfl
                  case qzz18 => exact fun _ _ _ h => h
                  case szz18 => first | assumption | trivial
                  case' rzz18 => simp only [Act.put, List.setIfInBounds_toArray, List.set_cons_zero, List.set_cons_succ]
                  refine wpAnyH_done (by kernel_rfl) ?_ _
                  have hn5 : n5 * 48 ≤ 140737488355328 := by have h1 := Z5.out.1.len; have h2 := HD.out.len; have h3 := HD.out.few; have h4 : l2.length = l.length := hal; have h5 : l2.length = n5 := h1; omega
                  have D1 := Lib.hid (Sd.new2 (room := room2) (fuse := fuse2) (off := off2) (L := l2) (Y.out.step Z5.out.2.1) Z5.out.2.2 Z5.out.1)
                  clear e0 e1 e2 e3 f0 f1 f2' f3 x0 x1 x2 x3 y0 y1 y2 y3
                  generalize ((((w5.setCell ⟨w.heap.size, 0, none⟩ (.slice A5 n5 c5)).setCell ⟨w.heap.size, 1, none⟩ (.int .i64 room2)).setCell ⟨w.heap.size, 2, none⟩ (.int .i64 fuse2)).setCell ⟨w.heap.size, 3, none⟩ (.bool off2)) = V at D1 ⊢
                  obtain ⟨⟨e0, e1, e2, e3⟩, f0, f1, f2', f3⟩ := D1.out.sb.get
                  obtain ⟨⟨s0, s1, s2, s3⟩, h0, h1, h2, h3⟩ := D1.out.sb.getR
                  subst he'
                  go_wp2_with fail
                  refine (KU2.out _).mono ?_
                  rintro e w7 ⟨rfl, q7⟩
                  have D2 := Lib.hid (Sd.mk (D1.out.sb.step q7) (D1.out.own.q q7))
                  clear D1 e0 e1 e2 e3 f0 f1 f2' f3 s0 s1 s2 s3 h0 h1 h2 h3
                  have D1 := D2
                  clear D2
                  obtain ⟨⟨e0, e1, e2, e3⟩, f0, f1, f2', f3⟩ := D1.out.sb.get
                  obtain ⟨⟨s0, s1, s2, s3⟩, h0, h1, h2, h3⟩ := D1.out.sb.getR
                  go_wp2
                  refine bodyPost_ret (v := .tuple #[dkv A5 n5 c5 room2 fuse2 off2, .int .i64 seg, .int .i64 5]) (by simp [results, Tryz.results15, go_sem, s0, s1, s2, s3]) rfl ?_
                  exact D1.out.endW hn5 [.int .i64 seg, .int .i64 5] _ _ _ _
              case' mzz19 => skip
              exact AllReadyL.nil
          case' mzz22 => skip
          refine AllReadyL.consK (o := ?ozz23) ?hzz23 ?lzz23 (fun K hK => ?kzz23) ?mzz23
          case hzz23 => simp only [List.getElem?_toArray, List.getElem?_cons_zero, List.getElem?_cons_succ]; rfl
          case lzz23 => kernel_rfl
          case kzz23 =>
            go_simp
            refine hK.out _ _ ?Rzz23
            case Rzz23 =>
              clear hK K
              try simp only [Act.put, List.setIfInBounds_toArray, List.set_cons_zero, List.set_cons_succ]
              refine wpAnyH_take (i := 6) (oi := ?ozz20) (v := ?vzz20) ?hzz20 ?azz20 ?bzz20 ?czz20 ?qzz20 ?yzz20 ?szz20 ?rzz20
              case hzz20 => simp only [List.getElem?_toArray, List.getElem?_cons_zero, List.getElem?_cons_succ]; rfl
              case azz20 => kernel_rfl
              case bzz20 => kernel_rfl
              case czz20 => kernel_rfl
              case yzz20 =>
                refine Or.inl ⟨by rfl, ?_⟩
                intro w hSw
                skip
                go_simp
                try with_reducible rfl
              case qzz20 => exact fun _ _ _ h => h
              case szz20 => first | assumption | trivial
              case' rzz20 => simp only [Act.put, List.setIfInBounds_toArray, List.set_cons_zero, List.set_cons_succ]
              refine wpAnyH_take (i := 8) (oi := ?ozz21) (v := ?vzz21) ?hzz21 ?azz21 ?bzz21 ?czz21 ?qzz21 ?yzz21 ?szz21 ?rzz21
              case hzz21 => simp only [List.getElem?_toArray, List.getElem?_cons_zero, List.getElem?_cons_succ]; rfl
              case azz21 => kernel_rfl
              case bzz21 => kernel_rfl
              case czz21 => kernel_rfl
              case yzz21 =>
                refine Or.inl ⟨by rfl, ?_⟩
                intro w hSw
                skip
                go_simp
                try with_reducible rfl
              case qzz21 => exact fun _ _ _ h => h
              case szz21 => first | assumption | trivial
              case' rzz21 => simp only [Act.put, List.setIfInBounds_toArray, List.set_cons_zero, List.set_cons_succ]
              refine wpAnyH_done (by kernel_rfl) ?_ _
              have hn5 : n5 * 48 ≤ 140737488355328 := by have h1 := Z5.out.1.len; have h2 := HD.out.len; have h3 := HD.out.few; have h4 : l2.length = l.length := hal; have h5 : l2.length = n5 := h1; omega
              have D1 := Lib.hid (Sd.new2 (room := room2) (fuse := fuse2) (off := off2) (L := l2) (Y.out.step Z5.out.2.1) Z5.out.2.2 Z5.out.1)
              clear e0 e1 e2 e3 f0 f1 f2' f3 x0 x1 x2 x3 y0 y1 y2 y3
              generalize ((((w5.setCell ⟨w.heap.size, 0, none⟩ (.slice A5 n5 c5)).setCell ⟨w.heap.size, 1, none⟩ (.int .i64 room2)).setCell ⟨w.heap.size, 2, none⟩ (.int .i64 fuse2)).setCell ⟨w.heap.size, 3, none⟩ (.bool off2)) = V at D1 ⊢
              obtain ⟨⟨e0, e1, e2, e3⟩, f0, f1, f2', f3⟩ := D1.out.sb.get
              obtain ⟨⟨s0, s1, s2, s3⟩, h0, h1, h2, h3⟩ := D1.out.sb.getR
              subst he'
              go_wp2_with fail
              refine (KU2.out _).mono ?_
              rintro e w7 ⟨rfl, q7⟩
              have D2 := Lib.hid (Sd.mk (D1.out.sb.step q7) (D1.out.own.q q7))
              clear D1 e0 e1 e2 e3 f0 f1 f2' f3 s0 s1 s2 s3 h0 h1 h2 h3
              have D1 := D2
              clear D2
              obtain ⟨⟨e0, e1, e2, e3⟩, f0, f1, f2', f3⟩ := D1.out.sb.get
              obtain ⟨⟨s0, s1, s2, s3⟩, h0, h1, h2, h3⟩ := D1.out.sb.getR
              go_wp2
              refine bodyPost_ret (v := .tuple #[dkv A5 n5 c5 room2 fuse2 off2, .int .i64 seg, .int .i64 5]) (by simp [results, Tryz.results15, go_sem, s0, s1, s2, s3]) rfl ?_
              exact D1.out.endW hn5 [.int .i64 seg, .int .i64 5] _ _ _ _
          case' mzz23 => skip
          exact AllReadyL.nil
      case' mzz24 => skip
      exact AllReadyL.nil
  case' mzz25 => skip
  exact AllReadyL.nil

set_option maxHeartbeats 8000000 in
theorem put_next (seg : Int) (rec : ByteArray) (A : Option Addr) (n c : Nat) (d : Dk) (w : World) (hT : Tab w) (hd : Dsk w A n c d.fs) (hB : Bnd 2305843009213693952 d) (h1 : segOk seg) (h2 : rec.size ≤ 2048) (h3 : 256 ≤ (redd (namB seg) d.fs).1.size) (he : (syn d (namB seg)).2 = 0) (hf : ¬ seg = 1000000) :
    Calls Tryz.prog 15 #[dkv A n c d.room d.fuse d.off, .int .i64 seg, .string rec] w fun e w' => RetW w (putA (syn d (namB seg)).1 (seg + 1) rec).1 [.int .i64 (putA (syn d (namB seg)).1 (seg + 1) rec).2.1, .int .i64 (putA (syn d (namB seg)).1 (seg + 1) rec).2.2] e w' := by
  obtain ⟨l, room, fuse, off⟩ := d
  have HT := Lib.hid hT
  have HD := Lib.hid hd
  have HN := Lib.hid hd.max
  have hmx : ∀ f ∈ l, f.sf.size + f.wt.size ≤ maxLen := fun f hf => Nat.le_trans (hB.sum f hf) (by unfold maxLen; omega)
  have hBs := hB.syn (namB seg)
  have hal := syn_len ⟨l, room, fuse, off⟩ (namB seg)
  have KS := Lib.hid (fun w hd => sync_any (namB seg) A n c ⟨l, room, fuse, off⟩ w hd hmx)
  have KR := Lib.hid (fun w hf => read_any (namB seg) A n c room fuse off l w hf HN.out hmx)
  have KN := Lib.hid (name_any seg)
  have KU := Lib.hid (numbered_yes seg h1)
  have h1s : segOk (seg + 1) := by have h4 := h1.1; have h5 := h1.2; unfold segOk; omega
  have r0 := h1.1
  have r1 := h1.2
  have KU2 := Lib.hid (numbered_yes (seg + 1) h1s)
  have KN2 := Lib.hid (name_any (seg + 1))
  have hsb : (sealB rec).size ≤ 2305843009213693952 := by rw [sealB_size]; have := sld_length rec.data.toList (by rw [size_list]; omega); rw [size_list] at this; omega
  have KA2 := Lib.hid (fun (A : Option Addr) n c w hd => append_any (namB (seg + 1)) (sealB rec) A n c (syn ⟨l, room, fuse, off⟩ (namB seg)).1 w hd hBs.sum hsb hBs.room.2 hBs.fuse.2)
  have KL := Lib.hid (fun w => seal_any rec w (by omega))
  change Hid (∀ w, Calls _ _ _ w fun e w' => e = .returned (.string (sealB rec)) ∧ Q w w') at KL
  unfold putA
  have hal2 := appd_few (syn ⟨l, room, fuse, off⟩ (namB seg)).1 (namB (seg + 1)) (sealB rec)
  generalize syn ⟨l, room, fuse, off⟩ (namB seg) = r at hal KS hBs he KA2 hal2 ⊢
  obtain ⟨⟨l2, room2, fuse2, off2⟩, er⟩ := r
  dsimp only at KA2 hal2 ⊢
  generalize appd ⟨l2, room2, fuse2, off2⟩ (namB (seg + 1)) (sealB rec) = r2 at KA2 hal2 ⊢
  generalize sealB rec = sr at KA2 KL
  clear hsb
  have he' : er = 0 := he
  have h3' : 256 ≤ (redd (namB seg) l).1.size := h3
  generalize redd (namB seg) l = b at KR h3'
  obtain ⟨b, be⟩ := b
  have t3 : 256 ≤ b.size := h3'
  clear hT hd hB hmx h1 h3 h3' he
  go_enter Tryz.func15, Tryz.ntmps15
  go_wp2_with fail
  refine (KU.out _).mono ?_
  rintro e w1 ⟨rfl, q1⟩
  have X := Lib.hid ((Sb.new w A n c room fuse off).step q1)
  clear q1
  go_upto_region 5 with (fail)
  obtain ⟨⟨e0, e1, e2, e3⟩, f0, f1, f2', f3⟩ := X.out.get
  go_region_held3 (fun w' => w'.cell? ⟨w.heap.size, 0, none⟩ = some (.slice A n c) ∧ w'.cell? ⟨w.heap.size, 1, none⟩ = some (.int .i64 room) ∧ w'.cell? ⟨w.heap.size, 2, none⟩ = some (.int .i64 fuse) ∧ w'.cell? ⟨w.heap.size, 3, none⟩ = some (.bool off))
    (first
      | go_keep
      | (go_split_ands
         (repeat' apply And.intro) <;> exact box_ ‹Q _ _› (by assumption)))
    (first
      | (go_at_call 13
         (with_reducible refine (KN.out _ (HT.out.q (X.out.q.trans (Q.refl w1).drew))).mono ?_)
         rintro e w2 ⟨rfl, q2⟩)
      | (go_at_call 20
         (with_reducible refine (KR.out _ (HD.out.files.q (X.out.q.trans ((Q.refl w1).drew.trans q2)))).mono ?_)
         rintro e w3 ⟨rfl, q3⟩))
  have Y := Lib.hid (X.out.step (((Q.refl w1).drew.trans q2).trans q3))
  clear X q2 q3 e0 e1 e2 e3 f0 f1 f2' f3
  have DW := Lib.hid (HD.out.q Y.out.q)
  obtain ⟨⟨e0, e1, e2, e3⟩, f0, f1, f2', f3⟩ := Y.out.get
  go_upto_region 8 with (fail)
  generalize w3 = W at Y DW e0 e1 e2 e3 f0 f1 f2' f3 ⊢
  have QW := Lib.hid (Q.refl W)
  refine wp_region_heldL 7 (Q W) (by kernel_rfl) ?szz26 (fun hHeld => ?rzz26)
  case szz26 =>
    exact (Q.refl W).drew
  case' rzz26 => skip
  refine wpAnyL_take (i := 0) (oi := ?ozz27) (v := ?vzz27) ?hzz27 ?azz27 ?bzz27 ?czz27 ?kzz27 ?qzz27 ?yzz27 ?szz27 ?rzz27
  case hzz27 => simp only [List.getElem?_toArray, List.getElem?_cons_zero]; rfl
  case azz27 => kernel_rfl
  case bzz27 => kernel_rfl
  case czz27 => kernel_rfl
  case kzz27 => kernel_rfl
  case yzz27 =>
    refine Or.inl ⟨by rfl, ?_⟩
    intro w hSw
    have x0 := box_ hSw e0; have x1 := box_ hSw e1; have x2 := box_ hSw e2; have x3 := box_ hSw e3; clear hSw
    go_simp
    try with_reducible rfl
  case qzz27 => exact fun _ _ _ h => h
  case szz27 => first | assumption | trivial
  case' rzz27 => simp only [Act.put, List.setIfInBounds_toArray, List.set_cons_zero, List.set_cons_succ]
  refine wpAnyL_take (i := 1) (oi := ?ozz28) (v := ?vzz28) ?hzz28 ?azz28 ?bzz28 ?czz28 ?kzz28 ?qzz28 ?yzz28 ?szz28 ?rzz28
  case hzz28 => simp only [List.getElem?_toArray, List.getElem?_cons_zero, List.getElem?_cons_succ]; rfl
  case azz28 => kernel_rfl
  case bzz28 => kernel_rfl
  case czz28 => kernel_rfl
  case kzz28 => kernel_rfl
  case yzz28 =>
    refine Or.inl ⟨by rfl, ?_⟩
    intro w hSw
    skip
    go_simp
    try with_reducible rfl
  case qzz28 => exact fun _ _ _ h => h
  case szz28 => first | assumption | trivial
  case' rzz28 => simp only [Act.put, List.setIfInBounds_toArray, List.set_cons_zero, List.set_cons_succ]
  refine wpAnyL_ready (rs := [2]) (by kernel_rfl) (by simp) ?_
  refine AllReadyL.cons (o := ?ozz68) ?hzz68 (fun K hK => ?kzz68) ?mzz68
  case hzz68 => simp only [List.getElem?_toArray, List.getElem?_cons_zero, List.getElem?_cons_succ]; rfl
  case kzz68 =>
    go_simp
    refine (KN.out _ (HT.out.q (Y.out.q.trans hHeld))).mono ?_
    rintro e w3 ⟨rfl, q3⟩
    go_wp2_with fail
    refine hK.out _ _ ?Szz68 (fun hHeld => ?Rzz68)
    case Szz68 =>
      exact hHeld.trans q3
    case Rzz68 =>
      clear hK K
      try simp only [Act.put, List.setIfInBounds_toArray, List.set_cons_zero, List.set_cons_succ]
      refine wpAnyL_ready (rs := [3]) (by kernel_rfl) (by simp) ?_
      refine AllReadyL.cons (o := ?ozz67) ?hzz67 (fun K hK => ?kzz67) ?mzz67
      case hzz67 => simp only [List.getElem?_toArray, List.getElem?_cons_zero, List.getElem?_cons_succ]; rfl
      case kzz67 =>
        go_simp
        refine (KS.out _ (DW.out.q hHeld)).mono ?_
        rintro e w5 ⟨A5, n5, c5, rfl, ho, q5⟩
        obtain ⟨⟨x0, x1, x2, x3⟩, y0, y1, y2, y3⟩ := ((Y.out.step hHeld).step q5).get
        have Z5 := Lib.hid (And.intro ho (And.intro hHeld q5))
        go_wp2_with fail
        refine hK.out _ _ ?Szz67 (fun hHeld => ?Rzz67)
        case Szz67 =>
          exact hHeld.trans q5
        case Rzz67 =>
          clear hK K
          try simp only [Act.put, List.setIfInBounds_toArray, List.set_cons_zero, List.set_cons_succ]
          refine wpAnyL_take (i := 4) (oi := ?ozz29) (v := ?vzz29) ?hzz29 ?azz29 ?bzz29 ?czz29 ?kzz29 ?qzz29 ?yzz29 ?szz29 ?rzz29
          case hzz29 => simp only [List.getElem?_toArray, List.getElem?_cons_zero, List.getElem?_cons_succ]; rfl
          case azz29 => kernel_rfl
          case bzz29 => kernel_rfl
          case czz29 => kernel_rfl
          case kzz29 => kernel_rfl
          case yzz29 =>
            refine Or.inl ⟨by rfl, ?_⟩
            intro w hSw
            skip
            go_simp
            try with_reducible rfl
          case qzz29 => exact fun _ _ _ h => h
          case szz29 => first | assumption | trivial
          case' rzz29 => simp only [Act.put, List.setIfInBounds_toArray, List.set_cons_zero, List.set_cons_succ]
          refine wpAnyL_take (i := 5) (oi := ?ozz30) (v := ?vzz30) ?hzz30 ?azz30 ?bzz30 ?czz30 ?kzz30 ?qzz30 ?yzz30 ?szz30 ?rzz30
          case hzz30 => simp only [List.getElem?_toArray, List.getElem?_cons_zero, List.getElem?_cons_succ]; rfl
          case azz30 => kernel_rfl
          case bzz30 => kernel_rfl
          case czz30 => kernel_rfl
          case kzz30 => kernel_rfl
          case yzz30 =>
            refine Or.inl ⟨by rfl, ?_⟩
            intro w hSw
            skip
            go_simp
            try with_reducible rfl
          case qzz30 => exact fun _ _ _ h => h
          case szz30 => first | assumption | trivial
          case' rzz30 => simp only [Act.put, List.setIfInBounds_toArray, List.set_cons_zero, List.set_cons_succ]
          refine wpAnyL_ready (rs := [6, 7]) (by kernel_rfl) (by simp) ?_
          refine AllReadyL.cons (o := ?ozz65) ?hzz65 (fun K hK => ?kzz65) ?mzz65
          case hzz65 => simp only [List.getElem?_toArray, List.getElem?_cons_zero, List.getElem?_cons_succ]; rfl
          case kzz65 =>
            go_simp
            refine hK.out _ _ ?Szz65 (fun hHeld => ?Rzz65)
            case Szz65 =>
              exact hHeld
            case Rzz65 =>
              clear hK K
              try simp only [Act.put, List.setIfInBounds_toArray, List.set_cons_zero, List.set_cons_succ]
              refine wpAnyL_ready (rs := [7]) (by kernel_rfl) (by simp) ?_
              refine AllReadyL.consK (o := ?ozz47) ?hzz47 ?lzz47 (fun K hK => ?kzz47) ?mzz47
              case hzz47 => simp only [List.getElem?_toArray, List.getElem?_cons_zero, List.getElem?_cons_succ]; rfl
              case lzz47 => kernel_rfl
              case kzz47 =>
                go_simp
                refine hK.out _ _ ?Rzz47
                case Rzz47 =>
                  clear hK K
                  try simp only [Act.put, List.setIfInBounds_toArray, List.set_cons_zero, List.set_cons_succ]
                  refine wpAnyH_take (i := 8) (oi := ?ozz31) (v := ?vzz31) ?hzz31 ?azz31 ?bzz31 ?czz31 ?qzz31 ?yzz31 ?szz31 ?rzz31
                  case hzz31 => simp only [List.getElem?_toArray, List.getElem?_cons_zero, List.getElem?_cons_succ]; rfl
                  case azz31 => kernel_rfl
                  case bzz31 => kernel_rfl
                  case czz31 => kernel_rfl
                  case yzz31 =>
                    refine Or.inl ⟨by rfl, ?_⟩
                    intro w hSw
                    skip
                    go_simp
                    try with_reducible rfl
                  case qzz31 => exact fun _ _ _ h => h
                  case szz31 => first | assumption | trivial
                  case' rzz31 => simp only [Act.put, List.setIfInBounds_toArray, List.set_cons_zero, List.set_cons_succ]
                  refine wpAnyH_done (by kernel_rfl) ?_ _
                  have hn5 : n5 * 48 ≤ 140737488355328 := by have h1 := Z5.out.1.len; have h2 := HD.out.len; have h3 := HD.out.few; have h4 : l2.length = l.length := hal; have h5 : l2.length = n5 := h1; omega
                  have D1 := Lib.hid (Sd.new2 (room := room2) (fuse := fuse2) (off := off2) (L := l2) (Y.out.step Z5.out.2.1) Z5.out.2.2 Z5.out.1)
                  clear e0 e1 e2 e3 f0 f1 f2' f3 x0 x1 x2 x3 y0 y1 y2 y3
                  generalize ((((w5.setCell ⟨w.heap.size, 0, none⟩ (.slice A5 n5 c5)).setCell ⟨w.heap.size, 1, none⟩ (.int .i64 room2)).setCell ⟨w.heap.size, 2, none⟩ (.int .i64 fuse2)).setCell ⟨w.heap.size, 3, none⟩ (.bool off2)) = V at D1 ⊢
                  obtain ⟨⟨e0, e1, e2, e3⟩, f0, f1, f2', f3⟩ := D1.out.sb.get
                  obtain ⟨⟨s0, s1, s2, s3⟩, h0, h1, h2, h3⟩ := D1.out.sb.getR
                  subst he'
                  go_wp2_with fail
                  refine (KU2.out _).mono ?_
                  rintro e w7 ⟨rfl, q7⟩
                  have D2 := Lib.hid (Sd.mk (D1.out.sb.step q7) (D1.out.own.q q7))
                  clear D1 e0 e1 e2 e3 f0 f1 f2' f3 s0 s1 s2 s3 h0 h1 h2 h3
                  have D1 := D2
                  clear D2
                  obtain ⟨⟨e0, e1, e2, e3⟩, f0, f1, f2', f3⟩ := D1.out.sb.get
                  obtain ⟨⟨s0, s1, s2, s3⟩, h0, h1, h2, h3⟩ := D1.out.sb.getR
                  go_upto_region 14 with (fail)
                  have D3 := Lib.hid D1.out.sb
                  have DW3 := Lib.hid (D1.out.own.dsk hn5)
                  clear s0 s1 s2 s3 h0 h1 h2 h3 DW Y Z5
                  generalize w7 = W at D3 DW3 e0 e1 e2 e3 f0 f1 f2' f3 ⊢
                  have QW := Lib.hid (Q.refl W)
                  refine wp_region_heldL 9 (Q W) (by kernel_rfl) ?szz32 (fun hHeld => ?rzz32)
                  case szz32 =>
                    exact (Q.refl W).drew
                  case' rzz32 => skip
                  refine wpAnyL_take (i := 0) (oi := ?ozz33) (v := ?vzz33) ?hzz33 ?azz33 ?bzz33 ?czz33 ?kzz33 ?qzz33 ?yzz33 ?szz33 ?rzz33
                  case hzz33 => simp only [List.getElem?_toArray, List.getElem?_cons_zero]; rfl
                  case azz33 => kernel_rfl
                  case bzz33 => kernel_rfl
                  case czz33 => kernel_rfl
                  case kzz33 => kernel_rfl
                  case yzz33 =>
                    refine Or.inl ⟨by rfl, ?_⟩
                    intro w hSw
                    have x0 := box_ hSw e0; have x1 := box_ hSw e1; have x2 := box_ hSw e2; have x3 := box_ hSw e3; clear hSw
                    go_simp
                    try with_reducible rfl
                  case qzz33 => exact fun _ _ _ h => h
                  case szz33 => first | assumption | trivial
                  case' rzz33 => simp only [Act.put, List.setIfInBounds_toArray, List.set_cons_zero, List.set_cons_succ]
                  refine wpAnyL_take (i := 1) (oi := ?ozz34) (v := ?vzz34) ?hzz34 ?azz34 ?bzz34 ?czz34 ?kzz34 ?qzz34 ?yzz34 ?szz34 ?rzz34
                  case hzz34 => simp only [List.getElem?_toArray, List.getElem?_cons_zero, List.getElem?_cons_succ]; rfl
                  case azz34 => kernel_rfl
                  case bzz34 => kernel_rfl
                  case czz34 => kernel_rfl
                  case kzz34 => kernel_rfl
                  case yzz34 =>
                    refine Or.inl ⟨by rfl, ?_⟩
                    intro w hSw
                    skip
                    go_simp
                    try with_reducible rfl
                  case qzz34 => exact fun _ _ _ h => h
                  case szz34 => first | assumption | trivial
                  case' rzz34 => simp only [Act.put, List.setIfInBounds_toArray, List.set_cons_zero, List.set_cons_succ]
                  refine wpAnyL_take (i := 3) (oi := ?ozz35) (v := ?vzz35) ?hzz35 ?azz35 ?bzz35 ?czz35 ?kzz35 ?qzz35 ?yzz35 ?szz35 ?rzz35
                  case hzz35 => simp only [List.getElem?_toArray, List.getElem?_cons_zero, List.getElem?_cons_succ]; rfl
                  case azz35 => kernel_rfl
                  case bzz35 => kernel_rfl
                  case czz35 => kernel_rfl
                  case kzz35 => kernel_rfl
                  case yzz35 =>
                    refine Or.inl ⟨by rfl, ?_⟩
                    intro w hSw
                    skip
                    go_simp
                    try with_reducible rfl
                  case qzz35 => exact fun _ _ _ h => h
                  case szz35 => first | assumption | trivial
                  case' rzz35 => simp only [Act.put, List.setIfInBounds_toArray, List.set_cons_zero, List.set_cons_succ]
                  refine wpAnyL_ready (rs := [2]) (by kernel_rfl) (by simp) ?_
                  refine AllReadyL.cons (o := ?ozz46) ?hzz46 (fun K hK => ?kzz46) ?mzz46
                  case hzz46 => simp only [List.getElem?_toArray, List.getElem?_cons_zero, List.getElem?_cons_succ]; rfl
                  case kzz46 =>
                    go_simp
                    refine (KN2.out _ (HT.out.q (D3.out.q.trans hHeld))).mono ?_
                    rintro e w3 ⟨rfl, q3⟩
                    go_wp2_with fail
                    refine hK.out _ _ ?Szz46 (fun hHeld => ?Rzz46)
                    case Szz46 =>
                      exact hHeld.trans q3
                    case Rzz46 =>
                      clear hK K
                      try simp only [Act.put, List.setIfInBounds_toArray, List.set_cons_zero, List.set_cons_succ]
                      refine wpAnyL_ready (rs := [4]) (by kernel_rfl) (by simp) ?_
                      refine AllReadyL.cons (o := ?ozz45) ?hzz45 (fun K hK => ?kzz45) ?mzz45
                      case hzz45 => simp only [List.getElem?_toArray, List.getElem?_cons_zero, List.getElem?_cons_succ]; rfl
                      case kzz45 =>
                        go_simp
                        refine (KL.out _).mono ?_
                        rintro e w4 ⟨rfl, q4⟩
                        go_wp2_with fail
                        refine hK.out _ _ ?Szz45 (fun hHeld => ?Rzz45)
                        case Szz45 =>
                          exact hHeld.trans q4
                        case Rzz45 =>
                          clear hK K
                          try simp only [Act.put, List.setIfInBounds_toArray, List.set_cons_zero, List.set_cons_succ]
                          refine wpAnyL_ready (rs := [5]) (by kernel_rfl) (by simp) ?_
                          refine AllReadyL.cons (o := ?ozz44) ?hzz44 (fun K hK => ?kzz44) ?mzz44
                          case hzz44 => simp only [List.getElem?_toArray, List.getElem?_cons_zero, List.getElem?_cons_succ]; rfl
                          case kzz44 =>
                            go_simp
                            refine (KA2.out _ _ _ _ (DW3.out.q hHeld)).mono ?_
                            rintro e w6 ⟨A6, n6, c6, rfl, ho, q6⟩
                            obtain ⟨⟨x0, x1, x2, x3⟩, y0, y1, y2, y3⟩ := ((D3.out.step hHeld).step q6).get
                            have Z6 := Lib.hid (And.intro ho (And.intro hHeld q6))
                            go_wp2_with fail
                            refine hK.out _ _ ?Szz44 (fun hHeld => ?Rzz44)
                            case Szz44 =>
                              exact hHeld.trans q6
                            case Rzz44 =>
                              clear hK K
                              try simp only [Act.put, List.setIfInBounds_toArray, List.set_cons_zero, List.set_cons_succ]
                              refine wpAnyL_take (i := 6) (oi := ?ozz36) (v := ?vzz36) ?hzz36 ?azz36 ?bzz36 ?czz36 ?kzz36 ?qzz36 ?yzz36 ?szz36 ?rzz36
                              case hzz36 => simp only [List.getElem?_toArray, List.getElem?_cons_zero, List.getElem?_cons_succ]; rfl
                              case azz36 => kernel_rfl
                              case bzz36 => kernel_rfl
                              case czz36 => kernel_rfl
                              case kzz36 => kernel_rfl
                              case yzz36 =>
                                refine Or.inl ⟨by rfl, ?_⟩
                                intro w hSw
                                skip
                                go_simp
                                try with_reducible rfl
                              case qzz36 => exact fun _ _ _ h => h
                              case szz36 => first | assumption | trivial
                              case' rzz36 => simp only [Act.put, List.setIfInBounds_toArray, List.set_cons_zero, List.set_cons_succ]
                              refine wpAnyL_take (i := 7) (oi := ?ozz37) (v := ?vzz37) ?hzz37 ?azz37 ?bzz37 ?czz37 ?kzz37 ?qzz37 ?yzz37 ?szz37 ?rzz37
                              case hzz37 => simp only [List.getElem?_toArray, List.getElem?_cons_zero, List.getElem?_cons_succ]; rfl
                              case azz37 => kernel_rfl
                              case bzz37 => kernel_rfl
                              case czz37 => kernel_rfl
                              case kzz37 => kernel_rfl
                              case yzz37 =>
                                refine Or.inl ⟨by rfl, ?_⟩
                                intro w hSw
                                skip
                                go_simp
                                try with_reducible rfl
                              case qzz37 => exact fun _ _ _ h => h
                              case szz37 => first | assumption | trivial
                              case' rzz37 => simp only [Act.put, List.setIfInBounds_toArray, List.set_cons_zero, List.set_cons_succ]
                              refine wpAnyL_ready (rs := [8, 9]) (by kernel_rfl) (by simp) ?_
                              refine AllReadyL.cons (o := ?ozz42) ?hzz42 (fun K hK => ?kzz42) ?mzz42
                              case hzz42 => simp only [List.getElem?_toArray, List.getElem?_cons_zero, List.getElem?_cons_succ]; rfl
                              case kzz42 =>
                                go_simp
                                refine hK.out _ _ ?Szz42 (fun hHeld => ?Rzz42)
                                case Szz42 =>
                                  exact hHeld
                                case Rzz42 =>
                                  clear hK K
                                  try simp only [Act.put, List.setIfInBounds_toArray, List.set_cons_zero, List.set_cons_succ]
                                  refine wpAnyL_ready (rs := [9]) (by kernel_rfl) (by simp) ?_
                                  refine AllReadyL.consK (o := ?ozz39) ?hzz39 ?lzz39 (fun K hK => ?kzz39) ?mzz39
                                  case hzz39 => simp only [List.getElem?_toArray, List.getElem?_cons_zero, List.getElem?_cons_succ]; rfl
                                  case lzz39 => kernel_rfl
                                  case kzz39 =>
                                    go_simp
                                    refine hK.out _ _ ?Rzz39
                                    case Rzz39 =>
                                      clear hK K
                                      try simp only [Act.put, List.setIfInBounds_toArray, List.set_cons_zero, List.set_cons_succ]
                                      refine wpAnyH_take (i := 10) (oi := ?ozz38) (v := ?vzz38) ?hzz38 ?azz38 ?bzz38 ?czz38 ?qzz38 ?yzz38 ?szz38 ?rzz38
                                      case hzz38 => simp only [List.getElem?_toArray, List.getElem?_cons_zero, List.getElem?_cons_succ]; rfl
                                      case azz38 => kernel_rfl
                                      case bzz38 => kernel_rfl
                                      case czz38 => kernel_rfl
                                      case yzz38 =>
                                        refine Or.inl ⟨by rfl, ?_⟩
                                        intro w hSw
                                        skip
                                        go_simp
                                        try with_reducible rfl
                                      case qzz38 => exact fun _ _ _ h => h
                                      case szz38 => first | assumption | trivial
                                      case' rzz38 => simp only [Act.put, List.setIfInBounds_toArray, List.set_cons_zero, List.set_cons_succ]
                                      refine wpAnyH_done (by kernel_rfl) ?_ _
                                      have hn6 : n6 * 48 ≤ 140737488355328 := by have h1 := Z6.out.1.len; have h2 := HD.out.len; have h3 := HD.out.few; have h4 : l2.length = l.length := hal; have h5 : r2.1.fs.length ≤ max l2.length 64 := hal2; omega
                                      have D4 := Lib.hid (Sd.new2 (room := r2.1.room) (fuse := r2.1.fuse) (off := r2.1.off) (L := r2.1.fs) (D3.out.step Z6.out.2.1) Z6.out.2.2 Z6.out.1)
                                      clear e0 e1 e2 e3 f0 f1 f2' f3 x0 x1 x2 x3 y0 y1 y2 y3
                                      generalize ((((w6.setCell ⟨w.heap.size, 0, none⟩ (.slice A6 n6 c6)).setCell ⟨w.heap.size, 1, none⟩ (.int .i64 r2.1.room)).setCell ⟨w.heap.size, 2, none⟩ (.int .i64 r2.1.fuse)).setCell ⟨w.heap.size, 3, none⟩ (.bool r2.1.off)) = V at D4 ⊢
                                      obtain ⟨⟨e0, e1, e2, e3⟩, f0, f1, f2', f3⟩ := D4.out.sb.get
                                      obtain ⟨⟨s0, s1, s2, s3⟩, h0, h1, h2, h3⟩ := D4.out.sb.getR
                                      go_wp2
                                      refine bodyPost_ret (v := .tuple #[dkv A6 n6 c6 r2.1.room r2.1.fuse r2.1.off, .int .i64 (seg + 1), .int .i64 r2.2]) (by simp [results, Tryz.results15, go_sem, s0, s1, s2, s3]) rfl ?_
                                      exact D4.out.endW hn6 [.int .i64 (seg + 1), .int .i64 r2.2] _ _ _ _
                                  case' mzz39 => skip
                                  exact AllReadyL.nil
                              case' mzz42 => skip
                              refine AllReadyL.consK (o := ?ozz43) ?hzz43 ?lzz43 (fun K hK => ?kzz43) ?mzz43
                              case hzz43 => simp only [List.getElem?_toArray, List.getElem?_cons_zero, List.getElem?_cons_succ]; rfl
                              case lzz43 => kernel_rfl
                              case kzz43 =>
                                go_simp
                                refine hK.out _ _ ?Rzz43
                                case Rzz43 =>
                                  clear hK K
                                  try simp only [Act.put, List.setIfInBounds_toArray, List.set_cons_zero, List.set_cons_succ]
                                  refine wpAnyH_take (i := 8) (oi := ?ozz40) (v := ?vzz40) ?hzz40 ?azz40 ?bzz40 ?czz40 ?qzz40 ?yzz40 ?szz40 ?rzz40
                                  case hzz40 => simp only [List.getElem?_toArray, List.getElem?_cons_zero, List.getElem?_cons_succ]; rfl
                                  case azz40 => kernel_rfl
                                  case bzz40 => kernel_rfl
                                  case czz40 => kernel_rfl
                                  case yzz40 =>
                                    refine Or.inl ⟨by rfl, ?_⟩
                                    intro w hSw
                                    skip
                                    go_simp
                                    try with_reducible rfl
                                  case qzz40 => exact fun _ _ _ h => h
                                  case szz40 => first | assumption | trivial
                                  case' rzz40 => simp only [Act.put, List.setIfInBounds_toArray, List.set_cons_zero, List.set_cons_succ]
                                  refine wpAnyH_take (i := 10) (oi := ?ozz41) (v := ?vzz41) ?hzz41 ?azz41 ?bzz41 ?czz41 ?qzz41 ?yzz41 ?szz41 ?rzz41
                                  case hzz41 => simp only [List.getElem?_toArray, List.getElem?_cons_zero, List.getElem?_cons_succ]; rfl
                                  case azz41 => kernel_rfl
                                  case bzz41 => kernel_rfl
                                  case czz41 => kernel_rfl
                                  case yzz41 =>
                                    refine Or.inl ⟨by rfl, ?_⟩
                                    intro w hSw
                                    skip
                                    go_simp
                                    try with_reducible rfl
                                  case qzz41 => exact fun _ _ _ h => h
                                  case szz41 => first | assumption | trivial
                                  case' rzz41 => simp only [Act.put, List.setIfInBounds_toArray, List.set_cons_zero, List.set_cons_succ]
                                  refine wpAnyH_done (by kernel_rfl) ?_ _
                                  have hn6 : n6 * 48 ≤ 140737488355328 := by have h1 := Z6.out.1.len; have h2 := HD.out.len; have h3 := HD.out.few; have h4 : l2.length = l.length := hal; have h5 : r2.1.fs.length ≤ max l2.length 64 := hal2; omega
                                  have D4 := Lib.hid (Sd.new2 (room := r2.1.room) (fuse := r2.1.fuse) (off := r2.1.off) (L := r2.1.fs) (D3.out.step Z6.out.2.1) Z6.out.2.2 Z6.out.1)
                                  clear e0 e1 e2 e3 f0 f1 f2' f3 x0 x1 x2 x3 y0 y1 y2 y3
                                  generalize ((((w6.setCell ⟨w.heap.size, 0, none⟩ (.slice A6 n6 c6)).setCell ⟨w.heap.size, 1, none⟩ (.int .i64 r2.1.room)).setCell ⟨w.heap.size, 2, none⟩ (.int .i64 r2.1.fuse)).setCell ⟨w.heap.size, 3, none⟩ (.bool r2.1.off)) = V at D4 ⊢
                                  obtain ⟨⟨e0, e1, e2, e3⟩, f0, f1, f2', f3⟩ := D4.out.sb.get
                                  obtain ⟨⟨s0, s1, s2, s3⟩, h0, h1, h2, h3⟩ := D4.out.sb.getR
                                  go_wp2
                                  refine bodyPost_ret (v := .tuple #[dkv A6 n6 c6 r2.1.room r2.1.fuse r2.1.off, .int .i64 (seg + 1), .int .i64 r2.2]) (by simp [results, Tryz.results15, go_sem, s0, s1, s2, s3]) rfl ?_
                                  exact D4.out.endW hn6 [.int .i64 (seg + 1), .int .i64 r2.2] _ _ _ _
                              case' mzz43 => skip
                              exact AllReadyL.nil
                          case' mzz44 => skip
                          exact AllReadyL.nil
                      case' mzz45 => skip
                      exact AllReadyL.nil
                  case' mzz46 => skip
                  exact AllReadyL.nil
              case' mzz47 => skip
              exact AllReadyL.nil
          case' mzz65 => skip
          refine AllReadyL.consK (o := ?ozz66) ?hzz66 ?lzz66 (fun K hK => ?kzz66) ?mzz66
          case hzz66 => simp only [List.getElem?_toArray, List.getElem?_cons_zero, List.getElem?_cons_succ]; rfl
          case lzz66 => kernel_rfl
          case kzz66 =>
            go_simp
            refine hK.out _ _ ?Rzz66
            case Rzz66 =>
              clear hK K
              try simp only [Act.put, List.setIfInBounds_toArray, List.set_cons_zero, List.set_cons_succ]
              refine wpAnyH_take (i := 6) (oi := ?ozz48) (v := ?vzz48) ?hzz48 ?azz48 ?bzz48 ?czz48 ?qzz48 ?yzz48 ?szz48 ?rzz48
              case hzz48 => simp only [List.getElem?_toArray, List.getElem?_cons_zero, List.getElem?_cons_succ]; rfl
              case azz48 => kernel_rfl
              case bzz48 => kernel_rfl
              case czz48 => kernel_rfl
              case yzz48 =>
                refine Or.inl ⟨by rfl, ?_⟩
                intro w hSw
                skip
                go_simp
                try with_reducible rfl
              case qzz48 => exact fun _ _ _ h => h
              case szz48 => first | assumption | trivial
              case' rzz48 => simp only [Act.put, List.setIfInBounds_toArray, List.set_cons_zero, List.set_cons_succ]
              refine wpAnyH_take (i := 8) (oi := ?ozz49) (v := ?vzz49) ?hzz49 ?azz49 ?bzz49 ?czz49 ?qzz49 ?yzz49 ?szz49 ?rzz49
              case hzz49 => simp only [List.getElem?_toArray, List.getElem?_cons_zero, List.getElem?_cons_succ]; rfl
              case azz49 => kernel_rfl
              case bzz49 => kernel_rfl
              case czz49 => kernel_rfl
              case yzz49 =>
                refine Or.inl ⟨by rfl, ?_⟩
                intro w hSw
                skip
                go_simp
                try with_reducible rfl
              case qzz49 => exact fun _ _ _ h => h
              case szz49 => first | assumption | trivial
              case' rzz49 => simp only [Act.put, List.setIfInBounds_toArray, List.set_cons_zero, List.set_cons_succ]
              refine wpAnyH_done (by kernel_rfl) ?_ _
              have hn5 : n5 * 48 ≤ 140737488355328 := by have h1 := Z5.out.1.len; have h2 := HD.out.len; have h3 := HD.out.few; have h4 : l2.length = l.length := hal; have h5 : l2.length = n5 := h1; omega
              have D1 := Lib.hid (Sd.new2 (room := room2) (fuse := fuse2) (off := off2) (L := l2) (Y.out.step Z5.out.2.1) Z5.out.2.2 Z5.out.1)
              clear e0 e1 e2 e3 f0 f1 f2' f3 x0 x1 x2 x3 y0 y1 y2 y3
              generalize ((((w5.setCell ⟨w.heap.size, 0, none⟩ (.slice A5 n5 c5)).setCell ⟨w.heap.size, 1, none⟩ (.int .i64 room2)).setCell ⟨w.heap.size, 2, none⟩ (.int .i64 fuse2)).setCell ⟨w.heap.size, 3, none⟩ (.bool off2)) = V at D1 ⊢
              obtain ⟨⟨e0, e1, e2, e3⟩, f0, f1, f2', f3⟩ := D1.out.sb.get
              obtain ⟨⟨s0, s1, s2, s3⟩, h0, h1, h2, h3⟩ := D1.out.sb.getR
              subst he'
              go_wp2_with fail
              refine (KU2.out _).mono ?_
              rintro e w7 ⟨rfl, q7⟩
              have D2 := Lib.hid (Sd.mk (D1.out.sb.step q7) (D1.out.own.q q7))
              clear D1 e0 e1 e2 e3 f0 f1 f2' f3 s0 s1 s2 s3 h0 h1 h2 h3
              have D1 := D2
              clear D2
              obtain ⟨⟨e0, e1, e2, e3⟩, f0, f1, f2', f3⟩ := D1.out.sb.get
              obtain ⟨⟨s0, s1, s2, s3⟩, h0, h1, h2, h3⟩ := D1.out.sb.getR
              go_upto_region 14 with (fail)
              have D3 := Lib.hid D1.out.sb
              have DW3 := Lib.hid (D1.out.own.dsk hn5)
              clear s0 s1 s2 s3 h0 h1 h2 h3 DW Y Z5
              generalize w7 = W at D3 DW3 e0 e1 e2 e3 f0 f1 f2' f3 ⊢
              have QW := Lib.hid (Q.refl W)
              refine wp_region_heldL 9 (Q W) (by kernel_rfl) ?szz50 (fun hHeld => ?rzz50)
              case szz50 =>
                exact (Q.refl W).drew
              case' rzz50 => skip
              refine wpAnyL_take (i := 0) (oi := ?ozz51) (v := ?vzz51) ?hzz51 ?azz51 ?bzz51 ?czz51 ?kzz51 ?qzz51 ?yzz51 ?szz51 ?rzz51
              case hzz51 => simp only [List.getElem?_toArray, List.getElem?_cons_zero]; rfl
              case azz51 => kernel_rfl
              case bzz51 => kernel_rfl
              case czz51 => kernel_rfl
              case kzz51 => kernel_rfl
              case yzz51 =>
                refine Or.inl ⟨by rfl, ?_⟩
                intro w hSw
                have x0 := box_ hSw e0; have x1 := box_ hSw e1; have x2 := box_ hSw e2; have x3 := box_ hSw e3; clear hSw
                go_simp
                try with_reducible rfl
              case qzz51 => exact fun _ _ _ h => h
              case szz51 => first | assumption | trivial
              case' rzz51 => simp only [Act.put, List.setIfInBounds_toArray, List.set_cons_zero, List.set_cons_succ]
              refine wpAnyL_take (i := 1) (oi := ?ozz52) (v := ?vzz52) ?hzz52 ?azz52 ?bzz52 ?czz52 ?kzz52 ?qzz52 ?yzz52 ?szz52 ?rzz52
              case hzz52 => simp only [List.getElem?_toArray, List.getElem?_cons_zero, List.getElem?_cons_succ]; rfl
              case azz52 => kernel_rfl
              case bzz52 => kernel_rfl
              case czz52 => kernel_rfl
              case kzz52 => kernel_rfl
              case yzz52 =>
                refine Or.inl ⟨by rfl, ?_⟩
                intro w hSw
                skip
                go_simp
                try with_reducible rfl
              case qzz52 => exact fun _ _ _ h => h
              case szz52 => first | assumption | trivial
              case' rzz52 => simp only [Act.put, List.setIfInBounds_toArray, List.set_cons_zero, List.set_cons_succ]
              refine wpAnyL_take (i := 3) (oi := ?ozz53) (v := ?vzz53) ?hzz53 ?azz53 ?bzz53 ?czz53 ?kzz53 ?qzz53 ?yzz53 ?szz53 ?rzz53
              case hzz53 => simp only [List.getElem?_toArray, List.getElem?_cons_zero, List.getElem?_cons_succ]; rfl
              case azz53 => kernel_rfl
              case bzz53 => kernel_rfl
              case czz53 => kernel_rfl
              case kzz53 => kernel_rfl
              case yzz53 =>
                refine Or.inl ⟨by rfl, ?_⟩
                intro w hSw
                skip
                go_simp
                try with_reducible rfl
              case qzz53 => exact fun _ _ _ h => h
              case szz53 => first | assumption | trivial
              case' rzz53 => simp only [Act.put, List.setIfInBounds_toArray, List.set_cons_zero, List.set_cons_succ]
              refine wpAnyL_ready (rs := [2]) (by kernel_rfl) (by simp) ?_
              refine AllReadyL.cons (o := ?ozz64) ?hzz64 (fun K hK => ?kzz64) ?mzz64
              case hzz64 => simp only [List.getElem?_toArray, List.getElem?_cons_zero, List.getElem?_cons_succ]; rfl
              case kzz64 =>
                go_simp
                refine (KN2.out _ (HT.out.q (D3.out.q.trans hHeld))).mono ?_
                rintro e w3 ⟨rfl, q3⟩
                go_wp2_with fail
                refine hK.out _ _ ?Szz64 (fun hHeld => ?Rzz64)
                case Szz64 =>
                  exact hHeld.trans q3
                case Rzz64 =>
                  clear hK K
                  try simp only [Act.put, List.setIfInBounds_toArray, List.set_cons_zero, List.set_cons_succ]
                  refine wpAnyL_ready (rs := [4]) (by kernel_rfl) (by simp) ?_
                  refine AllReadyL.cons (o := ?ozz63) ?hzz63 (fun K hK => ?kzz63) ?mzz63
                  case hzz63 => simp only [List.getElem?_toArray, List.getElem?_cons_zero, List.getElem?_cons_succ]; rfl
                  case kzz63 =>
                    go_simp
                    refine (KL.out _).mono ?_
                    rintro e w4 ⟨rfl, q4⟩
                    go_wp2_with fail
                    refine hK.out _ _ ?Szz63 (fun hHeld => ?Rzz63)
                    case Szz63 =>
                      exact hHeld.trans q4
                    case Rzz63 =>
                      clear hK K
                      try simp only [Act.put, List.setIfInBounds_toArray, List.set_cons_zero, List.set_cons_succ]
                      refine wpAnyL_ready (rs := [5]) (by kernel_rfl) (by simp) ?_
                      refine AllReadyL.cons (o := ?ozz62) ?hzz62 (fun K hK => ?kzz62) ?mzz62
                      case hzz62 => simp only [List.getElem?_toArray, List.getElem?_cons_zero, List.getElem?_cons_succ]; rfl
                      case kzz62 =>
                        go_simp
                        refine (KA2.out _ _ _ _ (DW3.out.q hHeld)).mono ?_
                        rintro e w6 ⟨A6, n6, c6, rfl, ho, q6⟩
                        obtain ⟨⟨x0, x1, x2, x3⟩, y0, y1, y2, y3⟩ := ((D3.out.step hHeld).step q6).get
                        have Z6 := Lib.hid (And.intro ho (And.intro hHeld q6))
                        go_wp2_with fail
                        refine hK.out _ _ ?Szz62 (fun hHeld => ?Rzz62)
                        case Szz62 =>
                          exact hHeld.trans q6
                        case Rzz62 =>
                          clear hK K
                          try simp only [Act.put, List.setIfInBounds_toArray, List.set_cons_zero, List.set_cons_succ]
                          refine wpAnyL_take (i := 6) (oi := ?ozz54) (v := ?vzz54) ?hzz54 ?azz54 ?bzz54 ?czz54 ?kzz54 ?qzz54 ?yzz54 ?szz54 ?rzz54
                          case hzz54 => simp only [List.getElem?_toArray, List.getElem?_cons_zero, List.getElem?_cons_succ]; rfl
                          case azz54 => kernel_rfl
                          case bzz54 => kernel_rfl
                          case czz54 => kernel_rfl
                          case kzz54 => kernel_rfl
                          case yzz54 =>
                            refine Or.inl ⟨by rfl, ?_⟩
                            intro w hSw
                            skip
                            go_simp
                            try with_reducible rfl
                          case qzz54 => exact fun _ _ _ h => h
                          case szz54 => first | assumption | trivial
                          case' rzz54 => simp only [Act.put, List.setIfInBounds_toArray, List.set_cons_zero, List.set_cons_succ]
                          refine wpAnyL_take (i := 7) (oi := ?ozz55) (v := ?vzz55) ?hzz55 ?azz55 ?bzz55 ?czz55 ?kzz55 ?qzz55 ?yzz55 ?szz55 ?rzz55
                          case hzz55 => simp only [List.getElem?_toArray, List.getElem?_cons_zero, List.getElem?_cons_succ]; rfl
                          case azz55 => kernel_rfl
                          case bzz55 => kernel_rfl
                          case czz55 => kernel_rfl
                          case kzz55 => kernel_rfl
                          case yzz55 =>
                            refine Or.inl ⟨by rfl, ?_⟩
                            intro w hSw
                            skip
                            go_simp
                            try with_reducible rfl
                          case qzz55 => exact fun _ _ _ h => h
                          case szz55 => first | assumption | trivial
                          case' rzz55 => simp only [Act.put, List.setIfInBounds_toArray, List.set_cons_zero, List.set_cons_succ]
                          refine wpAnyL_ready (rs := [8, 9]) (by kernel_rfl) (by simp) ?_
                          refine AllReadyL.cons (o := ?ozz60) ?hzz60 (fun K hK => ?kzz60) ?mzz60
                          case hzz60 => simp only [List.getElem?_toArray, List.getElem?_cons_zero, List.getElem?_cons_succ]; rfl
                          case kzz60 =>
                            go_simp
                            refine hK.out _ _ ?Szz60 (fun hHeld => ?Rzz60)
                            case Szz60 =>
                              exact hHeld
                            case Rzz60 =>
                              clear hK K
                              try simp only [Act.put, List.setIfInBounds_toArray, List.set_cons_zero, List.set_cons_succ]
                              refine wpAnyL_ready (rs := [9]) (by kernel_rfl) (by simp) ?_
                              refine AllReadyL.consK (o := ?ozz57) ?hzz57 ?lzz57 (fun K hK => ?kzz57) ?mzz57
                              case hzz57 => simp only [List.getElem?_toArray, List.getElem?_cons_zero, List.getElem?_cons_succ]; rfl
                              case lzz57 => kernel_rfl
                              case kzz57 =>
                                go_simp
                                refine hK.out _ _ ?Rzz57
                                case Rzz57 =>
                                  clear hK K
                                  try simp only [Act.put, List.setIfInBounds_toArray, List.set_cons_zero, List.set_cons_succ]
                                  refine wpAnyH_take (i := 10) (oi := ?ozz56) (v := ?vzz56) ?hzz56 ?azz56 ?bzz56 ?czz56 ?qzz56 ?yzz56 ?szz56 ?rzz56
                                  case hzz56 => simp only [List.getElem?_toArray, List.getElem?_cons_zero, List.getElem?_cons_succ]; rfl
                                  case azz56 => kernel_rfl
                                  case bzz56 => kernel_rfl
                                  case czz56 => kernel_rfl
                                  case yzz56 =>
                                    refine Or.inl ⟨by rfl, ?_⟩
                                    intro w hSw
                                    skip
                                    go_simp
                                    try with_reducible rfl
                                  case qzz56 => exact fun _ _ _ h => h
                                  case szz56 => first | assumption | trivial
                                  case' rzz56 => simp only [Act.put, List.setIfInBounds_toArray, List.set_cons_zero, List.set_cons_succ]
                                  refine wpAnyH_done (by kernel_rfl) ?_ _
                                  have hn6 : n6 * 48 ≤ 140737488355328 := by have h1 := Z6.out.1.len; have h2 := HD.out.len; have h3 := HD.out.few; have h4 : l2.length = l.length := hal; have h5 : r2.1.fs.length ≤ max l2.length 64 := hal2; omega
                                  have D4 := Lib.hid (Sd.new2 (room := r2.1.room) (fuse := r2.1.fuse) (off := r2.1.off) (L := r2.1.fs) (D3.out.step Z6.out.2.1) Z6.out.2.2 Z6.out.1)
                                  clear e0 e1 e2 e3 f0 f1 f2' f3 x0 x1 x2 x3 y0 y1 y2 y3
                                  generalize ((((w6.setCell ⟨w.heap.size, 0, none⟩ (.slice A6 n6 c6)).setCell ⟨w.heap.size, 1, none⟩ (.int .i64 r2.1.room)).setCell ⟨w.heap.size, 2, none⟩ (.int .i64 r2.1.fuse)).setCell ⟨w.heap.size, 3, none⟩ (.bool r2.1.off)) = V at D4 ⊢
                                  obtain ⟨⟨e0, e1, e2, e3⟩, f0, f1, f2', f3⟩ := D4.out.sb.get
                                  obtain ⟨⟨s0, s1, s2, s3⟩, h0, h1, h2, h3⟩ := D4.out.sb.getR
                                  go_wp2
                                  refine bodyPost_ret (v := .tuple #[dkv A6 n6 c6 r2.1.room r2.1.fuse r2.1.off, .int .i64 (seg + 1), .int .i64 r2.2]) (by simp [results, Tryz.results15, go_sem, s0, s1, s2, s3]) rfl ?_
                                  exact D4.out.endW hn6 [.int .i64 (seg + 1), .int .i64 r2.2] _ _ _ _
                              case' mzz57 => skip
                              exact AllReadyL.nil
                          case' mzz60 => skip
                          refine AllReadyL.consK (o := ?ozz61) ?hzz61 ?lzz61 (fun K hK => ?kzz61) ?mzz61
                          case hzz61 => simp only [List.getElem?_toArray, List.getElem?_cons_zero, List.getElem?_cons_succ]; rfl
                          case lzz61 => kernel_rfl
                          case kzz61 =>
                            go_simp
                            refine hK.out _ _ ?Rzz61
                            case Rzz61 =>
                              clear hK K
                              try simp only [Act.put, List.setIfInBounds_toArray, List.set_cons_zero, List.set_cons_succ]
                              refine wpAnyH_take (i := 8) (oi := ?ozz58) (v := ?vzz58) ?hzz58 ?azz58 ?bzz58 ?czz58 ?qzz58 ?yzz58 ?szz58 ?rzz58
                              case hzz58 => simp only [List.getElem?_toArray, List.getElem?_cons_zero, List.getElem?_cons_succ]; rfl
                              case azz58 => kernel_rfl
                              case bzz58 => kernel_rfl
                              case czz58 => kernel_rfl
                              case yzz58 =>
                                refine Or.inl ⟨by rfl, ?_⟩
                                intro w hSw
                                skip
                                go_simp
                                try with_reducible rfl
                              case qzz58 => exact fun _ _ _ h => h
                              case szz58 => first | assumption | trivial
                              case' rzz58 => simp only [Act.put, List.setIfInBounds_toArray, List.set_cons_zero, List.set_cons_succ]
                              refine wpAnyH_take (i := 10) (oi := ?ozz59) (v := ?vzz59) ?hzz59 ?azz59 ?bzz59 ?czz59 ?qzz59 ?yzz59 ?szz59 ?rzz59
                              case hzz59 => simp only [List.getElem?_toArray, List.getElem?_cons_zero, List.getElem?_cons_succ]; rfl
                              case azz59 => kernel_rfl
                              case bzz59 => kernel_rfl
                              case czz59 => kernel_rfl
                              case yzz59 =>
                                refine Or.inl ⟨by rfl, ?_⟩
                                intro w hSw
                                skip
                                go_simp
                                try with_reducible rfl
                              case qzz59 => exact fun _ _ _ h => h
                              case szz59 => first | assumption | trivial
                              case' rzz59 => simp only [Act.put, List.setIfInBounds_toArray, List.set_cons_zero, List.set_cons_succ]
                              refine wpAnyH_done (by kernel_rfl) ?_ _
                              have hn6 : n6 * 48 ≤ 140737488355328 := by have h1 := Z6.out.1.len; have h2 := HD.out.len; have h3 := HD.out.few; have h4 : l2.length = l.length := hal; have h5 : r2.1.fs.length ≤ max l2.length 64 := hal2; omega
                              have D4 := Lib.hid (Sd.new2 (room := r2.1.room) (fuse := r2.1.fuse) (off := r2.1.off) (L := r2.1.fs) (D3.out.step Z6.out.2.1) Z6.out.2.2 Z6.out.1)
                              clear e0 e1 e2 e3 f0 f1 f2' f3 x0 x1 x2 x3 y0 y1 y2 y3
                              generalize ((((w6.setCell ⟨w.heap.size, 0, none⟩ (.slice A6 n6 c6)).setCell ⟨w.heap.size, 1, none⟩ (.int .i64 r2.1.room)).setCell ⟨w.heap.size, 2, none⟩ (.int .i64 r2.1.fuse)).setCell ⟨w.heap.size, 3, none⟩ (.bool r2.1.off)) = V at D4 ⊢
                              obtain ⟨⟨e0, e1, e2, e3⟩, f0, f1, f2', f3⟩ := D4.out.sb.get
                              obtain ⟨⟨s0, s1, s2, s3⟩, h0, h1, h2, h3⟩ := D4.out.sb.getR
                              go_wp2
                              refine bodyPost_ret (v := .tuple #[dkv A6 n6 c6 r2.1.room r2.1.fuse r2.1.off, .int .i64 (seg + 1), .int .i64 r2.2]) (by simp [results, Tryz.results15, go_sem, s0, s1, s2, s3]) rfl ?_
                              exact D4.out.endW hn6 [.int .i64 (seg + 1), .int .i64 r2.2] _ _ _ _
                          case' mzz61 => skip
                          exact AllReadyL.nil
                      case' mzz62 => skip
                      exact AllReadyL.nil
                  case' mzz63 => skip
                  exact AllReadyL.nil
              case' mzz64 => skip
              exact AllReadyL.nil
          case' mzz66 => skip
          exact AllReadyL.nil
      case' mzz67 => skip
      exact AllReadyL.nil
  case' mzz68 => skip
  exact AllReadyL.nil

theorem put_any (seg : Int) (rec : ByteArray) (A : Option Addr) (n c : Nat) (d : Dk) (w : World) (hT : Tab w) (hd : Dsk w A n c d.fs) (hB : Bnd 2305843009213693952 d) (hr : rec.size ≤ maxLen) :
    Calls Tryz.prog 15 #[dkv A n c d.room d.fuse d.off, .int .i64 seg, .string rec] w fun e w' => RetW w (putM d seg rec).1 [.int .i64 (putM d seg rec).2.1, .int .i64 (putM d seg rec).2.2] e w' := by
  by_cases h1 : segOk seg
  case neg =>
    rw [show putM d seg rec = (d, seg, 1) by unfold putM; rw [if_pos h1]]
    exact put_arg seg rec A n c d.room d.fuse d.off d.fs w hd h1
  by_cases h2 : 2048 < rec.size
  · rw [show putM d seg rec = (d, seg, 4) by unfold putM; rw [if_neg (by simpa using h1), if_pos h2]]
    exact put_big seg rec A n c d.room d.fuse d.off d.fs w hd h1 h2 hr
  have e0 : putM d seg rec = putB d seg rec := by unfold putM; rw [if_neg (by simpa using h1), if_neg h2]
  rw [e0]
  by_cases h3 : (redd (namB seg) d.fs).1.size < 256
  · rw [show putB d seg rec = putA d seg rec by unfold putB; rw [if_pos h3]]
    exact put_fit seg rec A n c d w hT hd hB h1 (by omega) h3
  by_cases h4 : (syn d (namB seg)).2 = 0
  case neg =>
    rw [show putB d seg rec = ((syn d (namB seg)).1, seg, (syn d (namB seg)).2) by unfold putB; rw [if_neg h3, if_pos h4]]
    exact put_serr seg rec A n c d w hT hd hB h1 (by omega) (by omega) h4
  by_cases h5 : seg = 1000000
  · rw [show putB d seg rec = ((syn d (namB seg)).1, seg, 5) by unfold putB; rw [if_neg h3, if_neg (by simpa using h4), if_pos h5]]
    exact put_full seg rec A n c d w hT hd hB h1 (by omega) (by omega) h4 h5
  · rw [show putB d seg rec = putA (syn d (namB seg)).1 (seg + 1) rec by unfold putB; rw [if_neg h3, if_neg (by simpa using h4), if_neg h5]]
    exact put_next seg rec A n c d w hT hd hB h1 (by omega) (by omega) h4 h5
end Go.Proofs.YtggbdhnjogalgaaGreatDoor

/- A call that keeps a disk in its own variable: the boxes, and the list, wherever it lies. -/
namespace Go.Proofs.YtggbdhnjogalgaaGreatDoor
set_option maxRecDepth 100000
open Go.RowKit Dkm Wm
set_option linter.unusedVariables false

/-- the boxes of a call, and the list of its disk, wherever it lies. -/
structure Sv (w : World) (A : Option Addr) (n c : Nat) (d : Dk) (wr : World) : Prop where
  sb : Sb w A n c d.room d.fuse d.off wr
  dsk : Dsk wr A n c d.fs
  away : 0 < n → ∀ ad, A = some ad → ad.block ≠ w.heap.size ∧ ad.block ≠ w.heap.size + 1
def Far (w : World) (A : Option Addr) : Prop := ∀ ad, A = some ad → w.heap.size ≤ ad.block
section
variable {w wr : World} {A : Option Addr} {n c : Nat} {d : Dk}
theorem Sv.step {w2 : World} (h : Sv w A n c d wr) (q : Q wr w2) : Sv w A n c d w2 := ⟨h.sb.step q, h.dsk.q q, h.away⟩
theorem Files.blk {w : World} {A : Option Addr} {n : Nat} {l : List Fil} (h : Files w A n l) (hn : 0 < n) : ∀ ad, A = some ad → ad.block < w.heap.size := by
  intro ad e
  have hl := h.len
  obtain ⟨ad', e', hb, _⟩ := h.load (k := 0) hn (by omega)
  rw [e] at e'; injection e' with e'; subst e'; exact hb
theorem Dsk.away1 {w : World} {l : List Fil} (h : Dsk w A n c l) {b : Nat} (ha : 0 < n → ∀ ad, A = some ad → ad.block ≠ b) (o : Nat) (u : Value) : Dsk (w.setCell ⟨b, o, none⟩ u) A n c l := by
  by_cases hn : 0 < n
  · exact h.away (ha hn) o u
  · have e : n = 0 := by omega
    subst e
    have hl : l = [] := List.eq_nil_of_length_eq_zero h.len
    subst hl
    exact ⟨Holds.none_ _ _ _ _, h.nil, h.le, h.cap, h.few⟩
theorem Sv.new (w : World) (h : Dsk w A n c d.fs) : Sv w A n c d ((w.alloc (.cells #[.slice A n c, .int .i64 d.room, .int .i64 d.fuse, .bool d.off] 24)).alloc (.cells #[.slice none 0 0, .int .i64 0, .int .i64 0, .bool false] 24)) :=
  ⟨Sb.new w A n c d.room d.fuse d.off, h.q (((Q.refl _).alloc _).alloc _), fun hn ad e => by have := h.files.blk hn ad e; omega⟩
theorem Sv.put {w5 : World} {A5 : Option Addr} {n5 c5 : Nat} {d5 : Dk} (h : Sv w A n c d wr) (q : Q wr w5) (ho : Own w5 wr.heap.size A5 n5 c5 d5.fs) (hn : n5 * 48 ≤ 140737488355328) :
    Sv w A5 n5 c5 d5 ((((w5.setCell ⟨w.heap.size, 0, none⟩ (.slice A5 n5 c5)).setCell ⟨w.heap.size, 1, none⟩ (.int .i64 d5.room)).setCell ⟨w.heap.size, 2, none⟩ (.int .i64 d5.fuse)).setCell ⟨w.heap.size, 3, none⟩ (.bool d5.off)) ∧ Far w A5 := by
  have hlt := h.sb.res.lt
  exact ⟨⟨(h.sb.step q).put4 A5 n5 c5 d5.room d5.fuse d5.off, (ho.set4 (b := w.heap.size) (by omega) _ _ _ _).dsk hn, fun _ ad e => by have := ho.far_ ad e; omega⟩, fun ad e => by have := ho.far_ ad e; omega⟩
theorem Sv.putK {w5 : World} {A5 : Option Addr} {n5 c5 : Nat} {d5 : Dk} (h : Sv w A n c d wr) (q : Q wr w5) (ho : Dsk w5 A5 n5 c5 d5.fs) (hf : A5 = A ∧ n5 = n ∨ ∀ ad, A5 = some ad → wr.heap.size ≤ ad.block) :
    Sv w A5 n5 c5 d5 ((((w5.setCell ⟨w.heap.size, 0, none⟩ (.slice A5 n5 c5)).setCell ⟨w.heap.size, 1, none⟩ (.int .i64 d5.room)).setCell ⟨w.heap.size, 2, none⟩ (.int .i64 d5.fuse)).setCell ⟨w.heap.size, 3, none⟩ (.bool d5.off)) := by
  have hlt := h.sb.res.lt
  have haw : 0 < n5 → ∀ ad, A5 = some ad → ad.block ≠ w.heap.size ∧ ad.block ≠ w.heap.size + 1 := by
    intro hn ad e
    rcases hf with ⟨rfl, rfl⟩ | hf
    · exact h.away hn ad e
    · have := hf ad e; omega
  have a1 : 0 < n5 → ∀ ad, A5 = some ad → ad.block ≠ w.heap.size := fun hn ad e => (haw hn ad e).1
  exact ⟨(h.sb.step q).put4 A5 n5 c5 d5.room d5.fuse d5.off, (((ho.away1 a1 0 _).away1 a1 1 _).away1 a1 2 _).away1 a1 3 _, haw⟩
theorem Sv.farK {A5 A0 : Option Addr} {n5 n0 : Nat} (h : Sv w A n c d wr) (h0 : A = A0 ∧ n = n0 ∨ Far w A) (hf : A5 = A ∧ n5 = n ∨ ∀ ad, A5 = some ad → wr.heap.size ≤ ad.block) : A5 = A0 ∧ n5 = n0 ∨ Far w A5 := by
  rcases hf with ⟨rfl, rfl⟩ | hf
  · exact h0
  · exact .inr fun ad e => by have := hf ad e; have := h.sb.res.lt; omega
theorem Sv.endK (h : Sv w A n c d wr) {A0 : Option Addr} {n0 : Nat} (hf : A = A0 ∧ n = n0 ∨ Far w A) (er : Int) (x y z u : Value) :
    RetDK w A0 n0 d er (.returned (.tuple #[dkv A n c d.room d.fuse d.off, .int .i64 er])) ((((wr.setCell ⟨w.heap.size + 1, 0, none⟩ x).setCell ⟨w.heap.size + 1, 1, none⟩ y).setCell ⟨w.heap.size + 1, 2, none⟩ z).setCell ⟨w.heap.size + 1, 3, none⟩ u) :=
  ⟨A, n, c, rfl, (((h.dsk.away1 (fun hn ad e => (h.away hn ad e).2) 0 _).away1 (fun hn ad e => (h.away hn ad e).2) 1 _).away1 (fun hn ad e => (h.away hn ad e).2) 2 _).away1 (fun hn ad e => (h.away hn ad e).2) 3 _, hf, h.sb.q.set4 (b := w.heap.size + 1) (by omega) _ _ _ _⟩
end
theorem few_own {w : World} {base B : Nat} {A : Option Addr} {n c : Nat} {d : Dk} (h : Own w base A n c d.fs) (hB : Bnd B d) : n * 48 ≤ 140737488355328 := by have h1 := h.len; have h2 := hB.few; omega
end Go.Proofs.YtggbdhnjogalgaaGreatDoor

/- The contract of wal.cut. -/
namespace Go.Proofs.YtggbdhnjogalgaaGreatDoor
set_option maxRecDepth 100000
open Go.RowKit Dkm Wm
set_option linter.unusedVariables false

section
variable {w wr : World} {A : Option Addr} {n c : Nat} {d : Dk}
theorem Sv.endW (h : Sv w A n c d wr) (hf : Far w A) (vs : List Value) (x y z u : Value) :
    RetW w d vs (.returned (.tuple (dkv A n c d.room d.fuse d.off :: vs).toArray)) ((((wr.setCell ⟨w.heap.size + 1, 0, none⟩ x).setCell ⟨w.heap.size + 1, 1, none⟩ y).setCell ⟨w.heap.size + 1, 2, none⟩ z).setCell ⟨w.heap.size + 1, 3, none⟩ u) :=
  ⟨A, n, c, rfl, (((h.dsk.away1 (fun hn ad e => (h.away hn ad e).2) 0 _).away1 (fun hn ad e => (h.away hn ad e).2) 1 _).away1 (fun hn ad e => (h.away hn ad e).2) 2 _).away1 (fun hn ad e => (h.away hn ad e).2) 3 _, hf, h.sb.q.set4 (b := w.heap.size + 1) (by omega) _ _ _ _⟩
end
/-- behind a step of the cut. -/
def Cs (w : World) (x : Dk × Int) (far : Prop) (s8 : Value) (wx : World) : Prop := ∃ A n c, s8 = .int .i64 x.2 ∧ Sv w A n c x.1 wx ∧ (far → Far w A)

theorem dels_end {x : Dk × Int} {k : Int} (h : x.2 ≠ 0 ∨ ¬ (segOk k ∧ (hit (namB k) x.1.fs).2 = true)) : (if x.2 = 0 then dels (fuelOf k) x.1 k else x) = x := by
  by_cases h0 : x.2 = 0
  · rw [if_pos h0]
    have e : (x.1, (0 : Int)) = x := by rw [← h0]
    rcases h with h | h
    · exact absurd h0 h
    · cases hf : fuelOf k with
      | zero => exact e
      | succ m => unfold dels; rw [if_neg h]; exact e
  · rw [if_neg h0]
theorem dels_more {x : Dk × Int} {k : Int} (h0 : x.2 = 0) (h1 : segOk k) (h2 : (hit (namB k) x.1.fs).2 = true) :
    (if x.2 = 0 then dels (fuelOf k) x.1 k else x) = (if (del x.1 (namB k)).2 = 0 then dels (fuelOf (k + 1)) (del x.1 (namB k)).1 (k + 1) else del x.1 (namB k)) := by
  have hf : fuelOf k = fuelOf (k + 1) + 1 := by have := h1.2; unfold fuelOf; omega
  rw [if_pos h0, hf]
  conv => lhs; unfold dels
  rw [if_pos ⟨h1, h2⟩]

set_option maxHeartbeats 8000000 in
theorem cut_any (seg : Int) (s : ByteArray) (A : Option Addr) (n c : Nat) (d : Dk) (w : World) (hT : Tab w) (hd : Dsk w A n c d.fs) (hB : Bnd 2305843009213693952 d) (hs : s.size ≤ 2305843009213693952) (h1 : segOk seg) :
    Calls Tryz.prog 22 #[dkv A n c d.room d.fuse d.off, .int .i64 seg, .string s] w fun e w' => RetW w (cutM d seg s).1 [.int .i64 (cutM d seg s).2] e w' := by
  have HT := Lib.hid hT
  have HN := Lib.hid hd.max
  have B1 := hB.cut1
  have B2 := hB.cut2 (by omega) s
  have B3 := hB.cut3 (by omega) s
  have B4 := hB.cut4 (by omega) seg s
  have BD := hB.del freshB
  have mx : ∀ {d : Dk}, Bnd 2305843009213693952 d → ∀ f ∈ d.fs, f.sf.size + f.wt.size ≤ maxLen := fun h f hf => Nat.le_trans (h.sum f hf) (by unfold maxLen; omega)
  have C1 := Lib.hid (show cut1 d = if (hit freshB d.fs).2 then del d freshB else (d, 0) from rfl)
  have C2 := Lib.hid (show cut2 d s = if (cut1 d).2 = 0 then appd (cut1 d).1 freshB s else cut1 d from rfl)
  have C3 := Lib.hid (show cut3 d s = if (cut2 d s).2 = 0 then syn (cut2 d s).1 freshB else cut2 d s from rfl)
  have C4 := Lib.hid (show cut4 d seg s = if (cut3 d s).2 = 0 then ren (cut3 d s).1 freshB (namB seg) else cut3 d s from rfl)
  have C5 := Lib.hid (show cutM d seg s = if (cut4 d seg s).2 = 0 then dels (fuelOf (seg + 1)) (cut4 d seg s).1 (seg + 1) else cut4 d seg s from rfl)
  generalize cutM d seg s = x5 at C5 ⊢
  generalize cut4 d seg s = x4 at C4 C5 B4
  generalize cut3 d s = x3 at C3 C4 B3
  generalize cut2 d s = x2 at C2 C3 B2
  generalize cut1 d = x1 at C1 C2 B1
  have KD := Lib.hid (fun A n c w hd => del_any freshB A n c d w hd (mx hB) hB.fuse.2)
  have KH := Lib.hid (fun w hf => has_any freshB A n c d.room d.fuse d.off d.fs w hf HN.out)
  have KA := Lib.hid (fun A n c w hd => append_any freshB s A n c x1.1 w hd B1.sum hs B1.room.2 B1.fuse.2)
  have KY := Lib.hid (fun A n c w hd => sync_any freshB A n c x2.1 w hd (mx B2))
  have KRN := Lib.hid (fun A n c w hd => ren_any freshB (namB seg) A n c x3.1 w hd (mx B3) B3.fuse.2)
  have KN := Lib.hid (name_any seg)
  have HB1 := Lib.hid B1
  have HB2 := Lib.hid B2
  have HB3 := Lib.hid B3
  have HB4 := Lib.hid B4
  have HBD := Lib.hid BD
  have HD := Lib.hid hd
  have r0 := h1.1
  have r1 := h1.2
  clear hT hd hB hs h1 B1 B2 B3 B4 BD
  generalize (hit freshB d.fs).2 = b at KH C1
  generalize del d freshB = xd at KD C1 HBD
  change Hid (∀ w, Files w A n d.fs → Calls _ _ #[dkv A n c d.room d.fuse d.off, .string ⟨#[119, 46, 110, 101, 119]⟩] w fun e w' => e = .returned (.bool b) ∧ Q w w') at KH
  go_enter Tryz.func22, Tryz.ntmps22
  go_wp2_with fail
  refine (KH.out _ (HD.out.files.q (((Q.refl _).alloc _).alloc _))).mono ?_
  rintro e w1 ⟨rfl, q1⟩
  have X := Lib.hid ((Sv.new w HD.out).step q1)
  clear q1
  go_upto_if 10 with (fail)
  go_cut [8] (fun s8 wx => Cs w x1 (x1.2 ≠ 0) s8 wx)
  case first =>
    cases b
    · go_wp2_with fail
      go_meet
      exact ⟨A, n, c, by rw [C1.out]; rfl, by rw [C1.out]; exact X.out, fun h => absurd (by rw [C1.out]; rfl) h⟩
    · obtain ⟨⟨e0, e1, e2, e3⟩, f0, f1, f2', f3⟩ := X.out.sb.get
      go_wp2_with fail
      refine (KD.out A n c _ X.out.dsk).mono ?_
      rintro e w2 ⟨A2, n2, c2, rfl, ho, q2⟩
      have P := X.out.put q2 ho (few_own ho HBD.out)
      clear e0 e1 e2 e3 f0 f1 f2' f3
      obtain ⟨⟨e0, e1, e2, e3⟩, f0, f1, f2', f3⟩ := (X.out.sb.step q2).get
      clear ho q2
      have P := Lib.hid P
      go_wp2_with fail
      go_meet
      exact ⟨A2, n2, c2, by rw [C1.out]; rfl, by rw [C1.out]; exact P.out.1, fun _ => P.out.2⟩
  case rest =>
    obtain ⟨A1, n1, c1, rfl, v1, r1'⟩ := hcut
    have V1 := Lib.hid v1
    have R1 := Lib.hid r1'
    clear v1 r1'
    go_upto_if 17 with (fail)
    go_cut [8] (fun s8 wx => Cs w x2 True s8 wx)
    case first =>
      by_cases g : x1.2 = 0
      · have CC := C2.out
        rw [if_pos g] at CC
        have HC := Lib.hid CC
        clear CC
        obtain ⟨⟨e0, e1, e2, e3⟩, f0, f1, f2', f3⟩ := V1.out.sb.get
        go_wp2_with fail
        refine (KA.out _ _ _ _ V1.out.dsk).mono ?_
        rintro e w2 ⟨A2, n2, c2, rfl, ho, q2⟩
        rw [← HC.out] at ho
        have P := V1.out.put q2 ho (few_own ho HB2.out)
        clear e0 e1 e2 e3 f0 f1 f2' f3
        obtain ⟨⟨e0, e1, e2, e3⟩, f0, f1, f2', f3⟩ := (V1.out.sb.step q2).get
        clear ho q2
        have P := Lib.hid P
        go_wp2_with fail
        go_meet
        rw [← HC.out]
        exact ⟨A2, n2, c2, rfl, P.out.1, fun _ => P.out.2⟩
      · have CC := C2.out
        rw [if_neg g] at CC
        have HC := Lib.hid CC
        clear CC
        go_wp2_with fail
        go_meet
        rw [HC.out]
        exact ⟨A1, n1, c1, rfl, V1.out, fun _ => R1.out g⟩
    case rest =>
      obtain ⟨A2, n2, c2, rfl, v2, r2'⟩ := hcut
      have V2 := Lib.hid v2
      have R2 := Lib.hid r2'
      clear v2 r2'
      go_upto_if 25 with (fail)
      go_cut [8] (fun s8 wx => Cs w x3 True s8 wx)
      case first =>
        by_cases g : x2.2 = 0
        · have CC := C3.out
          rw [if_pos g] at CC
          have HC := Lib.hid CC
          clear CC
          obtain ⟨⟨e0, e1, e2, e3⟩, f0, f1, f2', f3⟩ := V2.out.sb.get
          go_wp2_with fail
          refine (KY.out _ _ _ _ V2.out.dsk).mono ?_
          rintro e w2 ⟨A2, n2, c2, rfl, ho, q2⟩
          rw [← HC.out] at ho
          have P := V2.out.put q2 ho (few_own ho HB3.out)
          clear e0 e1 e2 e3 f0 f1 f2' f3
          obtain ⟨⟨e0, e1, e2, e3⟩, f0, f1, f2', f3⟩ := (V2.out.sb.step q2).get
          clear ho q2
          have P := Lib.hid P
          go_wp2_with fail
          go_meet
          rw [← HC.out]
          exact ⟨A2, n2, c2, rfl, P.out.1, fun _ => P.out.2⟩
        · have CC := C3.out
          rw [if_neg g] at CC
          have HC := Lib.hid CC
          clear CC
          go_wp2_with fail
          go_meet
          rw [HC.out]
          exact ⟨A2, n2, c2, rfl, V2.out, fun _ => R2.out trivial⟩
      case rest =>
        obtain ⟨A3, n3, c3, rfl, v3, r3'⟩ := hcut
        have V3 := Lib.hid v3
        have R3 := Lib.hid r3'
        clear v3 r3'
        go_upto_if 32 with (fail)
        go_cut [8] (fun s8 wx => Cs w x4 True s8 wx)
        case first =>
          by_cases g : x3.2 = 0
          · have CC := C4.out
            rw [if_pos g] at CC
            have HC := Lib.hid CC
            clear CC
            have KR2 := Lib.hid (fun A n c w hd => by have h := KRN.out A n c w hd; rw [← HC.out] at h; exact h)
            clear KRN
            have KRN := KR2
            clear KR2
            generalize wc = W at V3 ⊢
            have S3 := Lib.hid V3.out.sb
            have DW := Lib.hid V3.out.dsk
            obtain ⟨⟨e0, e1, e2, e3⟩, f0, f1, f2', f3⟩ := V3.out.sb.get
            go_upto_region 9 with (fail)
            have QW := Lib.hid (Q.refl W)
            refine wp_region_heldL 7 (Q W) (by kernel_rfl) ?szz0 (fun hHeld => ?rzz0)
            case szz0 =>
              exact (Q.refl W).drew
            case' rzz0 => skip
            refine wpAnyL_take (i := 0) (oi := ?ozz1) (v := ?vzz1) ?hzz1 ?azz1 ?bzz1 ?czz1 ?kzz1 ?qzz1 ?yzz1 ?szz1 ?rzz1
            case hzz1 => simp only [List.getElem?_toArray, List.getElem?_cons_zero]; rfl
            case azz1 => kernel_rfl
            case bzz1 => kernel_rfl
            case czz1 => kernel_rfl
            case kzz1 => kernel_rfl
            case yzz1 =>
              refine Or.inl ⟨by rfl, ?_⟩
              intro w hSw
              have x0 := box_ hSw e0; have x1 := box_ hSw e1; have x2 := box_ hSw e2; have x3 := box_ hSw e3; clear hSw
              go_simp
              try with_reducible rfl
            case qzz1 => exact fun _ _ _ h => h
            case szz1 => first | assumption | trivial
            case' rzz1 => simp only [Act.put, List.setIfInBounds_toArray, List.set_cons_zero, List.set_cons_succ]
            refine wpAnyL_take (i := 1) (oi := ?ozz2) (v := ?vzz2) ?hzz2 ?azz2 ?bzz2 ?czz2 ?kzz2 ?qzz2 ?yzz2 ?szz2 ?rzz2
            case hzz2 => simp only [List.getElem?_toArray, List.getElem?_cons_zero, List.getElem?_cons_succ]; rfl
            case azz2 => kernel_rfl
            case bzz2 => kernel_rfl
            case czz2 => kernel_rfl
            case kzz2 => kernel_rfl
            case yzz2 =>
              refine Or.inl ⟨by rfl, ?_⟩
              intro w hSw
              skip
              go_simp
              try with_reducible rfl
            case qzz2 => exact fun _ _ _ h => h
            case szz2 => first | assumption | trivial
            case' rzz2 => simp only [Act.put, List.setIfInBounds_toArray, List.set_cons_zero, List.set_cons_succ]
            refine wpAnyL_ready (rs := [2]) (by kernel_rfl) (by simp) ?_
            refine AllReadyL.cons (o := ?ozz12) ?hzz12 (fun K hK => ?kzz12) ?mzz12
            case hzz12 => simp only [List.getElem?_toArray, List.getElem?_cons_zero, List.getElem?_cons_succ]; rfl
            case kzz12 =>
              go_simp
              refine (KN.out _ (HT.out.q (S3.out.q.trans hHeld))).mono ?_
              rintro e w3 ⟨rfl, q3⟩
              go_wp2_with fail
              refine hK.out _ _ ?Szz12 (fun hHeld => ?Rzz12)
              case Szz12 =>
                exact hHeld.trans q3
              case Rzz12 =>
                clear hK K
                try simp only [Act.put, List.setIfInBounds_toArray, List.set_cons_zero, List.set_cons_succ]
                refine wpAnyL_ready (rs := [3]) (by kernel_rfl) (by simp) ?_
                refine AllReadyL.cons (o := ?ozz11) ?hzz11 (fun K hK => ?kzz11) ?mzz11
                case hzz11 => simp only [List.getElem?_toArray, List.getElem?_cons_zero, List.getElem?_cons_succ]; rfl
                case kzz11 =>
                  go_simp
                  refine (KRN.out _ _ _ _ (DW.out.q hHeld)).mono ?_
                  rintro e w5 ⟨A5, n5, c5, rfl, ho, q5⟩
                  obtain ⟨⟨x0, x1, x2, x3⟩, y0, y1, y2, y3⟩ := ((S3.out.step hHeld).step q5).get
                  have Z5 := Lib.hid (And.intro ho (And.intro hHeld q5))
                  go_wp2_with fail
                  refine hK.out _ _ ?Szz11 (fun hHeld => ?Rzz11)
                  case Szz11 =>
                    exact hHeld.trans q5
                  case Rzz11 =>
                    clear hK K
                    try simp only [Act.put, List.setIfInBounds_toArray, List.set_cons_zero, List.set_cons_succ]
                    refine wpAnyL_take (i := 4) (oi := ?ozz3) (v := ?vzz3) ?hzz3 ?azz3 ?bzz3 ?czz3 ?kzz3 ?qzz3 ?yzz3 ?szz3 ?rzz3
                    case hzz3 => simp only [List.getElem?_toArray, List.getElem?_cons_zero, List.getElem?_cons_succ]; rfl
                    case azz3 => kernel_rfl
                    case bzz3 => kernel_rfl
                    case czz3 => kernel_rfl
                    case kzz3 => kernel_rfl
                    case yzz3 =>
                      refine Or.inl ⟨by rfl, ?_⟩
                      intro w hSw
                      skip
                      go_simp
                      try with_reducible rfl
                    case qzz3 => exact fun _ _ _ h => h
                    case szz3 => first | assumption | trivial
                    case' rzz3 => simp only [Act.put, List.setIfInBounds_toArray, List.set_cons_zero, List.set_cons_succ]
                    refine wpAnyL_take (i := 5) (oi := ?ozz4) (v := ?vzz4) ?hzz4 ?azz4 ?bzz4 ?czz4 ?kzz4 ?qzz4 ?yzz4 ?szz4 ?rzz4
                    case hzz4 => simp only [List.getElem?_toArray, List.getElem?_cons_zero, List.getElem?_cons_succ]; rfl
                    case azz4 => kernel_rfl
                    case bzz4 => kernel_rfl
                    case czz4 => kernel_rfl
                    case kzz4 => kernel_rfl
                    case yzz4 =>
                      refine Or.inl ⟨by rfl, ?_⟩
                      intro w hSw
                      skip
                      go_simp
                      try with_reducible rfl
                    case qzz4 => exact fun _ _ _ h => h
                    case szz4 => first | assumption | trivial
                    case' rzz4 => simp only [Act.put, List.setIfInBounds_toArray, List.set_cons_zero, List.set_cons_succ]
                    refine wpAnyL_ready (rs := [6, 7]) (by kernel_rfl) (by simp) ?_
                    refine AllReadyL.cons (o := ?ozz9) ?hzz9 (fun K hK => ?kzz9) ?mzz9
                    case hzz9 => simp only [List.getElem?_toArray, List.getElem?_cons_zero, List.getElem?_cons_succ]; rfl
                    case kzz9 =>
                      go_simp
                      refine hK.out _ _ ?Szz9 (fun hHeld => ?Rzz9)
                      case Szz9 =>
                        exact hHeld
                      case Rzz9 =>
                        clear hK K
                        try simp only [Act.put, List.setIfInBounds_toArray, List.set_cons_zero, List.set_cons_succ]
                        refine wpAnyL_ready (rs := [7]) (by kernel_rfl) (by simp) ?_
                        refine AllReadyL.consK (o := ?ozz6) ?hzz6 ?lzz6 (fun K hK => ?kzz6) ?mzz6
                        case hzz6 => simp only [List.getElem?_toArray, List.getElem?_cons_zero, List.getElem?_cons_succ]; rfl
                        case lzz6 => kernel_rfl
                        case kzz6 =>
                          go_simp
                          refine hK.out _ _ ?Rzz6
                          case Rzz6 =>
                            clear hK K
                            try simp only [Act.put, List.setIfInBounds_toArray, List.set_cons_zero, List.set_cons_succ]
                            refine wpAnyH_take (i := 8) (oi := ?ozz5) (v := ?vzz5) ?hzz5 ?azz5 ?bzz5 ?czz5 ?qzz5 ?yzz5 ?szz5 ?rzz5
                            case hzz5 => simp only [List.getElem?_toArray, List.getElem?_cons_zero, List.getElem?_cons_succ]; rfl
                            case azz5 => kernel_rfl
                            case bzz5 => kernel_rfl
                            case czz5 => kernel_rfl
                            case yzz5 =>
                              refine Or.inl ⟨by rfl, ?_⟩
                              intro w hSw
                              skip
                              go_simp
                              try with_reducible rfl
                            case qzz5 => exact fun _ _ _ h => h
                            case szz5 => first | assumption | trivial
                            case' rzz5 => simp only [Act.put, List.setIfInBounds_toArray, List.set_cons_zero, List.set_cons_succ]
                            refine wpAnyH_done (by kernel_rfl) ?_ _
                            have P := (V3.out.step Z5.out.2.1).put Z5.out.2.2 Z5.out.1 (few_own Z5.out.1 HB4.out)
                            have P := Lib.hid P
                            go_wp2_with fail
                            go_meet
                            exact ⟨A5, n5, c5, rfl, P.out.1, fun _ => P.out.2⟩
                        case' mzz6 => skip
                        exact AllReadyL.nil
                    case' mzz9 => skip
                    refine AllReadyL.consK (o := ?ozz10) ?hzz10 ?lzz10 (fun K hK => ?kzz10) ?mzz10
                    case hzz10 => simp only [List.getElem?_toArray, List.getElem?_cons_zero, List.getElem?_cons_succ]; rfl
                    case lzz10 => kernel_rfl
                    case kzz10 =>
                      go_simp
                      refine hK.out _ _ ?Rzz10
                      case Rzz10 =>
                        clear hK K
                        try simp only [Act.put, List.setIfInBounds_toArray, List.set_cons_zero, List.set_cons_succ]
                        refine wpAnyH_take (i := 6) (oi := ?ozz7) (v := ?vzz7) ?hzz7 ?azz7 ?bzz7 ?czz7 ?qzz7 ?yzz7 ?szz7 ?rzz7
                        case hzz7 => simp only [List.getElem?_toArray, List.getElem?_cons_zero, List.getElem?_cons_succ]; rfl
                        case azz7 => kernel_rfl
                        case bzz7 => kernel_rfl
                        case czz7 => kernel_rfl
                        case yzz7 =>
                          refine Or.inl ⟨by rfl, ?_⟩
                          intro w hSw
                          skip
                          go_simp
                          try with_reducible rfl
                        case qzz7 => exact fun _ _ _ h => h
                        case szz7 => first | assumption | trivial
                        case' rzz7 => simp only [Act.put, List.setIfInBounds_toArray, List.set_cons_zero, List.set_cons_succ]
                        refine wpAnyH_take (i := 8) (oi := ?ozz8) (v := ?vzz8) ?hzz8 ?azz8 ?bzz8 ?czz8 ?qzz8 ?yzz8 ?szz8 ?rzz8
                        case hzz8 => simp only [List.getElem?_toArray, List.getElem?_cons_zero, List.getElem?_cons_succ]; rfl
                        case azz8 => kernel_rfl
                        case bzz8 => kernel_rfl
                        case czz8 => kernel_rfl
                        case yzz8 =>
                          refine Or.inl ⟨by rfl, ?_⟩
                          intro w hSw
                          skip
                          go_simp
                          try with_reducible rfl
                        case qzz8 => exact fun _ _ _ h => h
                        case szz8 => first | assumption | trivial
                        case' rzz8 => simp only [Act.put, List.setIfInBounds_toArray, List.set_cons_zero, List.set_cons_succ]
                        refine wpAnyH_done (by kernel_rfl) ?_ _
                        have P := (V3.out.step Z5.out.2.1).put Z5.out.2.2 Z5.out.1 (few_own Z5.out.1 HB4.out)
                        have P := Lib.hid P
                        go_wp2_with fail
                        go_meet
                        exact ⟨A5, n5, c5, rfl, P.out.1, fun _ => P.out.2⟩
                    case' mzz10 => skip
                    exact AllReadyL.nil
                case' mzz11 => skip
                exact AllReadyL.nil
            case' mzz12 => skip
            exact AllReadyL.nil
          · have CC := C4.out
            rw [if_neg g] at CC
            have HC := Lib.hid CC
            clear CC
            go_wp2_with fail
            go_meet
            rw [HC.out]
            exact ⟨A3, n3, c3, rfl, V3.out, fun _ => R3.out trivial⟩
        case rest =>
          obtain ⟨A4, n4, c4, rfl, v4, r4'⟩ := hcut
          have V4 := Lib.hid v4
          have R4 := Lib.hid (r4' trivial)
          clear v4 r4' KRN KA KY KD KH
          go_wp2
          go_loopw [1, 8] (fun s1 s8 wr => ∃ (k : Int) (A5 : Option Addr) (n5 c5 : Nat) (x : Dk × Int), s1 = .int .i64 k ∧ s8 = .int .i64 x.2 ∧ 1 ≤ k ∧ k ≤ 1000001 ∧ Sv w A5 n5 c5 x.1 wr ∧ Far w A5 ∧ Bnd 2305843009213693952 x.1 ∧ x5 = if x.2 = 0 then dels (fuelOf k) x.1 k else x) (fun s1 _ _ => (1000002 - intOf s1).toNat)
          case atStart => exact ⟨seg + 1, A4, n4, c4, x4, by simp, rfl, by omega, by omega, V4.out, R4.out, HB4.out, C5.out⟩
          case round =>
            obtain ⟨k, A5, n5, c5, x, rfl, rfl, hk1, hk2, hv, hf, hb, hx⟩ := hrel
            have V := Lib.hid hv
            have HF := Lib.hid hf
            have HB := Lib.hid hb
            have HX := Lib.hid hx
            clear hv hf hb hx
            generalize wr = W at V ⊢
            have KNK := Lib.hid (name_any k)
            have KHK := Lib.hid (fun w hf => has_any (namB k) A5 n5 c5 x.1.room x.1.fuse x.1.off x.1.fs w hf V.out.dsk.max)
            obtain ⟨⟨e0, e1, e2, e3⟩, f0, f1, f2', f3⟩ := V.out.sb.get
            by_cases g0 : x.2 = 0
            · by_cases g1 : segOk k
              · have G1 := Lib.hid g1
                have KUK := Lib.hid (numbered_yes k g1)
                cases g2 : (hit (namB k) x.1.fs).2
                · rw [g2] at KHK
                  have G2 := Lib.hid g2
                  clear g1 g2
                  go_upto_region 11 with (fail)
                  go_region_held3 (fun w' => w'.cell? ⟨w.heap.size, 0, none⟩ = some (.slice A5 n5 c5) ∧ w'.cell? ⟨w.heap.size, 1, none⟩ = some (.int .i64 x.1.room) ∧ w'.cell? ⟨w.heap.size, 2, none⟩ = some (.int .i64 x.1.fuse) ∧ w'.cell? ⟨w.heap.size, 3, none⟩ = some (.bool x.1.off))
                    (first
                      | go_keep
                      | (go_split_ands
                         (repeat' apply And.intro) <;> exact box_ ‹Q _ _› (by assumption)))
                    (first
                      | (go_at_call 19
                         (with_reducible refine (KUK.out _).mono ?_)
                         rintro e w2 ⟨rfl, q2⟩)
                      | (go_at_call 13
                         (with_reducible refine (KNK.out _ (HT.out.q (V.out.sb.q.trans ((Q.refl W).drew.trans q2)))).mono ?_)
                         rintro e w3 ⟨rfl, q3⟩)
                      | (go_at_call 35
                         (with_reducible refine (KHK.out _ (V.out.dsk.files.q (((Q.refl W).drew.trans q2).trans q3))).mono ?_)
                         rintro e w4 ⟨rfl, q4⟩))
                  have U := Lib.hid (V.out.step ((((Q.refl W).drew.trans q2).trans q3).trans q4))
                  clear e0 e1 e2 e3 f0 f1 f2' f3 V q2 q3 q4
                  obtain ⟨⟨s0, s1, s2, s3⟩, h0, h1, h2, h3⟩ := U.out.sb.getR
                  obtain ⟨⟨e0, e1, e2, e3⟩, f0, f1, f2', f3⟩ := U.out.sb.get
                  go_wp2
                  refine bodyPost_ret (v := .tuple #[dkv A5 n5 c5 x.1.room x.1.fuse x.1.off, .int .i64 0]) (by simp [results, Tryz.results22, go_sem, s0, s1, s2, s3]) rfl ?_
                  have ex := HX.out
                  rw [dels_end (.inr (fun h => by rw [G2.out] at h; exact absurd h.2 (by simp)))] at ex
                  rw [ex, g0]
                  have e0' : [Value.int .i64 x.2] = [.int .i64 0] := by rw [g0]
                  exact e0' ▸ U.out.endW HF.out [.int .i64 x.2] _ _ _ _
                · rw [g2] at KHK
                  have G2 := Lib.hid g2
                  have KDK := Lib.hid (fun A n c w hd => del_any (namB k) A n c x.1 w hd (mx HB.out) HB.out.fuse.2)
                  have HB2' := Lib.hid (HB.out.del (namB k))
                  have HX2 := Lib.hid (HX.out.trans (dels_more g0 g1 g2))
                  clear g1 g2 HX
                  generalize del x.1 (namB k) = y at KDK HB2' HX2
                  go_upto_region 11 with (fail)
                  go_region_held3 (fun w' => w'.cell? ⟨w.heap.size, 0, none⟩ = some (.slice A5 n5 c5) ∧ w'.cell? ⟨w.heap.size, 1, none⟩ = some (.int .i64 x.1.room) ∧ w'.cell? ⟨w.heap.size, 2, none⟩ = some (.int .i64 x.1.fuse) ∧ w'.cell? ⟨w.heap.size, 3, none⟩ = some (.bool x.1.off))
                    (first
                      | go_keep
                      | (go_split_ands
                         (repeat' apply And.intro) <;> exact box_ ‹Q _ _› (by assumption)))
                    (first
                      | (go_at_call 19
                         (with_reducible refine (KUK.out _).mono ?_)
                         rintro e w2 ⟨rfl, q2⟩)
                      | (go_at_call 13
                         (with_reducible refine (KNK.out _ (HT.out.q (V.out.sb.q.trans ((Q.refl W).drew.trans q2)))).mono ?_)
                         rintro e w3 ⟨rfl, q3⟩)
                      | (go_at_call 35
                         (with_reducible refine (KHK.out _ (V.out.dsk.files.q (((Q.refl W).drew.trans q2).trans q3))).mono ?_)
                         rintro e w4 ⟨rfl, q4⟩))
                  have U := Lib.hid (V.out.step ((((Q.refl W).drew.trans q2).trans q3).trans q4))
                  clear e0 e1 e2 e3 f0 f1 f2' f3 V q2 q3 q4
                  generalize w4 = W at U ⊢
                  have SU := Lib.hid U.out.sb
                  have DU := Lib.hid U.out.dsk
                  obtain ⟨⟨e0, e1, e2, e3⟩, f0, f1, f2', f3⟩ := U.out.sb.get
                  go_upto_region 13 with (fail)
                  have QW := Lib.hid (Q.refl W)
                  refine wp_region_heldL 7 (Q W) (by kernel_rfl) ?szz13 (fun hHeld => ?rzz13)
                  case szz13 =>
                    exact (Q.refl W).drew
                  case' rzz13 => skip
                  refine wpAnyL_take (i := 0) (oi := ?ozz14) (v := ?vzz14) ?hzz14 ?azz14 ?bzz14 ?czz14 ?kzz14 ?qzz14 ?yzz14 ?szz14 ?rzz14
                  case hzz14 => simp only [List.getElem?_toArray, List.getElem?_cons_zero]; rfl
                  case azz14 => kernel_rfl
                  case bzz14 => kernel_rfl
                  case czz14 => kernel_rfl
                  case kzz14 => kernel_rfl
                  case yzz14 =>
                    refine Or.inl ⟨by rfl, ?_⟩
                    intro w hSw
                    have x0 := box_ hSw e0; have x1 := box_ hSw e1; have x2 := box_ hSw e2; have x3 := box_ hSw e3; clear hSw
                    go_simp
                    try with_reducible rfl
                  case qzz14 => exact fun _ _ _ h => h
                  case szz14 => first | assumption | trivial
                  case' rzz14 => simp only [Act.put, List.setIfInBounds_toArray, List.set_cons_zero, List.set_cons_succ]
                  refine wpAnyL_take (i := 1) (oi := ?ozz15) (v := ?vzz15) ?hzz15 ?azz15 ?bzz15 ?czz15 ?kzz15 ?qzz15 ?yzz15 ?szz15 ?rzz15
                  case hzz15 => simp only [List.getElem?_toArray, List.getElem?_cons_zero, List.getElem?_cons_succ]; rfl
                  case azz15 => kernel_rfl
                  case bzz15 => kernel_rfl
                  case czz15 => kernel_rfl
                  case kzz15 => kernel_rfl
                  case yzz15 =>
                    refine Or.inl ⟨by rfl, ?_⟩
                    intro w hSw
                    skip
                    go_simp
                    try with_reducible rfl
                  case qzz15 => exact fun _ _ _ h => h
                  case szz15 => first | assumption | trivial
                  case' rzz15 => simp only [Act.put, List.setIfInBounds_toArray, List.set_cons_zero, List.set_cons_succ]
                  refine wpAnyL_ready (rs := [2]) (by kernel_rfl) (by simp) ?_
                  refine AllReadyL.cons (o := ?ozz25) ?hzz25 (fun K hK => ?kzz25) ?mzz25
                  case hzz25 => simp only [List.getElem?_toArray, List.getElem?_cons_zero, List.getElem?_cons_succ]; rfl
                  case kzz25 =>
                    go_simp
                    refine (KNK.out _ (HT.out.q (SU.out.q.trans hHeld))).mono ?_
                    rintro e w3 ⟨rfl, q3⟩
                    go_wp2_with fail
                    refine hK.out _ _ ?Szz25 (fun hHeld => ?Rzz25)
                    case Szz25 =>
                      exact hHeld.trans q3
                    case Rzz25 =>
                      clear hK K
                      try simp only [Act.put, List.setIfInBounds_toArray, List.set_cons_zero, List.set_cons_succ]
                      refine wpAnyL_ready (rs := [3]) (by kernel_rfl) (by simp) ?_
                      refine AllReadyL.cons (o := ?ozz24) ?hzz24 (fun K hK => ?kzz24) ?mzz24
                      case hzz24 => simp only [List.getElem?_toArray, List.getElem?_cons_zero, List.getElem?_cons_succ]; rfl
                      case kzz24 =>
                        go_simp
                        refine (KDK.out _ _ _ _ (DU.out.q hHeld)).mono ?_
                        rintro e w5 ⟨A5, n5, c5, rfl, ho, q5⟩
                        obtain ⟨⟨x0, x1, x2, x3⟩, y0, y1, y2, y3⟩ := ((SU.out.step hHeld).step q5).get
                        have Z5 := Lib.hid (And.intro ho (And.intro hHeld q5))
                        go_wp2_with fail
                        refine hK.out _ _ ?Szz24 (fun hHeld => ?Rzz24)
                        case Szz24 =>
                          exact hHeld.trans q5
                        case Rzz24 =>
                          clear hK K
                          try simp only [Act.put, List.setIfInBounds_toArray, List.set_cons_zero, List.set_cons_succ]
                          refine wpAnyL_take (i := 4) (oi := ?ozz16) (v := ?vzz16) ?hzz16 ?azz16 ?bzz16 ?czz16 ?kzz16 ?qzz16 ?yzz16 ?szz16 ?rzz16
                          case hzz16 => simp only [List.getElem?_toArray, List.getElem?_cons_zero, List.getElem?_cons_succ]; rfl
                          case azz16 => kernel_rfl
                          case bzz16 => kernel_rfl
                          case czz16 => kernel_rfl
                          case kzz16 => kernel_rfl
                          case yzz16 =>
                            refine Or.inl ⟨by rfl, ?_⟩
                            intro w hSw
                            skip
                            go_simp
                            try with_reducible rfl
                          case qzz16 => exact fun _ _ _ h => h
                          case szz16 => first | assumption | trivial
                          case' rzz16 => simp only [Act.put, List.setIfInBounds_toArray, List.set_cons_zero, List.set_cons_succ]
                          refine wpAnyL_take (i := 5) (oi := ?ozz17) (v := ?vzz17) ?hzz17 ?azz17 ?bzz17 ?czz17 ?kzz17 ?qzz17 ?yzz17 ?szz17 ?rzz17
                          case hzz17 => simp only [List.getElem?_toArray, List.getElem?_cons_zero, List.getElem?_cons_succ]; rfl
                          case azz17 => kernel_rfl
                          case bzz17 => kernel_rfl
                          case czz17 => kernel_rfl
                          case kzz17 => kernel_rfl
                          case yzz17 =>
                            refine Or.inl ⟨by rfl, ?_⟩
                            intro w hSw
                            skip
                            go_simp
                            try with_reducible rfl
                          case qzz17 => exact fun _ _ _ h => h
                          case szz17 => first | assumption | trivial
                          case' rzz17 => simp only [Act.put, List.setIfInBounds_toArray, List.set_cons_zero, List.set_cons_succ]
                          refine wpAnyL_ready (rs := [6, 7]) (by kernel_rfl) (by simp) ?_
                          refine AllReadyL.cons (o := ?ozz22) ?hzz22 (fun K hK => ?kzz22) ?mzz22
                          case hzz22 => simp only [List.getElem?_toArray, List.getElem?_cons_zero, List.getElem?_cons_succ]; rfl
                          case kzz22 =>
                            go_simp
                            refine hK.out _ _ ?Szz22 (fun hHeld => ?Rzz22)
                            case Szz22 =>
                              exact hHeld
                            case Rzz22 =>
                              clear hK K
                              try simp only [Act.put, List.setIfInBounds_toArray, List.set_cons_zero, List.set_cons_succ]
                              refine wpAnyL_ready (rs := [7]) (by kernel_rfl) (by simp) ?_
                              refine AllReadyL.consK (o := ?ozz19) ?hzz19 ?lzz19 (fun K hK => ?kzz19) ?mzz19
                              case hzz19 => simp only [List.getElem?_toArray, List.getElem?_cons_zero, List.getElem?_cons_succ]; rfl
                              case lzz19 => kernel_rfl
                              case kzz19 =>
                                go_simp
                                refine hK.out _ _ ?Rzz19
                                case Rzz19 =>
                                  clear hK K
                                  try simp only [Act.put, List.setIfInBounds_toArray, List.set_cons_zero, List.set_cons_succ]
                                  refine wpAnyH_take (i := 8) (oi := ?ozz18) (v := ?vzz18) ?hzz18 ?azz18 ?bzz18 ?czz18 ?qzz18 ?yzz18 ?szz18 ?rzz18
                                  case hzz18 => simp only [List.getElem?_toArray, List.getElem?_cons_zero, List.getElem?_cons_succ]; rfl
                                  case azz18 => kernel_rfl
                                  case bzz18 => kernel_rfl
                                  case czz18 => kernel_rfl
                                  case yzz18 =>
                                    refine Or.inl ⟨by rfl, ?_⟩
                                    intro w hSw
                                    skip
                                    go_simp
                                    try with_reducible rfl
                                  case qzz18 => exact fun _ _ _ h => h
                                  case szz18 => first | assumption | trivial
                                  case' rzz18 => simp only [Act.put, List.setIfInBounds_toArray, List.set_cons_zero, List.set_cons_succ]
                                  refine wpAnyH_done (by kernel_rfl) ?_ _
                                  have P := Lib.hid ((U.out.step Z5.out.2.1).put Z5.out.2.2 Z5.out.1 (few_own Z5.out.1 HB2'.out))
                                  have hk3 : k ≤ 1000000 := G1.out.2
                                  go_wp2_with fail
                                  go_roundw
                                  case rel => exact ⟨k + 1, A5, n5, c5, y, by simp, rfl, by omega, by omega, P.out.1, P.out.2, HB2'.out, HX2.out⟩
                                  case measure => simp [intOf]; omega
                              case' mzz19 => skip
                              exact AllReadyL.nil
                          case' mzz22 => skip
                          refine AllReadyL.consK (o := ?ozz23) ?hzz23 ?lzz23 (fun K hK => ?kzz23) ?mzz23
                          case hzz23 => simp only [List.getElem?_toArray, List.getElem?_cons_zero, List.getElem?_cons_succ]; rfl
                          case lzz23 => kernel_rfl
                          case kzz23 =>
                            go_simp
                            refine hK.out _ _ ?Rzz23
                            case Rzz23 =>
                              clear hK K
                              try simp only [Act.put, List.setIfInBounds_toArray, List.set_cons_zero, List.set_cons_succ]
                              refine wpAnyH_take (i := 6) (oi := ?ozz20) (v := ?vzz20) ?hzz20 ?azz20 ?bzz20 ?czz20 ?qzz20 ?yzz20 ?szz20 ?rzz20
                              case hzz20 => simp only [List.getElem?_toArray, List.getElem?_cons_zero, List.getElem?_cons_succ]; rfl
                              case azz20 => kernel_rfl
                              case bzz20 => kernel_rfl
                              case czz20 => kernel_rfl
                              case yzz20 =>
                                refine Or.inl ⟨by rfl, ?_⟩
                                intro w hSw
                                skip
                                go_simp
                                try with_reducible rfl
                              case qzz20 => exact fun _ _ _ h => h
                              case szz20 => first | assumption | trivial
                              case' rzz20 => simp only [Act.put, List.setIfInBounds_toArray, List.set_cons_zero, List.set_cons_succ]
                              refine wpAnyH_take (i := 8) (oi := ?ozz21) (v := ?vzz21) ?hzz21 ?azz21 ?bzz21 ?czz21 ?qzz21 ?yzz21 ?szz21 ?rzz21
                              case hzz21 => simp only [List.getElem?_toArray, List.getElem?_cons_zero, List.getElem?_cons_succ]; rfl
                              case azz21 => kernel_rfl
                              case bzz21 => kernel_rfl
                              case czz21 => kernel_rfl
                              case yzz21 =>
                                refine Or.inl ⟨by rfl, ?_⟩
                                intro w hSw
                                skip
                                go_simp
                                try with_reducible rfl
                              case qzz21 => exact fun _ _ _ h => h
                              case szz21 => first | assumption | trivial
                              case' rzz21 => simp only [Act.put, List.setIfInBounds_toArray, List.set_cons_zero, List.set_cons_succ]
                              refine wpAnyH_done (by kernel_rfl) ?_ _
                              have P := Lib.hid ((U.out.step Z5.out.2.1).put Z5.out.2.2 Z5.out.1 (few_own Z5.out.1 HB2'.out))
                              have hk3 : k ≤ 1000000 := G1.out.2
                              go_wp2_with fail
                              go_roundw
                              case rel => exact ⟨k + 1, A5, n5, c5, y, by simp, rfl, by omega, by omega, P.out.1, P.out.2, HB2'.out, HX2.out⟩
                              case measure => simp [intOf]; omega
                          case' mzz23 => skip
                          exact AllReadyL.nil
                      case' mzz24 => skip
                      exact AllReadyL.nil
                  case' mzz25 => skip
                  exact AllReadyL.nil
              · have KUK := Lib.hid (numbered_no k g1)
                have G1 := Lib.hid g1
                clear g1
                go_upto_region 11 with (fail)
                refine wp_region_held_drew (S := fun _ => True) (by kernel_rfl) ?szz26 (fun hHeld => ?rzz26)
                case szz26 =>
                  trivial
                case' rzz26 => skip
                refine wpAnyH_take (i := 0) (oi := ?ozz27) (v := ?vzz27) ?hzz27 ?azz27 ?bzz27 ?czz27 ?qzz27 ?yzz27 ?szz27 ?rzz27
                case hzz27 => simp only [List.getElem?_toArray, List.getElem?_cons_zero]; rfl
                case azz27 => kernel_rfl
                case bzz27 => kernel_rfl
                case czz27 => kernel_rfl
                case yzz27 =>
                  refine Or.inl ⟨by rfl, ?_⟩
                  intro w hSw
                  skip
                  go_simp
                  try with_reducible rfl
                case qzz27 => exact fun _ _ _ h => h
                case szz27 => first | assumption | trivial
                case' rzz27 => simp only [Act.put, List.setIfInBounds_toArray, List.set_cons_zero, List.set_cons_succ]
                refine wpAnyH_take (i := 1) (oi := ?ozz28) (v := ?vzz28) ?hzz28 ?azz28 ?bzz28 ?czz28 ?qzz28 ?yzz28 ?szz28 ?rzz28
                case hzz28 => simp only [List.getElem?_toArray, List.getElem?_cons_zero, List.getElem?_cons_succ]; rfl
                case azz28 => kernel_rfl
                case bzz28 => kernel_rfl
                case czz28 => kernel_rfl
                case yzz28 =>
                  refine Or.inl ⟨by rfl, ?_⟩
                  intro w hSw
                  skip
                  go_simp
                  try with_reducible rfl
                case qzz28 => exact fun _ _ _ h => h
                case szz28 => first | assumption | trivial
                case' rzz28 => simp only [Act.put, List.setIfInBounds_toArray, List.set_cons_zero, List.set_cons_succ]
                refine wpAnyH_take (i := 2) (oi := ?ozz29) (v := ?vzz29) ?hzz29 ?azz29 ?bzz29 ?czz29 ?qzz29 ?yzz29 ?szz29 ?rzz29
                case hzz29 => simp only [List.getElem?_toArray, List.getElem?_cons_zero, List.getElem?_cons_succ]; rfl
                case azz29 => kernel_rfl
                case bzz29 => kernel_rfl
                case czz29 => kernel_rfl
                case yzz29 =>
                  refine Or.inl ⟨by rfl, ?_⟩
                  intro w hSw
                  skip
                  go_simp
                  try with_reducible rfl
                case qzz29 => exact fun _ _ _ h => h
                case szz29 => first | assumption | trivial
                case' rzz29 => simp only [Act.put, List.setIfInBounds_toArray, List.set_cons_zero, List.set_cons_succ]
                refine wpAnyH_take (i := 3) (oi := ?ozz30) (v := ?vzz30) ?hzz30 ?azz30 ?bzz30 ?czz30 ?qzz30 ?yzz30 ?szz30 ?rzz30
                case hzz30 => simp only [List.getElem?_toArray, List.getElem?_cons_zero, List.getElem?_cons_succ]; rfl
                case azz30 => kernel_rfl
                case bzz30 => kernel_rfl
                case czz30 => kernel_rfl
                case yzz30 =>
                  refine Or.inl ⟨by rfl, ?_⟩
                  intro w hSw
                  skip
                  go_simp
                  try with_reducible rfl
                case qzz30 => exact fun _ _ _ h => h
                case szz30 => first | assumption | trivial
                case' rzz30 => simp only [Act.put, List.setIfInBounds_toArray, List.set_cons_zero, List.set_cons_succ]
                refine wpAnyH_ready (rs := [4]) (by kernel_rfl) (by simp) ?_
                refine AllReadyH.cons (o := ?ozz38) ?hzz38 (fun K hK => ?kzz38) ?mzz38
                case hzz38 => simp only [List.getElem?_toArray, List.getElem?_cons_zero, List.getElem?_cons_succ]; rfl
                case kzz38 =>
                  go_simp
                  refine (KUK.out _).mono ?_
                  rintro e w2 ⟨rfl, q2⟩
                  go_wp2_with fail
                  refine hK.out _ _ ?Szz38 (fun hHeld => ?Rzz38)
                  case Szz38 =>
                    trivial
                  case Rzz38 =>
                    clear hK K
                    try simp only [Act.put, List.setIfInBounds_toArray, List.set_cons_zero, List.set_cons_succ]
                    refine wpAnyH_take (i := 5) (oi := ?ozz31) (v := ?vzz31) ?hzz31 ?azz31 ?bzz31 ?czz31 ?qzz31 ?yzz31 ?szz31 ?rzz31
                    case hzz31 => simp only [List.getElem?_toArray, List.getElem?_cons_zero, List.getElem?_cons_succ]; rfl
                    case azz31 => kernel_rfl
                    case bzz31 => kernel_rfl
                    case czz31 => kernel_rfl
                    case yzz31 =>
                      refine Or.inl ⟨by rfl, ?_⟩
                      intro w hSw
                      skip
                      go_simp
                      try with_reducible rfl
                    case qzz31 => exact fun _ _ _ h => h
                    case szz31 => first | assumption | trivial
                    case' rzz31 => simp only [Act.put, List.setIfInBounds_toArray, List.set_cons_zero, List.set_cons_succ]
                    refine wpAnyH_take (i := 6) (oi := ?ozz32) (v := ?vzz32) ?hzz32 ?azz32 ?bzz32 ?czz32 ?qzz32 ?yzz32 ?szz32 ?rzz32
                    case hzz32 => simp only [List.getElem?_toArray, List.getElem?_cons_zero, List.getElem?_cons_succ]; rfl
                    case azz32 => kernel_rfl
                    case bzz32 => kernel_rfl
                    case czz32 => kernel_rfl
                    case yzz32 =>
                      refine Or.inl ⟨by rfl, ?_⟩
                      intro w hSw
                      skip
                      go_simp
                      try with_reducible rfl
                    case qzz32 => exact fun _ _ _ h => h
                    case szz32 => first | assumption | trivial
                    case' rzz32 => simp only [Act.put, List.setIfInBounds_toArray, List.set_cons_zero, List.set_cons_succ]
                    refine wpAnyH_take (i := 7) (oi := ?ozz33) (v := undef) ?hzz33 ?azz33 ?bzz33 ?czz33 ?qzz33 ?yzz33 ?szz33 ?rzz33
                    case hzz33 => simp only [List.getElem?_toArray, List.getElem?_cons_zero, List.getElem?_cons_succ]; rfl
                    case azz33 => kernel_rfl
                    case bzz33 => kernel_rfl
                    case czz33 => kernel_rfl
                    case yzz33 => exact Or.inr ⟨by rfl, rfl⟩
                    case qzz33 => exact fun _ _ _ h => h
                    case szz33 => first | assumption | trivial
                    case' rzz33 => simp only [Act.put, List.setIfInBounds_toArray, List.set_cons_zero, List.set_cons_succ]
                    refine wpAnyH_take (i := 8) (oi := ?ozz34) (v := undef) ?hzz34 ?azz34 ?bzz34 ?czz34 ?qzz34 ?yzz34 ?szz34 ?rzz34
                    case hzz34 => simp only [List.getElem?_toArray, List.getElem?_cons_zero, List.getElem?_cons_succ]; rfl
                    case azz34 => kernel_rfl
                    case bzz34 => kernel_rfl
                    case czz34 => kernel_rfl
                    case yzz34 => exact Or.inr ⟨by rfl, rfl⟩
                    case qzz34 => exact fun _ _ _ h => h
                    case szz34 => first | assumption | trivial
                    case' rzz34 => simp only [Act.put, List.setIfInBounds_toArray, List.set_cons_zero, List.set_cons_succ]
                    refine wpAnyH_take (i := 9) (oi := ?ozz35) (v := undef) ?hzz35 ?azz35 ?bzz35 ?czz35 ?qzz35 ?yzz35 ?szz35 ?rzz35
                    case hzz35 => simp only [List.getElem?_toArray, List.getElem?_cons_zero, List.getElem?_cons_succ]; rfl
                    case azz35 => kernel_rfl
                    case bzz35 => kernel_rfl
                    case czz35 => kernel_rfl
                    case yzz35 => exact Or.inr ⟨by rfl, rfl⟩
                    case qzz35 => exact fun _ _ _ h => h
                    case szz35 => first | assumption | trivial
                    case' rzz35 => simp only [Act.put, List.setIfInBounds_toArray, List.set_cons_zero, List.set_cons_succ]
                    refine wpAnyH_take (i := 10) (oi := ?ozz36) (v := undef) ?hzz36 ?azz36 ?bzz36 ?czz36 ?qzz36 ?yzz36 ?szz36 ?rzz36
                    case hzz36 => simp only [List.getElem?_toArray, List.getElem?_cons_zero, List.getElem?_cons_succ]; rfl
                    case azz36 => kernel_rfl
                    case bzz36 => kernel_rfl
                    case czz36 => kernel_rfl
                    case yzz36 => exact Or.inr ⟨by rfl, rfl⟩
                    case qzz36 => exact fun _ _ _ h => h
                    case szz36 => first | assumption | trivial
                    case' rzz36 => simp only [Act.put, List.setIfInBounds_toArray, List.set_cons_zero, List.set_cons_succ]
                    refine wpAnyH_take (i := 11) (oi := ?ozz37) (v := ?vzz37) ?hzz37 ?azz37 ?bzz37 ?czz37 ?qzz37 ?yzz37 ?szz37 ?rzz37
                    case hzz37 => simp only [List.getElem?_toArray, List.getElem?_cons_zero, List.getElem?_cons_succ]; rfl
                    case azz37 => kernel_rfl
                    case bzz37 => kernel_rfl
                    case czz37 => kernel_rfl
                    case yzz37 =>
                      refine Or.inl ⟨by rfl, ?_⟩
                      intro w hSw
                      skip
                      go_simp
                      try with_reducible rfl
                    case qzz37 => exact fun _ _ _ h => h
                    case szz37 => first | assumption | trivial
                    case' rzz37 => simp only [Act.put, List.setIfInBounds_toArray, List.set_cons_zero, List.set_cons_succ]
                    refine wpAnyH_done (by kernel_rfl) ?_ _
                    have U := Lib.hid (V.out.step ((Q.refl W).drew.trans q2))
                    clear e0 e1 e2 e3 f0 f1 f2' f3 V q2
                    obtain ⟨⟨s0, s1, s2, s3⟩, h0, h1, h2, h3⟩ := U.out.sb.getR
                    obtain ⟨⟨e0, e1, e2, e3⟩, f0, f1, f2', f3⟩ := U.out.sb.get
                    go_wp2
                    refine bodyPost_ret (v := .tuple #[dkv A5 n5 c5 x.1.room x.1.fuse x.1.off, .int .i64 0]) (by simp [results, Tryz.results22, go_sem, s0, s1, s2, s3]) rfl ?_
                    have ex := HX.out
                    rw [dels_end (.inr (fun h => G1.out h.1))] at ex
                    rw [ex, g0]
                    have e0' : [Value.int .i64 x.2] = [.int .i64 0] := by rw [g0]
                    exact e0' ▸ U.out.endW HF.out [.int .i64 x.2] _ _ _ _
                case' mzz38 => skip
                exact AllReadyH.nil
            · have G0 := Lib.hid g0
              have KUK := Lib.hid (numbered_yes)
              go_upto_region 11 with (fail)
              refine wp_region_held_drew (S := fun _ => True) (by kernel_rfl) ?szz39 (fun hHeld => ?rzz39)
              case szz39 =>
                trivial
              case' rzz39 => skip
              refine wpAnyH_take (i := 0) (oi := ?ozz40) (v := ?vzz40) ?hzz40 ?azz40 ?bzz40 ?czz40 ?qzz40 ?yzz40 ?szz40 ?rzz40
              case hzz40 => simp only [List.getElem?_toArray, List.getElem?_cons_zero]; rfl
              case azz40 => kernel_rfl
              case bzz40 => kernel_rfl
              case czz40 => kernel_rfl
              case yzz40 =>
                refine Or.inl ⟨by rfl, ?_⟩
                intro w hSw
                skip
                go_simp
                try with_reducible rfl
              case qzz40 => exact fun _ _ _ h => h
              case szz40 => first | assumption | trivial
              case' rzz40 => simp only [Act.put, List.setIfInBounds_toArray, List.set_cons_zero, List.set_cons_succ]
              refine wpAnyH_take (i := 1) (oi := ?ozz41) (v := ?vzz41) ?hzz41 ?azz41 ?bzz41 ?czz41 ?qzz41 ?yzz41 ?szz41 ?rzz41
              case hzz41 => simp only [List.getElem?_toArray, List.getElem?_cons_zero, List.getElem?_cons_succ]; rfl
              case azz41 => kernel_rfl
              case bzz41 => kernel_rfl
              case czz41 => kernel_rfl
              case yzz41 =>
                refine Or.inl ⟨by rfl, ?_⟩
                intro w hSw
                have hz : (x.2 == 0) = false := (by simpa using g0); have hz2 : decide (x.2 = 0) = false := (by simpa using g0)
                go_simp
                try with_reducible rfl
              case qzz41 => exact fun _ _ _ h => h
              case szz41 => first | assumption | trivial
              case' rzz41 => simp only [Act.put, List.setIfInBounds_toArray, List.set_cons_zero, List.set_cons_succ]
              refine wpAnyH_take (i := 2) (oi := ?ozz42) (v := ?vzz42) ?hzz42 ?azz42 ?bzz42 ?czz42 ?qzz42 ?yzz42 ?szz42 ?rzz42
              case hzz42 => simp only [List.getElem?_toArray, List.getElem?_cons_zero, List.getElem?_cons_succ]; rfl
              case azz42 => kernel_rfl
              case bzz42 => kernel_rfl
              case czz42 => kernel_rfl
              case yzz42 =>
                refine Or.inl ⟨by rfl, ?_⟩
                intro w hSw
                skip
                go_simp
                try with_reducible rfl
              case qzz42 => exact fun _ _ _ h => h
              case szz42 => first | assumption | trivial
              case' rzz42 => simp only [Act.put, List.setIfInBounds_toArray, List.set_cons_zero, List.set_cons_succ]
              refine wpAnyH_take (i := 3) (oi := ?ozz43) (v := undef) ?hzz43 ?azz43 ?bzz43 ?czz43 ?qzz43 ?yzz43 ?szz43 ?rzz43
              case hzz43 => simp only [List.getElem?_toArray, List.getElem?_cons_zero, List.getElem?_cons_succ]; rfl
              case azz43 => kernel_rfl
              case bzz43 => kernel_rfl
              case czz43 => kernel_rfl
              case yzz43 => exact Or.inr ⟨by rfl, rfl⟩
              case qzz43 => exact fun _ _ _ h => h
              case szz43 => first | assumption | trivial
              case' rzz43 => simp only [Act.put, List.setIfInBounds_toArray, List.set_cons_zero, List.set_cons_succ]
              refine wpAnyH_take (i := 4) (oi := ?ozz44) (v := undef) ?hzz44 ?azz44 ?bzz44 ?czz44 ?qzz44 ?yzz44 ?szz44 ?rzz44
              case hzz44 => simp only [List.getElem?_toArray, List.getElem?_cons_zero, List.getElem?_cons_succ]; rfl
              case azz44 => kernel_rfl
              case bzz44 => kernel_rfl
              case czz44 => kernel_rfl
              case yzz44 => exact Or.inr ⟨by rfl, rfl⟩
              case qzz44 => exact fun _ _ _ h => h
              case szz44 => first | assumption | trivial
              case' rzz44 => simp only [Act.put, List.setIfInBounds_toArray, List.set_cons_zero, List.set_cons_succ]
              refine wpAnyH_take (i := 5) (oi := ?ozz45) (v := ?vzz45) ?hzz45 ?azz45 ?bzz45 ?czz45 ?qzz45 ?yzz45 ?szz45 ?rzz45
              case hzz45 => simp only [List.getElem?_toArray, List.getElem?_cons_zero, List.getElem?_cons_succ]; rfl
              case azz45 => kernel_rfl
              case bzz45 => kernel_rfl
              case czz45 => kernel_rfl
              case yzz45 =>
                refine Or.inl ⟨by rfl, ?_⟩
                intro w hSw
                skip
                go_simp
                try with_reducible rfl
              case qzz45 => exact fun _ _ _ h => h
              case szz45 => first | assumption | trivial
              case' rzz45 => simp only [Act.put, List.setIfInBounds_toArray, List.set_cons_zero, List.set_cons_succ]
              refine wpAnyH_take (i := 6) (oi := ?ozz46) (v := ?vzz46) ?hzz46 ?azz46 ?bzz46 ?czz46 ?qzz46 ?yzz46 ?szz46 ?rzz46
              case hzz46 => simp only [List.getElem?_toArray, List.getElem?_cons_zero, List.getElem?_cons_succ]; rfl
              case azz46 => kernel_rfl
              case bzz46 => kernel_rfl
              case czz46 => kernel_rfl
              case yzz46 =>
                refine Or.inl ⟨by rfl, ?_⟩
                intro w hSw
                skip
                go_simp
                try with_reducible rfl
              case qzz46 => exact fun _ _ _ h => h
              case szz46 => first | assumption | trivial
              case' rzz46 => simp only [Act.put, List.setIfInBounds_toArray, List.set_cons_zero, List.set_cons_succ]
              refine wpAnyH_take (i := 7) (oi := ?ozz47) (v := undef) ?hzz47 ?azz47 ?bzz47 ?czz47 ?qzz47 ?yzz47 ?szz47 ?rzz47
              case hzz47 => simp only [List.getElem?_toArray, List.getElem?_cons_zero, List.getElem?_cons_succ]; rfl
              case azz47 => kernel_rfl
              case bzz47 => kernel_rfl
              case czz47 => kernel_rfl
              case yzz47 => exact Or.inr ⟨by rfl, rfl⟩
              case qzz47 => exact fun _ _ _ h => h
              case szz47 => first | assumption | trivial
              case' rzz47 => simp only [Act.put, List.setIfInBounds_toArray, List.set_cons_zero, List.set_cons_succ]
              refine wpAnyH_take (i := 8) (oi := ?ozz48) (v := undef) ?hzz48 ?azz48 ?bzz48 ?czz48 ?qzz48 ?yzz48 ?szz48 ?rzz48
              case hzz48 => simp only [List.getElem?_toArray, List.getElem?_cons_zero, List.getElem?_cons_succ]; rfl
              case azz48 => kernel_rfl
              case bzz48 => kernel_rfl
              case czz48 => kernel_rfl
              case yzz48 => exact Or.inr ⟨by rfl, rfl⟩
              case qzz48 => exact fun _ _ _ h => h
              case szz48 => first | assumption | trivial
              case' rzz48 => simp only [Act.put, List.setIfInBounds_toArray, List.set_cons_zero, List.set_cons_succ]
              refine wpAnyH_take (i := 9) (oi := ?ozz49) (v := undef) ?hzz49 ?azz49 ?bzz49 ?czz49 ?qzz49 ?yzz49 ?szz49 ?rzz49
              case hzz49 => simp only [List.getElem?_toArray, List.getElem?_cons_zero, List.getElem?_cons_succ]; rfl
              case azz49 => kernel_rfl
              case bzz49 => kernel_rfl
              case czz49 => kernel_rfl
              case yzz49 => exact Or.inr ⟨by rfl, rfl⟩
              case qzz49 => exact fun _ _ _ h => h
              case szz49 => first | assumption | trivial
              case' rzz49 => simp only [Act.put, List.setIfInBounds_toArray, List.set_cons_zero, List.set_cons_succ]
              refine wpAnyH_take (i := 10) (oi := ?ozz50) (v := undef) ?hzz50 ?azz50 ?bzz50 ?czz50 ?qzz50 ?yzz50 ?szz50 ?rzz50
              case hzz50 => simp only [List.getElem?_toArray, List.getElem?_cons_zero, List.getElem?_cons_succ]; rfl
              case azz50 => kernel_rfl
              case bzz50 => kernel_rfl
              case czz50 => kernel_rfl
              case yzz50 => exact Or.inr ⟨by rfl, rfl⟩
              case qzz50 => exact fun _ _ _ h => h
              case szz50 => first | assumption | trivial
              case' rzz50 => simp only [Act.put, List.setIfInBounds_toArray, List.set_cons_zero, List.set_cons_succ]
              refine wpAnyH_take (i := 11) (oi := ?ozz51) (v := ?vzz51) ?hzz51 ?azz51 ?bzz51 ?czz51 ?qzz51 ?yzz51 ?szz51 ?rzz51
              case hzz51 => simp only [List.getElem?_toArray, List.getElem?_cons_zero, List.getElem?_cons_succ]; rfl
              case azz51 => kernel_rfl
              case bzz51 => kernel_rfl
              case czz51 => kernel_rfl
              case yzz51 =>
                refine Or.inl ⟨by rfl, ?_⟩
                intro w hSw
                skip
                go_simp
                try with_reducible rfl
              case qzz51 => exact fun _ _ _ h => h
              case szz51 => first | assumption | trivial
              case' rzz51 => simp only [Act.put, List.setIfInBounds_toArray, List.set_cons_zero, List.set_cons_succ]
              refine wpAnyH_done (by kernel_rfl) ?_ _
              have U := Lib.hid (V.out.step (Q.refl W).drew)
              clear e0 e1 e2 e3 f0 f1 f2' f3
              obtain ⟨⟨s0, s1, s2, s3⟩, h0, h1, h2, h3⟩ := V.out.sb.getR
              obtain ⟨⟨e0, e1, e2, e3⟩, f0, f1, f2', f3⟩ := V.out.sb.get
              go_wp2
              refine bodyPost_ret (v := .tuple #[dkv A5 n5 c5 x.1.room x.1.fuse x.1.off, .int .i64 x.2]) (by simp [results, Tryz.results22, go_sem, s0, s1, s2, s3]) rfl ?_
              have ex := HX.out
              rw [dels_end (.inl G0.out)] at ex
              rw [ex]
              exact U.out.endW HF.out [.int .i64 x.2] _ _ _ _
end Go.Proofs.YtggbdhnjogalgaaGreatDoor
