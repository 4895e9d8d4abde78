/- WalRef: merged. -/
import Derived.Test.YtplhkppikkbkkaaDoorA7
import Derived.Test.YtplhkppikkbkkaaDoorA5
import Derived.Test.YtplhkppikkbkkaaDoorA4
import Derived.Deep.DeepCutAuto
/- The contracts of the document's Sync and Put. -/
namespace Go.Proofs.YtplhkppikkbkkaaDoor
set_option maxRecDepth 100000
open Go.RowKit Dkm Wm
set_option linter.unusedVariables false

theorem far3_ {w : World} {b g : Nat} {x y z a0 a1 a2 a3 : Value} (h : b ≠ g) (hc : w.cell? ⟨b, 0, none⟩ = some a0 ∧ w.cell? ⟨b, 1, none⟩ = some a1 ∧ w.cell? ⟨b, 2, none⟩ = some a2 ∧ w.cell? ⟨b, 3, none⟩ = some a3) :
    (((w.setCell ⟨g, 0, none⟩ x).setCell ⟨g, 1, none⟩ y).setCell ⟨g, 2, none⟩ z).cell? ⟨b, 0, none⟩ = some a0 ∧ (((w.setCell ⟨g, 0, none⟩ x).setCell ⟨g, 1, none⟩ y).setCell ⟨g, 2, none⟩ z).cell? ⟨b, 1, none⟩ = some a1 ∧
    (((w.setCell ⟨g, 0, none⟩ x).setCell ⟨g, 1, none⟩ y).setCell ⟨g, 2, none⟩ z).cell? ⟨b, 2, none⟩ = some a2 ∧ (((w.setCell ⟨g, 0, none⟩ x).setCell ⟨g, 1, none⟩ y).setCell ⟨g, 2, none⟩ z).cell? ⟨b, 3, none⟩ = some a3 := by
  have h' : g ≠ b := fun e => h e.symm
  obtain ⟨c0, c1, c2, c3⟩ := hc
  refine ⟨?_, ?_, ?_, ?_⟩ <;> (repeat rw [World.cell?_setCell_far _ _ _ _ (by exact h')]) <;> assumption

/-- a disk that is handed on or made anew: where its list lies. -/
def RetV (w : World) (A0 : Option Addr) (n0 : Nat) (d : Dk) (vs : List Value) (e : Ending) (w' : World) : Prop :=
  ∃ A n c, e = .returned (.tuple (dkv A n c d.room d.fuse d.off :: vs).toArray) ∧ Dsk w' A n c d.fs ∧ (A = A0 ∧ n = n0 ∨ ∀ ad, A = some ad → w.heap.size ≤ ad.block) ∧ Q w w'
theorem Sb.endV {w wr w2 : World} {A1 A A0 : Option Addr} {n1 c1 n c n0 c0 : Nat} {room1 fuse1 : Int} {off1 : Bool} {l0 : List Fil} {d : Dk} (h : Sb w A1 n1 c1 room1 fuse1 off1 wr) (q : Q wr w2) (h0 : Dsk w A0 n0 c0 l0) (hd : Dsk w2 A n c d.fs) (hf : A = A0 ∧ n = n0 ∨ ∀ ad, A = some ad → wr.heap.size ≤ ad.block) (vs : List Value) (x y z u : Value) :
    RetV w A0 n0 d vs (.returned (.tuple (dkv A n c d.room d.fuse d.off :: vs).toArray)) ((((w2.setCell ⟨w.heap.size + 1, 0, none⟩ x).setCell ⟨w.heap.size + 1, 1, none⟩ y).setCell ⟨w.heap.size + 1, 2, none⟩ z).setCell ⟨w.heap.size + 1, 3, none⟩ u) := by
  have hlt := h.res.lt
  have hsz := h.q.size
  have haw : 0 < n → ∀ ad, A = some ad → ad.block ≠ w.heap.size + 1 := by
    intro hn ad e
    rcases hf with ⟨rfl, rfl⟩ | hf
    · have := h0.files.blk hn ad e; omega
    · have := hf ad e; omega
  exact ⟨A, n, c, rfl, (((hd.away1 haw 0 _).away1 haw 1 _).away1 haw 2 _).away1 haw 3 _, hf.imp id (fun hf ad e => Nat.le_trans hsz (hf ad e)), (h.q.trans q).set4 (b := w.heap.size + 1) (by omega) _ _ _ _⟩

set_option maxHeartbeats 4000000 in
theorem refWSync_any (seg : Int) (A : Option Addr) (n c : Nat) (d : Dk) (w : World) (hT : Tab w) (hd : Dsk w A n c d.fs) (hs : ∀ f ∈ d.fs, f.sf.size + f.wt.size ≤ maxLen) (h0 : -9223372036854775808 ≤ seg) (h1 : seg ≤ 9223372036854775807) :
    Calls Tryd.prog 9 #[dkv A n c d.room d.fuse d.off, .int .i64 seg] w fun e w' => RetV w A n (syncM d seg).1 [.int .i64 (syncM d seg).2] e w' := by
  obtain ⟨l, room, fuse, off⟩ := d
  have HT := Lib.hid hT
  have HD := Lib.hid hd
  have HN := Lib.hid hd.max
  have HS := Lib.hid hs
  have H0 := Lib.hid (And.intro h0 h1)
  clear hT hd hs h0 h1
  have KS := Lib.hid (fun w hd => ref_sync_any (namB seg) A n c ⟨l, room, fuse, off⟩ w hd HS.out)
  have KH := Lib.hid (fun w hf hn => ref_find (namB seg) A n c room fuse off l w hf hn)
  have KN := Lib.hid (fun w (_ : Tab w) => refName_any seg w H0.out.1 H0.out.2)
  unfold syncM
  generalize syn ⟨l, room, fuse, off⟩ (namB seg) = r at KS ⊢
  generalize hit (namB seg) l = b at KH ⊢
  obtain ⟨f, b⟩ := b
  have hfv : f.val = .agg #[.string f.nm, .string f.sf, .string f.wt] := rfl
  rw [hfv] at KH
  clear hfv
  obtain ⟨res, hres⟩ : ∃ res : Dk × Int, res = if (f, b).2 = true then r else (⟨l, room, fuse, off⟩, 0) := ⟨_, rfl⟩
  rw [← hres]
  have HR := Lib.hid hres
  clear hres
  dsimp only at KS
  go_enter Tryd.func9, Tryd.ntmps9
  go_upto_region 1 with (fail)
  have X := Lib.hid (Sb.new w A n c room fuse off)
  generalize ((w.alloc (.cells #[.slice A n c, .int .i64 room, .int .i64 fuse, .bool off] 24)).alloc (.cells #[.slice none 0 0, .int .i64 0, .int .i64 0, .bool false] 24)) = W at X ⊢
  obtain ⟨⟨e0, e1, e2, e3⟩, f0, f1, f2', f3⟩ := X.out.get
  go_cut [7] (fun s7 wx => s7 = .bool b ∧ Q W wx)
  case first =>
    refine wp_region_held_drew (S := fun w' => w'.cell? ⟨w.heap.size, 0, none⟩ = some (.slice A n c) ∧ w'.cell? ⟨w.heap.size, 1, none⟩ = some (.int .i64 room) ∧ w'.cell? ⟨w.heap.size, 2, none⟩ = some (.int .i64 fuse) ∧ w'.cell? ⟨w.heap.size, 3, none⟩ = some (.bool off)) (by kernel_rfl) ?_ (fun hHeld => ?_)
    · exact ⟨e0, e1, e2, e3⟩
    refine wpAnyH_take (i := 0) (oi := ?ozz97) (v := ?vzz97) ?hzz97 ?azz97 ?bzz97 ?czz97 ?qzz97 ?yzz97 ?szz97 ?rzz97
    case hzz97 => simp only [List.getElem?_toArray, List.getElem?_cons_zero]; rfl
    case azz97 => kernel_rfl
    case bzz97 => kernel_rfl
    case czz97 => kernel_rfl
    case yzz97 =>
      refine Or.inl ⟨by rfl, ?_⟩
      intro w hSw
      obtain ⟨s0, s1, s2, s3⟩ := hSw
      go_simp
      try with_reducible rfl
    case qzz97 => exact fun _ _ _ h => h
    case szz97 => first | assumption | trivial
    case' rzz97 => simp only [Act.put, List.setIfInBounds_toArray, List.set_cons_zero, List.set_cons_succ]
    refine wpAnyH_take (i := 1) (oi := ?ozz98) (v := ?vzz98) ?hzz98 ?azz98 ?bzz98 ?czz98 ?qzz98 ?yzz98 ?szz98 ?rzz98
    case hzz98 => simp only [List.getElem?_toArray, List.getElem?_cons_zero, List.getElem?_cons_succ]; rfl
    case azz98 => kernel_rfl
    case bzz98 => kernel_rfl
    case czz98 => kernel_rfl
    case yzz98 =>
      refine Or.inl ⟨by rfl, ?_⟩
      intro w hSw
      skip
      go_simp
      try with_reducible rfl
    case qzz98 => exact fun _ _ _ h => h
    case szz98 => first | assumption | trivial
    case' rzz98 => simp only [Act.put, List.setIfInBounds_toArray, List.set_cons_zero, List.set_cons_succ]
    refine wpAnyH_ready (rs := [2, 7]) (by kernel_rfl) (by simp) ?_
    refine AllReadyH.cons (o := ?ozz120) ?hzz120 (fun K hK => ?kzz120) ?mzz120
    case hzz120 => simp only [List.getElem?_toArray, List.getElem?_cons_zero, List.getElem?_cons_succ]; rfl
    case kzz120 =>
      go_simp
      refine (KN.out _ (HT.out.q (X.out.q.trans (Q.refl W).drew))).mono ?_
      rintro e v2 ⟨rfl, qv2⟩
      go_wp2_with fail
      refine hK.out _ _ ?Szz120 (fun hHeld => ?Rzz120)
      case Szz120 =>
        exact ⟨box_ qv2 hHeld.1, box_ qv2 hHeld.2.1, box_ qv2 hHeld.2.2.1, box_ qv2 hHeld.2.2.2⟩
      case Rzz120 =>
        clear hK K
        try simp only [Act.put, List.setIfInBounds_toArray, List.set_cons_zero, List.set_cons_succ]
        refine wpAnyH_ready (rs := [3, 7]) (by kernel_rfl) (by simp) ?_
        refine AllReadyH.cons (o := ?ozz111) ?hzz111 (fun K hK => ?kzz111) ?mzz111
        case hzz111 => simp only [List.getElem?_toArray, List.getElem?_cons_zero, List.getElem?_cons_succ]; rfl
        case kzz111 =>
          go_simp
          refine (KH.out _ (HD.out.files.q (X.out.q.trans ((Q.refl W).drew.trans qv2))) HN.out).mono ?_
          rintro e v3 ⟨rfl, qv3⟩
          go_wp2_with fail
          refine hK.out _ _ ?Szz111 (fun hHeld => ?Rzz111)
          case Szz111 =>
            exact ⟨box_ qv3 hHeld.1, box_ qv3 hHeld.2.1, box_ qv3 hHeld.2.2.1, box_ qv3 hHeld.2.2.2⟩
          case Rzz111 =>
            clear hK K
            try simp only [Act.put, List.setIfInBounds_toArray, List.set_cons_zero, List.set_cons_succ]
            have hC := hHeld
            refine wpAnyH_take (i := 4) (oi := ?ozz99) (v := ?vzz99) ?hzz99 ?azz99 ?bzz99 ?czz99 ?qzz99 ?yzz99 ?szz99 ?rzz99
            case hzz99 => simp only [List.getElem?_toArray, List.getElem?_cons_zero, List.getElem?_cons_succ]; rfl
            case azz99 => kernel_rfl
            case bzz99 => kernel_rfl
            case czz99 => kernel_rfl
            case yzz99 =>
              refine Or.inl ⟨by rfl, ?_⟩
              intro w hSw
              skip
              go_simp
              try with_reducible rfl
            case qzz99 => exact fun _ _ _ h => h
            case szz99 => first | assumption | trivial
            case' rzz99 => simp only [Act.put, List.setIfInBounds_toArray, List.set_cons_zero, List.set_cons_succ]
            refine wpAnyH_take (i := 5) (oi := ?ozz100) (v := ?vzz100) ?hzz100 ?azz100 ?bzz100 ?czz100 ?qzz100 ?yzz100 ?szz100 ?rzz100
            case hzz100 => simp only [List.getElem?_toArray, List.getElem?_cons_zero, List.getElem?_cons_succ]; rfl
            case azz100 => kernel_rfl
            case bzz100 => kernel_rfl
            case czz100 => kernel_rfl
            case yzz100 =>
              refine Or.inl ⟨by rfl, ?_⟩
              intro w hSw
              skip
              go_simp
              try with_reducible rfl
            case qzz100 => exact fun _ _ _ h => h
            case szz100 => first | assumption | trivial
            case' rzz100 => simp only [Act.put, List.setIfInBounds_toArray, List.set_cons_zero, List.set_cons_succ]
            refine wpAnyH_take (i := 6) (oi := ?ozz101) (v := ?vzz101) ?hzz101 ?azz101 ?bzz101 ?czz101 ?qzz101 ?yzz101 ?szz101 ?rzz101
            case hzz101 => simp only [List.getElem?_toArray, List.getElem?_cons_zero, List.getElem?_cons_succ]; rfl
            case azz101 => kernel_rfl
            case bzz101 => kernel_rfl
            case czz101 => kernel_rfl
            case yzz101 =>
              refine Or.inl ⟨by rfl, ?_⟩
              intro w hSw
              skip
              go_simp
              try with_reducible rfl
            case qzz101 => exact fun _ _ _ h => h
            case szz101 => first | assumption | trivial
            case' rzz101 => simp only [Act.put, List.setIfInBounds_toArray, List.set_cons_zero, List.set_cons_succ]
            refine wpAnyH_ready (rs := [7]) (by kernel_rfl) (by simp) ?_
            refine AllReadyH.cons (o := ?ozz104) ?hzz104 (fun K hK => ?kzz104) ?mzz104
            case hzz104 => simp only [List.getElem?_toArray, List.getElem?_cons_zero, List.getElem?_cons_succ]; rfl
            case kzz104 =>
              go_simp
              refine hK.out _ _ ?Szz104 (fun hHeld => ?Rzz104)
              case Szz104 =>
                exact ⟨box_ ((Q.refl _).alloc _) hC.1, box_ ((Q.refl _).alloc _) hC.2.1, box_ ((Q.refl _).alloc _) hC.2.2.1, box_ ((Q.refl _).alloc _) hC.2.2.2⟩
              case Rzz104 =>
                clear hK K
                try simp only [Act.put, List.setIfInBounds_toArray, List.set_cons_zero, List.set_cons_succ]
                refine wpAnyH_ready (rs := [8]) (by kernel_rfl) (by simp) ?_
                refine AllReadyH.cons (o := ?ozz103) ?hzz103 (fun K hK => ?kzz103) ?mzz103
                case hzz103 => simp only [List.getElem?_toArray, List.getElem?_cons_zero, List.getElem?_cons_succ]; rfl
                case kzz103 =>
                  go_simp
                  refine hK.out _ _ ?Szz103 (fun hHeld => ?Rzz103)
                  case Szz103 =>
                    exact ⟨box_ ((Q.refl _).alloc _) hC.1, box_ ((Q.refl _).alloc _) hC.2.1, box_ ((Q.refl _).alloc _) hC.2.2.1, box_ ((Q.refl _).alloc _) hC.2.2.2⟩
                  case Rzz103 =>
                    clear hK K
                    try simp only [Act.put, List.setIfInBounds_toArray, List.set_cons_zero, List.set_cons_succ]
                    refine wpAnyH_take (i := 9) (oi := ?ozz102) (v := ?vzz102) ?hzz102 ?azz102 ?bzz102 ?czz102 ?qzz102 ?yzz102 ?szz102 ?rzz102
                    case hzz102 => simp only [List.getElem?_toArray, List.getElem?_cons_zero, List.getElem?_cons_succ]; rfl
                    case azz102 => kernel_rfl
                    case bzz102 => kernel_rfl
                    case czz102 => kernel_rfl
                    case yzz102 =>
                      refine Or.inl ⟨by rfl, ?_⟩
                      intro w hSw
                      skip
                      go_simp
                      try with_reducible rfl
                    case qzz102 => exact fun _ _ _ h => h
                    case szz102 => first | assumption | trivial
                    case' rzz102 => simp only [Act.put, List.setIfInBounds_toArray, List.set_cons_zero, List.set_cons_succ]
                    refine wpAnyH_done (by kernel_rfl) ?_ _
                    go_wp2_with fail
                    go_meet
                    exact ⟨rfl, (((Q.refl W).drew.trans qv2).trans qv3).alloc _⟩
                case' mzz103 => skip
                exact AllReadyH.nil
            case' mzz104 => skip
            exact AllReadyH.nil
        case' mzz111 => skip
        refine AllReadyH.cons (o := ?ozz112) ?hzz112 (fun K hK => ?kzz112) ?mzz112
        case hzz112 => simp only [List.getElem?_toArray, List.getElem?_cons_zero, List.getElem?_cons_succ]; rfl
        case kzz112 =>
          go_simp
          refine hK.out _ _ ?Szz112 (fun hHeld => ?Rzz112)
          case Szz112 =>
            exact ⟨box_ ((Q.refl _).alloc _) hHeld.1, box_ ((Q.refl _).alloc _) hHeld.2.1, box_ ((Q.refl _).alloc _) hHeld.2.2.1, box_ ((Q.refl _).alloc _) hHeld.2.2.2⟩
          case Rzz112 =>
            clear hK K
            try simp only [Act.put, List.setIfInBounds_toArray, List.set_cons_zero, List.set_cons_succ]
            refine wpAnyH_ready (rs := [3]) (by kernel_rfl) (by simp) ?_
            refine AllReadyH.cons (o := ?ozz110) ?hzz110 (fun K hK => ?kzz110) ?mzz110
            case hzz110 => simp only [List.getElem?_toArray, List.getElem?_cons_zero, List.getElem?_cons_succ]; rfl
            case kzz110 =>
              go_simp
              refine (KH.out _ (HD.out.files.q (X.out.q.trans (((Q.refl W).drew.trans qv2).alloc _))) HN.out).mono ?_
              rintro e v3 ⟨rfl, qv3⟩
              have BX := (Bx.new v2 [.string ⟨#[]⟩, .string ⟨#[]⟩, .string ⟨#[]⟩] 65).q qv3
              obtain ⟨⟨b0, b1, b2⟩, y0, y1, y2⟩ := BX.get3
              go_wp2_with fail
              refine hK.out _ _ ?Szz110 (fun hHeld => ?Rzz110)
              case Szz110 =>
                exact ⟨box_ qv3 hHeld.1, box_ qv3 hHeld.2.1, box_ qv3 hHeld.2.2.1, box_ qv3 hHeld.2.2.2⟩
              case Rzz110 =>
                clear hK K
                try simp only [Act.put, List.setIfInBounds_toArray, List.set_cons_zero, List.set_cons_succ]
                refine wpAnyH_take (i := 4) (oi := ?ozz105) (v := ?vzz105) ?hzz105 ?azz105 ?bzz105 ?czz105 ?qzz105 ?yzz105 ?szz105 ?rzz105
                case hzz105 => simp only [List.getElem?_toArray, List.getElem?_cons_zero, List.getElem?_cons_succ]; rfl
                case azz105 => kernel_rfl
                case bzz105 => kernel_rfl
                case czz105 => kernel_rfl
                case yzz105 =>
                  refine Or.inl ⟨by rfl, ?_⟩
                  intro w hSw
                  skip
                  go_simp
                  try with_reducible rfl
                case qzz105 => exact fun _ _ _ h => h
                case szz105 => first | assumption | trivial
                case' rzz105 => simp only [Act.put, List.setIfInBounds_toArray, List.set_cons_zero, List.set_cons_succ]
                refine wpAnyH_take (i := 5) (oi := ?ozz106) (v := ?vzz106) ?hzz106 ?azz106 ?bzz106 ?czz106 ?qzz106 ?yzz106 ?szz106 ?rzz106
                case hzz106 => simp only [List.getElem?_toArray, List.getElem?_cons_zero, List.getElem?_cons_succ]; rfl
                case azz106 => kernel_rfl
                case bzz106 => kernel_rfl
                case czz106 => kernel_rfl
                case yzz106 =>
                  refine Or.inl ⟨by rfl, ?_⟩
                  intro w hSw
                  skip
                  go_simp
                  try with_reducible rfl
                case qzz106 => exact fun _ _ _ h => h
                case szz106 => first | assumption | trivial
                case' rzz106 => simp only [Act.put, List.setIfInBounds_toArray, List.set_cons_zero, List.set_cons_succ]
                refine wpAnyH_take (i := 6) (oi := ?ozz107) (v := ?vzz107) ?hzz107 ?azz107 ?bzz107 ?czz107 ?qzz107 ?yzz107 ?szz107 ?rzz107
                case hzz107 => simp only [List.getElem?_toArray, List.getElem?_cons_zero, List.getElem?_cons_succ]; rfl
                case azz107 => kernel_rfl
                case bzz107 => kernel_rfl
                case czz107 => kernel_rfl
                case yzz107 =>
                  refine Or.inl ⟨by rfl, ?_⟩
                  intro w hSw
                  skip
                  go_simp
                  try with_reducible rfl
                case qzz107 => exact fun _ _ _ h => h
                case szz107 => first | assumption | trivial
                case' rzz107 => simp only [Act.put, List.setIfInBounds_toArray, List.set_cons_zero, List.set_cons_succ]
                have z2 : w.heap.size ≠ v2.heap.size := by have h1 := (X.out.q.trans ((Q.refl W).drew.trans qv2)).size; have h2 := X.out.box.lt; have h3 := qv2.size; have h4 : W.drew.heap.size = W.heap.size := rfl; omega
                refine wpAnyH_ready (rs := [8]) (by kernel_rfl) (by simp) ?_
                refine AllReadyH.cons (o := ?ozz109) ?hzz109 (fun K hK => ?kzz109) ?mzz109
                case hzz109 => simp only [List.getElem?_toArray, List.getElem?_cons_zero, List.getElem?_cons_succ]; rfl
                case kzz109 =>
                  go_simp
                  refine hK.out _ _ ?Szz109 (fun hHeld => ?Rzz109)
                  case Szz109 =>
                    exact far3_ (fun e => z2 e) hHeld
                  case Rzz109 =>
                    clear hK K
                    try simp only [Act.put, List.setIfInBounds_toArray, List.set_cons_zero, List.set_cons_succ]
                    refine wpAnyH_take (i := 9) (oi := ?ozz108) (v := ?vzz108) ?hzz108 ?azz108 ?bzz108 ?czz108 ?qzz108 ?yzz108 ?szz108 ?rzz108
                    case hzz108 => simp only [List.getElem?_toArray, List.getElem?_cons_zero, List.getElem?_cons_succ]; rfl
                    case azz108 => kernel_rfl
                    case bzz108 => kernel_rfl
                    case czz108 => kernel_rfl
                    case yzz108 =>
                      refine Or.inl ⟨by rfl, ?_⟩
                      intro w hSw
                      skip
                      go_simp
                      try with_reducible rfl
                    case qzz108 => exact fun _ _ _ h => h
                    case szz108 => first | assumption | trivial
                    case' rzz108 => simp only [Act.put, List.setIfInBounds_toArray, List.set_cons_zero, List.set_cons_succ]
                    refine wpAnyH_done (by kernel_rfl) ?_ _
                    go_wp2_with fail
                    go_meet
                    exact ⟨rfl, ((((Q.refl W).drew.trans qv2).alloc _).trans qv3).set3 (by have h1 := ((Q.refl W).drew.trans qv2).size; exact h1) _ _ _⟩
                case' mzz109 => skip
                exact AllReadyH.nil
            case' mzz110 => skip
            exact AllReadyH.nil
        case' mzz112 => skip
        exact AllReadyH.nil
    case' mzz120 => skip
    refine AllReadyH.cons (o := ?ozz121) ?hzz121 (fun K hK => ?kzz121) ?mzz121
    case hzz121 => simp only [List.getElem?_toArray, List.getElem?_cons_zero, List.getElem?_cons_succ]; rfl
    case kzz121 =>
      go_simp
      refine hK.out _ _ ?Szz121 (fun hHeld => ?Rzz121)
      case Szz121 =>
        exact ⟨box_ ((Q.refl _).alloc _) hHeld.1, box_ ((Q.refl _).alloc _) hHeld.2.1, box_ ((Q.refl _).alloc _) hHeld.2.2.1, box_ ((Q.refl _).alloc _) hHeld.2.2.2⟩
      case Rzz121 =>
        clear hK K
        try simp only [Act.put, List.setIfInBounds_toArray, List.set_cons_zero, List.set_cons_succ]
        refine wpAnyH_ready (rs := [2]) (by kernel_rfl) (by simp) ?_
        refine AllReadyH.cons (o := ?ozz119) ?hzz119 (fun K hK => ?kzz119) ?mzz119
        case hzz119 => simp only [List.getElem?_toArray, List.getElem?_cons_zero, List.getElem?_cons_succ]; rfl
        case kzz119 =>
          go_simp
          refine (KN.out _ (HT.out.q (X.out.q.trans ((Q.refl W).drew.alloc _)))).mono ?_
          rintro e v2 ⟨rfl, qv2⟩
          go_wp2_with fail
          refine hK.out _ _ ?Szz119 (fun hHeld => ?Rzz119)
          case Szz119 =>
            exact ⟨box_ qv2 hHeld.1, box_ qv2 hHeld.2.1, box_ qv2 hHeld.2.2.1, box_ qv2 hHeld.2.2.2⟩
          case Rzz119 =>
            clear hK K
            try simp only [Act.put, List.setIfInBounds_toArray, List.set_cons_zero, List.set_cons_succ]
            refine wpAnyH_ready (rs := [3]) (by kernel_rfl) (by simp) ?_
            refine AllReadyH.cons (o := ?ozz118) ?hzz118 (fun K hK => ?kzz118) ?mzz118
            case hzz118 => simp only [List.getElem?_toArray, List.getElem?_cons_zero, List.getElem?_cons_succ]; rfl
            case kzz118 =>
              go_simp
              refine (KH.out _ (HD.out.files.q (X.out.q.trans (((Q.refl W).drew.alloc _).trans qv2))) HN.out).mono ?_
              rintro e v3 ⟨rfl, qv3⟩
              have BX : Bx v3 W.heap.size [.string ⟨#[]⟩, .string ⟨#[]⟩, .string ⟨#[]⟩] := ((Bx.new W.drew [.string ⟨#[]⟩, .string ⟨#[]⟩, .string ⟨#[]⟩] 65).q qv2).q qv3
              obtain ⟨⟨b0, b1, b2⟩, y0, y1, y2⟩ := BX.get3
              go_wp2_with fail
              refine hK.out _ _ ?Szz118 (fun hHeld => ?Rzz118)
              case Szz118 =>
                exact ⟨box_ qv3 hHeld.1, box_ qv3 hHeld.2.1, box_ qv3 hHeld.2.2.1, box_ qv3 hHeld.2.2.2⟩
              case Rzz118 =>
                clear hK K
                try simp only [Act.put, List.setIfInBounds_toArray, List.set_cons_zero, List.set_cons_succ]
                refine wpAnyH_take (i := 4) (oi := ?ozz113) (v := ?vzz113) ?hzz113 ?azz113 ?bzz113 ?czz113 ?qzz113 ?yzz113 ?szz113 ?rzz113
                case hzz113 => simp only [List.getElem?_toArray, List.getElem?_cons_zero, List.getElem?_cons_succ]; rfl
                case azz113 => kernel_rfl
                case bzz113 => kernel_rfl
                case czz113 => kernel_rfl
                case yzz113 =>
                  refine Or.inl ⟨by rfl, ?_⟩
                  intro w hSw
                  skip
                  go_simp
                  try with_reducible rfl
                case qzz113 => exact fun _ _ _ h => h
                case szz113 => first | assumption | trivial
                case' rzz113 => simp only [Act.put, List.setIfInBounds_toArray, List.set_cons_zero, List.set_cons_succ]
                refine wpAnyH_take (i := 5) (oi := ?ozz114) (v := ?vzz114) ?hzz114 ?azz114 ?bzz114 ?czz114 ?qzz114 ?yzz114 ?szz114 ?rzz114
                case hzz114 => simp only [List.getElem?_toArray, List.getElem?_cons_zero, List.getElem?_cons_succ]; rfl
                case azz114 => kernel_rfl
                case bzz114 => kernel_rfl
                case czz114 => kernel_rfl
                case yzz114 =>
                  refine Or.inl ⟨by rfl, ?_⟩
                  intro w hSw
                  skip
                  go_simp
                  try with_reducible rfl
                case qzz114 => exact fun _ _ _ h => h
                case szz114 => first | assumption | trivial
                case' rzz114 => simp only [Act.put, List.setIfInBounds_toArray, List.set_cons_zero, List.set_cons_succ]
                refine wpAnyH_take (i := 6) (oi := ?ozz115) (v := ?vzz115) ?hzz115 ?azz115 ?bzz115 ?czz115 ?qzz115 ?yzz115 ?szz115 ?rzz115
                case hzz115 => simp only [List.getElem?_toArray, List.getElem?_cons_zero, List.getElem?_cons_succ]; rfl
                case azz115 => kernel_rfl
                case bzz115 => kernel_rfl
                case czz115 => kernel_rfl
                case yzz115 =>
                  refine Or.inl ⟨by rfl, ?_⟩
                  intro w hSw
                  skip
                  go_simp
                  try with_reducible rfl
                case qzz115 => exact fun _ _ _ h => h
                case szz115 => first | assumption | trivial
                case' rzz115 => simp only [Act.put, List.setIfInBounds_toArray, List.set_cons_zero, List.set_cons_succ]
                have z2 : w.heap.size ≠ W.heap.size := by have h2 := X.out.box.lt; have h4 : W.drew.heap.size = W.heap.size := rfl; omega
                refine wpAnyH_ready (rs := [8]) (by kernel_rfl) (by simp) ?_
                refine AllReadyH.cons (o := ?ozz117) ?hzz117 (fun K hK => ?kzz117) ?mzz117
                case hzz117 => simp only [List.getElem?_toArray, List.getElem?_cons_zero, List.getElem?_cons_succ]; rfl
                case kzz117 =>
                  go_simp
                  refine hK.out _ _ ?Szz117 (fun hHeld => ?Rzz117)
                  case Szz117 =>
                    exact far3_ (fun e => z2 e) hHeld
                  case Rzz117 =>
                    clear hK K
                    try simp only [Act.put, List.setIfInBounds_toArray, List.set_cons_zero, List.set_cons_succ]
                    refine wpAnyH_take (i := 9) (oi := ?ozz116) (v := ?vzz116) ?hzz116 ?azz116 ?bzz116 ?czz116 ?qzz116 ?yzz116 ?szz116 ?rzz116
                    case hzz116 => simp only [List.getElem?_toArray, List.getElem?_cons_zero, List.getElem?_cons_succ]; rfl
                    case azz116 => kernel_rfl
                    case bzz116 => kernel_rfl
                    case czz116 => kernel_rfl
                    case yzz116 =>
                      refine Or.inl ⟨by rfl, ?_⟩
                      intro w hSw
                      skip
                      go_simp
                      try with_reducible rfl
                    case qzz116 => exact fun _ _ _ h => h
                    case szz116 => first | assumption | trivial
                    case' rzz116 => simp only [Act.put, List.setIfInBounds_toArray, List.set_cons_zero, List.set_cons_succ]
                    refine wpAnyH_done (by kernel_rfl) ?_ _
                    go_wp2_with fail
                    go_meet
                    exact ⟨rfl, ((((Q.refl W).drew.alloc _).trans qv2).trans qv3).set3 (by have h1 := (Q.refl W).drew.size; exact h1) _ _ _⟩
                case' mzz117 => skip
                exact AllReadyH.nil
            case' mzz118 => skip
            exact AllReadyH.nil
        case' mzz119 => skip
        exact AllReadyH.nil
    case' mzz121 => skip
    exact AllReadyH.nil
  case rest =>
    obtain ⟨rfl, qc⟩ := hcut
    have Y := Lib.hid (X.out.step qc)
    clear X qc KH e0 e1 e2 e3 f0 f1 f2' f3
    obtain ⟨⟨e0, e1, e2, e3⟩, f0, f1, f2', f3⟩ := Y.out.get
    cases b with
    | false =>
      have hr : res = (⟨l, room, fuse, off⟩, 0) := by rw [HR.out]; rfl
      have HRR := Lib.hid hr
      obtain ⟨⟨s0, s1, s2, s3⟩, h0, h1, h2, h3⟩ := Y.out.getR
      clear hr KS
      go_wp2
      refine bodyPost_ret (v := .tuple #[dkv A n c room fuse off, .int .i64 0]) (by simp [results, Tryd.results9, go_sem, s0, s1, s2, s3]) rfl ?_
      rw [HRR.out]
      exact Y.out.endV (Q.refl _) HD.out (d := ⟨l, room, fuse, off⟩) (HD.out.q Y.out.q) (.inl ⟨rfl, rfl⟩) [.int .i64 0] _ _ _ _
    | true =>
      have hr : res = r := by rw [HR.out]; rfl
      have HRR := Lib.hid hr
      clear hr
      go_upto_region 4 with (fail)
      go_region_held3 (fun w' => w'.cell? ⟨w.heap.size, 0, none⟩ = some (.slice A n c) ∧ w'.cell? ⟨w.heap.size, 1, none⟩ = some (.int .i64 room) ∧ w'.cell? ⟨w.heap.size, 2, none⟩ = some (.int .i64 fuse) ∧ w'.cell? ⟨w.heap.size, 3, none⟩ = some (.bool off))
        (first
          | go_keep
          | (go_split_ands
             (repeat' apply And.intro) <;> exact box_ ‹Q _ _› (by assumption)))
        (first
          | (go_at_call 25
             (with_reducible refine (KN.out _ (HT.out.q (Y.out.q.trans (Q.refl _).drew))).mono ?_)
             rintro e w4 ⟨rfl, q4⟩)
          | (go_at_call 26
             (with_reducible refine (KS.out _ (HD.out.q (Y.out.q.trans ((Q.refl _).drew.trans q4)))).mono ?_)
             rintro e w5 ⟨A5, n5, c5, rfl, ho, hf, q5⟩
             obtain ⟨⟨s0, s1, s2, s3⟩, h0, h1, h2, h3⟩ := ((Y.out.step ((Q.refl _).drew.trans q4)).step q5).getR))
      have Z := Lib.hid (And.intro ho (And.intro hf q5))
      have Y4 := Lib.hid (Y.out.step ((Q.refl _).drew.trans q4))
      clear ho hf q4 q5 e0 e1 e2 e3 f0 f1 f2' f3 Y KS
      go_wp2
      refine bodyPost_ret (v := .tuple #[dkv A5 n5 c5 r.1.room r.1.fuse r.1.off, .int .i64 r.2]) (by simp [results, Tryd.results9, go_sem, s0, s1, s2, s3]) rfl ?_
      rw [HRR.out]
      exact Y4.out.endV Z.out.2.2 HD.out (d := r.1) Z.out.1 Z.out.2.1 [.int .i64 r.2] _ _ _ _

theorem far4_ {w : World} {b g : Nat} {x y z u a0 a1 a2 a3 : Value} (h : b ≠ g) (hc : w.cell? ⟨b, 0, none⟩ = some a0 ∧ w.cell? ⟨b, 1, none⟩ = some a1 ∧ w.cell? ⟨b, 2, none⟩ = some a2 ∧ w.cell? ⟨b, 3, none⟩ = some a3) :
    ((((w.setCell ⟨g, 0, none⟩ x).setCell ⟨g, 1, none⟩ y).setCell ⟨g, 2, none⟩ z).setCell ⟨g, 3, none⟩ u).cell? ⟨b, 0, none⟩ = some a0 ∧ ((((w.setCell ⟨g, 0, none⟩ x).setCell ⟨g, 1, none⟩ y).setCell ⟨g, 2, none⟩ z).setCell ⟨g, 3, none⟩ u).cell? ⟨b, 1, none⟩ = some a1 ∧
    ((((w.setCell ⟨g, 0, none⟩ x).setCell ⟨g, 1, none⟩ y).setCell ⟨g, 2, none⟩ z).setCell ⟨g, 3, none⟩ u).cell? ⟨b, 2, none⟩ = some a2 ∧ ((((w.setCell ⟨g, 0, none⟩ x).setCell ⟨g, 1, none⟩ y).setCell ⟨g, 2, none⟩ z).setCell ⟨g, 3, none⟩ u).cell? ⟨b, 3, none⟩ = some a3 := by
  have h' : g ≠ b := fun e => h e.symm
  obtain ⟨c0, c1, c2, c3⟩ := hc
  refine ⟨?_, ?_, ?_, ?_⟩ <;> (repeat rw [World.cell?_setCell_far _ _ _ _ (by exact h')]) <;> assumption
/-- behind 'next, bad := F(d, ..)'. -/
def Cu4 (W : World) (A0 : Option Addr) (n0 : Nat) (d : Dk) (er : Int) (s11 s12 : Value) (wx : World) : Prop :=
  ∃ g A n c, s11 = .pointer (some ⟨g, 0, none⟩) ∧ s12 = .int .i64 er ∧ W.heap.size ≤ g ∧ DV wx g A n c d ∧ (A = A0 ∧ n = n0 ∨ ∀ ad, A = some ad → W.heap.size ≤ ad.block) ∧ Q W wx
theorem leaf4c {W pre v : World} {A0 A : Option Addr} {n0 n c : Nat} {d : Dk} {er : Int} (hq : Q W pre) (qv : Q pre v) (hd : Dsk v A n c d.fs) (hf : A = A0 ∧ n = n0 ∨ ∀ ad, A = some ad → pre.heap.size ≤ ad.block) :
    Cu4 W A0 n0 d er (.pointer (some ⟨v.heap.size, 0, none⟩)) (.int .i64 er) (v.alloc (.cells #[.slice A n c, .int .i64 d.room, .int .i64 d.fuse, .bool d.off] 24)) :=
  ⟨_, A, n, c, rfl, rfl, (hq.trans qv).size, DV.new hd, hf.imp id (fun hf ad e => Nat.le_trans hq.size (hf ad e)), (hq.trans qv).alloc _⟩
theorem leaf4b {W pre v : World} {b : Nat} {A0 A : Option Addr} {n0 c0 n c : Nat} {l0 : List Fil} {d : Dk} {er : Int} {x y z u : Value} (hb : Bx pre b [x, y, z, u]) (hbw : W.heap.size ≤ b) (h0 : Dsk W A0 n0 c0 l0) (hq : Q W pre) (qv : Q pre v) (hd : Dsk v A n c d.fs) (hf : A = A0 ∧ n = n0 ∨ ∀ ad, A = some ad → pre.heap.size ≤ ad.block) :
    Cu4 W A0 n0 d er (.pointer (some ⟨b, 0, none⟩)) (.int .i64 er) ((((v.setCell ⟨b, 0, none⟩ (.slice A n c)).setCell ⟨b, 1, none⟩ (.int .i64 d.room)).setCell ⟨b, 2, none⟩ (.int .i64 d.fuse)).setCell ⟨b, 3, none⟩ (.bool d.off)) := by
  have hlt := hb.lt
  have haw : 0 < n → ∀ ad, A = some ad → ad.block ≠ b := by
    intro hn ad e
    rcases hf with ⟨rfl, rfl⟩ | hf
    · have := h0.files.blk hn ad e; omega
    · have := hf ad e; omega
  exact ⟨b, A, n, c, rfl, rfl, hbw, ⟨(hb.q qv).put4 _ _ _ _, (((hd.away1 haw 0 _).away1 haw 1 _).away1 haw 2 _).away1 haw 3 _⟩, hf.imp id (fun hf ad e => Nat.le_trans hq.size (hf ad e)), (hq.trans qv).set4 hbw _ _ _ _⟩

set_option maxHeartbeats 4000000 in
theorem refPut_fit (seg : Int) (rec : ByteArray) (A : Option Addr) (n c : Nat) (d : Dk) (w : World) (hd : Dsk w A n c d.fs) (hB : Bnd 2305843009213693952 d) (h1 : segOk seg) (h2 : rec.size ≤ 2048) (h3 : (redd (namB seg) d.fs).1.size < 256) :
    Calls Tryd.prog 7 #[dkv A n c d.room d.fuse d.off, .int .i64 seg, .string rec] w fun e w' => RetV w A n (putA d seg rec).1 [.int .i64 seg, .int .i64 (putA d seg rec).2.2] e w' := by
  obtain ⟨l, room, fuse, off⟩ := d
  have HD := Lib.hid hd
  have HN := Lib.hid hd.max
  have HB := Lib.hid hB
  have hmx : ∀ f ∈ l, f.sf.size + f.wt.size ≤ maxLen := fun f hf => Nat.le_trans (hB.sum f hf) (by unfold maxLen; omega)
  have hsb : (sealB rec).size ≤ 2305843009213693952 := by rw [sealB_size]; have := sld_length rec.data.toList (by rw [size_list]; omega); rw [size_list] at this; omega
  have r0 := h1.1
  have r1 := h1.2
  have KA := Lib.hid (fun w hd => ref_append_any (namB seg) (sealB rec) A n c ⟨l, room, fuse, off⟩ w hd HB.out.sum hsb HB.out.room.2 HB.out.fuse.2)
  have KL := Lib.hid (fun w => refSeal_any rec w (by omega))
  change Hid (∀ w, Calls _ _ _ w fun e w' => e = .returned (.string (sealB rec)) ∧ Q w w') at KL
  have KR := Lib.hid (fun w hf => ref_read (namB seg) A n c room fuse off l w hf HN.out hmx)
  have KN := Lib.hid (fun w => refName_any seg w (by omega) (by omega))
  unfold putA
  generalize appd ⟨l, room, fuse, off⟩ (namB seg) (sealB rec) = r at KA ⊢
  have h3' : (redd (namB seg) l).1.size < 256 := h3
  generalize redd (namB seg) l = b at KR h3'
  obtain ⟨b, be⟩ := b
  have t3 : ¬ 256 ≤ b.size := by have : b.size < 256 := h3'; omega
  clear hd hB hmx h1 h3 h3' hsb
  generalize sealB rec = sr at KA KL
  dsimp only at KA KR
  go_enter Tryd.func7, Tryd.ntmps7
  go_upto_region 1 with (fail)
  have X := Lib.hid (Sb.new w A n c room fuse off)
  generalize ((w.alloc (.cells #[.slice A n c, .int .i64 room, .int .i64 fuse, .bool off] 24)).alloc (.cells #[.slice none 0 0, .int .i64 0, .int .i64 0, .bool false] 24)) = w1 at X ⊢
  go_upto_region 5 with (fail)
  obtain ⟨⟨e0, e1, e2, e3⟩, f0, f1, f2', f3⟩ := X.out.get
  go_region_held3 (fun w' => w'.cell? ⟨w.heap.size, 0, none⟩ = some (.slice A n c) ∧ w'.cell? ⟨w.heap.size, 1, none⟩ = some (.int .i64 room) ∧ w'.cell? ⟨w.heap.size, 2, none⟩ = some (.int .i64 fuse) ∧ w'.cell? ⟨w.heap.size, 3, none⟩ = some (.bool off))
    (first
      | go_keep
      | (go_split_ands
         (repeat' apply And.intro) <;> exact box_ ‹Q _ _› (by assumption)))
    (first
      | (go_at_call 25
         (with_reducible refine (KN.out _).mono ?_)
         rintro e w2 ⟨rfl, q2⟩)
      | (go_at_call 24
         (with_reducible refine (KR.out _ (HD.out.files.q (X.out.q.trans ((Q.refl w1).drew.trans q2)))).mono ?_)
         rintro e w3 ⟨rfl, q3⟩))
  have Y := Lib.hid (X.out.step (((Q.refl w1).drew.trans q2).trans q3))
  clear X q2 q3 e0 e1 e2 e3 f0 f1 f2' f3
  generalize w3 = W at Y ⊢
  have DW := Lib.hid (HD.out.q Y.out.q)
  obtain ⟨⟨e0, e1, e2, e3⟩, f0, f1, f2', f3⟩ := Y.out.get
  go_upto_region 14 with (fail)
  go_cut [13, 14] (fun s13 s14 wx => Cu4 W A n r.1 r.2 s13 s14 wx)
  case first =>
    refine wp_region_held_drew (S := fun w' => w'.cell? ⟨w.heap.size, 0, none⟩ = some (.slice A n c) ∧ w'.cell? ⟨w.heap.size, 1, none⟩ = some (.int .i64 room) ∧ w'.cell? ⟨w.heap.size, 2, none⟩ = some (.int .i64 fuse) ∧ w'.cell? ⟨w.heap.size, 3, none⟩ = some (.bool off)) (by kernel_rfl) ?_ (fun hHeld => ?_)
    · exact ⟨e0, e1, e2, e3⟩
    refine wpAnyH_take (i := 0) (oi := ?ozz0) (v := ?vzz0) ?hzz0 ?azz0 ?bzz0 ?czz0 ?qzz0 ?yzz0 ?szz0 ?rzz0
    case hzz0 => simp only [List.getElem?_toArray, List.getElem?_cons_zero]; rfl
    case azz0 => kernel_rfl
    case bzz0 => kernel_rfl
    case czz0 => kernel_rfl
    case yzz0 =>
      refine Or.inl ⟨by rfl, ?_⟩
      intro w hSw
      obtain ⟨s0, s1, s2, s3⟩ := hSw
      go_simp
      try with_reducible rfl
    case qzz0 => exact fun _ _ _ h => h
    case szz0 => first | assumption | trivial
    case' rzz0 => simp only [Act.put, List.setIfInBounds_toArray, List.set_cons_zero, List.set_cons_succ]
    refine wpAnyH_take (i := 1) (oi := ?ozz1) (v := ?vzz1) ?hzz1 ?azz1 ?bzz1 ?czz1 ?qzz1 ?yzz1 ?szz1 ?rzz1
    case hzz1 => simp only [List.getElem?_toArray, List.getElem?_cons_zero, List.getElem?_cons_succ]; rfl
    case azz1 => kernel_rfl
    case bzz1 => kernel_rfl
    case czz1 => kernel_rfl
    case yzz1 =>
      refine Or.inl ⟨by rfl, ?_⟩
      intro w hSw
      skip
      go_simp
      try with_reducible rfl
    case qzz1 => exact fun _ _ _ h => h
    case szz1 => first | assumption | trivial
    case' rzz1 => simp only [Act.put, List.setIfInBounds_toArray, List.set_cons_zero, List.set_cons_succ]
    refine wpAnyH_take (i := 3) (oi := ?ozz2) (v := ?vzz2) ?hzz2 ?azz2 ?bzz2 ?czz2 ?qzz2 ?yzz2 ?szz2 ?rzz2
    case hzz2 => simp only [List.getElem?_toArray, List.getElem?_cons_zero, List.getElem?_cons_succ]; rfl
    case azz2 => kernel_rfl
    case bzz2 => kernel_rfl
    case czz2 => kernel_rfl
    case yzz2 =>
      refine Or.inl ⟨by rfl, ?_⟩
      intro w hSw
      skip
      go_simp
      try with_reducible rfl
    case qzz2 => exact fun _ _ _ h => h
    case szz2 => first | assumption | trivial
    case' rzz2 => simp only [Act.put, List.setIfInBounds_toArray, List.set_cons_zero, List.set_cons_succ]
    refine wpAnyH_ready (rs := [2, 9]) (by kernel_rfl) (by simp) ?_
    refine AllReadyH.cons (o := ?ozz34) ?hzz34 (fun K hK => ?kzz34) ?mzz34
    case hzz34 => simp only [List.getElem?_toArray, List.getElem?_cons_zero, List.getElem?_cons_succ]; rfl
    case kzz34 =>
      go_simp
      refine (KN.out _).mono ?_
      rintro e v2 ⟨rfl, qv2⟩
      go_wp2_with fail
      refine hK.out _ _ ?Szz34 (fun hHeld => ?Rzz34)
      case Szz34 =>
        exact ⟨box_ qv2 hHeld.1, box_ qv2 hHeld.2.1, box_ qv2 hHeld.2.2.1, box_ qv2 hHeld.2.2.2⟩
      case Rzz34 =>
        clear hK K
        try simp only [Act.put, List.setIfInBounds_toArray, List.set_cons_zero, List.set_cons_succ]
        refine wpAnyH_ready (rs := [4, 9]) (by kernel_rfl) (by simp) ?_
        refine AllReadyH.cons (o := ?ozz24) ?hzz24 (fun K hK => ?kzz24) ?mzz24
        case hzz24 => simp only [List.getElem?_toArray, List.getElem?_cons_zero, List.getElem?_cons_succ]; rfl
        case kzz24 =>
          go_simp
          refine (KL.out _).mono ?_
          rintro e v3 ⟨rfl, qv3⟩
          go_wp2_with fail
          refine hK.out _ _ ?Szz24 (fun hHeld => ?Rzz24)
          case Szz24 =>
            exact ⟨box_ qv3 hHeld.1, box_ qv3 hHeld.2.1, box_ qv3 hHeld.2.2.1, box_ qv3 hHeld.2.2.2⟩
          case Rzz24 =>
            clear hK K
            try simp only [Act.put, List.setIfInBounds_toArray, List.set_cons_zero, List.set_cons_succ]
            refine wpAnyH_ready (rs := [5, 9]) (by kernel_rfl) (by simp) ?_
            refine AllReadyH.cons (o := ?ozz15) ?hzz15 (fun K hK => ?kzz15) ?mzz15
            case hzz15 => simp only [List.getElem?_toArray, List.getElem?_cons_zero, List.getElem?_cons_succ]; rfl
            case kzz15 =>
              go_simp
              refine (KA.out _ (DW.out.q (((Q.refl W).drew.trans qv2).trans qv3))).mono ?_
              rintro e v4 ⟨A5, n5, c5, rfl, hd5, hf5, qv4⟩
              go_wp2_with fail
              refine hK.out _ _ ?Szz15 (fun hHeld => ?Rzz15)
              case Szz15 =>
                exact ⟨box_ qv4 hHeld.1, box_ qv4 hHeld.2.1, box_ qv4 hHeld.2.2.1, box_ qv4 hHeld.2.2.2⟩
              case Rzz15 =>
                clear hK K
                try simp only [Act.put, List.setIfInBounds_toArray, List.set_cons_zero, List.set_cons_succ]
                have hC := hHeld
                refine wpAnyH_take (i := 6) (oi := ?ozz3) (v := ?vzz3) ?hzz3 ?azz3 ?bzz3 ?czz3 ?qzz3 ?yzz3 ?szz3 ?rzz3
                case hzz3 => simp only [List.getElem?_toArray, List.getElem?_cons_zero, List.getElem?_cons_succ]; rfl
                case azz3 => kernel_rfl
                case bzz3 => kernel_rfl
                case czz3 => kernel_rfl
                case yzz3 =>
                  refine Or.inl ⟨by rfl, ?_⟩
                  intro w hSw
                  skip
                  go_simp
                  try with_reducible rfl
                case qzz3 => exact fun _ _ _ h => h
                case szz3 => first | assumption | trivial
                case' rzz3 => simp only [Act.put, List.setIfInBounds_toArray, List.set_cons_zero, List.set_cons_succ]
                refine wpAnyH_take (i := 7) (oi := ?ozz4) (v := ?vzz4) ?hzz4 ?azz4 ?bzz4 ?czz4 ?qzz4 ?yzz4 ?szz4 ?rzz4
                case hzz4 => simp only [List.getElem?_toArray, List.getElem?_cons_zero, List.getElem?_cons_succ]; rfl
                case azz4 => kernel_rfl
                case bzz4 => kernel_rfl
                case czz4 => kernel_rfl
                case yzz4 =>
                  refine Or.inl ⟨by rfl, ?_⟩
                  intro w hSw
                  skip
                  go_simp
                  try with_reducible rfl
                case qzz4 => exact fun _ _ _ h => h
                case szz4 => first | assumption | trivial
                case' rzz4 => simp only [Act.put, List.setIfInBounds_toArray, List.set_cons_zero, List.set_cons_succ]
                refine wpAnyH_take (i := 8) (oi := ?ozz5) (v := ?vzz5) ?hzz5 ?azz5 ?bzz5 ?czz5 ?qzz5 ?yzz5 ?szz5 ?rzz5
                case hzz5 => simp only [List.getElem?_toArray, List.getElem?_cons_zero, List.getElem?_cons_succ]; rfl
                case azz5 => kernel_rfl
                case bzz5 => kernel_rfl
                case czz5 => kernel_rfl
                case yzz5 =>
                  refine Or.inl ⟨by rfl, ?_⟩
                  intro w hSw
                  skip
                  go_simp
                  try with_reducible rfl
                case qzz5 => exact fun _ _ _ h => h
                case szz5 => first | assumption | trivial
                case' rzz5 => simp only [Act.put, List.setIfInBounds_toArray, List.set_cons_zero, List.set_cons_succ]
                refine wpAnyH_ready (rs := [9]) (by kernel_rfl) (by simp) ?_
                refine AllReadyH.cons (o := ?ozz8) ?hzz8 (fun K hK => ?kzz8) ?mzz8
                case hzz8 => simp only [List.getElem?_toArray, List.getElem?_cons_zero, List.getElem?_cons_succ]; rfl
                case kzz8 =>
                  go_simp
                  refine hK.out _ _ ?Szz8 (fun hHeld => ?Rzz8)
                  case Szz8 =>
                    exact ⟨box_ ((Q.refl _).alloc _) hC.1, box_ ((Q.refl _).alloc _) hC.2.1, box_ ((Q.refl _).alloc _) hC.2.2.1, box_ ((Q.refl _).alloc _) hC.2.2.2⟩
                  case Rzz8 =>
                    clear hK K
                    try simp only [Act.put, List.setIfInBounds_toArray, List.set_cons_zero, List.set_cons_succ]
                    refine wpAnyH_ready (rs := [10]) (by kernel_rfl) (by simp) ?_
                    refine AllReadyH.cons (o := ?ozz7) ?hzz7 (fun K hK => ?kzz7) ?mzz7
                    case hzz7 => simp only [List.getElem?_toArray, List.getElem?_cons_zero, List.getElem?_cons_succ]; rfl
                    case kzz7 =>
                      go_simp
                      refine hK.out _ _ ?Szz7 (fun hHeld => ?Rzz7)
                      case Szz7 =>
                        exact ⟨box_ ((Q.refl _).alloc _) hC.1, box_ ((Q.refl _).alloc _) hC.2.1, box_ ((Q.refl _).alloc _) hC.2.2.1, box_ ((Q.refl _).alloc _) hC.2.2.2⟩
                      case Rzz7 =>
                        clear hK K
                        try simp only [Act.put, List.setIfInBounds_toArray, List.set_cons_zero, List.set_cons_succ]
                        refine wpAnyH_take (i := 11) (oi := ?ozz6) (v := ?vzz6) ?hzz6 ?azz6 ?bzz6 ?czz6 ?qzz6 ?yzz6 ?szz6 ?rzz6
                        case hzz6 => simp only [List.getElem?_toArray, List.getElem?_cons_zero, List.getElem?_cons_succ]; rfl
                        case azz6 => kernel_rfl
                        case bzz6 => kernel_rfl
                        case czz6 => kernel_rfl
                        case yzz6 =>
                          refine Or.inl ⟨by rfl, ?_⟩
                          intro w hSw
                          skip
                          go_simp
                          try with_reducible rfl
                        case qzz6 => exact fun _ _ _ h => h
                        case szz6 => first | assumption | trivial
                        case' rzz6 => simp only [Act.put, List.setIfInBounds_toArray, List.set_cons_zero, List.set_cons_succ]
                        refine wpAnyH_done (by kernel_rfl) ?_ _
                        go_wp2_with fail
                        go_meet
                        exact leaf4c (((Q.refl W).drew.trans qv2).trans qv3) qv4 hd5 hf5
                    case' mzz7 => skip
                    exact AllReadyH.nil
                case' mzz8 => skip
                exact AllReadyH.nil
            case' mzz15 => skip
            refine AllReadyH.cons (o := ?ozz16) ?hzz16 (fun K hK => ?kzz16) ?mzz16
            case hzz16 => simp only [List.getElem?_toArray, List.getElem?_cons_zero, List.getElem?_cons_succ]; rfl
            case kzz16 =>
              go_simp
              refine hK.out _ _ ?Szz16 (fun hHeld => ?Rzz16)
              case Szz16 =>
                exact ⟨box_ ((Q.refl _).alloc _) hHeld.1, box_ ((Q.refl _).alloc _) hHeld.2.1, box_ ((Q.refl _).alloc _) hHeld.2.2.1, box_ ((Q.refl _).alloc _) hHeld.2.2.2⟩
              case Rzz16 =>
                clear hK K
                try simp only [Act.put, List.setIfInBounds_toArray, List.set_cons_zero, List.set_cons_succ]
                refine wpAnyH_ready (rs := [5]) (by kernel_rfl) (by simp) ?_
                refine AllReadyH.cons (o := ?ozz14) ?hzz14 (fun K hK => ?kzz14) ?mzz14
                case hzz14 => simp only [List.getElem?_toArray, List.getElem?_cons_zero, List.getElem?_cons_succ]; rfl
                case kzz14 =>
                  go_simp
                  refine (KA.out _ (DW.out.q ((((Q.refl W).drew.trans qv2).trans qv3).alloc _))).mono ?_
                  rintro e v5 ⟨A5, n5, c5, rfl, hd5, hf5, qv5⟩
                  have BX2 : Bx _ v3.heap.size [.slice none 0 0, .int .i64 0, .int .i64 0, .bool false] := (Bx.new v3 [.slice none 0 0, .int .i64 0, .int .i64 0, .bool false] 24)
                  obtain ⟨⟨b0, b1, b2, b3⟩, y0, y1, y2, y3⟩ := (BX2.q qv5).get4
                  go_wp2_with fail
                  refine hK.out _ _ ?Szz14 (fun hHeld => ?Rzz14)
                  case Szz14 =>
                    exact ⟨box_ qv5 hHeld.1, box_ qv5 hHeld.2.1, box_ qv5 hHeld.2.2.1, box_ qv5 hHeld.2.2.2⟩
                  case Rzz14 =>
                    clear hK K
                    try simp only [Act.put, List.setIfInBounds_toArray, List.set_cons_zero, List.set_cons_succ]
                    refine wpAnyH_take (i := 6) (oi := ?ozz9) (v := ?vzz9) ?hzz9 ?azz9 ?bzz9 ?czz9 ?qzz9 ?yzz9 ?szz9 ?rzz9
                    case hzz9 => simp only [List.getElem?_toArray, List.getElem?_cons_zero, List.getElem?_cons_succ]; rfl
                    case azz9 => kernel_rfl
                    case bzz9 => kernel_rfl
                    case czz9 => kernel_rfl
                    case yzz9 =>
                      refine Or.inl ⟨by rfl, ?_⟩
                      intro w hSw
                      skip
                      go_simp
                      try with_reducible rfl
                    case qzz9 => exact fun _ _ _ h => h
                    case szz9 => first | assumption | trivial
                    case' rzz9 => simp only [Act.put, List.setIfInBounds_toArray, List.set_cons_zero, List.set_cons_succ]
                    refine wpAnyH_take (i := 7) (oi := ?ozz10) (v := ?vzz10) ?hzz10 ?azz10 ?bzz10 ?czz10 ?qzz10 ?yzz10 ?szz10 ?rzz10
                    case hzz10 => simp only [List.getElem?_toArray, List.getElem?_cons_zero, List.getElem?_cons_succ]; rfl
                    case azz10 => kernel_rfl
                    case bzz10 => kernel_rfl
                    case czz10 => kernel_rfl
                    case yzz10 =>
                      refine Or.inl ⟨by rfl, ?_⟩
                      intro w hSw
                      skip
                      go_simp
                      try with_reducible rfl
                    case qzz10 => exact fun _ _ _ h => h
                    case szz10 => first | assumption | trivial
                    case' rzz10 => simp only [Act.put, List.setIfInBounds_toArray, List.set_cons_zero, List.set_cons_succ]
                    refine wpAnyH_take (i := 8) (oi := ?ozz11) (v := ?vzz11) ?hzz11 ?azz11 ?bzz11 ?czz11 ?qzz11 ?yzz11 ?szz11 ?rzz11
                    case hzz11 => simp only [List.getElem?_toArray, List.getElem?_cons_zero, List.getElem?_cons_succ]; rfl
                    case azz11 => kernel_rfl
                    case bzz11 => kernel_rfl
                    case czz11 => kernel_rfl
                    case yzz11 =>
                      refine Or.inl ⟨by rfl, ?_⟩
                      intro w hSw
                      skip
                      go_simp
                      try with_reducible rfl
                    case qzz11 => exact fun _ _ _ h => h
                    case szz11 => first | assumption | trivial
                    case' rzz11 => simp only [Act.put, List.setIfInBounds_toArray, List.set_cons_zero, List.set_cons_succ]
                    have z2 : w.heap.size ≠ v3.heap.size := by have h1 := (((Q.refl W).drew.trans qv2).trans qv3).size; have h2 := Y.out.res.lt; omega
                    refine wpAnyH_ready (rs := [10]) (by kernel_rfl) (by simp) ?_
                    refine AllReadyH.cons (o := ?ozz13) ?hzz13 (fun K hK => ?kzz13) ?mzz13
                    case hzz13 => simp only [List.getElem?_toArray, List.getElem?_cons_zero, List.getElem?_cons_succ]; rfl
                    case kzz13 =>
                      go_simp
                      refine hK.out _ _ ?Szz13 (fun hHeld => ?Rzz13)
                      case Szz13 =>
                        exact far4_ (fun e => z2 e) hHeld
                      case Rzz13 =>
                        clear hK K
                        try simp only [Act.put, List.setIfInBounds_toArray, List.set_cons_zero, List.set_cons_succ]
                        refine wpAnyH_take (i := 11) (oi := ?ozz12) (v := ?vzz12) ?hzz12 ?azz12 ?bzz12 ?czz12 ?qzz12 ?yzz12 ?szz12 ?rzz12
                        case hzz12 => simp only [List.getElem?_toArray, List.getElem?_cons_zero, List.getElem?_cons_succ]; rfl
                        case azz12 => kernel_rfl
                        case bzz12 => kernel_rfl
                        case czz12 => kernel_rfl
                        case yzz12 =>
                          refine Or.inl ⟨by rfl, ?_⟩
                          intro w hSw
                          skip
                          go_simp
                          try with_reducible rfl
                        case qzz12 => exact fun _ _ _ h => h
                        case szz12 => first | assumption | trivial
                        case' rzz12 => simp only [Act.put, List.setIfInBounds_toArray, List.set_cons_zero, List.set_cons_succ]
                        refine wpAnyH_done (by kernel_rfl) ?_ _
                        go_wp2_with fail
                        go_meet
                        exact leaf4b (BX2) (by have h1 := (((Q.refl W).drew.trans qv2).trans qv3).size; exact h1) DW.out ((((Q.refl W).drew.trans qv2).trans qv3).alloc _) qv5 hd5 hf5
                    case' mzz13 => skip
                    exact AllReadyH.nil
                case' mzz14 => skip
                exact AllReadyH.nil
            case' mzz16 => skip
            exact AllReadyH.nil
        case' mzz24 => skip
        refine AllReadyH.cons (o := ?ozz25) ?hzz25 (fun K hK => ?kzz25) ?mzz25
        case hzz25 => simp only [List.getElem?_toArray, List.getElem?_cons_zero, List.getElem?_cons_succ]; rfl
        case kzz25 =>
          go_simp
          refine hK.out _ _ ?Szz25 (fun hHeld => ?Rzz25)
          case Szz25 =>
            exact ⟨box_ ((Q.refl _).alloc _) hHeld.1, box_ ((Q.refl _).alloc _) hHeld.2.1, box_ ((Q.refl _).alloc _) hHeld.2.2.1, box_ ((Q.refl _).alloc _) hHeld.2.2.2⟩
          case Rzz25 =>
            clear hK K
            try simp only [Act.put, List.setIfInBounds_toArray, List.set_cons_zero, List.set_cons_succ]
            refine wpAnyH_ready (rs := [4]) (by kernel_rfl) (by simp) ?_
            refine AllReadyH.cons (o := ?ozz23) ?hzz23 (fun K hK => ?kzz23) ?mzz23
            case hzz23 => simp only [List.getElem?_toArray, List.getElem?_cons_zero, List.getElem?_cons_succ]; rfl
            case kzz23 =>
              go_simp
              refine (KL.out _).mono ?_
              rintro e v6 ⟨rfl, qv6⟩
              go_wp2_with fail
              refine hK.out _ _ ?Szz23 (fun hHeld => ?Rzz23)
              case Szz23 =>
                exact ⟨box_ qv6 hHeld.1, box_ qv6 hHeld.2.1, box_ qv6 hHeld.2.2.1, box_ qv6 hHeld.2.2.2⟩
              case Rzz23 =>
                clear hK K
                try simp only [Act.put, List.setIfInBounds_toArray, List.set_cons_zero, List.set_cons_succ]
                refine wpAnyH_ready (rs := [5]) (by kernel_rfl) (by simp) ?_
                refine AllReadyH.cons (o := ?ozz22) ?hzz22 (fun K hK => ?kzz22) ?mzz22
                case hzz22 => simp only [List.getElem?_toArray, List.getElem?_cons_zero, List.getElem?_cons_succ]; rfl
                case kzz22 =>
                  go_simp
                  refine (KA.out _ (DW.out.q ((((Q.refl W).drew.trans qv2).alloc _).trans qv6))).mono ?_
                  rintro e v7 ⟨A5, n5, c5, rfl, hd5, hf5, qv7⟩
                  have BX2 : Bx _ v2.heap.size [.slice none 0 0, .int .i64 0, .int .i64 0, .bool false] := ((Bx.new v2 [.slice none 0 0, .int .i64 0, .int .i64 0, .bool false] 24).q qv6)
                  obtain ⟨⟨b0, b1, b2, b3⟩, y0, y1, y2, y3⟩ := (BX2.q qv7).get4
                  go_wp2_with fail
                  refine hK.out _ _ ?Szz22 (fun hHeld => ?Rzz22)
                  case Szz22 =>
                    exact ⟨box_ qv7 hHeld.1, box_ qv7 hHeld.2.1, box_ qv7 hHeld.2.2.1, box_ qv7 hHeld.2.2.2⟩
                  case Rzz22 =>
                    clear hK K
                    try simp only [Act.put, List.setIfInBounds_toArray, List.set_cons_zero, List.set_cons_succ]
                    refine wpAnyH_take (i := 6) (oi := ?ozz17) (v := ?vzz17) ?hzz17 ?azz17 ?bzz17 ?czz17 ?qzz17 ?yzz17 ?szz17 ?rzz17
                    case hzz17 => simp only [List.getElem?_toArray, List.getElem?_cons_zero, List.getElem?_cons_succ]; rfl
                    case azz17 => kernel_rfl
                    case bzz17 => kernel_rfl
                    case czz17 => kernel_rfl
                    case yzz17 =>
                      refine Or.inl ⟨by rfl, ?_⟩
                      intro w hSw
                      skip
                      go_simp
                      try with_reducible rfl
                    case qzz17 => exact fun _ _ _ h => h
                    case szz17 => first | assumption | trivial
                    case' rzz17 => simp only [Act.put, List.setIfInBounds_toArray, List.set_cons_zero, List.set_cons_succ]
                    refine wpAnyH_take (i := 7) (oi := ?ozz18) (v := ?vzz18) ?hzz18 ?azz18 ?bzz18 ?czz18 ?qzz18 ?yzz18 ?szz18 ?rzz18
                    case hzz18 => simp only [List.getElem?_toArray, List.getElem?_cons_zero, List.getElem?_cons_succ]; rfl
                    case azz18 => kernel_rfl
                    case bzz18 => kernel_rfl
                    case czz18 => kernel_rfl
                    case yzz18 =>
                      refine Or.inl ⟨by rfl, ?_⟩
                      intro w hSw
                      skip
                      go_simp
                      try with_reducible rfl
                    case qzz18 => exact fun _ _ _ h => h
                    case szz18 => first | assumption | trivial
                    case' rzz18 => simp only [Act.put, List.setIfInBounds_toArray, List.set_cons_zero, List.set_cons_succ]
                    refine wpAnyH_take (i := 8) (oi := ?ozz19) (v := ?vzz19) ?hzz19 ?azz19 ?bzz19 ?czz19 ?qzz19 ?yzz19 ?szz19 ?rzz19
                    case hzz19 => simp only [List.getElem?_toArray, List.getElem?_cons_zero, List.getElem?_cons_succ]; rfl
                    case azz19 => kernel_rfl
                    case bzz19 => kernel_rfl
                    case czz19 => kernel_rfl
                    case yzz19 =>
                      refine Or.inl ⟨by rfl, ?_⟩
                      intro w hSw
                      skip
                      go_simp
                      try with_reducible rfl
                    case qzz19 => exact fun _ _ _ h => h
                    case szz19 => first | assumption | trivial
                    case' rzz19 => simp only [Act.put, List.setIfInBounds_toArray, List.set_cons_zero, List.set_cons_succ]
                    have z2 : w.heap.size ≠ v2.heap.size := by have h1 := ((Q.refl W).drew.trans qv2).size; have h2 := Y.out.res.lt; omega
                    refine wpAnyH_ready (rs := [10]) (by kernel_rfl) (by simp) ?_
                    refine AllReadyH.cons (o := ?ozz21) ?hzz21 (fun K hK => ?kzz21) ?mzz21
                    case hzz21 => simp only [List.getElem?_toArray, List.getElem?_cons_zero, List.getElem?_cons_succ]; rfl
                    case kzz21 =>
                      go_simp
                      refine hK.out _ _ ?Szz21 (fun hHeld => ?Rzz21)
                      case Szz21 =>
                        exact far4_ (fun e => z2 e) hHeld
                      case Rzz21 =>
                        clear hK K
                        try simp only [Act.put, List.setIfInBounds_toArray, List.set_cons_zero, List.set_cons_succ]
                        refine wpAnyH_take (i := 11) (oi := ?ozz20) (v := ?vzz20) ?hzz20 ?azz20 ?bzz20 ?czz20 ?qzz20 ?yzz20 ?szz20 ?rzz20
                        case hzz20 => simp only [List.getElem?_toArray, List.getElem?_cons_zero, List.getElem?_cons_succ]; rfl
                        case azz20 => kernel_rfl
                        case bzz20 => kernel_rfl
                        case czz20 => kernel_rfl
                        case yzz20 =>
                          refine Or.inl ⟨by rfl, ?_⟩
                          intro w hSw
                          skip
                          go_simp
                          try with_reducible rfl
                        case qzz20 => exact fun _ _ _ h => h
                        case szz20 => first | assumption | trivial
                        case' rzz20 => simp only [Act.put, List.setIfInBounds_toArray, List.set_cons_zero, List.set_cons_succ]
                        refine wpAnyH_done (by kernel_rfl) ?_ _
                        go_wp2_with fail
                        go_meet
                        exact leaf4b (BX2) (by have h1 := ((Q.refl W).drew.trans qv2).size; exact h1) DW.out ((((Q.refl W).drew.trans qv2).alloc _).trans qv6) qv7 hd5 hf5
                    case' mzz21 => skip
                    exact AllReadyH.nil
                case' mzz22 => skip
                exact AllReadyH.nil
            case' mzz23 => skip
            exact AllReadyH.nil
        case' mzz25 => skip
        exact AllReadyH.nil
    case' mzz34 => skip
    refine AllReadyH.cons (o := ?ozz35) ?hzz35 (fun K hK => ?kzz35) ?mzz35
    case hzz35 => simp only [List.getElem?_toArray, List.getElem?_cons_zero, List.getElem?_cons_succ]; rfl
    case kzz35 =>
      go_simp
      refine hK.out _ _ ?Szz35 (fun hHeld => ?Rzz35)
      case Szz35 =>
        exact ⟨box_ ((Q.refl _).alloc _) hHeld.1, box_ ((Q.refl _).alloc _) hHeld.2.1, box_ ((Q.refl _).alloc _) hHeld.2.2.1, box_ ((Q.refl _).alloc _) hHeld.2.2.2⟩
      case Rzz35 =>
        clear hK K
        try simp only [Act.put, List.setIfInBounds_toArray, List.set_cons_zero, List.set_cons_succ]
        refine wpAnyH_ready (rs := [2]) (by kernel_rfl) (by simp) ?_
        refine AllReadyH.cons (o := ?ozz33) ?hzz33 (fun K hK => ?kzz33) ?mzz33
        case hzz33 => simp only [List.getElem?_toArray, List.getElem?_cons_zero, List.getElem?_cons_succ]; rfl
        case kzz33 =>
          go_simp
          refine (KN.out _).mono ?_
          rintro e v8 ⟨rfl, qv8⟩
          go_wp2_with fail
          refine hK.out _ _ ?Szz33 (fun hHeld => ?Rzz33)
          case Szz33 =>
            exact ⟨box_ qv8 hHeld.1, box_ qv8 hHeld.2.1, box_ qv8 hHeld.2.2.1, box_ qv8 hHeld.2.2.2⟩
          case Rzz33 =>
            clear hK K
            try simp only [Act.put, List.setIfInBounds_toArray, List.set_cons_zero, List.set_cons_succ]
            refine wpAnyH_ready (rs := [4]) (by kernel_rfl) (by simp) ?_
            refine AllReadyH.cons (o := ?ozz32) ?hzz32 (fun K hK => ?kzz32) ?mzz32
            case hzz32 => simp only [List.getElem?_toArray, List.getElem?_cons_zero, List.getElem?_cons_succ]; rfl
            case kzz32 =>
              go_simp
              refine (KL.out _).mono ?_
              rintro e v9 ⟨rfl, qv9⟩
              go_wp2_with fail
              refine hK.out _ _ ?Szz32 (fun hHeld => ?Rzz32)
              case Szz32 =>
                exact ⟨box_ qv9 hHeld.1, box_ qv9 hHeld.2.1, box_ qv9 hHeld.2.2.1, box_ qv9 hHeld.2.2.2⟩
              case Rzz32 =>
                clear hK K
                try simp only [Act.put, List.setIfInBounds_toArray, List.set_cons_zero, List.set_cons_succ]
                refine wpAnyH_ready (rs := [5]) (by kernel_rfl) (by simp) ?_
                refine AllReadyH.cons (o := ?ozz31) ?hzz31 (fun K hK => ?kzz31) ?mzz31
                case hzz31 => simp only [List.getElem?_toArray, List.getElem?_cons_zero, List.getElem?_cons_succ]; rfl
                case kzz31 =>
                  go_simp
                  refine (KA.out _ (DW.out.q ((((Q.refl W).drew.alloc _).trans qv8).trans qv9))).mono ?_
                  rintro e v10 ⟨A5, n5, c5, rfl, hd5, hf5, qv10⟩
                  have BX2 : Bx _ W.heap.size [.slice none 0 0, .int .i64 0, .int .i64 0, .bool false] := (((Bx.new W.drew [.slice none 0 0, .int .i64 0, .int .i64 0, .bool false] 24).q qv8).q qv9)
                  obtain ⟨⟨b0, b1, b2, b3⟩, y0, y1, y2, y3⟩ := (BX2.q qv10).get4
                  go_wp2_with fail
                  refine hK.out _ _ ?Szz31 (fun hHeld => ?Rzz31)
                  case Szz31 =>
                    exact ⟨box_ qv10 hHeld.1, box_ qv10 hHeld.2.1, box_ qv10 hHeld.2.2.1, box_ qv10 hHeld.2.2.2⟩
                  case Rzz31 =>
                    clear hK K
                    try simp only [Act.put, List.setIfInBounds_toArray, List.set_cons_zero, List.set_cons_succ]
                    refine wpAnyH_take (i := 6) (oi := ?ozz26) (v := ?vzz26) ?hzz26 ?azz26 ?bzz26 ?czz26 ?qzz26 ?yzz26 ?szz26 ?rzz26
                    case hzz26 => simp only [List.getElem?_toArray, List.getElem?_cons_zero, List.getElem?_cons_succ]; rfl
                    case azz26 => kernel_rfl
                    case bzz26 => kernel_rfl
                    case czz26 => kernel_rfl
                    case yzz26 =>
                      refine Or.inl ⟨by rfl, ?_⟩
                      intro w hSw
                      skip
                      go_simp
                      try with_reducible rfl
                    case qzz26 => exact fun _ _ _ h => h
                    case szz26 => first | assumption | trivial
                    case' rzz26 => simp only [Act.put, List.setIfInBounds_toArray, List.set_cons_zero, List.set_cons_succ]
                    refine wpAnyH_take (i := 7) (oi := ?ozz27) (v := ?vzz27) ?hzz27 ?azz27 ?bzz27 ?czz27 ?qzz27 ?yzz27 ?szz27 ?rzz27
                    case hzz27 => simp only [List.getElem?_toArray, List.getElem?_cons_zero, List.getElem?_cons_succ]; rfl
                    case azz27 => kernel_rfl
                    case bzz27 => kernel_rfl
                    case czz27 => kernel_rfl
                    case yzz27 =>
                      refine Or.inl ⟨by rfl, ?_⟩
                      intro w hSw
                      skip
                      go_simp
                      try with_reducible rfl
                    case qzz27 => exact fun _ _ _ h => h
                    case szz27 => first | assumption | trivial
                    case' rzz27 => simp only [Act.put, List.setIfInBounds_toArray, List.set_cons_zero, List.set_cons_succ]
                    refine wpAnyH_take (i := 8) (oi := ?ozz28) (v := ?vzz28) ?hzz28 ?azz28 ?bzz28 ?czz28 ?qzz28 ?yzz28 ?szz28 ?rzz28
                    case hzz28 => simp only [List.getElem?_toArray, List.getElem?_cons_zero, List.getElem?_cons_succ]; rfl
                    case azz28 => kernel_rfl
                    case bzz28 => kernel_rfl
                    case czz28 => kernel_rfl
                    case yzz28 =>
                      refine Or.inl ⟨by rfl, ?_⟩
                      intro w hSw
                      skip
                      go_simp
                      try with_reducible rfl
                    case qzz28 => exact fun _ _ _ h => h
                    case szz28 => first | assumption | trivial
                    case' rzz28 => simp only [Act.put, List.setIfInBounds_toArray, List.set_cons_zero, List.set_cons_succ]
                    have z2 : w.heap.size ≠ W.heap.size := by have h1 := (Q.refl W).drew.size; have h2 := Y.out.res.lt; omega
                    refine wpAnyH_ready (rs := [10]) (by kernel_rfl) (by simp) ?_
                    refine AllReadyH.cons (o := ?ozz30) ?hzz30 (fun K hK => ?kzz30) ?mzz30
                    case hzz30 => simp only [List.getElem?_toArray, List.getElem?_cons_zero, List.getElem?_cons_succ]; rfl
                    case kzz30 =>
                      go_simp
                      refine hK.out _ _ ?Szz30 (fun hHeld => ?Rzz30)
                      case Szz30 =>
                        exact far4_ (fun e => z2 e) hHeld
                      case Rzz30 =>
                        clear hK K
                        try simp only [Act.put, List.setIfInBounds_toArray, List.set_cons_zero, List.set_cons_succ]
                        refine wpAnyH_take (i := 11) (oi := ?ozz29) (v := ?vzz29) ?hzz29 ?azz29 ?bzz29 ?czz29 ?qzz29 ?yzz29 ?szz29 ?rzz29
                        case hzz29 => simp only [List.getElem?_toArray, List.getElem?_cons_zero, List.getElem?_cons_succ]; rfl
                        case azz29 => kernel_rfl
                        case bzz29 => kernel_rfl
                        case czz29 => kernel_rfl
                        case yzz29 =>
                          refine Or.inl ⟨by rfl, ?_⟩
                          intro w hSw
                          skip
                          go_simp
                          try with_reducible rfl
                        case qzz29 => exact fun _ _ _ h => h
                        case szz29 => first | assumption | trivial
                        case' rzz29 => simp only [Act.put, List.setIfInBounds_toArray, List.set_cons_zero, List.set_cons_succ]
                        refine wpAnyH_done (by kernel_rfl) ?_ _
                        go_wp2_with fail
                        go_meet
                        exact leaf4b (BX2) (by have h1 := (Q.refl W).drew.size; exact h1) DW.out ((((Q.refl W).drew.alloc _).trans qv8).trans qv9) qv10 hd5 hf5
                    case' mzz30 => skip
                    exact AllReadyH.nil
                case' mzz31 => skip
                exact AllReadyH.nil
            case' mzz32 => skip
            exact AllReadyH.nil
        case' mzz33 => skip
        exact AllReadyH.nil
    case' mzz35 => skip
    exact AllReadyH.nil
  case rest =>
    obtain ⟨g, A5, n5, c5, rfl, rfl, hg, vg, hf, qx⟩ := hcut
    have VG := Lib.hid vg
    have ZZ := Lib.hid (And.intro hf qx)
    have Y5 := Lib.hid (Y.out.step qx)
    clear hg vg hf qx e0 e1 e2 e3 f0 f1 f2' f3 KA KL KR KN
    obtain ⟨⟨g0, g1, g2, g3⟩, _⟩ := VG.out.get
    obtain ⟨⟨s0, s1, s2, s3⟩, h0, h1, h2, h3⟩ := Y5.out.getR
    go_wp2
    refine bodyPost_ret (v := .tuple #[dkv A5 n5 c5 r.1.room r.1.fuse r.1.off, .int .i64 seg, .int .i64 r.2]) (by simp [results, Tryd.results7, go_sem, s0, s1, s2, s3]) rfl ?_
    exact Y.out.endV ZZ.out.2 HD.out (d := r.1) VG.out.dsk ZZ.out.1 [.int .i64 seg, .int .i64 r.2] _ _ _ _

theorem Sb.endV2 {w w2 : World} {A1 A A0 : Option Addr} {n1 c1 n c n0 c0 : Nat} {room1 fuse1 : Int} {off1 : Bool} {l0 : List Fil} {d : Dk} (h : Sb w A1 n1 c1 room1 fuse1 off1 w2) (h0 : Dsk w A0 n0 c0 l0) (hd : Dsk w2 A n c d.fs) (hf : A = A0 ∧ n = n0 ∨ ∀ ad, A = some ad → w.heap.size + 2 ≤ ad.block) (vs : List Value) (x y z u : Value) :
    RetV w A0 n0 d vs (.returned (.tuple (dkv A n c d.room d.fuse d.off :: vs).toArray)) ((((w2.setCell ⟨w.heap.size + 1, 0, none⟩ x).setCell ⟨w.heap.size + 1, 1, none⟩ y).setCell ⟨w.heap.size + 1, 2, none⟩ z).setCell ⟨w.heap.size + 1, 3, none⟩ u) := by
  have haw : 0 < n → ∀ ad, A = some ad → ad.block ≠ w.heap.size + 1 := by
    intro hn ad e
    rcases hf with ⟨rfl, rfl⟩ | hf
    · have := h0.files.blk hn ad e; omega
    · have := hf ad e; omega
  exact ⟨A, n, c, rfl, (((hd.away1 haw 0 _).away1 haw 1 _).away1 haw 2 _).away1 haw 3 _, hf.imp id (fun hf ad e => by have := hf ad e; omega), h.q.set4 (b := w.heap.size + 1) (by omega) _ _ _ _⟩

set_option maxHeartbeats 1000000 in
theorem refPut_low (seg : Int) (rec : ByteArray) (A : Option Addr) (n c : Nat) (d : Dk) (w : World) (hd : Dsk w A n c d.fs) (hB : Bnd 2305843009213693952 d) (h1 : seg < 1) :
    Calls Tryd.prog 7 #[dkv A n c d.room d.fuse d.off, .int .i64 seg, .string rec] w fun e w' => RetV w A n d [.int .i64 seg, .int .i64 1] e w' := by
  obtain ⟨l, room, fuse, off⟩ := d
  have HD := Lib.hid hd
  clear hd hB
  go_enter Tryd.func7, Tryd.ntmps7
  go_upto_region 1 with (fail)
  have X := Lib.hid (Sb.new w A n c room fuse off)
  generalize ((w.alloc (.cells #[.slice A n c, .int .i64 room, .int .i64 fuse, .bool off] 24)).alloc (.cells #[.slice none 0 0, .int .i64 0, .int .i64 0, .bool false] 24)) = w1 at X ⊢
  obtain ⟨⟨e0, e1, e2, e3⟩, f0, f1, f2', f3⟩ := X.out.get
  obtain ⟨⟨s0, s1, s2, s3⟩, g0, g1, g2, g3⟩ := X.out.getR
  go_wp2
  refine bodyPost_ret (v := .tuple #[dkv A n c room fuse off, .int .i64 seg, .int .i64 1]) (by simp [results, Tryd.results7, go_sem, s0, s1, s2, s3]) rfl ?_
  exact X.out.endV (Q.refl _) HD.out (d := ⟨l, room, fuse, off⟩) (HD.out.q X.out.q) (.inl ⟨rfl, rfl⟩) [.int .i64 seg, .int .i64 1] _ _ _ _

set_option maxHeartbeats 1000000 in
theorem refPut_high (seg : Int) (rec : ByteArray) (A : Option Addr) (n c : Nat) (d : Dk) (w : World) (hd : Dsk w A n c d.fs) (hB : Bnd 2305843009213693952 d) (h1 : 1000000 < seg) :
    Calls Tryd.prog 7 #[dkv A n c d.room d.fuse d.off, .int .i64 seg, .string rec] w fun e w' => RetV w A n d [.int .i64 seg, .int .i64 1] e w' := by
  obtain ⟨l, room, fuse, off⟩ := d
  have HD := Lib.hid hd
  clear hd hB
  have h2 : ¬ seg < 1 := by omega
  go_enter Tryd.func7, Tryd.ntmps7
  go_upto_region 1 with (fail)
  have X := Lib.hid (Sb.new w A n c room fuse off)
  generalize ((w.alloc (.cells #[.slice A n c, .int .i64 room, .int .i64 fuse, .bool off] 24)).alloc (.cells #[.slice none 0 0, .int .i64 0, .int .i64 0, .bool false] 24)) = w1 at X ⊢
  obtain ⟨⟨e0, e1, e2, e3⟩, f0, f1, f2', f3⟩ := X.out.get
  obtain ⟨⟨s0, s1, s2, s3⟩, g0, g1, g2, g3⟩ := X.out.getR
  go_wp2
  refine bodyPost_ret (v := .tuple #[dkv A n c room fuse off, .int .i64 seg, .int .i64 1]) (by simp [results, Tryd.results7, go_sem, s0, s1, s2, s3]) rfl ?_
  exact X.out.endV (Q.refl _) HD.out (d := ⟨l, room, fuse, off⟩) (HD.out.q X.out.q) (.inl ⟨rfl, rfl⟩) [.int .i64 seg, .int .i64 1] _ _ _ _

set_option maxHeartbeats 1000000 in
theorem refPut_big (seg : Int) (rec : ByteArray) (A : Option Addr) (n c : Nat) (d : Dk) (w : World) (hd : Dsk w A n c d.fs) (hB : Bnd 2305843009213693952 d) (h1 : segOk seg) (h2 : 2048 < rec.size) (h4 : rec.size ≤ maxLen) :
    Calls Tryd.prog 7 #[dkv A n c d.room d.fuse d.off, .int .i64 seg, .string rec] w fun e w' => RetV w A n d [.int .i64 seg, .int .i64 4] e w' := by
  obtain ⟨l, room, fuse, off⟩ := d
  have HD := Lib.hid hd
  clear hd hB
  have r0 := h1.1
  have r1 := h1.2
  clear h1
  go_enter Tryd.func7, Tryd.ntmps7
  go_upto_region 1 with (fail)
  have X := Lib.hid (Sb.new w A n c room fuse off)
  generalize ((w.alloc (.cells #[.slice A n c, .int .i64 room, .int .i64 fuse, .bool off] 24)).alloc (.cells #[.slice none 0 0, .int .i64 0, .int .i64 0, .bool false] 24)) = w1 at X ⊢
  obtain ⟨⟨e0, e1, e2, e3⟩, f0, f1, f2', f3⟩ := X.out.get
  obtain ⟨⟨s0, s1, s2, s3⟩, g0, g1, g2, g3⟩ := X.out.getR
  go_wp2
  refine bodyPost_ret (v := .tuple #[dkv A n c room fuse off, .int .i64 seg, .int .i64 4]) (by simp [results, Tryd.results7, go_sem, s0, s1, s2, s3]) rfl ?_
  exact X.out.endV (Q.refl _) HD.out (d := ⟨l, room, fuse, off⟩) (HD.out.q X.out.q) (.inl ⟨rfl, rfl⟩) [.int .i64 seg, .int .i64 4] _ _ _ _

set_option maxHeartbeats 8000000 in
theorem refPut_serr (seg : Int) (rec : ByteArray) (A : Option Addr) (n c : Nat) (d : Dk) (w : World) (hd : Dsk w A n c d.fs) (hB : Bnd 2305843009213693952 d) (h1 : segOk seg) (h2 : rec.size ≤ 2048) (h3 : 256 ≤ (redd (namB seg) d.fs).1.size) (he : (syn d (namB seg)).2 ≠ 0) :
    Calls Tryd.prog 7 #[dkv A n c d.room d.fuse d.off, .int .i64 seg, .string rec] w fun e w' => RetV w A n (syn d (namB seg)).1 [.int .i64 seg, .int .i64 (syn d (namB seg)).2] e w' := by
  obtain ⟨l, room, fuse, off⟩ := d
  have HD := Lib.hid hd
  have HN := Lib.hid hd.max
  have hmx : ∀ f ∈ l, f.sf.size + f.wt.size ≤ maxLen := fun f hf => Nat.le_trans (hB.sum f hf) (by unfold maxLen; omega)
  have hBs := hB.syn (namB seg)
  have r0 := h1.1
  have r1 := h1.2
  have KS := Lib.hid (fun w hd => ref_sync_any (namB seg) A n c ⟨l, room, fuse, off⟩ w hd hmx)
  have KR := Lib.hid (fun w hf => ref_read (namB seg) A n c room fuse off l w hf HN.out hmx)
  have KN := Lib.hid (fun w => refName_any seg w (by omega) (by omega))
  generalize syn ⟨l, room, fuse, off⟩ (namB seg) = r at KS he ⊢
  have b1 : (r.2 != 0) = true := by simpa using he
  have h3' : 256 ≤ (redd (namB seg) l).1.size := h3
  generalize redd (namB seg) l = b at KR h3'
  obtain ⟨b, be⟩ := b
  have t3 : 256 ≤ b.size := h3'
  clear hd hB hmx h1 h3 h3' hBs
  dsimp only at KS KR
  go_enter Tryd.func7, Tryd.ntmps7
  go_upto_region 1 with (fail)
  have X := Lib.hid (Sb.new w A n c room fuse off)
  generalize ((w.alloc (.cells #[.slice A n c, .int .i64 room, .int .i64 fuse, .bool off] 24)).alloc (.cells #[.slice none 0 0, .int .i64 0, .int .i64 0, .bool false] 24)) = w1 at X ⊢
  go_upto_region 5 with (fail)
  obtain ⟨⟨e0, e1, e2, e3⟩, f0, f1, f2', f3⟩ := X.out.get
  go_region_held3 (fun w' => w'.cell? ⟨w.heap.size, 0, none⟩ = some (.slice A n c) ∧ w'.cell? ⟨w.heap.size, 1, none⟩ = some (.int .i64 room) ∧ w'.cell? ⟨w.heap.size, 2, none⟩ = some (.int .i64 fuse) ∧ w'.cell? ⟨w.heap.size, 3, none⟩ = some (.bool off))
    (first
      | go_keep
      | (go_split_ands
         (repeat' apply And.intro) <;> exact box_ ‹Q _ _› (by assumption)))
    (first
      | (go_at_call 25
         (with_reducible refine (KN.out _).mono ?_)
         rintro e w2 ⟨rfl, q2⟩)
      | (go_at_call 24
         (with_reducible refine (KR.out _ (HD.out.files.q (X.out.q.trans ((Q.refl w1).drew.trans q2)))).mono ?_)
         rintro e w3 ⟨rfl, q3⟩))
  have Y := Lib.hid (X.out.step (((Q.refl w1).drew.trans q2).trans q3))
  clear X q2 q3 e0 e1 e2 e3 f0 f1 f2' f3
  generalize w3 = W at Y ⊢
  have DW := Lib.hid (HD.out.q Y.out.q)
  obtain ⟨⟨e0, e1, e2, e3⟩, f0, f1, f2', f3⟩ := Y.out.get
  go_upto_region 7 with (fail)
  go_cut [11, 12] (fun s11 s12 wx => Cu4 W A n r.1 r.2 s11 s12 wx)
  case first =>
    refine wp_region_held_drew (S := fun w' => w'.cell? ⟨w.heap.size, 0, none⟩ = some (.slice A n c) ∧ w'.cell? ⟨w.heap.size, 1, none⟩ = some (.int .i64 room) ∧ w'.cell? ⟨w.heap.size, 2, none⟩ = some (.int .i64 fuse) ∧ w'.cell? ⟨w.heap.size, 3, none⟩ = some (.bool off)) (by kernel_rfl) ?_ (fun hHeld => ?_)
    · exact ⟨e0, e1, e2, e3⟩
    refine wpAnyH_take (i := 0) (oi := ?ozz36) (v := ?vzz36) ?hzz36 ?azz36 ?bzz36 ?czz36 ?qzz36 ?yzz36 ?szz36 ?rzz36
    case hzz36 => simp only [List.getElem?_toArray, List.getElem?_cons_zero]; rfl
    case azz36 => kernel_rfl
    case bzz36 => kernel_rfl
    case czz36 => kernel_rfl
    case yzz36 =>
      refine Or.inl ⟨by rfl, ?_⟩
      intro w hSw
      obtain ⟨s0, s1, s2, s3⟩ := hSw
      go_simp
      try with_reducible rfl
    case qzz36 => exact fun _ _ _ h => h
    case szz36 => first | assumption | trivial
    case' rzz36 => simp only [Act.put, List.setIfInBounds_toArray, List.set_cons_zero, List.set_cons_succ]
    refine wpAnyH_take (i := 1) (oi := ?ozz37) (v := ?vzz37) ?hzz37 ?azz37 ?bzz37 ?czz37 ?qzz37 ?yzz37 ?szz37 ?rzz37
    case hzz37 => simp only [List.getElem?_toArray, List.getElem?_cons_zero, List.getElem?_cons_succ]; rfl
    case azz37 => kernel_rfl
    case bzz37 => kernel_rfl
    case czz37 => kernel_rfl
    case yzz37 =>
      refine Or.inl ⟨by rfl, ?_⟩
      intro w hSw
      skip
      go_simp
      try with_reducible rfl
    case qzz37 => exact fun _ _ _ h => h
    case szz37 => first | assumption | trivial
    case' rzz37 => simp only [Act.put, List.setIfInBounds_toArray, List.set_cons_zero, List.set_cons_succ]
    refine wpAnyH_ready (rs := [2, 7]) (by kernel_rfl) (by simp) ?_
    refine AllReadyH.cons (o := ?ozz59) ?hzz59 (fun K hK => ?kzz59) ?mzz59
    case hzz59 => simp only [List.getElem?_toArray, List.getElem?_cons_zero, List.getElem?_cons_succ]; rfl
    case kzz59 =>
      go_simp
      refine (KN.out _).mono ?_
      rintro e v11 ⟨rfl, qv11⟩
      go_wp2_with fail
      refine hK.out _ _ ?Szz59 (fun hHeld => ?Rzz59)
      case Szz59 =>
        exact ⟨box_ qv11 hHeld.1, box_ qv11 hHeld.2.1, box_ qv11 hHeld.2.2.1, box_ qv11 hHeld.2.2.2⟩
      case Rzz59 =>
        clear hK K
        try simp only [Act.put, List.setIfInBounds_toArray, List.set_cons_zero, List.set_cons_succ]
        refine wpAnyH_ready (rs := [3, 7]) (by kernel_rfl) (by simp) ?_
        refine AllReadyH.cons (o := ?ozz50) ?hzz50 (fun K hK => ?kzz50) ?mzz50
        case hzz50 => simp only [List.getElem?_toArray, List.getElem?_cons_zero, List.getElem?_cons_succ]; rfl
        case kzz50 =>
          go_simp
          refine (KS.out _ (DW.out.q ((Q.refl W).drew.trans qv11))).mono ?_
          rintro e v12 ⟨A5, n5, c5, rfl, hd5, hf5, qv12⟩
          go_wp2_with fail
          refine hK.out _ _ ?Szz50 (fun hHeld => ?Rzz50)
          case Szz50 =>
            exact ⟨box_ qv12 hHeld.1, box_ qv12 hHeld.2.1, box_ qv12 hHeld.2.2.1, box_ qv12 hHeld.2.2.2⟩
          case Rzz50 =>
            clear hK K
            try simp only [Act.put, List.setIfInBounds_toArray, List.set_cons_zero, List.set_cons_succ]
            have hC := hHeld
            refine wpAnyH_take (i := 4) (oi := ?ozz38) (v := ?vzz38) ?hzz38 ?azz38 ?bzz38 ?czz38 ?qzz38 ?yzz38 ?szz38 ?rzz38
            case hzz38 => simp only [List.getElem?_toArray, List.getElem?_cons_zero, List.getElem?_cons_succ]; rfl
            case azz38 => kernel_rfl
            case bzz38 => kernel_rfl
            case czz38 => kernel_rfl
            case yzz38 =>
              refine Or.inl ⟨by rfl, ?_⟩
              intro w hSw
              skip
              go_simp
              try with_reducible rfl
            case qzz38 => exact fun _ _ _ h => h
            case szz38 => first | assumption | trivial
            case' rzz38 => simp only [Act.put, List.setIfInBounds_toArray, List.set_cons_zero, List.set_cons_succ]
            refine wpAnyH_take (i := 5) (oi := ?ozz39) (v := ?vzz39) ?hzz39 ?azz39 ?bzz39 ?czz39 ?qzz39 ?yzz39 ?szz39 ?rzz39
            case hzz39 => simp only [List.getElem?_toArray, List.getElem?_cons_zero, List.getElem?_cons_succ]; rfl
            case azz39 => kernel_rfl
            case bzz39 => kernel_rfl
            case czz39 => kernel_rfl
            case yzz39 =>
              refine Or.inl ⟨by rfl, ?_⟩
              intro w hSw
              skip
              go_simp
              try with_reducible rfl
            case qzz39 => exact fun _ _ _ h => h
            case szz39 => first | assumption | trivial
            case' rzz39 => simp only [Act.put, List.setIfInBounds_toArray, List.set_cons_zero, List.set_cons_succ]
            refine wpAnyH_take (i := 6) (oi := ?ozz40) (v := ?vzz40) ?hzz40 ?azz40 ?bzz40 ?czz40 ?qzz40 ?yzz40 ?szz40 ?rzz40
            case hzz40 => simp only [List.getElem?_toArray, List.getElem?_cons_zero, List.getElem?_cons_succ]; rfl
            case azz40 => kernel_rfl
            case bzz40 => kernel_rfl
            case czz40 => kernel_rfl
            case yzz40 =>
              refine Or.inl ⟨by rfl, ?_⟩
              intro w hSw
              skip
              go_simp
              try with_reducible rfl
            case qzz40 => exact fun _ _ _ h => h
            case szz40 => first | assumption | trivial
            case' rzz40 => simp only [Act.put, List.setIfInBounds_toArray, List.set_cons_zero, List.set_cons_succ]
            refine wpAnyH_ready (rs := [7]) (by kernel_rfl) (by simp) ?_
            refine AllReadyH.cons (o := ?ozz43) ?hzz43 (fun K hK => ?kzz43) ?mzz43
            case hzz43 => simp only [List.getElem?_toArray, List.getElem?_cons_zero, List.getElem?_cons_succ]; rfl
            case kzz43 =>
              go_simp
              refine hK.out _ _ ?Szz43 (fun hHeld => ?Rzz43)
              case Szz43 =>
                exact ⟨box_ ((Q.refl _).alloc _) hC.1, box_ ((Q.refl _).alloc _) hC.2.1, box_ ((Q.refl _).alloc _) hC.2.2.1, box_ ((Q.refl _).alloc _) hC.2.2.2⟩
              case Rzz43 =>
                clear hK K
                try simp only [Act.put, List.setIfInBounds_toArray, List.set_cons_zero, List.set_cons_succ]
                refine wpAnyH_ready (rs := [8]) (by kernel_rfl) (by simp) ?_
                refine AllReadyH.cons (o := ?ozz42) ?hzz42 (fun K hK => ?kzz42) ?mzz42
                case hzz42 => simp only [List.getElem?_toArray, List.getElem?_cons_zero, List.getElem?_cons_succ]; rfl
                case kzz42 =>
                  go_simp
                  refine hK.out _ _ ?Szz42 (fun hHeld => ?Rzz42)
                  case Szz42 =>
                    exact ⟨box_ ((Q.refl _).alloc _) hC.1, box_ ((Q.refl _).alloc _) hC.2.1, box_ ((Q.refl _).alloc _) hC.2.2.1, box_ ((Q.refl _).alloc _) hC.2.2.2⟩
                  case Rzz42 =>
                    clear hK K
                    try simp only [Act.put, List.setIfInBounds_toArray, List.set_cons_zero, List.set_cons_succ]
                    refine wpAnyH_take (i := 9) (oi := ?ozz41) (v := ?vzz41) ?hzz41 ?azz41 ?bzz41 ?czz41 ?qzz41 ?yzz41 ?szz41 ?rzz41
                    case hzz41 => simp only [List.getElem?_toArray, List.getElem?_cons_zero, List.getElem?_cons_succ]; rfl
                    case azz41 => kernel_rfl
                    case bzz41 => kernel_rfl
                    case czz41 => kernel_rfl
                    case yzz41 =>
                      refine Or.inl ⟨by rfl, ?_⟩
                      intro w hSw
                      skip
                      go_simp
                      try with_reducible rfl
                    case qzz41 => exact fun _ _ _ h => h
                    case szz41 => first | assumption | trivial
                    case' rzz41 => simp only [Act.put, List.setIfInBounds_toArray, List.set_cons_zero, List.set_cons_succ]
                    refine wpAnyH_done (by kernel_rfl) ?_ _
                    go_wp2_with fail
                    go_meet
                    exact leaf4c ((Q.refl W).drew.trans qv11) qv12 hd5 hf5
                case' mzz42 => skip
                exact AllReadyH.nil
            case' mzz43 => skip
            exact AllReadyH.nil
        case' mzz50 => skip
        refine AllReadyH.cons (o := ?ozz51) ?hzz51 (fun K hK => ?kzz51) ?mzz51
        case hzz51 => simp only [List.getElem?_toArray, List.getElem?_cons_zero, List.getElem?_cons_succ]; rfl
        case kzz51 =>
          go_simp
          refine hK.out _ _ ?Szz51 (fun hHeld => ?Rzz51)
          case Szz51 =>
            exact ⟨box_ ((Q.refl _).alloc _) hHeld.1, box_ ((Q.refl _).alloc _) hHeld.2.1, box_ ((Q.refl _).alloc _) hHeld.2.2.1, box_ ((Q.refl _).alloc _) hHeld.2.2.2⟩
          case Rzz51 =>
            clear hK K
            try simp only [Act.put, List.setIfInBounds_toArray, List.set_cons_zero, List.set_cons_succ]
            refine wpAnyH_ready (rs := [3]) (by kernel_rfl) (by simp) ?_
            refine AllReadyH.cons (o := ?ozz49) ?hzz49 (fun K hK => ?kzz49) ?mzz49
            case hzz49 => simp only [List.getElem?_toArray, List.getElem?_cons_zero, List.getElem?_cons_succ]; rfl
            case kzz49 =>
              go_simp
              refine (KS.out _ (DW.out.q (((Q.refl W).drew.trans qv11).alloc _))).mono ?_
              rintro e v13 ⟨A5, n5, c5, rfl, hd5, hf5, qv13⟩
              have BX2 : Bx _ v11.heap.size [.slice none 0 0, .int .i64 0, .int .i64 0, .bool false] := (Bx.new v11 [.slice none 0 0, .int .i64 0, .int .i64 0, .bool false] 24)
              obtain ⟨⟨b0, b1, b2, b3⟩, y0, y1, y2, y3⟩ := (BX2.q qv13).get4
              go_wp2_with fail
              refine hK.out _ _ ?Szz49 (fun hHeld => ?Rzz49)
              case Szz49 =>
                exact ⟨box_ qv13 hHeld.1, box_ qv13 hHeld.2.1, box_ qv13 hHeld.2.2.1, box_ qv13 hHeld.2.2.2⟩
              case Rzz49 =>
                clear hK K
                try simp only [Act.put, List.setIfInBounds_toArray, List.set_cons_zero, List.set_cons_succ]
                refine wpAnyH_take (i := 4) (oi := ?ozz44) (v := ?vzz44) ?hzz44 ?azz44 ?bzz44 ?czz44 ?qzz44 ?yzz44 ?szz44 ?rzz44
                case hzz44 => simp only [List.getElem?_toArray, List.getElem?_cons_zero, List.getElem?_cons_succ]; rfl
                case azz44 => kernel_rfl
                case bzz44 => kernel_rfl
                case czz44 => kernel_rfl
                case yzz44 =>
                  refine Or.inl ⟨by rfl, ?_⟩
                  intro w hSw
                  skip
                  go_simp
                  try with_reducible rfl
                case qzz44 => exact fun _ _ _ h => h
                case szz44 => first | assumption | trivial
                case' rzz44 => simp only [Act.put, List.setIfInBounds_toArray, List.set_cons_zero, List.set_cons_succ]
                refine wpAnyH_take (i := 5) (oi := ?ozz45) (v := ?vzz45) ?hzz45 ?azz45 ?bzz45 ?czz45 ?qzz45 ?yzz45 ?szz45 ?rzz45
                case hzz45 => simp only [List.getElem?_toArray, List.getElem?_cons_zero, List.getElem?_cons_succ]; rfl
                case azz45 => kernel_rfl
                case bzz45 => kernel_rfl
                case czz45 => kernel_rfl
                case yzz45 =>
                  refine Or.inl ⟨by rfl, ?_⟩
                  intro w hSw
                  skip
                  go_simp
                  try with_reducible rfl
                case qzz45 => exact fun _ _ _ h => h
                case szz45 => first | assumption | trivial
                case' rzz45 => simp only [Act.put, List.setIfInBounds_toArray, List.set_cons_zero, List.set_cons_succ]
                refine wpAnyH_take (i := 6) (oi := ?ozz46) (v := ?vzz46) ?hzz46 ?azz46 ?bzz46 ?czz46 ?qzz46 ?yzz46 ?szz46 ?rzz46
                case hzz46 => simp only [List.getElem?_toArray, List.getElem?_cons_zero, List.getElem?_cons_succ]; rfl
                case azz46 => kernel_rfl
                case bzz46 => kernel_rfl
                case czz46 => kernel_rfl
                case yzz46 =>
                  refine Or.inl ⟨by rfl, ?_⟩
                  intro w hSw
                  skip
                  go_simp
                  try with_reducible rfl
                case qzz46 => exact fun _ _ _ h => h
                case szz46 => first | assumption | trivial
                case' rzz46 => simp only [Act.put, List.setIfInBounds_toArray, List.set_cons_zero, List.set_cons_succ]
                have z2 : w.heap.size ≠ v11.heap.size := by have h1 := ((Q.refl W).drew.trans qv11).size; have h2 := Y.out.res.lt; omega
                refine wpAnyH_ready (rs := [8]) (by kernel_rfl) (by simp) ?_
                refine AllReadyH.cons (o := ?ozz48) ?hzz48 (fun K hK => ?kzz48) ?mzz48
                case hzz48 => simp only [List.getElem?_toArray, List.getElem?_cons_zero, List.getElem?_cons_succ]; rfl
                case kzz48 =>
                  go_simp
                  refine hK.out _ _ ?Szz48 (fun hHeld => ?Rzz48)
                  case Szz48 =>
                    exact far4_ (fun e => z2 e) hHeld
                  case Rzz48 =>
                    clear hK K
                    try simp only [Act.put, List.setIfInBounds_toArray, List.set_cons_zero, List.set_cons_succ]
                    refine wpAnyH_take (i := 9) (oi := ?ozz47) (v := ?vzz47) ?hzz47 ?azz47 ?bzz47 ?czz47 ?qzz47 ?yzz47 ?szz47 ?rzz47
                    case hzz47 => simp only [List.getElem?_toArray, List.getElem?_cons_zero, List.getElem?_cons_succ]; rfl
                    case azz47 => kernel_rfl
                    case bzz47 => kernel_rfl
                    case czz47 => kernel_rfl
                    case yzz47 =>
                      refine Or.inl ⟨by rfl, ?_⟩
                      intro w hSw
                      skip
                      go_simp
                      try with_reducible rfl
                    case qzz47 => exact fun _ _ _ h => h
                    case szz47 => first | assumption | trivial
                    case' rzz47 => simp only [Act.put, List.setIfInBounds_toArray, List.set_cons_zero, List.set_cons_succ]
                    refine wpAnyH_done (by kernel_rfl) ?_ _
                    go_wp2_with fail
                    go_meet
                    exact leaf4b (BX2) (by have h1 := ((Q.refl W).drew.trans qv11).size; exact h1) DW.out (((Q.refl W).drew.trans qv11).alloc _) qv13 hd5 hf5
                case' mzz48 => skip
                exact AllReadyH.nil
            case' mzz49 => skip
            exact AllReadyH.nil
        case' mzz51 => skip
        exact AllReadyH.nil
    case' mzz59 => skip
    refine AllReadyH.cons (o := ?ozz60) ?hzz60 (fun K hK => ?kzz60) ?mzz60
    case hzz60 => simp only [List.getElem?_toArray, List.getElem?_cons_zero, List.getElem?_cons_succ]; rfl
    case kzz60 =>
      go_simp
      refine hK.out _ _ ?Szz60 (fun hHeld => ?Rzz60)
      case Szz60 =>
        exact ⟨box_ ((Q.refl _).alloc _) hHeld.1, box_ ((Q.refl _).alloc _) hHeld.2.1, box_ ((Q.refl _).alloc _) hHeld.2.2.1, box_ ((Q.refl _).alloc _) hHeld.2.2.2⟩
      case Rzz60 =>
        clear hK K
        try simp only [Act.put, List.setIfInBounds_toArray, List.set_cons_zero, List.set_cons_succ]
        refine wpAnyH_ready (rs := [2]) (by kernel_rfl) (by simp) ?_
        refine AllReadyH.cons (o := ?ozz58) ?hzz58 (fun K hK => ?kzz58) ?mzz58
        case hzz58 => simp only [List.getElem?_toArray, List.getElem?_cons_zero, List.getElem?_cons_succ]; rfl
        case kzz58 =>
          go_simp
          refine (KN.out _).mono ?_
          rintro e v14 ⟨rfl, qv14⟩
          go_wp2_with fail
          refine hK.out _ _ ?Szz58 (fun hHeld => ?Rzz58)
          case Szz58 =>
            exact ⟨box_ qv14 hHeld.1, box_ qv14 hHeld.2.1, box_ qv14 hHeld.2.2.1, box_ qv14 hHeld.2.2.2⟩
          case Rzz58 =>
            clear hK K
            try simp only [Act.put, List.setIfInBounds_toArray, List.set_cons_zero, List.set_cons_succ]
            refine wpAnyH_ready (rs := [3]) (by kernel_rfl) (by simp) ?_
            refine AllReadyH.cons (o := ?ozz57) ?hzz57 (fun K hK => ?kzz57) ?mzz57
            case hzz57 => simp only [List.getElem?_toArray, List.getElem?_cons_zero, List.getElem?_cons_succ]; rfl
            case kzz57 =>
              go_simp
              refine (KS.out _ (DW.out.q (((Q.refl W).drew.alloc _).trans qv14))).mono ?_
              rintro e v15 ⟨A5, n5, c5, rfl, hd5, hf5, qv15⟩
              have BX2 : Bx _ W.heap.size [.slice none 0 0, .int .i64 0, .int .i64 0, .bool false] := ((Bx.new W.drew [.slice none 0 0, .int .i64 0, .int .i64 0, .bool false] 24).q qv14)
              obtain ⟨⟨b0, b1, b2, b3⟩, y0, y1, y2, y3⟩ := (BX2.q qv15).get4
              go_wp2_with fail
              refine hK.out _ _ ?Szz57 (fun hHeld => ?Rzz57)
              case Szz57 =>
                exact ⟨box_ qv15 hHeld.1, box_ qv15 hHeld.2.1, box_ qv15 hHeld.2.2.1, box_ qv15 hHeld.2.2.2⟩
              case Rzz57 =>
                clear hK K
                try simp only [Act.put, List.setIfInBounds_toArray, List.set_cons_zero, List.set_cons_succ]
                refine wpAnyH_take (i := 4) (oi := ?ozz52) (v := ?vzz52) ?hzz52 ?azz52 ?bzz52 ?czz52 ?qzz52 ?yzz52 ?szz52 ?rzz52
                case hzz52 => simp only [List.getElem?_toArray, List.getElem?_cons_zero, List.getElem?_cons_succ]; rfl
                case azz52 => kernel_rfl
                case bzz52 => kernel_rfl
                case czz52 => kernel_rfl
                case yzz52 =>
                  refine Or.inl ⟨by rfl, ?_⟩
                  intro w hSw
                  skip
                  go_simp
                  try with_reducible rfl
                case qzz52 => exact fun _ _ _ h => h
                case szz52 => first | assumption | trivial
                case' rzz52 => simp only [Act.put, List.setIfInBounds_toArray, List.set_cons_zero, List.set_cons_succ]
                refine wpAnyH_take (i := 5) (oi := ?ozz53) (v := ?vzz53) ?hzz53 ?azz53 ?bzz53 ?czz53 ?qzz53 ?yzz53 ?szz53 ?rzz53
                case hzz53 => simp only [List.getElem?_toArray, List.getElem?_cons_zero, List.getElem?_cons_succ]; rfl
                case azz53 => kernel_rfl
                case bzz53 => kernel_rfl
                case czz53 => kernel_rfl
                case yzz53 =>
                  refine Or.inl ⟨by rfl, ?_⟩
                  intro w hSw
                  skip
                  go_simp
                  try with_reducible rfl
                case qzz53 => exact fun _ _ _ h => h
                case szz53 => first | assumption | trivial
                case' rzz53 => simp only [Act.put, List.setIfInBounds_toArray, List.set_cons_zero, List.set_cons_succ]
                refine wpAnyH_take (i := 6) (oi := ?ozz54) (v := ?vzz54) ?hzz54 ?azz54 ?bzz54 ?czz54 ?qzz54 ?yzz54 ?szz54 ?rzz54
                case hzz54 => simp only [List.getElem?_toArray, List.getElem?_cons_zero, List.getElem?_cons_succ]; rfl
                case azz54 => kernel_rfl
                case bzz54 => kernel_rfl
                case czz54 => kernel_rfl
                case yzz54 =>
                  refine Or.inl ⟨by rfl, ?_⟩
                  intro w hSw
                  skip
                  go_simp
                  try with_reducible rfl
                case qzz54 => exact fun _ _ _ h => h
                case szz54 => first | assumption | trivial
                case' rzz54 => simp only [Act.put, List.setIfInBounds_toArray, List.set_cons_zero, List.set_cons_succ]
                have z2 : w.heap.size ≠ W.heap.size := by have h1 := (Q.refl W).drew.size; have h2 := Y.out.res.lt; omega
                refine wpAnyH_ready (rs := [8]) (by kernel_rfl) (by simp) ?_
                refine AllReadyH.cons (o := ?ozz56) ?hzz56 (fun K hK => ?kzz56) ?mzz56
                case hzz56 => simp only [List.getElem?_toArray, List.getElem?_cons_zero, List.getElem?_cons_succ]; rfl
                case kzz56 =>
                  go_simp
                  refine hK.out _ _ ?Szz56 (fun hHeld => ?Rzz56)
                  case Szz56 =>
                    exact far4_ (fun e => z2 e) hHeld
                  case Rzz56 =>
                    clear hK K
                    try simp only [Act.put, List.setIfInBounds_toArray, List.set_cons_zero, List.set_cons_succ]
                    refine wpAnyH_take (i := 9) (oi := ?ozz55) (v := ?vzz55) ?hzz55 ?azz55 ?bzz55 ?czz55 ?qzz55 ?yzz55 ?szz55 ?rzz55
                    case hzz55 => simp only [List.getElem?_toArray, List.getElem?_cons_zero, List.getElem?_cons_succ]; rfl
                    case azz55 => kernel_rfl
                    case bzz55 => kernel_rfl
                    case czz55 => kernel_rfl
                    case yzz55 =>
                      refine Or.inl ⟨by rfl, ?_⟩
                      intro w hSw
                      skip
                      go_simp
                      try with_reducible rfl
                    case qzz55 => exact fun _ _ _ h => h
                    case szz55 => first | assumption | trivial
                    case' rzz55 => simp only [Act.put, List.setIfInBounds_toArray, List.set_cons_zero, List.set_cons_succ]
                    refine wpAnyH_done (by kernel_rfl) ?_ _
                    go_wp2_with fail
                    go_meet
                    exact leaf4b (BX2) (by have h1 := (Q.refl W).drew.size; exact h1) DW.out (((Q.refl W).drew.alloc _).trans qv14) qv15 hd5 hf5
                case' mzz56 => skip
                exact AllReadyH.nil
            case' mzz57 => skip
            exact AllReadyH.nil
        case' mzz58 => skip
        exact AllReadyH.nil
    case' mzz60 => skip
    exact AllReadyH.nil
  case rest =>
    obtain ⟨g, A5, n5, c5, rfl, rfl, hg, vg, hf, qx⟩ := hcut
    have VG := Lib.hid vg
    have ZZ := Lib.hid (And.intro hf qx)
    have Y5 := Lib.hid (Y.out.step qx)
    have hgz := hg
    clear hg vg hf qx e0 e1 e2 e3 f0 f1 f2' f3 KS KR
    obtain ⟨⟨g0, g1, g2, g3⟩, _⟩ := VG.out.get
    obtain ⟨⟨s0, s1, s2, s3⟩, h0, h1, h2, h3⟩ := Y5.out.getR
    clear KN
    go_wp2
    refine bodyPost_ret (v := .tuple #[dkv A5 n5 c5 r.1.room r.1.fuse r.1.off, .int .i64 seg, .int .i64 r.2]) (by simp [results, Tryd.results7, go_sem, s0, s1, s2, s3]) rfl ?_
    exact Y.out.endV ZZ.out.2 HD.out (d := r.1) VG.out.dsk ZZ.out.1 [.int .i64 seg, .int .i64 r.2] _ _ _ _

set_option maxHeartbeats 8000000 in
theorem refPut_full (seg : Int) (rec : ByteArray) (A : Option Addr) (n c : Nat) (d : Dk) (w : World) (hd : Dsk w A n c d.fs) (hB : Bnd 2305843009213693952 d) (h1 : segOk seg) (h2 : rec.size ≤ 2048) (h3 : 256 ≤ (redd (namB seg) d.fs).1.size) (he : (syn d (namB seg)).2 = 0) (hf : seg = 1000000) :
    Calls Tryd.prog 7 #[dkv A n c d.room d.fuse d.off, .int .i64 seg, .string rec] w fun e w' => RetV w A n (syn d (namB seg)).1 [.int .i64 seg, .int .i64 5] e w' := by
  obtain ⟨l, room, fuse, off⟩ := d
  have HD := Lib.hid hd
  have HN := Lib.hid hd.max
  have hmx : ∀ f ∈ l, f.sf.size + f.wt.size ≤ maxLen := fun f hf => Nat.le_trans (hB.sum f hf) (by unfold maxLen; omega)
  have hBs := hB.syn (namB seg)
  have r0 := h1.1
  have r1 := h1.2
  have KS := Lib.hid (fun w hd => ref_sync_any (namB seg) A n c ⟨l, room, fuse, off⟩ w hd hmx)
  have KR := Lib.hid (fun w hf => ref_read (namB seg) A n c room fuse off l w hf HN.out hmx)
  have KN := Lib.hid (fun w => refName_any seg w (by omega) (by omega))
  generalize syn ⟨l, room, fuse, off⟩ (namB seg) = r at KS he ⊢
  have b1 : (r.2 != 0) = false := by simpa using he
  have b2 : (seg == 1000000) = true := by simpa using hf
  clear hf he
  have h3' : 256 ≤ (redd (namB seg) l).1.size := h3
  generalize redd (namB seg) l = b at KR h3'
  obtain ⟨b, be⟩ := b
  have t3 : 256 ≤ b.size := h3'
  clear hd hB hmx h1 h3 h3' hBs
  dsimp only at KS KR
  go_enter Tryd.func7, Tryd.ntmps7
  go_upto_region 1 with (fail)
  have X := Lib.hid (Sb.new w A n c room fuse off)
  generalize ((w.alloc (.cells #[.slice A n c, .int .i64 room, .int .i64 fuse, .bool off] 24)).alloc (.cells #[.slice none 0 0, .int .i64 0, .int .i64 0, .bool false] 24)) = w1 at X ⊢
  go_upto_region 5 with (fail)
  obtain ⟨⟨e0, e1, e2, e3⟩, f0, f1, f2', f3⟩ := X.out.get
  go_region_held3 (fun w' => w'.cell? ⟨w.heap.size, 0, none⟩ = some (.slice A n c) ∧ w'.cell? ⟨w.heap.size, 1, none⟩ = some (.int .i64 room) ∧ w'.cell? ⟨w.heap.size, 2, none⟩ = some (.int .i64 fuse) ∧ w'.cell? ⟨w.heap.size, 3, none⟩ = some (.bool off))
    (first
      | go_keep
      | (go_split_ands
         (repeat' apply And.intro) <;> exact box_ ‹Q _ _› (by assumption)))
    (first
      | (go_at_call 25
         (with_reducible refine (KN.out _).mono ?_)
         rintro e w2 ⟨rfl, q2⟩)
      | (go_at_call 24
         (with_reducible refine (KR.out _ (HD.out.files.q (X.out.q.trans ((Q.refl w1).drew.trans q2)))).mono ?_)
         rintro e w3 ⟨rfl, q3⟩))
  have Y := Lib.hid (X.out.step (((Q.refl w1).drew.trans q2).trans q3))
  clear X q2 q3 e0 e1 e2 e3 f0 f1 f2' f3
  generalize w3 = W at Y ⊢
  have DW := Lib.hid (HD.out.q Y.out.q)
  obtain ⟨⟨e0, e1, e2, e3⟩, f0, f1, f2', f3⟩ := Y.out.get
  go_upto_region 7 with (fail)
  go_cut [11, 12] (fun s11 s12 wx => Cu4 W A n r.1 r.2 s11 s12 wx)
  case first =>
    refine wp_region_held_drew (S := fun w' => w'.cell? ⟨w.heap.size, 0, none⟩ = some (.slice A n c) ∧ w'.cell? ⟨w.heap.size, 1, none⟩ = some (.int .i64 room) ∧ w'.cell? ⟨w.heap.size, 2, none⟩ = some (.int .i64 fuse) ∧ w'.cell? ⟨w.heap.size, 3, none⟩ = some (.bool off)) (by kernel_rfl) ?_ (fun hHeld => ?_)
    · exact ⟨e0, e1, e2, e3⟩
    refine wpAnyH_take (i := 0) (oi := ?ozz36) (v := ?vzz36) ?hzz36 ?azz36 ?bzz36 ?czz36 ?qzz36 ?yzz36 ?szz36 ?rzz36
    case hzz36 => simp only [List.getElem?_toArray, List.getElem?_cons_zero]; rfl
    case azz36 => kernel_rfl
    case bzz36 => kernel_rfl
    case czz36 => kernel_rfl
    case yzz36 =>
      refine Or.inl ⟨by rfl, ?_⟩
      intro w hSw
      obtain ⟨s0, s1, s2, s3⟩ := hSw
      go_simp
      try with_reducible rfl
    case qzz36 => exact fun _ _ _ h => h
    case szz36 => first | assumption | trivial
    case' rzz36 => simp only [Act.put, List.setIfInBounds_toArray, List.set_cons_zero, List.set_cons_succ]
    refine wpAnyH_take (i := 1) (oi := ?ozz37) (v := ?vzz37) ?hzz37 ?azz37 ?bzz37 ?czz37 ?qzz37 ?yzz37 ?szz37 ?rzz37
    case hzz37 => simp only [List.getElem?_toArray, List.getElem?_cons_zero, List.getElem?_cons_succ]; rfl
    case azz37 => kernel_rfl
    case bzz37 => kernel_rfl
    case czz37 => kernel_rfl
    case yzz37 =>
      refine Or.inl ⟨by rfl, ?_⟩
      intro w hSw
      skip
      go_simp
      try with_reducible rfl
    case qzz37 => exact fun _ _ _ h => h
    case szz37 => first | assumption | trivial
    case' rzz37 => simp only [Act.put, List.setIfInBounds_toArray, List.set_cons_zero, List.set_cons_succ]
    refine wpAnyH_ready (rs := [2, 7]) (by kernel_rfl) (by simp) ?_
    refine AllReadyH.cons (o := ?ozz59) ?hzz59 (fun K hK => ?kzz59) ?mzz59
    case hzz59 => simp only [List.getElem?_toArray, List.getElem?_cons_zero, List.getElem?_cons_succ]; rfl
    case kzz59 =>
      go_simp
      refine (KN.out _).mono ?_
      rintro e v11 ⟨rfl, qv11⟩
      go_wp2_with fail
      refine hK.out _ _ ?Szz59 (fun hHeld => ?Rzz59)
      case Szz59 =>
        exact ⟨box_ qv11 hHeld.1, box_ qv11 hHeld.2.1, box_ qv11 hHeld.2.2.1, box_ qv11 hHeld.2.2.2⟩
      case Rzz59 =>
        clear hK K
        try simp only [Act.put, List.setIfInBounds_toArray, List.set_cons_zero, List.set_cons_succ]
        refine wpAnyH_ready (rs := [3, 7]) (by kernel_rfl) (by simp) ?_
        refine AllReadyH.cons (o := ?ozz50) ?hzz50 (fun K hK => ?kzz50) ?mzz50
        case hzz50 => simp only [List.getElem?_toArray, List.getElem?_cons_zero, List.getElem?_cons_succ]; rfl
        case kzz50 =>
          go_simp
          refine (KS.out _ (DW.out.q ((Q.refl W).drew.trans qv11))).mono ?_
          rintro e v12 ⟨A5, n5, c5, rfl, hd5, hf5, qv12⟩
          go_wp2_with fail
          refine hK.out _ _ ?Szz50 (fun hHeld => ?Rzz50)
          case Szz50 =>
            exact ⟨box_ qv12 hHeld.1, box_ qv12 hHeld.2.1, box_ qv12 hHeld.2.2.1, box_ qv12 hHeld.2.2.2⟩
          case Rzz50 =>
            clear hK K
            try simp only [Act.put, List.setIfInBounds_toArray, List.set_cons_zero, List.set_cons_succ]
            have hC := hHeld
            refine wpAnyH_take (i := 4) (oi := ?ozz38) (v := ?vzz38) ?hzz38 ?azz38 ?bzz38 ?czz38 ?qzz38 ?yzz38 ?szz38 ?rzz38
            case hzz38 => simp only [List.getElem?_toArray, List.getElem?_cons_zero, List.getElem?_cons_succ]; rfl
            case azz38 => kernel_rfl
            case bzz38 => kernel_rfl
            case czz38 => kernel_rfl
            case yzz38 =>
              refine Or.inl ⟨by rfl, ?_⟩
              intro w hSw
              skip
              go_simp
              try with_reducible rfl
            case qzz38 => exact fun _ _ _ h => h
            case szz38 => first | assumption | trivial
            case' rzz38 => simp only [Act.put, List.setIfInBounds_toArray, List.set_cons_zero, List.set_cons_succ]
            refine wpAnyH_take (i := 5) (oi := ?ozz39) (v := ?vzz39) ?hzz39 ?azz39 ?bzz39 ?czz39 ?qzz39 ?yzz39 ?szz39 ?rzz39
            case hzz39 => simp only [List.getElem?_toArray, List.getElem?_cons_zero, List.getElem?_cons_succ]; rfl
            case azz39 => kernel_rfl
            case bzz39 => kernel_rfl
            case czz39 => kernel_rfl
            case yzz39 =>
              refine Or.inl ⟨by rfl, ?_⟩
              intro w hSw
              skip
              go_simp
              try with_reducible rfl
            case qzz39 => exact fun _ _ _ h => h
            case szz39 => first | assumption | trivial
            case' rzz39 => simp only [Act.put, List.setIfInBounds_toArray, List.set_cons_zero, List.set_cons_succ]
            refine wpAnyH_take (i := 6) (oi := ?ozz40) (v := ?vzz40) ?hzz40 ?azz40 ?bzz40 ?czz40 ?qzz40 ?yzz40 ?szz40 ?rzz40
            case hzz40 => simp only [List.getElem?_toArray, List.getElem?_cons_zero, List.getElem?_cons_succ]; rfl
            case azz40 => kernel_rfl
            case bzz40 => kernel_rfl
            case czz40 => kernel_rfl
            case yzz40 =>
              refine Or.inl ⟨by rfl, ?_⟩
              intro w hSw
              skip
              go_simp
              try with_reducible rfl
            case qzz40 => exact fun _ _ _ h => h
            case szz40 => first | assumption | trivial
            case' rzz40 => simp only [Act.put, List.setIfInBounds_toArray, List.set_cons_zero, List.set_cons_succ]
            refine wpAnyH_ready (rs := [7]) (by kernel_rfl) (by simp) ?_
            refine AllReadyH.cons (o := ?ozz43) ?hzz43 (fun K hK => ?kzz43) ?mzz43
            case hzz43 => simp only [List.getElem?_toArray, List.getElem?_cons_zero, List.getElem?_cons_succ]; rfl
            case kzz43 =>
              go_simp
              refine hK.out _ _ ?Szz43 (fun hHeld => ?Rzz43)
              case Szz43 =>
                exact ⟨box_ ((Q.refl _).alloc _) hC.1, box_ ((Q.refl _).alloc _) hC.2.1, box_ ((Q.refl _).alloc _) hC.2.2.1, box_ ((Q.refl _).alloc _) hC.2.2.2⟩
              case Rzz43 =>
                clear hK K
                try simp only [Act.put, List.setIfInBounds_toArray, List.set_cons_zero, List.set_cons_succ]
                refine wpAnyH_ready (rs := [8]) (by kernel_rfl) (by simp) ?_
                refine AllReadyH.cons (o := ?ozz42) ?hzz42 (fun K hK => ?kzz42) ?mzz42
                case hzz42 => simp only [List.getElem?_toArray, List.getElem?_cons_zero, List.getElem?_cons_succ]; rfl
                case kzz42 =>
                  go_simp
                  refine hK.out _ _ ?Szz42 (fun hHeld => ?Rzz42)
                  case Szz42 =>
                    exact ⟨box_ ((Q.refl _).alloc _) hC.1, box_ ((Q.refl _).alloc _) hC.2.1, box_ ((Q.refl _).alloc _) hC.2.2.1, box_ ((Q.refl _).alloc _) hC.2.2.2⟩
                  case Rzz42 =>
                    clear hK K
                    try simp only [Act.put, List.setIfInBounds_toArray, List.set_cons_zero, List.set_cons_succ]
                    refine wpAnyH_take (i := 9) (oi := ?ozz41) (v := ?vzz41) ?hzz41 ?azz41 ?bzz41 ?czz41 ?qzz41 ?yzz41 ?szz41 ?rzz41
                    case hzz41 => simp only [List.getElem?_toArray, List.getElem?_cons_zero, List.getElem?_cons_succ]; rfl
                    case azz41 => kernel_rfl
                    case bzz41 => kernel_rfl
                    case czz41 => kernel_rfl
                    case yzz41 =>
                      refine Or.inl ⟨by rfl, ?_⟩
                      intro w hSw
                      skip
                      go_simp
                      try with_reducible rfl
                    case qzz41 => exact fun _ _ _ h => h
                    case szz41 => first | assumption | trivial
                    case' rzz41 => simp only [Act.put, List.setIfInBounds_toArray, List.set_cons_zero, List.set_cons_succ]
                    refine wpAnyH_done (by kernel_rfl) ?_ _
                    go_wp2_with fail
                    go_meet
                    exact leaf4c ((Q.refl W).drew.trans qv11) qv12 hd5 hf5
                case' mzz42 => skip
                exact AllReadyH.nil
            case' mzz43 => skip
            exact AllReadyH.nil
        case' mzz50 => skip
        refine AllReadyH.cons (o := ?ozz51) ?hzz51 (fun K hK => ?kzz51) ?mzz51
        case hzz51 => simp only [List.getElem?_toArray, List.getElem?_cons_zero, List.getElem?_cons_succ]; rfl
        case kzz51 =>
          go_simp
          refine hK.out _ _ ?Szz51 (fun hHeld => ?Rzz51)
          case Szz51 =>
            exact ⟨box_ ((Q.refl _).alloc _) hHeld.1, box_ ((Q.refl _).alloc _) hHeld.2.1, box_ ((Q.refl _).alloc _) hHeld.2.2.1, box_ ((Q.refl _).alloc _) hHeld.2.2.2⟩
          case Rzz51 =>
            clear hK K
            try simp only [Act.put, List.setIfInBounds_toArray, List.set_cons_zero, List.set_cons_succ]
            refine wpAnyH_ready (rs := [3]) (by kernel_rfl) (by simp) ?_
            refine AllReadyH.cons (o := ?ozz49) ?hzz49 (fun K hK => ?kzz49) ?mzz49
            case hzz49 => simp only [List.getElem?_toArray, List.getElem?_cons_zero, List.getElem?_cons_succ]; rfl
            case kzz49 =>
              go_simp
              refine (KS.out _ (DW.out.q (((Q.refl W).drew.trans qv11).alloc _))).mono ?_
              rintro e v13 ⟨A5, n5, c5, rfl, hd5, hf5, qv13⟩
              have BX2 : Bx _ v11.heap.size [.slice none 0 0, .int .i64 0, .int .i64 0, .bool false] := (Bx.new v11 [.slice none 0 0, .int .i64 0, .int .i64 0, .bool false] 24)
              obtain ⟨⟨b0, b1, b2, b3⟩, y0, y1, y2, y3⟩ := (BX2.q qv13).get4
              go_wp2_with fail
              refine hK.out _ _ ?Szz49 (fun hHeld => ?Rzz49)
              case Szz49 =>
                exact ⟨box_ qv13 hHeld.1, box_ qv13 hHeld.2.1, box_ qv13 hHeld.2.2.1, box_ qv13 hHeld.2.2.2⟩
              case Rzz49 =>
                clear hK K
                try simp only [Act.put, List.setIfInBounds_toArray, List.set_cons_zero, List.set_cons_succ]
                refine wpAnyH_take (i := 4) (oi := ?ozz44) (v := ?vzz44) ?hzz44 ?azz44 ?bzz44 ?czz44 ?qzz44 ?yzz44 ?szz44 ?rzz44
                case hzz44 => simp only [List.getElem?_toArray, List.getElem?_cons_zero, List.getElem?_cons_succ]; rfl
                case azz44 => kernel_rfl
                case bzz44 => kernel_rfl
                case czz44 => kernel_rfl
                case yzz44 =>
                  refine Or.inl ⟨by rfl, ?_⟩
                  intro w hSw
                  skip
                  go_simp
                  try with_reducible rfl
                case qzz44 => exact fun _ _ _ h => h
                case szz44 => first | assumption | trivial
                case' rzz44 => simp only [Act.put, List.setIfInBounds_toArray, List.set_cons_zero, List.set_cons_succ]
                refine wpAnyH_take (i := 5) (oi := ?ozz45) (v := ?vzz45) ?hzz45 ?azz45 ?bzz45 ?czz45 ?qzz45 ?yzz45 ?szz45 ?rzz45
                case hzz45 => simp only [List.getElem?_toArray, List.getElem?_cons_zero, List.getElem?_cons_succ]; rfl
                case azz45 => kernel_rfl
                case bzz45 => kernel_rfl
                case czz45 => kernel_rfl
                case yzz45 =>
                  refine Or.inl ⟨by rfl, ?_⟩
                  intro w hSw
                  skip
                  go_simp
                  try with_reducible rfl
                case qzz45 => exact fun _ _ _ h => h
                case szz45 => first | assumption | trivial
                case' rzz45 => simp only [Act.put, List.setIfInBounds_toArray, List.set_cons_zero, List.set_cons_succ]
                refine wpAnyH_take (i := 6) (oi := ?ozz46) (v := ?vzz46) ?hzz46 ?azz46 ?bzz46 ?czz46 ?qzz46 ?yzz46 ?szz46 ?rzz46
                case hzz46 => simp only [List.getElem?_toArray, List.getElem?_cons_zero, List.getElem?_cons_succ]; rfl
                case azz46 => kernel_rfl
                case bzz46 => kernel_rfl
                case czz46 => kernel_rfl
                case yzz46 =>
                  refine Or.inl ⟨by rfl, ?_⟩
                  intro w hSw
                  skip
                  go_simp
                  try with_reducible rfl
                case qzz46 => exact fun _ _ _ h => h
                case szz46 => first | assumption | trivial
                case' rzz46 => simp only [Act.put, List.setIfInBounds_toArray, List.set_cons_zero, List.set_cons_succ]
                have z2 : w.heap.size ≠ v11.heap.size := by have h1 := ((Q.refl W).drew.trans qv11).size; have h2 := Y.out.res.lt; omega
                refine wpAnyH_ready (rs := [8]) (by kernel_rfl) (by simp) ?_
                refine AllReadyH.cons (o := ?ozz48) ?hzz48 (fun K hK => ?kzz48) ?mzz48
                case hzz48 => simp only [List.getElem?_toArray, List.getElem?_cons_zero, List.getElem?_cons_succ]; rfl
                case kzz48 =>
                  go_simp
                  refine hK.out _ _ ?Szz48 (fun hHeld => ?Rzz48)
                  case Szz48 =>
                    exact far4_ (fun e => z2 e) hHeld
                  case Rzz48 =>
                    clear hK K
                    try simp only [Act.put, List.setIfInBounds_toArray, List.set_cons_zero, List.set_cons_succ]
                    refine wpAnyH_take (i := 9) (oi := ?ozz47) (v := ?vzz47) ?hzz47 ?azz47 ?bzz47 ?czz47 ?qzz47 ?yzz47 ?szz47 ?rzz47
                    case hzz47 => simp only [List.getElem?_toArray, List.getElem?_cons_zero, List.getElem?_cons_succ]; rfl
                    case azz47 => kernel_rfl
                    case bzz47 => kernel_rfl
                    case czz47 => kernel_rfl
                    case yzz47 =>
                      refine Or.inl ⟨by rfl, ?_⟩
                      intro w hSw
                      skip
                      go_simp
                      try with_reducible rfl
                    case qzz47 => exact fun _ _ _ h => h
                    case szz47 => first | assumption | trivial
                    case' rzz47 => simp only [Act.put, List.setIfInBounds_toArray, List.set_cons_zero, List.set_cons_succ]
                    refine wpAnyH_done (by kernel_rfl) ?_ _
                    go_wp2_with fail
                    go_meet
                    exact leaf4b (BX2) (by have h1 := ((Q.refl W).drew.trans qv11).size; exact h1) DW.out (((Q.refl W).drew.trans qv11).alloc _) qv13 hd5 hf5
                case' mzz48 => skip
                exact AllReadyH.nil
            case' mzz49 => skip
            exact AllReadyH.nil
        case' mzz51 => skip
        exact AllReadyH.nil
    case' mzz59 => skip
    refine AllReadyH.cons (o := ?ozz60) ?hzz60 (fun K hK => ?kzz60) ?mzz60
    case hzz60 => simp only [List.getElem?_toArray, List.getElem?_cons_zero, List.getElem?_cons_succ]; rfl
    case kzz60 =>
      go_simp
      refine hK.out _ _ ?Szz60 (fun hHeld => ?Rzz60)
      case Szz60 =>
        exact ⟨box_ ((Q.refl _).alloc _) hHeld.1, box_ ((Q.refl _).alloc _) hHeld.2.1, box_ ((Q.refl _).alloc _) hHeld.2.2.1, box_ ((Q.refl _).alloc _) hHeld.2.2.2⟩
      case Rzz60 =>
        clear hK K
        try simp only [Act.put, List.setIfInBounds_toArray, List.set_cons_zero, List.set_cons_succ]
        refine wpAnyH_ready (rs := [2]) (by kernel_rfl) (by simp) ?_
        refine AllReadyH.cons (o := ?ozz58) ?hzz58 (fun K hK => ?kzz58) ?mzz58
        case hzz58 => simp only [List.getElem?_toArray, List.getElem?_cons_zero, List.getElem?_cons_succ]; rfl
        case kzz58 =>
          go_simp
          refine (KN.out _).mono ?_
          rintro e v14 ⟨rfl, qv14⟩
          go_wp2_with fail
          refine hK.out _ _ ?Szz58 (fun hHeld => ?Rzz58)
          case Szz58 =>
            exact ⟨box_ qv14 hHeld.1, box_ qv14 hHeld.2.1, box_ qv14 hHeld.2.2.1, box_ qv14 hHeld.2.2.2⟩
          case Rzz58 =>
            clear hK K
            try simp only [Act.put, List.setIfInBounds_toArray, List.set_cons_zero, List.set_cons_succ]
            refine wpAnyH_ready (rs := [3]) (by kernel_rfl) (by simp) ?_
            refine AllReadyH.cons (o := ?ozz57) ?hzz57 (fun K hK => ?kzz57) ?mzz57
            case hzz57 => simp only [List.getElem?_toArray, List.getElem?_cons_zero, List.getElem?_cons_succ]; rfl
            case kzz57 =>
              go_simp
              refine (KS.out _ (DW.out.q (((Q.refl W).drew.alloc _).trans qv14))).mono ?_
              rintro e v15 ⟨A5, n5, c5, rfl, hd5, hf5, qv15⟩
              have BX2 : Bx _ W.heap.size [.slice none 0 0, .int .i64 0, .int .i64 0, .bool false] := ((Bx.new W.drew [.slice none 0 0, .int .i64 0, .int .i64 0, .bool false] 24).q qv14)
              obtain ⟨⟨b0, b1, b2, b3⟩, y0, y1, y2, y3⟩ := (BX2.q qv15).get4
              go_wp2_with fail
              refine hK.out _ _ ?Szz57 (fun hHeld => ?Rzz57)
              case Szz57 =>
                exact ⟨box_ qv15 hHeld.1, box_ qv15 hHeld.2.1, box_ qv15 hHeld.2.2.1, box_ qv15 hHeld.2.2.2⟩
              case Rzz57 =>
                clear hK K
                try simp only [Act.put, List.setIfInBounds_toArray, List.set_cons_zero, List.set_cons_succ]
                refine wpAnyH_take (i := 4) (oi := ?ozz52) (v := ?vzz52) ?hzz52 ?azz52 ?bzz52 ?czz52 ?qzz52 ?yzz52 ?szz52 ?rzz52
                case hzz52 => simp only [List.getElem?_toArray, List.getElem?_cons_zero, List.getElem?_cons_succ]; rfl
                case azz52 => kernel_rfl
                case bzz52 => kernel_rfl
                case czz52 => kernel_rfl
                case yzz52 =>
                  refine Or.inl ⟨by rfl, ?_⟩
                  intro w hSw
                  skip
                  go_simp
                  try with_reducible rfl
                case qzz52 => exact fun _ _ _ h => h
                case szz52 => first | assumption | trivial
                case' rzz52 => simp only [Act.put, List.setIfInBounds_toArray, List.set_cons_zero, List.set_cons_succ]
                refine wpAnyH_take (i := 5) (oi := ?ozz53) (v := ?vzz53) ?hzz53 ?azz53 ?bzz53 ?czz53 ?qzz53 ?yzz53 ?szz53 ?rzz53
                case hzz53 => simp only [List.getElem?_toArray, List.getElem?_cons_zero, List.getElem?_cons_succ]; rfl
                case azz53 => kernel_rfl
                case bzz53 => kernel_rfl
                case czz53 => kernel_rfl
                case yzz53 =>
                  refine Or.inl ⟨by rfl, ?_⟩
                  intro w hSw
                  skip
                  go_simp
                  try with_reducible rfl
                case qzz53 => exact fun _ _ _ h => h
                case szz53 => first | assumption | trivial
                case' rzz53 => simp only [Act.put, List.setIfInBounds_toArray, List.set_cons_zero, List.set_cons_succ]
                refine wpAnyH_take (i := 6) (oi := ?ozz54) (v := ?vzz54) ?hzz54 ?azz54 ?bzz54 ?czz54 ?qzz54 ?yzz54 ?szz54 ?rzz54
                case hzz54 => simp only [List.getElem?_toArray, List.getElem?_cons_zero, List.getElem?_cons_succ]; rfl
                case azz54 => kernel_rfl
                case bzz54 => kernel_rfl
                case czz54 => kernel_rfl
                case yzz54 =>
                  refine Or.inl ⟨by rfl, ?_⟩
                  intro w hSw
                  skip
                  go_simp
                  try with_reducible rfl
                case qzz54 => exact fun _ _ _ h => h
                case szz54 => first | assumption | trivial
                case' rzz54 => simp only [Act.put, List.setIfInBounds_toArray, List.set_cons_zero, List.set_cons_succ]
                have z2 : w.heap.size ≠ W.heap.size := by have h1 := (Q.refl W).drew.size; have h2 := Y.out.res.lt; omega
                refine wpAnyH_ready (rs := [8]) (by kernel_rfl) (by simp) ?_
                refine AllReadyH.cons (o := ?ozz56) ?hzz56 (fun K hK => ?kzz56) ?mzz56
                case hzz56 => simp only [List.getElem?_toArray, List.getElem?_cons_zero, List.getElem?_cons_succ]; rfl
                case kzz56 =>
                  go_simp
                  refine hK.out _ _ ?Szz56 (fun hHeld => ?Rzz56)
                  case Szz56 =>
                    exact far4_ (fun e => z2 e) hHeld
                  case Rzz56 =>
                    clear hK K
                    try simp only [Act.put, List.setIfInBounds_toArray, List.set_cons_zero, List.set_cons_succ]
                    refine wpAnyH_take (i := 9) (oi := ?ozz55) (v := ?vzz55) ?hzz55 ?azz55 ?bzz55 ?czz55 ?qzz55 ?yzz55 ?szz55 ?rzz55
                    case hzz55 => simp only [List.getElem?_toArray, List.getElem?_cons_zero, List.getElem?_cons_succ]; rfl
                    case azz55 => kernel_rfl
                    case bzz55 => kernel_rfl
                    case czz55 => kernel_rfl
                    case yzz55 =>
                      refine Or.inl ⟨by rfl, ?_⟩
                      intro w hSw
                      skip
                      go_simp
                      try with_reducible rfl
                    case qzz55 => exact fun _ _ _ h => h
                    case szz55 => first | assumption | trivial
                    case' rzz55 => simp only [Act.put, List.setIfInBounds_toArray, List.set_cons_zero, List.set_cons_succ]
                    refine wpAnyH_done (by kernel_rfl) ?_ _
                    go_wp2_with fail
                    go_meet
                    exact leaf4b (BX2) (by have h1 := (Q.refl W).drew.size; exact h1) DW.out (((Q.refl W).drew.alloc _).trans qv14) qv15 hd5 hf5
                case' mzz56 => skip
                exact AllReadyH.nil
            case' mzz57 => skip
            exact AllReadyH.nil
        case' mzz58 => skip
        exact AllReadyH.nil
    case' mzz60 => skip
    exact AllReadyH.nil
  case rest =>
    obtain ⟨g, A5, n5, c5, rfl, rfl, hg, vg, hf, qx⟩ := hcut
    have VG := Lib.hid vg
    have ZZ := Lib.hid (And.intro hf qx)
    have Y5 := Lib.hid (Y.out.step qx)
    have hgz := hg
    clear hg vg hf qx e0 e1 e2 e3 f0 f1 f2' f3 KS KR
    obtain ⟨⟨g0, g1, g2, g3⟩, _⟩ := VG.out.get
    obtain ⟨⟨s0, s1, s2, s3⟩, h0, h1, h2, h3⟩ := Y5.out.getR
    clear KN
    go_wp2
    refine bodyPost_ret (v := .tuple #[dkv A5 n5 c5 r.1.room r.1.fuse r.1.off, .int .i64 seg, .int .i64 5]) (by simp [results, Tryd.results7, go_sem, s0, s1, s2, s3]) rfl ?_
    exact Y.out.endV ZZ.out.2 HD.out (d := r.1) VG.out.dsk ZZ.out.1 [.int .i64 seg, .int .i64 5] _ _ _ _

set_option maxHeartbeats 8000000 in
theorem refPut_next (seg : Int) (rec : ByteArray) (A : Option Addr) (n c : Nat) (d : Dk) (w : World) (hd : Dsk w A n c d.fs) (hB : Bnd 2305843009213693952 d) (h1 : segOk seg) (h2 : rec.size ≤ 2048) (h3 : 256 ≤ (redd (namB seg) d.fs).1.size) (he : (syn d (namB seg)).2 = 0) (hf : ¬ seg = 1000000) :
    Calls Tryd.prog 7 #[dkv A n c d.room d.fuse d.off, .int .i64 seg, .string rec] w fun e w' => RetV w A n (putA (syn d (namB seg)).1 (seg + 1) rec).1 [.int .i64 (seg + 1), .int .i64 (putA (syn d (namB seg)).1 (seg + 1) rec).2.2] e w' := by
  obtain ⟨l, room, fuse, off⟩ := d
  have HD := Lib.hid hd
  have HN := Lib.hid hd.max
  have hmx : ∀ f ∈ l, f.sf.size + f.wt.size ≤ maxLen := fun f hf => Nat.le_trans (hB.sum f hf) (by unfold maxLen; omega)
  have hBs := hB.syn (namB seg)
  have r0 := h1.1
  have r1 := h1.2
  have KS := Lib.hid (fun w hd => ref_sync_any (namB seg) A n c ⟨l, room, fuse, off⟩ w hd hmx)
  have KR := Lib.hid (fun w hf => ref_read (namB seg) A n c room fuse off l w hf HN.out hmx)
  have KN := Lib.hid (fun w => refName_any seg w (by omega) (by omega))
  have hs9 : seg + 1 ≤ 1000000 := by omega
  have b2 : (seg == 1000000) = false := by simpa using hf
  clear hf
  have KN2 := Lib.hid (fun w => refName_any (seg + 1) w (by omega) (by omega))
  have hsb : (sealB rec).size ≤ 2305843009213693952 := by rw [sealB_size]; have := sld_length rec.data.toList (by rw [size_list]; omega); rw [size_list] at this; omega
  have KA2 := Lib.hid (fun (A : Option Addr) (n c : Nat) w hd => ref_append_any (namB (seg + 1)) (sealB rec) A n c (syn ⟨l, room, fuse, off⟩ (namB seg)).1 w hd hBs.sum hsb hBs.room.2 hBs.fuse.2)
  have KL := Lib.hid (fun w => refSeal_any rec w (by omega))
  change Hid (∀ w, Calls _ _ _ w fun e w' => e = .returned (.string (sealB rec)) ∧ Q w w') at KL
  unfold putA
  dsimp only
  generalize syn ⟨l, room, fuse, off⟩ (namB seg) = r at KS he KA2 hBs ⊢
  generalize appd r.1 (namB (seg + 1)) (sealB rec) = r5 at KA2 ⊢
  generalize sealB rec = sr at KA2 KL hsb
  have b1 : (r.2 != 0) = false := by simpa using he
  clear he hsb
  have h3' : 256 ≤ (redd (namB seg) l).1.size := h3
  generalize redd (namB seg) l = b at KR h3'
  obtain ⟨b, be⟩ := b
  have t3 : 256 ≤ b.size := h3'
  clear hd hB hmx h1 h3 h3' hBs
  dsimp only at KS KR
  go_enter Tryd.func7, Tryd.ntmps7
  go_upto_region 1 with (fail)
  have X := Lib.hid (Sb.new w A n c room fuse off)
  generalize ((w.alloc (.cells #[.slice A n c, .int .i64 room, .int .i64 fuse, .bool off] 24)).alloc (.cells #[.slice none 0 0, .int .i64 0, .int .i64 0, .bool false] 24)) = w1 at X ⊢
  go_upto_region 5 with (fail)
  obtain ⟨⟨e0, e1, e2, e3⟩, f0, f1, f2', f3⟩ := X.out.get
  go_region_held3 (fun w' => w'.cell? ⟨w.heap.size, 0, none⟩ = some (.slice A n c) ∧ w'.cell? ⟨w.heap.size, 1, none⟩ = some (.int .i64 room) ∧ w'.cell? ⟨w.heap.size, 2, none⟩ = some (.int .i64 fuse) ∧ w'.cell? ⟨w.heap.size, 3, none⟩ = some (.bool off))
    (first
      | go_keep
      | (go_split_ands
         (repeat' apply And.intro) <;> exact box_ ‹Q _ _› (by assumption)))
    (first
      | (go_at_call 25
         (with_reducible refine (KN.out _).mono ?_)
         rintro e w2 ⟨rfl, q2⟩)
      | (go_at_call 24
         (with_reducible refine (KR.out _ (HD.out.files.q (X.out.q.trans ((Q.refl w1).drew.trans q2)))).mono ?_)
         rintro e w3 ⟨rfl, q3⟩))
  have Y := Lib.hid (X.out.step (((Q.refl w1).drew.trans q2).trans q3))
  clear X q2 q3 e0 e1 e2 e3 f0 f1 f2' f3
  generalize w3 = W at Y ⊢
  have DW := Lib.hid (HD.out.q Y.out.q)
  obtain ⟨⟨e0, e1, e2, e3⟩, f0, f1, f2', f3⟩ := Y.out.get
  go_upto_region 7 with (fail)
  go_cut [11, 12] (fun s11 s12 wx => Cu4 W A n r.1 r.2 s11 s12 wx)
  case first =>
    refine wp_region_held_drew (S := fun w' => w'.cell? ⟨w.heap.size, 0, none⟩ = some (.slice A n c) ∧ w'.cell? ⟨w.heap.size, 1, none⟩ = some (.int .i64 room) ∧ w'.cell? ⟨w.heap.size, 2, none⟩ = some (.int .i64 fuse) ∧ w'.cell? ⟨w.heap.size, 3, none⟩ = some (.bool off)) (by kernel_rfl) ?_ (fun hHeld => ?_)
    · exact ⟨e0, e1, e2, e3⟩
    refine wpAnyH_take (i := 0) (oi := ?ozz36) (v := ?vzz36) ?hzz36 ?azz36 ?bzz36 ?czz36 ?qzz36 ?yzz36 ?szz36 ?rzz36
    case hzz36 => simp only [List.getElem?_toArray, List.getElem?_cons_zero]; rfl
    case azz36 => kernel_rfl
    case bzz36 => kernel_rfl
    case czz36 => kernel_rfl
    case yzz36 =>
      refine Or.inl ⟨by rfl, ?_⟩
      intro w hSw
      obtain ⟨s0, s1, s2, s3⟩ := hSw
      go_simp
      try with_reducible rfl
    case qzz36 => exact fun _ _ _ h => h
    case szz36 => first | assumption | trivial
    case' rzz36 => simp only [Act.put, List.setIfInBounds_toArray, List.set_cons_zero, List.set_cons_succ]
    refine wpAnyH_take (i := 1) (oi := ?ozz37) (v := ?vzz37) ?hzz37 ?azz37 ?bzz37 ?czz37 ?qzz37 ?yzz37 ?szz37 ?rzz37
    case hzz37 => simp only [List.getElem?_toArray, List.getElem?_cons_zero, List.getElem?_cons_succ]; rfl
    case azz37 => kernel_rfl
    case bzz37 => kernel_rfl
    case czz37 => kernel_rfl
    case yzz37 =>
      refine Or.inl ⟨by rfl, ?_⟩
      intro w hSw
      skip
      go_simp
      try with_reducible rfl
    case qzz37 => exact fun _ _ _ h => h
    case szz37 => first | assumption | trivial
    case' rzz37 => simp only [Act.put, List.setIfInBounds_toArray, List.set_cons_zero, List.set_cons_succ]
    refine wpAnyH_ready (rs := [2, 7]) (by kernel_rfl) (by simp) ?_
    refine AllReadyH.cons (o := ?ozz59) ?hzz59 (fun K hK => ?kzz59) ?mzz59
    case hzz59 => simp only [List.getElem?_toArray, List.getElem?_cons_zero, List.getElem?_cons_succ]; rfl
    case kzz59 =>
      go_simp
      refine (KN.out _).mono ?_
      rintro e v11 ⟨rfl, qv11⟩
      go_wp2_with fail
      refine hK.out _ _ ?Szz59 (fun hHeld => ?Rzz59)
      case Szz59 =>
        exact ⟨box_ qv11 hHeld.1, box_ qv11 hHeld.2.1, box_ qv11 hHeld.2.2.1, box_ qv11 hHeld.2.2.2⟩
      case Rzz59 =>
        clear hK K
        try simp only [Act.put, List.setIfInBounds_toArray, List.set_cons_zero, List.set_cons_succ]
        refine wpAnyH_ready (rs := [3, 7]) (by kernel_rfl) (by simp) ?_
        refine AllReadyH.cons (o := ?ozz50) ?hzz50 (fun K hK => ?kzz50) ?mzz50
        case hzz50 => simp only [List.getElem?_toArray, List.getElem?_cons_zero, List.getElem?_cons_succ]; rfl
        case kzz50 =>
          go_simp
          refine (KS.out _ (DW.out.q ((Q.refl W).drew.trans qv11))).mono ?_
          rintro e v12 ⟨A5, n5, c5, rfl, hd5, hf5, qv12⟩
          go_wp2_with fail
          refine hK.out _ _ ?Szz50 (fun hHeld => ?Rzz50)
          case Szz50 =>
            exact ⟨box_ qv12 hHeld.1, box_ qv12 hHeld.2.1, box_ qv12 hHeld.2.2.1, box_ qv12 hHeld.2.2.2⟩
          case Rzz50 =>
            clear hK K
            try simp only [Act.put, List.setIfInBounds_toArray, List.set_cons_zero, List.set_cons_succ]
            have hC := hHeld
            refine wpAnyH_take (i := 4) (oi := ?ozz38) (v := ?vzz38) ?hzz38 ?azz38 ?bzz38 ?czz38 ?qzz38 ?yzz38 ?szz38 ?rzz38
            case hzz38 => simp only [List.getElem?_toArray, List.getElem?_cons_zero, List.getElem?_cons_succ]; rfl
            case azz38 => kernel_rfl
            case bzz38 => kernel_rfl
            case czz38 => kernel_rfl
            case yzz38 =>
              refine Or.inl ⟨by rfl, ?_⟩
              intro w hSw
              skip
              go_simp
              try with_reducible rfl
            case qzz38 => exact fun _ _ _ h => h
            case szz38 => first | assumption | trivial
            case' rzz38 => simp only [Act.put, List.setIfInBounds_toArray, List.set_cons_zero, List.set_cons_succ]
            refine wpAnyH_take (i := 5) (oi := ?ozz39) (v := ?vzz39) ?hzz39 ?azz39 ?bzz39 ?czz39 ?qzz39 ?yzz39 ?szz39 ?rzz39
            case hzz39 => simp only [List.getElem?_toArray, List.getElem?_cons_zero, List.getElem?_cons_succ]; rfl
            case azz39 => kernel_rfl
            case bzz39 => kernel_rfl
            case czz39 => kernel_rfl
            case yzz39 =>
              refine Or.inl ⟨by rfl, ?_⟩
              intro w hSw
              skip
              go_simp
              try with_reducible rfl
            case qzz39 => exact fun _ _ _ h => h
            case szz39 => first | assumption | trivial
            case' rzz39 => simp only [Act.put, List.setIfInBounds_toArray, List.set_cons_zero, List.set_cons_succ]
            refine wpAnyH_take (i := 6) (oi := ?ozz40) (v := ?vzz40) ?hzz40 ?azz40 ?bzz40 ?czz40 ?qzz40 ?yzz40 ?szz40 ?rzz40
            case hzz40 => simp only [List.getElem?_toArray, List.getElem?_cons_zero, List.getElem?_cons_succ]; rfl
            case azz40 => kernel_rfl
            case bzz40 => kernel_rfl
            case czz40 => kernel_rfl
            case yzz40 =>
              refine Or.inl ⟨by rfl, ?_⟩
              intro w hSw
              skip
              go_simp
              try with_reducible rfl
            case qzz40 => exact fun _ _ _ h => h
            case szz40 => first | assumption | trivial
            case' rzz40 => simp only [Act.put, List.setIfInBounds_toArray, List.set_cons_zero, List.set_cons_succ]
            refine wpAnyH_ready (rs := [7]) (by kernel_rfl) (by simp) ?_
            refine AllReadyH.cons (o := ?ozz43) ?hzz43 (fun K hK => ?kzz43) ?mzz43
            case hzz43 => simp only [List.getElem?_toArray, List.getElem?_cons_zero, List.getElem?_cons_succ]; rfl
            case kzz43 =>
              go_simp
              refine hK.out _ _ ?Szz43 (fun hHeld => ?Rzz43)
              case Szz43 =>
                exact ⟨box_ ((Q.refl _).alloc _) hC.1, box_ ((Q.refl _).alloc _) hC.2.1, box_ ((Q.refl _).alloc _) hC.2.2.1, box_ ((Q.refl _).alloc _) hC.2.2.2⟩
              case Rzz43 =>
                clear hK K
                try simp only [Act.put, List.setIfInBounds_toArray, List.set_cons_zero, List.set_cons_succ]
                refine wpAnyH_ready (rs := [8]) (by kernel_rfl) (by simp) ?_
                refine AllReadyH.cons (o := ?ozz42) ?hzz42 (fun K hK => ?kzz42) ?mzz42
                case hzz42 => simp only [List.getElem?_toArray, List.getElem?_cons_zero, List.getElem?_cons_succ]; rfl
                case kzz42 =>
                  go_simp
                  refine hK.out _ _ ?Szz42 (fun hHeld => ?Rzz42)
                  case Szz42 =>
                    exact ⟨box_ ((Q.refl _).alloc _) hC.1, box_ ((Q.refl _).alloc _) hC.2.1, box_ ((Q.refl _).alloc _) hC.2.2.1, box_ ((Q.refl _).alloc _) hC.2.2.2⟩
                  case Rzz42 =>
                    clear hK K
                    try simp only [Act.put, List.setIfInBounds_toArray, List.set_cons_zero, List.set_cons_succ]
                    refine wpAnyH_take (i := 9) (oi := ?ozz41) (v := ?vzz41) ?hzz41 ?azz41 ?bzz41 ?czz41 ?qzz41 ?yzz41 ?szz41 ?rzz41
                    case hzz41 => simp only [List.getElem?_toArray, List.getElem?_cons_zero, List.getElem?_cons_succ]; rfl
                    case azz41 => kernel_rfl
                    case bzz41 => kernel_rfl
                    case czz41 => kernel_rfl
                    case yzz41 =>
                      refine Or.inl ⟨by rfl, ?_⟩
                      intro w hSw
                      skip
                      go_simp
                      try with_reducible rfl
                    case qzz41 => exact fun _ _ _ h => h
                    case szz41 => first | assumption | trivial
                    case' rzz41 => simp only [Act.put, List.setIfInBounds_toArray, List.set_cons_zero, List.set_cons_succ]
                    refine wpAnyH_done (by kernel_rfl) ?_ _
                    go_wp2_with fail
                    go_meet
                    exact leaf4c ((Q.refl W).drew.trans qv11) qv12 hd5 hf5
                case' mzz42 => skip
                exact AllReadyH.nil
            case' mzz43 => skip
            exact AllReadyH.nil
        case' mzz50 => skip
        refine AllReadyH.cons (o := ?ozz51) ?hzz51 (fun K hK => ?kzz51) ?mzz51
        case hzz51 => simp only [List.getElem?_toArray, List.getElem?_cons_zero, List.getElem?_cons_succ]; rfl
        case kzz51 =>
          go_simp
          refine hK.out _ _ ?Szz51 (fun hHeld => ?Rzz51)
          case Szz51 =>
            exact ⟨box_ ((Q.refl _).alloc _) hHeld.1, box_ ((Q.refl _).alloc _) hHeld.2.1, box_ ((Q.refl _).alloc _) hHeld.2.2.1, box_ ((Q.refl _).alloc _) hHeld.2.2.2⟩
          case Rzz51 =>
            clear hK K
            try simp only [Act.put, List.setIfInBounds_toArray, List.set_cons_zero, List.set_cons_succ]
            refine wpAnyH_ready (rs := [3]) (by kernel_rfl) (by simp) ?_
            refine AllReadyH.cons (o := ?ozz49) ?hzz49 (fun K hK => ?kzz49) ?mzz49
            case hzz49 => simp only [List.getElem?_toArray, List.getElem?_cons_zero, List.getElem?_cons_succ]; rfl
            case kzz49 =>
              go_simp
              refine (KS.out _ (DW.out.q (((Q.refl W).drew.trans qv11).alloc _))).mono ?_
              rintro e v13 ⟨A5, n5, c5, rfl, hd5, hf5, qv13⟩
              have BX2 : Bx _ v11.heap.size [.slice none 0 0, .int .i64 0, .int .i64 0, .bool false] := (Bx.new v11 [.slice none 0 0, .int .i64 0, .int .i64 0, .bool false] 24)
              obtain ⟨⟨b0, b1, b2, b3⟩, y0, y1, y2, y3⟩ := (BX2.q qv13).get4
              go_wp2_with fail
              refine hK.out _ _ ?Szz49 (fun hHeld => ?Rzz49)
              case Szz49 =>
                exact ⟨box_ qv13 hHeld.1, box_ qv13 hHeld.2.1, box_ qv13 hHeld.2.2.1, box_ qv13 hHeld.2.2.2⟩
              case Rzz49 =>
                clear hK K
                try simp only [Act.put, List.setIfInBounds_toArray, List.set_cons_zero, List.set_cons_succ]
                refine wpAnyH_take (i := 4) (oi := ?ozz44) (v := ?vzz44) ?hzz44 ?azz44 ?bzz44 ?czz44 ?qzz44 ?yzz44 ?szz44 ?rzz44
                case hzz44 => simp only [List.getElem?_toArray, List.getElem?_cons_zero, List.getElem?_cons_succ]; rfl
                case azz44 => kernel_rfl
                case bzz44 => kernel_rfl
                case czz44 => kernel_rfl
                case yzz44 =>
                  refine Or.inl ⟨by rfl, ?_⟩
                  intro w hSw
                  skip
                  go_simp
                  try with_reducible rfl
                case qzz44 => exact fun _ _ _ h => h
                case szz44 => first | assumption | trivial
                case' rzz44 => simp only [Act.put, List.setIfInBounds_toArray, List.set_cons_zero, List.set_cons_succ]
                refine wpAnyH_take (i := 5) (oi := ?ozz45) (v := ?vzz45) ?hzz45 ?azz45 ?bzz45 ?czz45 ?qzz45 ?yzz45 ?szz45 ?rzz45
                case hzz45 => simp only [List.getElem?_toArray, List.getElem?_cons_zero, List.getElem?_cons_succ]; rfl
                case azz45 => kernel_rfl
                case bzz45 => kernel_rfl
                case czz45 => kernel_rfl
                case yzz45 =>
                  refine Or.inl ⟨by rfl, ?_⟩
                  intro w hSw
                  skip
                  go_simp
                  try with_reducible rfl
                case qzz45 => exact fun _ _ _ h => h
                case szz45 => first | assumption | trivial
                case' rzz45 => simp only [Act.put, List.setIfInBounds_toArray, List.set_cons_zero, List.set_cons_succ]
                refine wpAnyH_take (i := 6) (oi := ?ozz46) (v := ?vzz46) ?hzz46 ?azz46 ?bzz46 ?czz46 ?qzz46 ?yzz46 ?szz46 ?rzz46
                case hzz46 => simp only [List.getElem?_toArray, List.getElem?_cons_zero, List.getElem?_cons_succ]; rfl
                case azz46 => kernel_rfl
                case bzz46 => kernel_rfl
                case czz46 => kernel_rfl
                case yzz46 =>
                  refine Or.inl ⟨by rfl, ?_⟩
                  intro w hSw
                  skip
                  go_simp
                  try with_reducible rfl
                case qzz46 => exact fun _ _ _ h => h
                case szz46 => first | assumption | trivial
                case' rzz46 => simp only [Act.put, List.setIfInBounds_toArray, List.set_cons_zero, List.set_cons_succ]
                have z2 : w.heap.size ≠ v11.heap.size := by have h1 := ((Q.refl W).drew.trans qv11).size; have h2 := Y.out.res.lt; omega
                refine wpAnyH_ready (rs := [8]) (by kernel_rfl) (by simp) ?_
                refine AllReadyH.cons (o := ?ozz48) ?hzz48 (fun K hK => ?kzz48) ?mzz48
                case hzz48 => simp only [List.getElem?_toArray, List.getElem?_cons_zero, List.getElem?_cons_succ]; rfl
                case kzz48 =>
                  go_simp
                  refine hK.out _ _ ?Szz48 (fun hHeld => ?Rzz48)
                  case Szz48 =>
                    exact far4_ (fun e => z2 e) hHeld
                  case Rzz48 =>
                    clear hK K
                    try simp only [Act.put, List.setIfInBounds_toArray, List.set_cons_zero, List.set_cons_succ]
                    refine wpAnyH_take (i := 9) (oi := ?ozz47) (v := ?vzz47) ?hzz47 ?azz47 ?bzz47 ?czz47 ?qzz47 ?yzz47 ?szz47 ?rzz47
                    case hzz47 => simp only [List.getElem?_toArray, List.getElem?_cons_zero, List.getElem?_cons_succ]; rfl
                    case azz47 => kernel_rfl
                    case bzz47 => kernel_rfl
                    case czz47 => kernel_rfl
                    case yzz47 =>
                      refine Or.inl ⟨by rfl, ?_⟩
                      intro w hSw
                      skip
                      go_simp
                      try with_reducible rfl
                    case qzz47 => exact fun _ _ _ h => h
                    case szz47 => first | assumption | trivial
                    case' rzz47 => simp only [Act.put, List.setIfInBounds_toArray, List.set_cons_zero, List.set_cons_succ]
                    refine wpAnyH_done (by kernel_rfl) ?_ _
                    go_wp2_with fail
                    go_meet
                    exact leaf4b (BX2) (by have h1 := ((Q.refl W).drew.trans qv11).size; exact h1) DW.out (((Q.refl W).drew.trans qv11).alloc _) qv13 hd5 hf5
                case' mzz48 => skip
                exact AllReadyH.nil
            case' mzz49 => skip
            exact AllReadyH.nil
        case' mzz51 => skip
        exact AllReadyH.nil
    case' mzz59 => skip
    refine AllReadyH.cons (o := ?ozz60) ?hzz60 (fun K hK => ?kzz60) ?mzz60
    case hzz60 => simp only [List.getElem?_toArray, List.getElem?_cons_zero, List.getElem?_cons_succ]; rfl
    case kzz60 =>
      go_simp
      refine hK.out _ _ ?Szz60 (fun hHeld => ?Rzz60)
      case Szz60 =>
        exact ⟨box_ ((Q.refl _).alloc _) hHeld.1, box_ ((Q.refl _).alloc _) hHeld.2.1, box_ ((Q.refl _).alloc _) hHeld.2.2.1, box_ ((Q.refl _).alloc _) hHeld.2.2.2⟩
      case Rzz60 =>
        clear hK K
        try simp only [Act.put, List.setIfInBounds_toArray, List.set_cons_zero, List.set_cons_succ]
        refine wpAnyH_ready (rs := [2]) (by kernel_rfl) (by simp) ?_
        refine AllReadyH.cons (o := ?ozz58) ?hzz58 (fun K hK => ?kzz58) ?mzz58
        case hzz58 => simp only [List.getElem?_toArray, List.getElem?_cons_zero, List.getElem?_cons_succ]; rfl
        case kzz58 =>
          go_simp
          refine (KN.out _).mono ?_
          rintro e v14 ⟨rfl, qv14⟩
          go_wp2_with fail
          refine hK.out _ _ ?Szz58 (fun hHeld => ?Rzz58)
          case Szz58 =>
            exact ⟨box_ qv14 hHeld.1, box_ qv14 hHeld.2.1, box_ qv14 hHeld.2.2.1, box_ qv14 hHeld.2.2.2⟩
          case Rzz58 =>
            clear hK K
            try simp only [Act.put, List.setIfInBounds_toArray, List.set_cons_zero, List.set_cons_succ]
            refine wpAnyH_ready (rs := [3]) (by kernel_rfl) (by simp) ?_
            refine AllReadyH.cons (o := ?ozz57) ?hzz57 (fun K hK => ?kzz57) ?mzz57
            case hzz57 => simp only [List.getElem?_toArray, List.getElem?_cons_zero, List.getElem?_cons_succ]; rfl
            case kzz57 =>
              go_simp
              refine (KS.out _ (DW.out.q (((Q.refl W).drew.alloc _).trans qv14))).mono ?_
              rintro e v15 ⟨A5, n5, c5, rfl, hd5, hf5, qv15⟩
              have BX2 : Bx _ W.heap.size [.slice none 0 0, .int .i64 0, .int .i64 0, .bool false] := ((Bx.new W.drew [.slice none 0 0, .int .i64 0, .int .i64 0, .bool false] 24).q qv14)
              obtain ⟨⟨b0, b1, b2, b3⟩, y0, y1, y2, y3⟩ := (BX2.q qv15).get4
              go_wp2_with fail
              refine hK.out _ _ ?Szz57 (fun hHeld => ?Rzz57)
              case Szz57 =>
                exact ⟨box_ qv15 hHeld.1, box_ qv15 hHeld.2.1, box_ qv15 hHeld.2.2.1, box_ qv15 hHeld.2.2.2⟩
              case Rzz57 =>
                clear hK K
                try simp only [Act.put, List.setIfInBounds_toArray, List.set_cons_zero, List.set_cons_succ]
                refine wpAnyH_take (i := 4) (oi := ?ozz52) (v := ?vzz52) ?hzz52 ?azz52 ?bzz52 ?czz52 ?qzz52 ?yzz52 ?szz52 ?rzz52
                case hzz52 => simp only [List.getElem?_toArray, List.getElem?_cons_zero, List.getElem?_cons_succ]; rfl
                case azz52 => kernel_rfl
                case bzz52 => kernel_rfl
                case czz52 => kernel_rfl
                case yzz52 =>
                  refine Or.inl ⟨by rfl, ?_⟩
                  intro w hSw
                  skip
                  go_simp
                  try with_reducible rfl
                case qzz52 => exact fun _ _ _ h => h
                case szz52 => first | assumption | trivial
                case' rzz52 => simp only [Act.put, List.setIfInBounds_toArray, List.set_cons_zero, List.set_cons_succ]
                refine wpAnyH_take (i := 5) (oi := ?ozz53) (v := ?vzz53) ?hzz53 ?azz53 ?bzz53 ?czz53 ?qzz53 ?yzz53 ?szz53 ?rzz53
                case hzz53 => simp only [List.getElem?_toArray, List.getElem?_cons_zero, List.getElem?_cons_succ]; rfl
                case azz53 => kernel_rfl
                case bzz53 => kernel_rfl
                case czz53 => kernel_rfl
                case yzz53 =>
                  refine Or.inl ⟨by rfl, ?_⟩
                  intro w hSw
                  skip
                  go_simp
                  try with_reducible rfl
                case qzz53 => exact fun _ _ _ h => h
                case szz53 => first | assumption | trivial
                case' rzz53 => simp only [Act.put, List.setIfInBounds_toArray, List.set_cons_zero, List.set_cons_succ]
                refine wpAnyH_take (i := 6) (oi := ?ozz54) (v := ?vzz54) ?hzz54 ?azz54 ?bzz54 ?czz54 ?qzz54 ?yzz54 ?szz54 ?rzz54
                case hzz54 => simp only [List.getElem?_toArray, List.getElem?_cons_zero, List.getElem?_cons_succ]; rfl
                case azz54 => kernel_rfl
                case bzz54 => kernel_rfl
                case czz54 => kernel_rfl
                case yzz54 =>
                  refine Or.inl ⟨by rfl, ?_⟩
                  intro w hSw
                  skip
                  go_simp
                  try with_reducible rfl
                case qzz54 => exact fun _ _ _ h => h
                case szz54 => first | assumption | trivial
                case' rzz54 => simp only [Act.put, List.setIfInBounds_toArray, List.set_cons_zero, List.set_cons_succ]
                have z2 : w.heap.size ≠ W.heap.size := by have h1 := (Q.refl W).drew.size; have h2 := Y.out.res.lt; omega
                refine wpAnyH_ready (rs := [8]) (by kernel_rfl) (by simp) ?_
                refine AllReadyH.cons (o := ?ozz56) ?hzz56 (fun K hK => ?kzz56) ?mzz56
                case hzz56 => simp only [List.getElem?_toArray, List.getElem?_cons_zero, List.getElem?_cons_succ]; rfl
                case kzz56 =>
                  go_simp
                  refine hK.out _ _ ?Szz56 (fun hHeld => ?Rzz56)
                  case Szz56 =>
                    exact far4_ (fun e => z2 e) hHeld
                  case Rzz56 =>
                    clear hK K
                    try simp only [Act.put, List.setIfInBounds_toArray, List.set_cons_zero, List.set_cons_succ]
                    refine wpAnyH_take (i := 9) (oi := ?ozz55) (v := ?vzz55) ?hzz55 ?azz55 ?bzz55 ?czz55 ?qzz55 ?yzz55 ?szz55 ?rzz55
                    case hzz55 => simp only [List.getElem?_toArray, List.getElem?_cons_zero, List.getElem?_cons_succ]; rfl
                    case azz55 => kernel_rfl
                    case bzz55 => kernel_rfl
                    case czz55 => kernel_rfl
                    case yzz55 =>
                      refine Or.inl ⟨by rfl, ?_⟩
                      intro w hSw
                      skip
                      go_simp
                      try with_reducible rfl
                    case qzz55 => exact fun _ _ _ h => h
                    case szz55 => first | assumption | trivial
                    case' rzz55 => simp only [Act.put, List.setIfInBounds_toArray, List.set_cons_zero, List.set_cons_succ]
                    refine wpAnyH_done (by kernel_rfl) ?_ _
                    go_wp2_with fail
                    go_meet
                    exact leaf4b (BX2) (by have h1 := (Q.refl W).drew.size; exact h1) DW.out (((Q.refl W).drew.alloc _).trans qv14) qv15 hd5 hf5
                case' mzz56 => skip
                exact AllReadyH.nil
            case' mzz57 => skip
            exact AllReadyH.nil
        case' mzz58 => skip
        exact AllReadyH.nil
    case' mzz60 => skip
    exact AllReadyH.nil
  case rest =>
    obtain ⟨g, A5, n5, c5, rfl, rfl, hg, vg, hf, qx⟩ := hcut
    have VG := Lib.hid vg
    have ZZ := Lib.hid (And.intro hf qx)
    have Y5 := Lib.hid (Y.out.step qx)
    have hgz := hg
    clear hg vg hf qx e0 e1 e2 e3 f0 f1 f2' f3 KS KR
    obtain ⟨⟨g0, g1, g2, g3⟩, _⟩ := VG.out.get
    have hlt := Y.out.res.lt
    have HF := Lib.hid (show A5 = A ∧ n5 = n ∨ ∀ ad, A5 = some ad → w.heap.size + 2 ≤ ad.block from ZZ.out.1.imp id (fun hf ad e => by have := hf ad e; omega))
    have haw : 0 < n5 → ∀ ad, A5 = some ad → ad.block ≠ w.heap.size := by
      intro hn ad e
      rcases HF.out with ⟨rfl, rfl⟩ | hf
      · have := HD.out.files.blk hn ad e; omega
      · have := hf ad e; omega
    have P14 := Lib.hid (Y5.out.put4 A5 n5 c5 r.1.room r.1.fuse r.1.off)
    have D14 := Lib.hid ((((VG.out.dsk.away1 haw 0 (.slice A5 n5 c5)).away1 haw 1 (.int .i64 r.1.room)).away1 haw 2 (.int .i64 r.1.fuse)).away1 haw 3 (.bool r.1.off))
    obtain ⟨⟨e0, e1, e2, e3⟩, f0, f1, f2', f3⟩ := Y5.out.get
    clear haw hlt
    go_upto_region 13 with (fail)
    generalize ((((wc.setCell ⟨w.heap.size, 0, none⟩ (.slice A5 n5 c5)).setCell ⟨w.heap.size, 1, none⟩ (.int .i64 r.1.room)).setCell ⟨w.heap.size, 2, none⟩ (.int .i64 r.1.fuse)).setCell ⟨w.heap.size, 3, none⟩ (.bool r.1.off)) = W4 at P14 D14 ⊢
    clear e0 e1 e2 e3 f0 f1 f2' f3 g0 g1 g2 g3 VG Y5 Y ZZ
    obtain ⟨⟨e0, e1, e2, e3⟩, f0, f1, f2', f3⟩ := P14.out.get
    go_upto_region 14 with (fail)
    go_cut [13, 14] (fun s13 s14 wx => Cu4 W4 A5 n5 r5.1 r5.2 s13 s14 wx)
    case first =>
      refine wp_region_held_drew (S := fun w' => w'.cell? ⟨w.heap.size, 0, none⟩ = some (.slice A5 n5 c5) ∧ w'.cell? ⟨w.heap.size, 1, none⟩ = some (.int .i64 r.1.room) ∧ w'.cell? ⟨w.heap.size, 2, none⟩ = some (.int .i64 r.1.fuse) ∧ w'.cell? ⟨w.heap.size, 3, none⟩ = some (.bool r.1.off)) (by kernel_rfl) ?_ (fun hHeld => ?_)
      · exact ⟨e0, e1, e2, e3⟩
      refine wpAnyH_take (i := 0) (oi := ?ozz61) (v := ?vzz61) ?hzz61 ?azz61 ?bzz61 ?czz61 ?qzz61 ?yzz61 ?szz61 ?rzz61
      case hzz61 => simp only [List.getElem?_toArray, List.getElem?_cons_zero]; rfl
      case azz61 => kernel_rfl
      case bzz61 => kernel_rfl
      case czz61 => kernel_rfl
      case yzz61 =>
        refine Or.inl ⟨by rfl, ?_⟩
        intro w hSw
        obtain ⟨s0, s1, s2, s3⟩ := hSw
        go_simp
        try with_reducible rfl
      case qzz61 => exact fun _ _ _ h => h
      case szz61 => first | assumption | trivial
      case' rzz61 => simp only [Act.put, List.setIfInBounds_toArray, List.set_cons_zero, List.set_cons_succ]
      refine wpAnyH_take (i := 1) (oi := ?ozz62) (v := ?vzz62) ?hzz62 ?azz62 ?bzz62 ?czz62 ?qzz62 ?yzz62 ?szz62 ?rzz62
      case hzz62 => simp only [List.getElem?_toArray, List.getElem?_cons_zero, List.getElem?_cons_succ]; rfl
      case azz62 => kernel_rfl
      case bzz62 => kernel_rfl
      case czz62 => kernel_rfl
      case yzz62 =>
        refine Or.inl ⟨by rfl, ?_⟩
        intro w hSw
        skip
        go_simp
        try with_reducible rfl
      case qzz62 => exact fun _ _ _ h => h
      case szz62 => first | assumption | trivial
      case' rzz62 => simp only [Act.put, List.setIfInBounds_toArray, List.set_cons_zero, List.set_cons_succ]
      refine wpAnyH_take (i := 3) (oi := ?ozz63) (v := ?vzz63) ?hzz63 ?azz63 ?bzz63 ?czz63 ?qzz63 ?yzz63 ?szz63 ?rzz63
      case hzz63 => simp only [List.getElem?_toArray, List.getElem?_cons_zero, List.getElem?_cons_succ]; rfl
      case azz63 => kernel_rfl
      case bzz63 => kernel_rfl
      case czz63 => kernel_rfl
      case yzz63 =>
        refine Or.inl ⟨by rfl, ?_⟩
        intro w hSw
        skip
        go_simp
        try with_reducible rfl
      case qzz63 => exact fun _ _ _ h => h
      case szz63 => first | assumption | trivial
      case' rzz63 => simp only [Act.put, List.setIfInBounds_toArray, List.set_cons_zero, List.set_cons_succ]
      refine wpAnyH_ready (rs := [2, 9]) (by kernel_rfl) (by simp) ?_
      refine AllReadyH.cons (o := ?ozz95) ?hzz95 (fun K hK => ?kzz95) ?mzz95
      case hzz95 => simp only [List.getElem?_toArray, List.getElem?_cons_zero, List.getElem?_cons_succ]; rfl
      case kzz95 =>
        go_simp
        refine (KN2.out _).mono ?_
        rintro e v16 ⟨rfl, qv16⟩
        go_wp2_with fail
        refine hK.out _ _ ?Szz95 (fun hHeld => ?Rzz95)
        case Szz95 =>
          exact ⟨box_ qv16 hHeld.1, box_ qv16 hHeld.2.1, box_ qv16 hHeld.2.2.1, box_ qv16 hHeld.2.2.2⟩
        case Rzz95 =>
          clear hK K
          try simp only [Act.put, List.setIfInBounds_toArray, List.set_cons_zero, List.set_cons_succ]
          refine wpAnyH_ready (rs := [4, 9]) (by kernel_rfl) (by simp) ?_
          refine AllReadyH.cons (o := ?ozz85) ?hzz85 (fun K hK => ?kzz85) ?mzz85
          case hzz85 => simp only [List.getElem?_toArray, List.getElem?_cons_zero, List.getElem?_cons_succ]; rfl
          case kzz85 =>
            go_simp
            refine (KL.out _).mono ?_
            rintro e v17 ⟨rfl, qv17⟩
            go_wp2_with fail
            refine hK.out _ _ ?Szz85 (fun hHeld => ?Rzz85)
            case Szz85 =>
              exact ⟨box_ qv17 hHeld.1, box_ qv17 hHeld.2.1, box_ qv17 hHeld.2.2.1, box_ qv17 hHeld.2.2.2⟩
            case Rzz85 =>
              clear hK K
              try simp only [Act.put, List.setIfInBounds_toArray, List.set_cons_zero, List.set_cons_succ]
              refine wpAnyH_ready (rs := [5, 9]) (by kernel_rfl) (by simp) ?_
              refine AllReadyH.cons (o := ?ozz76) ?hzz76 (fun K hK => ?kzz76) ?mzz76
              case hzz76 => simp only [List.getElem?_toArray, List.getElem?_cons_zero, List.getElem?_cons_succ]; rfl
              case kzz76 =>
                go_simp
                refine (KA2.out A5 n5 c5 _ (D14.out.q (((Q.refl W4).drew.trans qv16).trans qv17))).mono ?_
                rintro e v18 ⟨A7, n7, c7, rfl, hd5, hf5, qv18⟩
                go_wp2_with fail
                refine hK.out _ _ ?Szz76 (fun hHeld => ?Rzz76)
                case Szz76 =>
                  exact ⟨box_ qv18 hHeld.1, box_ qv18 hHeld.2.1, box_ qv18 hHeld.2.2.1, box_ qv18 hHeld.2.2.2⟩
                case Rzz76 =>
                  clear hK K
                  try simp only [Act.put, List.setIfInBounds_toArray, List.set_cons_zero, List.set_cons_succ]
                  have hC := hHeld
                  refine wpAnyH_take (i := 6) (oi := ?ozz64) (v := ?vzz64) ?hzz64 ?azz64 ?bzz64 ?czz64 ?qzz64 ?yzz64 ?szz64 ?rzz64
                  case hzz64 => simp only [List.getElem?_toArray, List.getElem?_cons_zero, List.getElem?_cons_succ]; rfl
                  case azz64 => kernel_rfl
                  case bzz64 => kernel_rfl
                  case czz64 => kernel_rfl
                  case yzz64 =>
                    refine Or.inl ⟨by rfl, ?_⟩
                    intro w hSw
                    skip
                    go_simp
                    try with_reducible rfl
                  case qzz64 => exact fun _ _ _ h => h
                  case szz64 => first | assumption | trivial
                  case' rzz64 => simp only [Act.put, List.setIfInBounds_toArray, List.set_cons_zero, List.set_cons_succ]
                  refine wpAnyH_take (i := 7) (oi := ?ozz65) (v := ?vzz65) ?hzz65 ?azz65 ?bzz65 ?czz65 ?qzz65 ?yzz65 ?szz65 ?rzz65
                  case hzz65 => simp only [List.getElem?_toArray, List.getElem?_cons_zero, List.getElem?_cons_succ]; rfl
                  case azz65 => kernel_rfl
                  case bzz65 => kernel_rfl
                  case czz65 => kernel_rfl
                  case yzz65 =>
                    refine Or.inl ⟨by rfl, ?_⟩
                    intro w hSw
                    skip
                    go_simp
                    try with_reducible rfl
                  case qzz65 => exact fun _ _ _ h => h
                  case szz65 => first | assumption | trivial
                  case' rzz65 => simp only [Act.put, List.setIfInBounds_toArray, List.set_cons_zero, List.set_cons_succ]
                  refine wpAnyH_take (i := 8) (oi := ?ozz66) (v := ?vzz66) ?hzz66 ?azz66 ?bzz66 ?czz66 ?qzz66 ?yzz66 ?szz66 ?rzz66
                  case hzz66 => simp only [List.getElem?_toArray, List.getElem?_cons_zero, List.getElem?_cons_succ]; rfl
                  case azz66 => kernel_rfl
                  case bzz66 => kernel_rfl
                  case czz66 => kernel_rfl
                  case yzz66 =>
                    refine Or.inl ⟨by rfl, ?_⟩
                    intro w hSw
                    skip
                    go_simp
                    try with_reducible rfl
                  case qzz66 => exact fun _ _ _ h => h
                  case szz66 => first | assumption | trivial
                  case' rzz66 => simp only [Act.put, List.setIfInBounds_toArray, List.set_cons_zero, List.set_cons_succ]
                  refine wpAnyH_ready (rs := [9]) (by kernel_rfl) (by simp) ?_
                  refine AllReadyH.cons (o := ?ozz69) ?hzz69 (fun K hK => ?kzz69) ?mzz69
                  case hzz69 => simp only [List.getElem?_toArray, List.getElem?_cons_zero, List.getElem?_cons_succ]; rfl
                  case kzz69 =>
                    go_simp
                    refine hK.out _ _ ?Szz69 (fun hHeld => ?Rzz69)
                    case Szz69 =>
                      exact ⟨box_ ((Q.refl _).alloc _) hC.1, box_ ((Q.refl _).alloc _) hC.2.1, box_ ((Q.refl _).alloc _) hC.2.2.1, box_ ((Q.refl _).alloc _) hC.2.2.2⟩
                    case Rzz69 =>
                      clear hK K
                      try simp only [Act.put, List.setIfInBounds_toArray, List.set_cons_zero, List.set_cons_succ]
                      refine wpAnyH_ready (rs := [10]) (by kernel_rfl) (by simp) ?_
                      refine AllReadyH.cons (o := ?ozz68) ?hzz68 (fun K hK => ?kzz68) ?mzz68
                      case hzz68 => simp only [List.getElem?_toArray, List.getElem?_cons_zero, List.getElem?_cons_succ]; rfl
                      case kzz68 =>
                        go_simp
                        refine hK.out _ _ ?Szz68 (fun hHeld => ?Rzz68)
                        case Szz68 =>
                          exact ⟨box_ ((Q.refl _).alloc _) hC.1, box_ ((Q.refl _).alloc _) hC.2.1, box_ ((Q.refl _).alloc _) hC.2.2.1, box_ ((Q.refl _).alloc _) hC.2.2.2⟩
                        case Rzz68 =>
                          clear hK K
                          try simp only [Act.put, List.setIfInBounds_toArray, List.set_cons_zero, List.set_cons_succ]
                          refine wpAnyH_take (i := 11) (oi := ?ozz67) (v := ?vzz67) ?hzz67 ?azz67 ?bzz67 ?czz67 ?qzz67 ?yzz67 ?szz67 ?rzz67
                          case hzz67 => simp only [List.getElem?_toArray, List.getElem?_cons_zero, List.getElem?_cons_succ]; rfl
                          case azz67 => kernel_rfl
                          case bzz67 => kernel_rfl
                          case czz67 => kernel_rfl
                          case yzz67 =>
                            refine Or.inl ⟨by rfl, ?_⟩
                            intro w hSw
                            skip
                            go_simp
                            try with_reducible rfl
                          case qzz67 => exact fun _ _ _ h => h
                          case szz67 => first | assumption | trivial
                          case' rzz67 => simp only [Act.put, List.setIfInBounds_toArray, List.set_cons_zero, List.set_cons_succ]
                          refine wpAnyH_done (by kernel_rfl) ?_ _
                          go_wp2_with fail
                          go_meet
                          exact leaf4c (((Q.refl W4).drew.trans qv16).trans qv17) qv18 hd5 hf5
                      case' mzz68 => skip
                      exact AllReadyH.nil
                  case' mzz69 => skip
                  exact AllReadyH.nil
              case' mzz76 => skip
              refine AllReadyH.cons (o := ?ozz77) ?hzz77 (fun K hK => ?kzz77) ?mzz77
              case hzz77 => simp only [List.getElem?_toArray, List.getElem?_cons_zero, List.getElem?_cons_succ]; rfl
              case kzz77 =>
                go_simp
                refine hK.out _ _ ?Szz77 (fun hHeld => ?Rzz77)
                case Szz77 =>
                  exact ⟨box_ ((Q.refl _).alloc _) hHeld.1, box_ ((Q.refl _).alloc _) hHeld.2.1, box_ ((Q.refl _).alloc _) hHeld.2.2.1, box_ ((Q.refl _).alloc _) hHeld.2.2.2⟩
                case Rzz77 =>
                  clear hK K
                  try simp only [Act.put, List.setIfInBounds_toArray, List.set_cons_zero, List.set_cons_succ]
                  refine wpAnyH_ready (rs := [5]) (by kernel_rfl) (by simp) ?_
                  refine AllReadyH.cons (o := ?ozz75) ?hzz75 (fun K hK => ?kzz75) ?mzz75
                  case hzz75 => simp only [List.getElem?_toArray, List.getElem?_cons_zero, List.getElem?_cons_succ]; rfl
                  case kzz75 =>
                    go_simp
                    refine (KA2.out A5 n5 c5 _ (D14.out.q ((((Q.refl W4).drew.trans qv16).trans qv17).alloc _))).mono ?_
                    rintro e v19 ⟨A7, n7, c7, rfl, hd5, hf5, qv19⟩
                    have BX2 : Bx _ v17.heap.size [.slice none 0 0, .int .i64 0, .int .i64 0, .bool false] := (Bx.new v17 [.slice none 0 0, .int .i64 0, .int .i64 0, .bool false] 24)
                    obtain ⟨⟨b0, b1, b2, b3⟩, y0, y1, y2, y3⟩ := (BX2.q qv19).get4
                    go_wp2_with fail
                    refine hK.out _ _ ?Szz75 (fun hHeld => ?Rzz75)
                    case Szz75 =>
                      exact ⟨box_ qv19 hHeld.1, box_ qv19 hHeld.2.1, box_ qv19 hHeld.2.2.1, box_ qv19 hHeld.2.2.2⟩
                    case Rzz75 =>
                      clear hK K
                      try simp only [Act.put, List.setIfInBounds_toArray, List.set_cons_zero, List.set_cons_succ]
                      refine wpAnyH_take (i := 6) (oi := ?ozz70) (v := ?vzz70) ?hzz70 ?azz70 ?bzz70 ?czz70 ?qzz70 ?yzz70 ?szz70 ?rzz70
                      case hzz70 => simp only [List.getElem?_toArray, List.getElem?_cons_zero, List.getElem?_cons_succ]; rfl
                      case azz70 => kernel_rfl
                      case bzz70 => kernel_rfl
                      case czz70 => kernel_rfl
                      case yzz70 =>
                        refine Or.inl ⟨by rfl, ?_⟩
                        intro w hSw
                        skip
                        go_simp
                        try with_reducible rfl
                      case qzz70 => exact fun _ _ _ h => h
                      case szz70 => first | assumption | trivial
                      case' rzz70 => simp only [Act.put, List.setIfInBounds_toArray, List.set_cons_zero, List.set_cons_succ]
                      refine wpAnyH_take (i := 7) (oi := ?ozz71) (v := ?vzz71) ?hzz71 ?azz71 ?bzz71 ?czz71 ?qzz71 ?yzz71 ?szz71 ?rzz71
                      case hzz71 => simp only [List.getElem?_toArray, List.getElem?_cons_zero, List.getElem?_cons_succ]; rfl
                      case azz71 => kernel_rfl
                      case bzz71 => kernel_rfl
                      case czz71 => kernel_rfl
                      case yzz71 =>
                        refine Or.inl ⟨by rfl, ?_⟩
                        intro w hSw
                        skip
                        go_simp
                        try with_reducible rfl
                      case qzz71 => exact fun _ _ _ h => h
                      case szz71 => first | assumption | trivial
                      case' rzz71 => simp only [Act.put, List.setIfInBounds_toArray, List.set_cons_zero, List.set_cons_succ]
                      refine wpAnyH_take (i := 8) (oi := ?ozz72) (v := ?vzz72) ?hzz72 ?azz72 ?bzz72 ?czz72 ?qzz72 ?yzz72 ?szz72 ?rzz72
                      case hzz72 => simp only [List.getElem?_toArray, List.getElem?_cons_zero, List.getElem?_cons_succ]; rfl
                      case azz72 => kernel_rfl
                      case bzz72 => kernel_rfl
                      case czz72 => kernel_rfl
                      case yzz72 =>
                        refine Or.inl ⟨by rfl, ?_⟩
                        intro w hSw
                        skip
                        go_simp
                        try with_reducible rfl
                      case qzz72 => exact fun _ _ _ h => h
                      case szz72 => first | assumption | trivial
                      case' rzz72 => simp only [Act.put, List.setIfInBounds_toArray, List.set_cons_zero, List.set_cons_succ]
                      have z2 : w.heap.size ≠ v17.heap.size := by have h1 := (((Q.refl W4).drew.trans qv16).trans qv17).size; have h2 := P14.out.res.lt; omega
                      refine wpAnyH_ready (rs := [10]) (by kernel_rfl) (by simp) ?_
                      refine AllReadyH.cons (o := ?ozz74) ?hzz74 (fun K hK => ?kzz74) ?mzz74
                      case hzz74 => simp only [List.getElem?_toArray, List.getElem?_cons_zero, List.getElem?_cons_succ]; rfl
                      case kzz74 =>
                        go_simp
                        refine hK.out _ _ ?Szz74 (fun hHeld => ?Rzz74)
                        case Szz74 =>
                          exact far4_ (fun e => z2 e) hHeld
                        case Rzz74 =>
                          clear hK K
                          try simp only [Act.put, List.setIfInBounds_toArray, List.set_cons_zero, List.set_cons_succ]
                          refine wpAnyH_take (i := 11) (oi := ?ozz73) (v := ?vzz73) ?hzz73 ?azz73 ?bzz73 ?czz73 ?qzz73 ?yzz73 ?szz73 ?rzz73
                          case hzz73 => simp only [List.getElem?_toArray, List.getElem?_cons_zero, List.getElem?_cons_succ]; rfl
                          case azz73 => kernel_rfl
                          case bzz73 => kernel_rfl
                          case czz73 => kernel_rfl
                          case yzz73 =>
                            refine Or.inl ⟨by rfl, ?_⟩
                            intro w hSw
                            skip
                            go_simp
                            try with_reducible rfl
                          case qzz73 => exact fun _ _ _ h => h
                          case szz73 => first | assumption | trivial
                          case' rzz73 => simp only [Act.put, List.setIfInBounds_toArray, List.set_cons_zero, List.set_cons_succ]
                          refine wpAnyH_done (by kernel_rfl) ?_ _
                          go_wp2_with fail
                          go_meet
                          exact leaf4b (BX2) (by have h1 := (((Q.refl W4).drew.trans qv16).trans qv17).size; exact h1) D14.out ((((Q.refl W4).drew.trans qv16).trans qv17).alloc _) qv19 hd5 hf5
                      case' mzz74 => skip
                      exact AllReadyH.nil
                  case' mzz75 => skip
                  exact AllReadyH.nil
              case' mzz77 => skip
              exact AllReadyH.nil
          case' mzz85 => skip
          refine AllReadyH.cons (o := ?ozz86) ?hzz86 (fun K hK => ?kzz86) ?mzz86
          case hzz86 => simp only [List.getElem?_toArray, List.getElem?_cons_zero, List.getElem?_cons_succ]; rfl
          case kzz86 =>
            go_simp
            refine hK.out _ _ ?Szz86 (fun hHeld => ?Rzz86)
            case Szz86 =>
              exact ⟨box_ ((Q.refl _).alloc _) hHeld.1, box_ ((Q.refl _).alloc _) hHeld.2.1, box_ ((Q.refl _).alloc _) hHeld.2.2.1, box_ ((Q.refl _).alloc _) hHeld.2.2.2⟩
            case Rzz86 =>
              clear hK K
              try simp only [Act.put, List.setIfInBounds_toArray, List.set_cons_zero, List.set_cons_succ]
              refine wpAnyH_ready (rs := [4]) (by kernel_rfl) (by simp) ?_
              refine AllReadyH.cons (o := ?ozz84) ?hzz84 (fun K hK => ?kzz84) ?mzz84
              case hzz84 => simp only [List.getElem?_toArray, List.getElem?_cons_zero, List.getElem?_cons_succ]; rfl
              case kzz84 =>
                go_simp
                refine (KL.out _).mono ?_
                rintro e v20 ⟨rfl, qv20⟩
                go_wp2_with fail
                refine hK.out _ _ ?Szz84 (fun hHeld => ?Rzz84)
                case Szz84 =>
                  exact ⟨box_ qv20 hHeld.1, box_ qv20 hHeld.2.1, box_ qv20 hHeld.2.2.1, box_ qv20 hHeld.2.2.2⟩
                case Rzz84 =>
                  clear hK K
                  try simp only [Act.put, List.setIfInBounds_toArray, List.set_cons_zero, List.set_cons_succ]
                  refine wpAnyH_ready (rs := [5]) (by kernel_rfl) (by simp) ?_
                  refine AllReadyH.cons (o := ?ozz83) ?hzz83 (fun K hK => ?kzz83) ?mzz83
                  case hzz83 => simp only [List.getElem?_toArray, List.getElem?_cons_zero, List.getElem?_cons_succ]; rfl
                  case kzz83 =>
                    go_simp
                    refine (KA2.out A5 n5 c5 _ (D14.out.q ((((Q.refl W4).drew.trans qv16).alloc _).trans qv20))).mono ?_
                    rintro e v21 ⟨A7, n7, c7, rfl, hd5, hf5, qv21⟩
                    have BX2 : Bx _ v16.heap.size [.slice none 0 0, .int .i64 0, .int .i64 0, .bool false] := ((Bx.new v16 [.slice none 0 0, .int .i64 0, .int .i64 0, .bool false] 24).q qv20)
                    obtain ⟨⟨b0, b1, b2, b3⟩, y0, y1, y2, y3⟩ := (BX2.q qv21).get4
                    go_wp2_with fail
                    refine hK.out _ _ ?Szz83 (fun hHeld => ?Rzz83)
                    case Szz83 =>
                      exact ⟨box_ qv21 hHeld.1, box_ qv21 hHeld.2.1, box_ qv21 hHeld.2.2.1, box_ qv21 hHeld.2.2.2⟩
                    case Rzz83 =>
                      clear hK K
                      try simp only [Act.put, List.setIfInBounds_toArray, List.set_cons_zero, List.set_cons_succ]
                      refine wpAnyH_take (i := 6) (oi := ?ozz78) (v := ?vzz78) ?hzz78 ?azz78 ?bzz78 ?czz78 ?qzz78 ?yzz78 ?szz78 ?rzz78
                      case hzz78 => simp only [List.getElem?_toArray, List.getElem?_cons_zero, List.getElem?_cons_succ]; rfl
                      case azz78 => kernel_rfl
                      case bzz78 => kernel_rfl
                      case czz78 => kernel_rfl
                      case yzz78 =>
                        refine Or.inl ⟨by rfl, ?_⟩
                        intro w hSw
                        skip
                        go_simp
                        try with_reducible rfl
                      case qzz78 => exact fun _ _ _ h => h
                      case szz78 => first | assumption | trivial
                      case' rzz78 => simp only [Act.put, List.setIfInBounds_toArray, List.set_cons_zero, List.set_cons_succ]
                      refine wpAnyH_take (i := 7) (oi := ?ozz79) (v := ?vzz79) ?hzz79 ?azz79 ?bzz79 ?czz79 ?qzz79 ?yzz79 ?szz79 ?rzz79
                      case hzz79 => simp only [List.getElem?_toArray, List.getElem?_cons_zero, List.getElem?_cons_succ]; rfl
                      case azz79 => kernel_rfl
                      case bzz79 => kernel_rfl
                      case czz79 => kernel_rfl
                      case yzz79 =>
                        refine Or.inl ⟨by rfl, ?_⟩
                        intro w hSw
                        skip
                        go_simp
                        try with_reducible rfl
                      case qzz79 => exact fun _ _ _ h => h
                      case szz79 => first | assumption | trivial
                      case' rzz79 => simp only [Act.put, List.setIfInBounds_toArray, List.set_cons_zero, List.set_cons_succ]
                      refine wpAnyH_take (i := 8) (oi := ?ozz80) (v := ?vzz80) ?hzz80 ?azz80 ?bzz80 ?czz80 ?qzz80 ?yzz80 ?szz80 ?rzz80
                      case hzz80 => simp only [List.getElem?_toArray, List.getElem?_cons_zero, List.getElem?_cons_succ]; rfl
                      case azz80 => kernel_rfl
                      case bzz80 => kernel_rfl
                      case czz80 => kernel_rfl
                      case yzz80 =>
                        refine Or.inl ⟨by rfl, ?_⟩
                        intro w hSw
                        skip
                        go_simp
                        try with_reducible rfl
                      case qzz80 => exact fun _ _ _ h => h
                      case szz80 => first | assumption | trivial
                      case' rzz80 => simp only [Act.put, List.setIfInBounds_toArray, List.set_cons_zero, List.set_cons_succ]
                      have z2 : w.heap.size ≠ v16.heap.size := by have h1 := ((Q.refl W4).drew.trans qv16).size; have h2 := P14.out.res.lt; omega
                      refine wpAnyH_ready (rs := [10]) (by kernel_rfl) (by simp) ?_
                      refine AllReadyH.cons (o := ?ozz82) ?hzz82 (fun K hK => ?kzz82) ?mzz82
                      case hzz82 => simp only [List.getElem?_toArray, List.getElem?_cons_zero, List.getElem?_cons_succ]; rfl
                      case kzz82 =>
                        go_simp
                        refine hK.out _ _ ?Szz82 (fun hHeld => ?Rzz82)
                        case Szz82 =>
                          exact far4_ (fun e => z2 e) hHeld
                        case Rzz82 =>
                          clear hK K
                          try simp only [Act.put, List.setIfInBounds_toArray, List.set_cons_zero, List.set_cons_succ]
                          refine wpAnyH_take (i := 11) (oi := ?ozz81) (v := ?vzz81) ?hzz81 ?azz81 ?bzz81 ?czz81 ?qzz81 ?yzz81 ?szz81 ?rzz81
                          case hzz81 => simp only [List.getElem?_toArray, List.getElem?_cons_zero, List.getElem?_cons_succ]; rfl
                          case azz81 => kernel_rfl
                          case bzz81 => kernel_rfl
                          case czz81 => kernel_rfl
                          case yzz81 =>
                            refine Or.inl ⟨by rfl, ?_⟩
                            intro w hSw
                            skip
                            go_simp
                            try with_reducible rfl
                          case qzz81 => exact fun _ _ _ h => h
                          case szz81 => first | assumption | trivial
                          case' rzz81 => simp only [Act.put, List.setIfInBounds_toArray, List.set_cons_zero, List.set_cons_succ]
                          refine wpAnyH_done (by kernel_rfl) ?_ _
                          go_wp2_with fail
                          go_meet
                          exact leaf4b (BX2) (by have h1 := ((Q.refl W4).drew.trans qv16).size; exact h1) D14.out ((((Q.refl W4).drew.trans qv16).alloc _).trans qv20) qv21 hd5 hf5
                      case' mzz82 => skip
                      exact AllReadyH.nil
                  case' mzz83 => skip
                  exact AllReadyH.nil
              case' mzz84 => skip
              exact AllReadyH.nil
          case' mzz86 => skip
          exact AllReadyH.nil
      case' mzz95 => skip
      refine AllReadyH.cons (o := ?ozz96) ?hzz96 (fun K hK => ?kzz96) ?mzz96
      case hzz96 => simp only [List.getElem?_toArray, List.getElem?_cons_zero, List.getElem?_cons_succ]; rfl
      case kzz96 =>
        go_simp
        refine hK.out _ _ ?Szz96 (fun hHeld => ?Rzz96)
        case Szz96 =>
          exact ⟨box_ ((Q.refl _).alloc _) hHeld.1, box_ ((Q.refl _).alloc _) hHeld.2.1, box_ ((Q.refl _).alloc _) hHeld.2.2.1, box_ ((Q.refl _).alloc _) hHeld.2.2.2⟩
        case Rzz96 =>
          clear hK K
          try simp only [Act.put, List.setIfInBounds_toArray, List.set_cons_zero, List.set_cons_succ]
          refine wpAnyH_ready (rs := [2]) (by kernel_rfl) (by simp) ?_
          refine AllReadyH.cons (o := ?ozz94) ?hzz94 (fun K hK => ?kzz94) ?mzz94
          case hzz94 => simp only [List.getElem?_toArray, List.getElem?_cons_zero, List.getElem?_cons_succ]; rfl
          case kzz94 =>
            go_simp
            refine (KN2.out _).mono ?_
            rintro e v22 ⟨rfl, qv22⟩
            go_wp2_with fail
            refine hK.out _ _ ?Szz94 (fun hHeld => ?Rzz94)
            case Szz94 =>
              exact ⟨box_ qv22 hHeld.1, box_ qv22 hHeld.2.1, box_ qv22 hHeld.2.2.1, box_ qv22 hHeld.2.2.2⟩
            case Rzz94 =>
              clear hK K
              try simp only [Act.put, List.setIfInBounds_toArray, List.set_cons_zero, List.set_cons_succ]
              refine wpAnyH_ready (rs := [4]) (by kernel_rfl) (by simp) ?_
              refine AllReadyH.cons (o := ?ozz93) ?hzz93 (fun K hK => ?kzz93) ?mzz93
              case hzz93 => simp only [List.getElem?_toArray, List.getElem?_cons_zero, List.getElem?_cons_succ]; rfl
              case kzz93 =>
                go_simp
                refine (KL.out _).mono ?_
                rintro e v23 ⟨rfl, qv23⟩
                go_wp2_with fail
                refine hK.out _ _ ?Szz93 (fun hHeld => ?Rzz93)
                case Szz93 =>
                  exact ⟨box_ qv23 hHeld.1, box_ qv23 hHeld.2.1, box_ qv23 hHeld.2.2.1, box_ qv23 hHeld.2.2.2⟩
                case Rzz93 =>
                  clear hK K
                  try simp only [Act.put, List.setIfInBounds_toArray, List.set_cons_zero, List.set_cons_succ]
                  refine wpAnyH_ready (rs := [5]) (by kernel_rfl) (by simp) ?_
                  refine AllReadyH.cons (o := ?ozz92) ?hzz92 (fun K hK => ?kzz92) ?mzz92
                  case hzz92 => simp only [List.getElem?_toArray, List.getElem?_cons_zero, List.getElem?_cons_succ]; rfl
                  case kzz92 =>
                    go_simp
                    refine (KA2.out A5 n5 c5 _ (D14.out.q ((((Q.refl W4).drew.alloc _).trans qv22).trans qv23))).mono ?_
                    rintro e v24 ⟨A7, n7, c7, rfl, hd5, hf5, qv24⟩
                    have BX2 : Bx _ W4.heap.size [.slice none 0 0, .int .i64 0, .int .i64 0, .bool false] := (((Bx.new W4.drew [.slice none 0 0, .int .i64 0, .int .i64 0, .bool false] 24).q qv22).q qv23)
                    obtain ⟨⟨b0, b1, b2, b3⟩, y0, y1, y2, y3⟩ := (BX2.q qv24).get4
                    go_wp2_with fail
                    refine hK.out _ _ ?Szz92 (fun hHeld => ?Rzz92)
                    case Szz92 =>
                      exact ⟨box_ qv24 hHeld.1, box_ qv24 hHeld.2.1, box_ qv24 hHeld.2.2.1, box_ qv24 hHeld.2.2.2⟩
                    case Rzz92 =>
                      clear hK K
                      try simp only [Act.put, List.setIfInBounds_toArray, List.set_cons_zero, List.set_cons_succ]
                      refine wpAnyH_take (i := 6) (oi := ?ozz87) (v := ?vzz87) ?hzz87 ?azz87 ?bzz87 ?czz87 ?qzz87 ?yzz87 ?szz87 ?rzz87
                      case hzz87 => simp only [List.getElem?_toArray, List.getElem?_cons_zero, List.getElem?_cons_succ]; rfl
                      case azz87 => kernel_rfl
                      case bzz87 => kernel_rfl
                      case czz87 => kernel_rfl
                      case yzz87 =>
                        refine Or.inl ⟨by rfl, ?_⟩
                        intro w hSw
                        skip
                        go_simp
                        try with_reducible rfl
                      case qzz87 => exact fun _ _ _ h => h
                      case szz87 => first | assumption | trivial
                      case' rzz87 => simp only [Act.put, List.setIfInBounds_toArray, List.set_cons_zero, List.set_cons_succ]
                      refine wpAnyH_take (i := 7) (oi := ?ozz88) (v := ?vzz88) ?hzz88 ?azz88 ?bzz88 ?czz88 ?qzz88 ?yzz88 ?szz88 ?rzz88
                      case hzz88 => simp only [List.getElem?_toArray, List.getElem?_cons_zero, List.getElem?_cons_succ]; rfl
                      case azz88 => kernel_rfl
                      case bzz88 => kernel_rfl
                      case czz88 => kernel_rfl
                      case yzz88 =>
                        refine Or.inl ⟨by rfl, ?_⟩
                        intro w hSw
                        skip
                        go_simp
                        try with_reducible rfl
                      case qzz88 => exact fun _ _ _ h => h
                      case szz88 => first | assumption | trivial
                      case' rzz88 => simp only [Act.put, List.setIfInBounds_toArray, List.set_cons_zero, List.set_cons_succ]
                      refine wpAnyH_take (i := 8) (oi := ?ozz89) (v := ?vzz89) ?hzz89 ?azz89 ?bzz89 ?czz89 ?qzz89 ?yzz89 ?szz89 ?rzz89
                      case hzz89 => simp only [List.getElem?_toArray, List.getElem?_cons_zero, List.getElem?_cons_succ]; rfl
                      case azz89 => kernel_rfl
                      case bzz89 => kernel_rfl
                      case czz89 => kernel_rfl
                      case yzz89 =>
                        refine Or.inl ⟨by rfl, ?_⟩
                        intro w hSw
                        skip
                        go_simp
                        try with_reducible rfl
                      case qzz89 => exact fun _ _ _ h => h
                      case szz89 => first | assumption | trivial
                      case' rzz89 => simp only [Act.put, List.setIfInBounds_toArray, List.set_cons_zero, List.set_cons_succ]
                      have z2 : w.heap.size ≠ W4.heap.size := by have h1 := (Q.refl W4).drew.size; have h2 := P14.out.res.lt; omega
                      refine wpAnyH_ready (rs := [10]) (by kernel_rfl) (by simp) ?_
                      refine AllReadyH.cons (o := ?ozz91) ?hzz91 (fun K hK => ?kzz91) ?mzz91
                      case hzz91 => simp only [List.getElem?_toArray, List.getElem?_cons_zero, List.getElem?_cons_succ]; rfl
                      case kzz91 =>
                        go_simp
                        refine hK.out _ _ ?Szz91 (fun hHeld => ?Rzz91)
                        case Szz91 =>
                          exact far4_ (fun e => z2 e) hHeld
                        case Rzz91 =>
                          clear hK K
                          try simp only [Act.put, List.setIfInBounds_toArray, List.set_cons_zero, List.set_cons_succ]
                          refine wpAnyH_take (i := 11) (oi := ?ozz90) (v := ?vzz90) ?hzz90 ?azz90 ?bzz90 ?czz90 ?qzz90 ?yzz90 ?szz90 ?rzz90
                          case hzz90 => simp only [List.getElem?_toArray, List.getElem?_cons_zero, List.getElem?_cons_succ]; rfl
                          case azz90 => kernel_rfl
                          case bzz90 => kernel_rfl
                          case czz90 => kernel_rfl
                          case yzz90 =>
                            refine Or.inl ⟨by rfl, ?_⟩
                            intro w hSw
                            skip
                            go_simp
                            try with_reducible rfl
                          case qzz90 => exact fun _ _ _ h => h
                          case szz90 => first | assumption | trivial
                          case' rzz90 => simp only [Act.put, List.setIfInBounds_toArray, List.set_cons_zero, List.set_cons_succ]
                          refine wpAnyH_done (by kernel_rfl) ?_ _
                          go_wp2_with fail
                          go_meet
                          exact leaf4b (BX2) (by have h1 := (Q.refl W4).drew.size; exact h1) D14.out ((((Q.refl W4).drew.alloc _).trans qv22).trans qv23) qv24 hd5 hf5
                      case' mzz91 => skip
                      exact AllReadyH.nil
                  case' mzz92 => skip
                  exact AllReadyH.nil
              case' mzz93 => skip
              exact AllReadyH.nil
          case' mzz94 => skip
          exact AllReadyH.nil
      case' mzz96 => skip
      exact AllReadyH.nil
    case rest =>
      obtain ⟨g6, A6, n6, c6, rfl, rfl, hg6, vg, hf, qx⟩ := hcut
      have VG6 := Lib.hid vg
      have Y6 := Lib.hid (P14.out.step qx)
      have HF6 : Hid (A6 = A ∧ n6 = n ∨ ∀ ad, A6 = some ad → w.heap.size + 2 ≤ ad.block) := Lib.hid (by
        rcases hf with ⟨rfl, rfl⟩ | h
        · exact HF.out
        · right; intro ad e; have h4 := h ad e; have h5 := P14.out.res.lt; omega)
      clear hg6 vg hf qx e0 e1 e2 e3 f0 f1 f2' f3 KA2 KN KN2 KL
      obtain ⟨⟨g0, g1, g2, g3⟩, _⟩ := VG6.out.get
      obtain ⟨⟨s0, s1, s2, s3⟩, h0, h1, h2, h3⟩ := Y6.out.getR
      go_wp2
      refine bodyPost_ret (v := .tuple #[dkv A6 n6 c6 r5.1.room r5.1.fuse r5.1.off, .int .i64 (seg + 1), .int .i64 r5.2]) (by simp [results, Tryd.results7, go_sem, s0, s1, s2, s3]) rfl ?_
      exact Y6.out.endV2 HD.out (d := r5.1) VG6.out.dsk HF6.out [.int .i64 (seg + 1), .int .i64 r5.2] _ _ _ _

theorem refPut_any (seg : Int) (rec : ByteArray) (A : Option Addr) (n c : Nat) (d : Dk) (w : World) (hd : Dsk w A n c d.fs) (hB : Bnd 2305843009213693952 d) (hr : rec.size ≤ maxLen) :
    Calls Tryd.prog 7 #[dkv A n c d.room d.fuse d.off, .int .i64 seg, .string rec] w fun e w' => RetV w A n (putM d seg rec).1 [.int .i64 (putM d seg rec).2.1, .int .i64 (putM d seg rec).2.2] e w' := by
  by_cases h1 : segOk seg
  case neg =>
    rw [show putM d seg rec = (d, seg, 1) by unfold putM; rw [if_pos h1]]
    by_cases h2 : seg < 1
    · exact refPut_low seg rec A n c d w hd hB h2
    · exact refPut_high seg rec A n c d w hd hB (by unfold segOk at h1; omega)
  by_cases h2 : 2048 < rec.size
  · rw [show putM d seg rec = (d, seg, 4) by unfold putM; rw [if_neg (by simpa using h1), if_pos h2]]
    exact refPut_big seg rec A n c d w hd hB h1 h2 hr
  have e0 : putM d seg rec = putB d seg rec := by unfold putM; rw [if_neg (by simpa using h1), if_neg h2]
  rw [e0]
  by_cases h3 : (redd (namB seg) d.fs).1.size < 256
  · rw [show putB d seg rec = putA d seg rec by unfold putB; rw [if_pos h3]]
    exact refPut_fit seg rec A n c d w hd hB h1 (by omega) h3
  by_cases h4 : (syn d (namB seg)).2 = 0
  case neg =>
    rw [show putB d seg rec = ((syn d (namB seg)).1, seg, (syn d (namB seg)).2) by unfold putB; rw [if_neg h3, if_pos h4]]
    exact refPut_serr seg rec A n c d w hd hB h1 (by omega) (by omega) h4
  by_cases h5 : seg = 1000000
  · rw [show putB d seg rec = ((syn d (namB seg)).1, seg, 5) by unfold putB; rw [if_neg h3, if_neg (by simpa using h4), if_pos h5]]
    exact refPut_full seg rec A n c d w hd hB h1 (by omega) (by omega) h4 h5
  · rw [show putB d seg rec = putA (syn d (namB seg)).1 (seg + 1) rec by unfold putB; rw [if_neg h3, if_neg (by simpa using h4), if_neg h5]]
    exact refPut_next seg rec A n c d w hd hB h1 (by omega) (by omega) h4 h5
end Go.Proofs.YtplhkppikkbkkaaDoor
