/- WalRefDrop: merged. -/
import Derived.Test.YtggbdhnjogalgaaGreatDoorR3
import Derived.Test.YtggbdhnjogalgaaGreatDoorR6
import Derived.Test.YtggbdhnjogalgaaGreatDoorR5
/- Contract: the document's Drop of a log's segments. -/
namespace Go.Proofs.YtggbdhnjogalgaaGreatDoor
set_option maxRecDepth 100000
open Go.RowKit Dkm Wm
set_option linter.unusedVariables false
set_option linter.unusedSimpArgs false

/-- behind 'next, bad := Delete(d, ..)': a box of its own with the disk. -/
def Cb (w : World) (A0 : Option Addr) (n0 : Nat) (r : Dk) (er : Int) (s11 s12 : Value) (wx : World) : Prop :=
  ∃ g A n c, s11 = .pointer (some ⟨g, 0, none⟩) ∧ s12 = .int .i64 er ∧ w.heap.size ≤ g ∧ Bx wx g [.slice A n c, .int .i64 r.room, .int .i64 r.fuse, .bool r.off] ∧ Dsk wx A n c r.fs ∧ (A = A0 ∧ n = n0 ∨ ∀ ad, A = some ad → w.heap.size ≤ ad.block) ∧ Q w wx
theorem Cb.mk {w W : World} {A0 : Option Addr} {n0 : Nat} {r : Dk} {er : Int} {A : Option Addr} {n c g : Nat} (q : Q w W) (hd : Dsk W A n c r.fs) (hf : A = A0 ∧ n = n0 ∨ ∀ ad, A = some ad → w.heap.size ≤ ad.block) (hb : Bx W g [.slice none 0 0, .int .i64 0, .int .i64 0, .bool false]) (hg : w.heap.size ≤ g) :
    Cb w A0 n0 r er (.pointer (some ⟨g, 0, none⟩)) (.int .i64 er) ((((W.setCell ⟨g, 0, none⟩ (.slice A n c)).setCell ⟨g, 1, none⟩ (.int .i64 r.room)).setCell ⟨g, 2, none⟩ (.int .i64 r.fuse)).setCell ⟨g, 3, none⟩ (.bool r.off)) :=
  ⟨g, A, n, c, rfl, rfl, hg, hb.put4 _ _ _ _, hd.odd4 hb (by intro u hu s e; subst e; simp at hu) _ _ _ _, hf, q.set4 hg _ _ _ _⟩
/-- the file that was found lies in a new box, of which nothing is asked. -/
def Cf (w : World) (b : Bool) (s10 : Value) (wx : World) : Prop := s10 = .bool b ∧ Q w wx
theorem seqD_step (n : Nat) (s til : Int) (d : Dk) (h : s < til ∧ s ≤ 1000000) (hn : (til - s).toNat = n + 1) : seqD (til - s).toNat s til d = if (hit (namB s) d.fs).2 then (if (del d (namB s)).2 = 0 then seqD (til - (s + 1)).toNat (s + 1) til (del d (namB s)).1 else del d (namB s)) else seqD (til - (s + 1)).toNat (s + 1) til d := by
  rw [hn, show (til - (s + 1)).toNat = n by omega]
  conv => lhs; unfold seqD
  rw [if_pos h]
theorem seqD_end (n : Nat) (s til : Int) (d : Dk) (h : ¬ (s < til ∧ s ≤ 1000000)) : seqD n s til d = (d, 0) := by
  cases n with
  | zero => rfl
  | succ n => unfold seqD; rw [if_neg h]
/-- where the loop stands. -/
def Ld (w : World) (A0 : Option Addr) (n0 : Nat) (til : Int) (R : Dk × Int) (s : Int) (wr : World) : Prop :=
  ∃ A n c d, Sv w A n c d wr ∧ (A = A0 ∧ n = n0 ∨ Far w A) ∧ Bnd 2305843009213693952 d ∧ seqD (til - s).toNat s til d = R

set_option maxRecDepth 100000 in
set_option maxHeartbeats 8000000 in
theorem refDrop_lo (fr til : Int) (A : Option Addr) (n c : Nat) (d : Dk) (w : World) (hd : Dsk w A n c d.fs) (hB : Bnd 2305843009213693952 d) (R : Dk × Int) (hR : seqD (til - 1).toNat 1 til d = R) (hf : fr < 1) (h1 : til ≤ 9223372036854775807) :
    Calls Tryz.prog 11 #[dkv A n c d.room d.fuse d.off, .int .i64 fr, .int .i64 til] w fun e w' => RetDK w A n R.1 R.2 e w' := by
  have S0 := Lib.hid (show Ld w A n til R 1 _ from ⟨A, n, c, d, Sv.new w hd, .inl ⟨rfl, rfl⟩, hB, hR⟩)
  have mx : ∀ (d : Dk), Bnd 2305843009213693952 d → ∀ f ∈ d.fs, f.sf.size + f.wt.size ≤ maxLen := fun _ h f hf => Nat.le_trans (h.sum f hf) (by unfold maxLen; omega)
  have MX := Lib.hid mx
  clear hd hB hR mx
  go_enter Tryz.func11, Tryz.ntmps11
  go_wp2
  generalize (w.alloc (.cells #[.slice A n c, .int .i64 d.room, .int .i64 d.fuse, .bool d.off] 24)).alloc (.cells #[.slice none 0 0, .int .i64 0, .int .i64 0, .bool false] 24) = W at S0 ⊢
  go_loopw [8] (fun i wr => ∃ s : Int, i = .int .i64 s ∧ 1 ≤ s ∧ (s ≤ til ∨ s = 1) ∧ s ≤ 1000001 ∧ Ld w A n til R s wr) (fun i _ => (til - intOf i).toNat)
  case atStart => exact ⟨1, rfl, by omega, .inr rfl, by omega, S0.out⟩
  case round =>
    obtain ⟨s, rfl, hs1, hs2, hs3, A2, n2, c2, d2, hv, hfar, hb, hr⟩ := hrel
    have HV := Lib.hid hv
    have HF := Lib.hid hfar
    have HB := Lib.hid hb
    have HR := Lib.hid hr
    clear hv hfar hb hr S0
    obtain ⟨⟨e0, e1, e2, e3⟩, f0, f1, f2', f3⟩ := HV.out.sb.get
    by_cases hc : s < til ∧ s ≤ 1000000
    · obtain ⟨hc1, hc2⟩ := hc
      have HS := Lib.hid (seqD_step ((til - s).toNat - 1) s til d2 ⟨hc1, hc2⟩ (by omega))
      have KN := Lib.hid (fun W => refName_any s W (by omega) (by omega))
      have KF := Lib.hid (fun W hf => ref_find (namB s) A2 n2 c2 d2.room d2.fuse d2.off d2.fs W hf HV.out.dsk.max)
      have KD := Lib.hid (fun A n c W hd => ref_del_any (namB s) A n c d2 W hd (MX.out _ HB.out) HB.out.fuse.2)
      have HBD := Lib.hid (HB.out.del (namB s))
      have i1 : ¬ 1000000 < s := by omega
      generalize hnb0 : namB s = nmb at KN KF KD HBD HS
      clear hnb0
      generalize hit nmb d2.fs = x at KF HS
      obtain ⟨⟨xn, xs, xt⟩, b⟩ := x
      simp only at HS
      generalize del d2 nmb = x at KD HBD HS
      obtain ⟨r, er⟩ := x
      simp only at HS HBD
      go_upto_region 6 with (fail)
      go_cut [10] (fun s10 wx => Cf wr b s10 wx)
      case first =>
        refine wp_region_heldL 8 (Q wr) (by kernel_rfl) ?szz0 (fun hHeld => ?rzz0)
        case szz0 =>
          exact (Q.refl wr).drew
        case' rzz0 => skip
        generalize hgen : wr.drew = D0 at hHeld ⊢
        clear hgen
        refine wpAnyL_take (i := 0) (oi := ?ozz1) (v := ?vzz1) ?hzz1 ?azz1 ?bzz1 ?czz1 ?kzz1 ?qzz1 ?yzz1 ?szz1 ?rzz1
        case hzz1 => simp only [List.getElem?_toArray, List.getElem?_cons_zero]; rfl
        case azz1 => kernel_rfl
        case bzz1 => kernel_rfl
        case czz1 => kernel_rfl
        case kzz1 => kernel_rfl
        case yzz1 =>
          refine Or.inl ⟨by rfl, ?_⟩
          intro w hSw
          have x0 := box_ hSw e0; have x1 := box_ hSw e1; have x2 := box_ hSw e2; have x3 := box_ hSw e3; clear hSw
          go_simp
          try with_reducible rfl
        case qzz1 => exact fun _ _ _ h => h
        case szz1 => first | assumption | trivial
        case' rzz1 => simp only [Act.put, List.setIfInBounds_toArray, List.set_cons_zero, List.set_cons_succ]
        refine wpAnyL_take (i := 1) (oi := ?ozz2) (v := ?vzz2) ?hzz2 ?azz2 ?bzz2 ?czz2 ?kzz2 ?qzz2 ?yzz2 ?szz2 ?rzz2
        case hzz2 => simp only [List.getElem?_toArray, List.getElem?_cons_zero, List.getElem?_cons_succ]; rfl
        case azz2 => kernel_rfl
        case bzz2 => kernel_rfl
        case czz2 => kernel_rfl
        case kzz2 => kernel_rfl
        case yzz2 =>
          refine Or.inl ⟨by rfl, ?_⟩
          intro w hSw
          skip
          go_simp
          try with_reducible rfl
        case qzz2 => exact fun _ _ _ h => h
        case szz2 => first | assumption | trivial
        case' rzz2 => simp only [Act.put, List.setIfInBounds_toArray, List.set_cons_zero, List.set_cons_succ]
        refine wpAnyL_ready (rs := [2, 7]) (by kernel_rfl) (by simp) ?_
        refine AllReadyL.cons (o := ?ozz37) ?hzz37 (fun K hK => ?kzz37) ?mzz37
        case hzz37 => simp only [List.getElem?_toArray, List.getElem?_cons_zero, List.getElem?_cons_succ]; rfl
        case kzz37 =>
          go_simp
          refine (KN.out _).mono ?_
          rintro e v2 ⟨rfl, q2⟩
          go_wp2_with fail
          refine hK.out _ _ ?Szz37 (fun hHeld => ?Rzz37)
          case Szz37 =>
            exact hHeld.trans q2
          case Rzz37 =>
            clear hK K
            try simp only [Act.put, List.setIfInBounds_toArray, List.set_cons_zero, List.set_cons_succ]
            refine wpAnyL_ready (rs := [3, 7]) (by kernel_rfl) (by simp) ?_
            refine AllReadyL.cons (o := ?ozz25) ?hzz25 (fun K hK => ?kzz25) ?mzz25
            case hzz25 => simp only [List.getElem?_toArray, List.getElem?_cons_zero, List.getElem?_cons_succ]; rfl
            case kzz25 =>
              go_simp
              refine (KF.out _ (HV.out.dsk.q hHeld).files).mono ?_
              rintro e v3 ⟨rfl, q3⟩
              go_wp2_with fail
              refine hK.out _ _ ?Szz25 (fun hHeld => ?Rzz25)
              case Szz25 =>
                exact hHeld.trans q3
              case Rzz25 =>
                clear hK K
                try simp only [Act.put, List.setIfInBounds_toArray, List.set_cons_zero, List.set_cons_succ]
                refine wpAnyL_take (i := 4) (oi := ?ozz3) (v := ?vzz3) ?hzz3 ?azz3 ?bzz3 ?czz3 ?kzz3 ?qzz3 ?yzz3 ?szz3 ?rzz3
                case hzz3 => simp only [List.getElem?_toArray, List.getElem?_cons_zero, List.getElem?_cons_succ]; rfl
                case azz3 => kernel_rfl
                case bzz3 => kernel_rfl
                case czz3 => kernel_rfl
                case kzz3 => kernel_rfl
                case yzz3 =>
                  refine Or.inl ⟨by rfl, ?_⟩
                  intro w hSw
                  skip
                  go_simp
                  try with_reducible rfl
                case qzz3 => exact fun _ _ _ h => h
                case szz3 => first | assumption | trivial
                case' rzz3 => simp only [Act.put, List.setIfInBounds_toArray, List.set_cons_zero, List.set_cons_succ]
                refine wpAnyL_take (i := 5) (oi := ?ozz4) (v := ?vzz4) ?hzz4 ?azz4 ?bzz4 ?czz4 ?kzz4 ?qzz4 ?yzz4 ?szz4 ?rzz4
                case hzz4 => simp only [List.getElem?_toArray, List.getElem?_cons_zero, List.getElem?_cons_succ]; rfl
                case azz4 => kernel_rfl
                case bzz4 => kernel_rfl
                case czz4 => kernel_rfl
                case kzz4 => kernel_rfl
                case yzz4 =>
                  refine Or.inl ⟨by rfl, ?_⟩
                  intro w hSw
                  skip
                  go_simp
                  try with_reducible rfl
                case qzz4 => exact fun _ _ _ h => h
                case szz4 => first | assumption | trivial
                case' rzz4 => simp only [Act.put, List.setIfInBounds_toArray, List.set_cons_zero, List.set_cons_succ]
                refine wpAnyL_ready (rs := [6, 7]) (by kernel_rfl) (by simp) ?_
                refine AllReadyL.cons (o := ?ozz14) ?hzz14 (fun K hK => ?kzz14) ?mzz14
                case hzz14 => simp only [List.getElem?_toArray, List.getElem?_cons_zero, List.getElem?_cons_succ]; rfl
                case kzz14 =>
                  go_simp
                  refine hK.out _ _ ?Szz14 (fun hHeld => ?Rzz14)
                  case Szz14 =>
                    exact hHeld
                  case Rzz14 =>
                    clear hK K
                    try simp only [Act.put, List.setIfInBounds_toArray, List.set_cons_zero, List.set_cons_succ]
                    refine wpAnyL_ready (rs := [7]) (by kernel_rfl) (by simp) ?_
                    refine AllReadyL.cons (o := ?ozz7) ?hzz7 (fun K hK => ?kzz7) ?mzz7
                    case hzz7 => simp only [List.getElem?_toArray, List.getElem?_cons_zero, List.getElem?_cons_succ]; rfl
                    case kzz7 =>
                      go_simp
                      have BX := Lib.hid (Bx.new v3 [.string ⟨#[]⟩, .string ⟨#[]⟩, .string ⟨#[]⟩] 42)
                      have hnb : wr.heap.size ≤ v3.heap.size := hHeld.size
                      have qa := (Q.refl v3).alloc (.cells #[.string ⟨#[]⟩, .string ⟨#[]⟩, .string ⟨#[]⟩] 42)
                      have BX : Hid (Bx (v3.alloc (.cells #[.string ⟨#[]⟩, .string ⟨#[]⟩, .string ⟨#[]⟩] 42)) v3.heap.size [.string ⟨#[]⟩, .string ⟨#[]⟩, .string ⟨#[]⟩]) := Lib.hid BX.out
                      generalize v3.alloc (.cells #[.string ⟨#[]⟩, .string ⟨#[]⟩, .string ⟨#[]⟩] 42) = Y0 at BX qa ⊢
                      generalize v3.heap.size = nb at BX hnb ⊢
                      refine hK.out _ _ ?Szz7 (fun hHeld => ?Rzz7)
                      case Szz7 =>
                        exact hHeld.trans qa
                      case Rzz7 =>
                        clear hK K
                        try simp only [Act.put, List.setIfInBounds_toArray, List.set_cons_zero, List.set_cons_succ]
                        refine wpAnyL_ready (rs := [8]) (by kernel_rfl) (by simp) ?_
                        refine AllReadyL.consK (o := ?ozz6) ?hzz6 ?lzz6 (fun K hK => ?kzz6) ?mzz6
                        case hzz6 => simp only [List.getElem?_toArray, List.getElem?_cons_zero, List.getElem?_cons_succ]; rfl
                        case lzz6 => kernel_rfl
                        case kzz6 =>
                          have HZ := Lib.hid hHeld
                          obtain ⟨⟨b0, b1, b2⟩, g0, g1, g2⟩ := BX.out.get3
                          go_simp
                          refine hK.out _ _ ?Rzz6
                          case Rzz6 =>
                            clear hK K
                            try simp only [Act.put, List.setIfInBounds_toArray, List.set_cons_zero, List.set_cons_succ]
                            refine wpAnyH_take (i := 9) (oi := ?ozz5) (v := ?vzz5) ?hzz5 ?azz5 ?bzz5 ?czz5 ?qzz5 ?yzz5 ?szz5 ?rzz5
                            case hzz5 => simp only [List.getElem?_toArray, List.getElem?_cons_zero, List.getElem?_cons_succ]; rfl
                            case azz5 => kernel_rfl
                            case bzz5 => kernel_rfl
                            case czz5 => kernel_rfl
                            case yzz5 =>
                              refine Or.inl ⟨by rfl, ?_⟩
                              intro w hSw
                              skip
                              go_simp
                              try with_reducible rfl
                            case qzz5 => exact fun _ _ _ h => h
                            case szz5 => first | assumption | trivial
                            case' rzz5 => simp only [Act.put, List.setIfInBounds_toArray, List.set_cons_zero, List.set_cons_succ]
                            refine wpAnyH_done (by kernel_rfl) ?_ _
                            go_wp2_with fail
                            go_meet
                            exact ⟨rfl, ((HZ.out.setCell (p := ⟨nb, 0, none⟩) hnb _).setCell (p := ⟨nb, 1, none⟩) hnb _).setCell (p := ⟨nb, 2, none⟩) hnb _⟩
                        case' mzz6 => skip
                        exact AllReadyL.nil
                    case' mzz7 => skip
                    exact AllReadyL.nil
                case' mzz14 => skip
                refine AllReadyL.cons (o := ?ozz15) ?hzz15 (fun K hK => ?kzz15) ?mzz15
                case hzz15 => simp only [List.getElem?_toArray, List.getElem?_cons_zero, List.getElem?_cons_succ]; rfl
                case kzz15 =>
                  go_simp
                  have BX := Lib.hid (Bx.new v3 [.string ⟨#[]⟩, .string ⟨#[]⟩, .string ⟨#[]⟩] 42)
                  have hnb : wr.heap.size ≤ v3.heap.size := hHeld.size
                  have qa := (Q.refl v3).alloc (.cells #[.string ⟨#[]⟩, .string ⟨#[]⟩, .string ⟨#[]⟩] 42)
                  have BX : Hid (Bx (v3.alloc (.cells #[.string ⟨#[]⟩, .string ⟨#[]⟩, .string ⟨#[]⟩] 42)) v3.heap.size [.string ⟨#[]⟩, .string ⟨#[]⟩, .string ⟨#[]⟩]) := Lib.hid BX.out
                  generalize v3.alloc (.cells #[.string ⟨#[]⟩, .string ⟨#[]⟩, .string ⟨#[]⟩] 42) = Y1 at BX qa ⊢
                  generalize v3.heap.size = nb at BX hnb ⊢
                  refine hK.out _ _ ?Szz15 (fun hHeld => ?Rzz15)
                  case Szz15 =>
                    exact hHeld.trans qa
                  case Rzz15 =>
                    clear hK K
                    try simp only [Act.put, List.setIfInBounds_toArray, List.set_cons_zero, List.set_cons_succ]
                    refine wpAnyL_ready (rs := [6, 8]) (by kernel_rfl) (by simp) ?_
                    refine AllReadyL.cons (o := ?ozz12) ?hzz12 (fun K hK => ?kzz12) ?mzz12
                    case hzz12 => simp only [List.getElem?_toArray, List.getElem?_cons_zero, List.getElem?_cons_succ]; rfl
                    case kzz12 =>
                      go_simp
                      refine hK.out _ _ ?Szz12 (fun hHeld => ?Rzz12)
                      case Szz12 =>
                        exact hHeld
                      case Rzz12 =>
                        clear hK K
                        try simp only [Act.put, List.setIfInBounds_toArray, List.set_cons_zero, List.set_cons_succ]
                        refine wpAnyL_ready (rs := [8]) (by kernel_rfl) (by simp) ?_
                        refine AllReadyL.consK (o := ?ozz9) ?hzz9 ?lzz9 (fun K hK => ?kzz9) ?mzz9
                        case hzz9 => simp only [List.getElem?_toArray, List.getElem?_cons_zero, List.getElem?_cons_succ]; rfl
                        case lzz9 => kernel_rfl
                        case kzz9 =>
                          have HZ := Lib.hid hHeld
                          obtain ⟨⟨b0, b1, b2⟩, g0, g1, g2⟩ := BX.out.get3
                          go_simp
                          refine hK.out _ _ ?Rzz9
                          case Rzz9 =>
                            clear hK K
                            try simp only [Act.put, List.setIfInBounds_toArray, List.set_cons_zero, List.set_cons_succ]
                            refine wpAnyH_take (i := 9) (oi := ?ozz8) (v := ?vzz8) ?hzz8 ?azz8 ?bzz8 ?czz8 ?qzz8 ?yzz8 ?szz8 ?rzz8
                            case hzz8 => simp only [List.getElem?_toArray, List.getElem?_cons_zero, List.getElem?_cons_succ]; rfl
                            case azz8 => kernel_rfl
                            case bzz8 => kernel_rfl
                            case czz8 => kernel_rfl
                            case yzz8 =>
                              refine Or.inl ⟨by rfl, ?_⟩
                              intro w hSw
                              skip
                              go_simp
                              try with_reducible rfl
                            case qzz8 => exact fun _ _ _ h => h
                            case szz8 => first | assumption | trivial
                            case' rzz8 => simp only [Act.put, List.setIfInBounds_toArray, List.set_cons_zero, List.set_cons_succ]
                            refine wpAnyH_done (by kernel_rfl) ?_ _
                            go_wp2_with fail
                            go_meet
                            exact ⟨rfl, ((HZ.out.setCell (p := ⟨nb, 0, none⟩) hnb _).setCell (p := ⟨nb, 1, none⟩) hnb _).setCell (p := ⟨nb, 2, none⟩) hnb _⟩
                        case' mzz9 => skip
                        exact AllReadyL.nil
                    case' mzz12 => skip
                    refine AllReadyL.consK (o := ?ozz13) ?hzz13 ?lzz13 (fun K hK => ?kzz13) ?mzz13
                    case hzz13 => simp only [List.getElem?_toArray, List.getElem?_cons_zero, List.getElem?_cons_succ]; rfl
                    case lzz13 => kernel_rfl
                    case kzz13 =>
                      have HZ := Lib.hid hHeld
                      obtain ⟨⟨b0, b1, b2⟩, g0, g1, g2⟩ := BX.out.get3
                      go_simp
                      refine hK.out _ _ ?Rzz13
                      case Rzz13 =>
                        clear hK K
                        try simp only [Act.put, List.setIfInBounds_toArray, List.set_cons_zero, List.set_cons_succ]
                        refine wpAnyH_take (i := 6) (oi := ?ozz10) (v := ?vzz10) ?hzz10 ?azz10 ?bzz10 ?czz10 ?qzz10 ?yzz10 ?szz10 ?rzz10
                        case hzz10 => simp only [List.getElem?_toArray, List.getElem?_cons_zero, List.getElem?_cons_succ]; rfl
                        case azz10 => kernel_rfl
                        case bzz10 => kernel_rfl
                        case czz10 => kernel_rfl
                        case yzz10 =>
                          refine Or.inl ⟨by rfl, ?_⟩
                          intro w hSw
                          skip
                          go_simp
                          try with_reducible rfl
                        case qzz10 => exact fun _ _ _ h => h
                        case szz10 => first | assumption | trivial
                        case' rzz10 => simp only [Act.put, List.setIfInBounds_toArray, List.set_cons_zero, List.set_cons_succ]
                        refine wpAnyH_take (i := 9) (oi := ?ozz11) (v := ?vzz11) ?hzz11 ?azz11 ?bzz11 ?czz11 ?qzz11 ?yzz11 ?szz11 ?rzz11
                        case hzz11 => simp only [List.getElem?_toArray, List.getElem?_cons_zero, List.getElem?_cons_succ]; rfl
                        case azz11 => kernel_rfl
                        case bzz11 => kernel_rfl
                        case czz11 => kernel_rfl
                        case yzz11 =>
                          refine Or.inl ⟨by rfl, ?_⟩
                          intro w hSw
                          skip
                          go_simp
                          try with_reducible rfl
                        case qzz11 => exact fun _ _ _ h => h
                        case szz11 => first | assumption | trivial
                        case' rzz11 => simp only [Act.put, List.setIfInBounds_toArray, List.set_cons_zero, List.set_cons_succ]
                        refine wpAnyH_done (by kernel_rfl) ?_ _
                        go_wp2_with fail
                        go_meet
                        exact ⟨rfl, ((HZ.out.setCell (p := ⟨nb, 0, none⟩) hnb _).setCell (p := ⟨nb, 1, none⟩) hnb _).setCell (p := ⟨nb, 2, none⟩) hnb _⟩
                    case' mzz13 => skip
                    exact AllReadyL.nil
                case' mzz15 => skip
                exact AllReadyL.nil
            case' mzz25 => skip
            refine AllReadyL.cons (o := ?ozz26) ?hzz26 (fun K hK => ?kzz26) ?mzz26
            case hzz26 => simp only [List.getElem?_toArray, List.getElem?_cons_zero, List.getElem?_cons_succ]; rfl
            case kzz26 =>
              go_simp
              have BX := Lib.hid (Bx.new v2 [.string ⟨#[]⟩, .string ⟨#[]⟩, .string ⟨#[]⟩] 42)
              have hnb : wr.heap.size ≤ v2.heap.size := hHeld.size
              have qa := (Q.refl v2).alloc (.cells #[.string ⟨#[]⟩, .string ⟨#[]⟩, .string ⟨#[]⟩] 42)
              have BX : Hid (Bx (v2.alloc (.cells #[.string ⟨#[]⟩, .string ⟨#[]⟩, .string ⟨#[]⟩] 42)) v2.heap.size [.string ⟨#[]⟩, .string ⟨#[]⟩, .string ⟨#[]⟩]) := Lib.hid BX.out
              generalize v2.alloc (.cells #[.string ⟨#[]⟩, .string ⟨#[]⟩, .string ⟨#[]⟩] 42) = Y2 at BX qa ⊢
              generalize v2.heap.size = nb at BX hnb ⊢
              refine hK.out _ _ ?Szz26 (fun hHeld => ?Rzz26)
              case Szz26 =>
                exact hHeld.trans qa
              case Rzz26 =>
                clear hK K
                try simp only [Act.put, List.setIfInBounds_toArray, List.set_cons_zero, List.set_cons_succ]
                refine wpAnyL_ready (rs := [3]) (by kernel_rfl) (by simp) ?_
                refine AllReadyL.cons (o := ?ozz24) ?hzz24 (fun K hK => ?kzz24) ?mzz24
                case hzz24 => simp only [List.getElem?_toArray, List.getElem?_cons_zero, List.getElem?_cons_succ]; rfl
                case kzz24 =>
                  go_simp
                  refine (KF.out _ (HV.out.dsk.q hHeld).files).mono ?_
                  rintro e v3 ⟨rfl, q3⟩
                  have BX := Lib.hid (BX.out.q q3)
                  go_wp2_with fail
                  refine hK.out _ _ ?Szz24 (fun hHeld => ?Rzz24)
                  case Szz24 =>
                    exact hHeld.trans q3
                  case Rzz24 =>
                    clear hK K
                    try simp only [Act.put, List.setIfInBounds_toArray, List.set_cons_zero, List.set_cons_succ]
                    refine wpAnyL_take (i := 4) (oi := ?ozz16) (v := ?vzz16) ?hzz16 ?azz16 ?bzz16 ?czz16 ?kzz16 ?qzz16 ?yzz16 ?szz16 ?rzz16
                    case hzz16 => simp only [List.getElem?_toArray, List.getElem?_cons_zero, List.getElem?_cons_succ]; rfl
                    case azz16 => kernel_rfl
                    case bzz16 => kernel_rfl
                    case czz16 => kernel_rfl
                    case kzz16 => kernel_rfl
                    case yzz16 =>
                      refine Or.inl ⟨by rfl, ?_⟩
                      intro w hSw
                      skip
                      go_simp
                      try with_reducible rfl
                    case qzz16 => exact fun _ _ _ h => h
                    case szz16 => first | assumption | trivial
                    case' rzz16 => simp only [Act.put, List.setIfInBounds_toArray, List.set_cons_zero, List.set_cons_succ]
                    refine wpAnyL_take (i := 5) (oi := ?ozz17) (v := ?vzz17) ?hzz17 ?azz17 ?bzz17 ?czz17 ?kzz17 ?qzz17 ?yzz17 ?szz17 ?rzz17
                    case hzz17 => simp only [List.getElem?_toArray, List.getElem?_cons_zero, List.getElem?_cons_succ]; rfl
                    case azz17 => kernel_rfl
                    case bzz17 => kernel_rfl
                    case czz17 => kernel_rfl
                    case kzz17 => kernel_rfl
                    case yzz17 =>
                      refine Or.inl ⟨by rfl, ?_⟩
                      intro w hSw
                      skip
                      go_simp
                      try with_reducible rfl
                    case qzz17 => exact fun _ _ _ h => h
                    case szz17 => first | assumption | trivial
                    case' rzz17 => simp only [Act.put, List.setIfInBounds_toArray, List.set_cons_zero, List.set_cons_succ]
                    refine wpAnyL_ready (rs := [6, 8]) (by kernel_rfl) (by simp) ?_
                    refine AllReadyL.cons (o := ?ozz22) ?hzz22 (fun K hK => ?kzz22) ?mzz22
                    case hzz22 => simp only [List.getElem?_toArray, List.getElem?_cons_zero, List.getElem?_cons_succ]; rfl
                    case kzz22 =>
                      go_simp
                      refine hK.out _ _ ?Szz22 (fun hHeld => ?Rzz22)
                      case Szz22 =>
                        exact hHeld
                      case Rzz22 =>
                        clear hK K
                        try simp only [Act.put, List.setIfInBounds_toArray, List.set_cons_zero, List.set_cons_succ]
                        refine wpAnyL_ready (rs := [8]) (by kernel_rfl) (by simp) ?_
                        refine AllReadyL.consK (o := ?ozz19) ?hzz19 ?lzz19 (fun K hK => ?kzz19) ?mzz19
                        case hzz19 => simp only [List.getElem?_toArray, List.getElem?_cons_zero, List.getElem?_cons_succ]; rfl
                        case lzz19 => kernel_rfl
                        case kzz19 =>
                          have HZ := Lib.hid hHeld
                          obtain ⟨⟨b0, b1, b2⟩, g0, g1, g2⟩ := BX.out.get3
                          go_simp
                          refine hK.out _ _ ?Rzz19
                          case Rzz19 =>
                            clear hK K
                            try simp only [Act.put, List.setIfInBounds_toArray, List.set_cons_zero, List.set_cons_succ]
                            refine wpAnyH_take (i := 9) (oi := ?ozz18) (v := ?vzz18) ?hzz18 ?azz18 ?bzz18 ?czz18 ?qzz18 ?yzz18 ?szz18 ?rzz18
                            case hzz18 => simp only [List.getElem?_toArray, List.getElem?_cons_zero, List.getElem?_cons_succ]; rfl
                            case azz18 => kernel_rfl
                            case bzz18 => kernel_rfl
                            case czz18 => kernel_rfl
                            case yzz18 =>
                              refine Or.inl ⟨by rfl, ?_⟩
                              intro w hSw
                              skip
                              go_simp
                              try with_reducible rfl
                            case qzz18 => exact fun _ _ _ h => h
                            case szz18 => first | assumption | trivial
                            case' rzz18 => simp only [Act.put, List.setIfInBounds_toArray, List.set_cons_zero, List.set_cons_succ]
                            refine wpAnyH_done (by kernel_rfl) ?_ _
                            go_wp2_with fail
                            go_meet
                            exact ⟨rfl, ((HZ.out.setCell (p := ⟨nb, 0, none⟩) hnb _).setCell (p := ⟨nb, 1, none⟩) hnb _).setCell (p := ⟨nb, 2, none⟩) hnb _⟩
                        case' mzz19 => skip
                        exact AllReadyL.nil
                    case' mzz22 => skip
                    refine AllReadyL.consK (o := ?ozz23) ?hzz23 ?lzz23 (fun K hK => ?kzz23) ?mzz23
                    case hzz23 => simp only [List.getElem?_toArray, List.getElem?_cons_zero, List.getElem?_cons_succ]; rfl
                    case lzz23 => kernel_rfl
                    case kzz23 =>
                      have HZ := Lib.hid hHeld
                      obtain ⟨⟨b0, b1, b2⟩, g0, g1, g2⟩ := BX.out.get3
                      go_simp
                      refine hK.out _ _ ?Rzz23
                      case Rzz23 =>
                        clear hK K
                        try simp only [Act.put, List.setIfInBounds_toArray, List.set_cons_zero, List.set_cons_succ]
                        refine wpAnyH_take (i := 6) (oi := ?ozz20) (v := ?vzz20) ?hzz20 ?azz20 ?bzz20 ?czz20 ?qzz20 ?yzz20 ?szz20 ?rzz20
                        case hzz20 => simp only [List.getElem?_toArray, List.getElem?_cons_zero, List.getElem?_cons_succ]; rfl
                        case azz20 => kernel_rfl
                        case bzz20 => kernel_rfl
                        case czz20 => kernel_rfl
                        case yzz20 =>
                          refine Or.inl ⟨by rfl, ?_⟩
                          intro w hSw
                          skip
                          go_simp
                          try with_reducible rfl
                        case qzz20 => exact fun _ _ _ h => h
                        case szz20 => first | assumption | trivial
                        case' rzz20 => simp only [Act.put, List.setIfInBounds_toArray, List.set_cons_zero, List.set_cons_succ]
                        refine wpAnyH_take (i := 9) (oi := ?ozz21) (v := ?vzz21) ?hzz21 ?azz21 ?bzz21 ?czz21 ?qzz21 ?yzz21 ?szz21 ?rzz21
                        case hzz21 => simp only [List.getElem?_toArray, List.getElem?_cons_zero, List.getElem?_cons_succ]; rfl
                        case azz21 => kernel_rfl
                        case bzz21 => kernel_rfl
                        case czz21 => kernel_rfl
                        case yzz21 =>
                          refine Or.inl ⟨by rfl, ?_⟩
                          intro w hSw
                          skip
                          go_simp
                          try with_reducible rfl
                        case qzz21 => exact fun _ _ _ h => h
                        case szz21 => first | assumption | trivial
                        case' rzz21 => simp only [Act.put, List.setIfInBounds_toArray, List.set_cons_zero, List.set_cons_succ]
                        refine wpAnyH_done (by kernel_rfl) ?_ _
                        go_wp2_with fail
                        go_meet
                        exact ⟨rfl, ((HZ.out.setCell (p := ⟨nb, 0, none⟩) hnb _).setCell (p := ⟨nb, 1, none⟩) hnb _).setCell (p := ⟨nb, 2, none⟩) hnb _⟩
                    case' mzz23 => skip
                    exact AllReadyL.nil
                case' mzz24 => skip
                exact AllReadyL.nil
            case' mzz26 => skip
            exact AllReadyL.nil
        case' mzz37 => skip
        refine AllReadyL.cons (o := ?ozz38) ?hzz38 (fun K hK => ?kzz38) ?mzz38
        case hzz38 => simp only [List.getElem?_toArray, List.getElem?_cons_zero, List.getElem?_cons_succ]; rfl
        case kzz38 =>
          go_simp
          have BX := Lib.hid (Bx.new D0 [.string ⟨#[]⟩, .string ⟨#[]⟩, .string ⟨#[]⟩] 42)
          have hnb : wr.heap.size ≤ D0.heap.size := hHeld.size
          have qa := (Q.refl D0).alloc (.cells #[.string ⟨#[]⟩, .string ⟨#[]⟩, .string ⟨#[]⟩] 42)
          have BX : Hid (Bx (D0.alloc (.cells #[.string ⟨#[]⟩, .string ⟨#[]⟩, .string ⟨#[]⟩] 42)) D0.heap.size [.string ⟨#[]⟩, .string ⟨#[]⟩, .string ⟨#[]⟩]) := Lib.hid BX.out
          generalize D0.alloc (.cells #[.string ⟨#[]⟩, .string ⟨#[]⟩, .string ⟨#[]⟩] 42) = Y3 at BX qa ⊢
          generalize D0.heap.size = nb at BX hnb ⊢
          refine hK.out _ _ ?Szz38 (fun hHeld => ?Rzz38)
          case Szz38 =>
            exact hHeld.trans qa
          case Rzz38 =>
            clear hK K
            try simp only [Act.put, List.setIfInBounds_toArray, List.set_cons_zero, List.set_cons_succ]
            refine wpAnyL_ready (rs := [2]) (by kernel_rfl) (by simp) ?_
            refine AllReadyL.cons (o := ?ozz36) ?hzz36 (fun K hK => ?kzz36) ?mzz36
            case hzz36 => simp only [List.getElem?_toArray, List.getElem?_cons_zero, List.getElem?_cons_succ]; rfl
            case kzz36 =>
              go_simp
              refine (KN.out _).mono ?_
              rintro e v2 ⟨rfl, q2⟩
              have BX := Lib.hid (BX.out.q q2)
              go_wp2_with fail
              refine hK.out _ _ ?Szz36 (fun hHeld => ?Rzz36)
              case Szz36 =>
                exact hHeld.trans q2
              case Rzz36 =>
                clear hK K
                try simp only [Act.put, List.setIfInBounds_toArray, List.set_cons_zero, List.set_cons_succ]
                refine wpAnyL_ready (rs := [3]) (by kernel_rfl) (by simp) ?_
                refine AllReadyL.cons (o := ?ozz35) ?hzz35 (fun K hK => ?kzz35) ?mzz35
                case hzz35 => simp only [List.getElem?_toArray, List.getElem?_cons_zero, List.getElem?_cons_succ]; rfl
                case kzz35 =>
                  go_simp
                  refine (KF.out _ (HV.out.dsk.q hHeld).files).mono ?_
                  rintro e v3 ⟨rfl, q3⟩
                  have BX := Lib.hid (BX.out.q q3)
                  go_wp2_with fail
                  refine hK.out _ _ ?Szz35 (fun hHeld => ?Rzz35)
                  case Szz35 =>
                    exact hHeld.trans q3
                  case Rzz35 =>
                    clear hK K
                    try simp only [Act.put, List.setIfInBounds_toArray, List.set_cons_zero, List.set_cons_succ]
                    refine wpAnyL_take (i := 4) (oi := ?ozz27) (v := ?vzz27) ?hzz27 ?azz27 ?bzz27 ?czz27 ?kzz27 ?qzz27 ?yzz27 ?szz27 ?rzz27
                    case hzz27 => simp only [List.getElem?_toArray, List.getElem?_cons_zero, List.getElem?_cons_succ]; rfl
                    case azz27 => kernel_rfl
                    case bzz27 => kernel_rfl
                    case czz27 => kernel_rfl
                    case kzz27 => kernel_rfl
                    case yzz27 =>
                      refine Or.inl ⟨by rfl, ?_⟩
                      intro w hSw
                      skip
                      go_simp
                      try with_reducible rfl
                    case qzz27 => exact fun _ _ _ h => h
                    case szz27 => first | assumption | trivial
                    case' rzz27 => simp only [Act.put, List.setIfInBounds_toArray, List.set_cons_zero, List.set_cons_succ]
                    refine wpAnyL_take (i := 5) (oi := ?ozz28) (v := ?vzz28) ?hzz28 ?azz28 ?bzz28 ?czz28 ?kzz28 ?qzz28 ?yzz28 ?szz28 ?rzz28
                    case hzz28 => simp only [List.getElem?_toArray, List.getElem?_cons_zero, List.getElem?_cons_succ]; rfl
                    case azz28 => kernel_rfl
                    case bzz28 => kernel_rfl
                    case czz28 => kernel_rfl
                    case kzz28 => kernel_rfl
                    case yzz28 =>
                      refine Or.inl ⟨by rfl, ?_⟩
                      intro w hSw
                      skip
                      go_simp
                      try with_reducible rfl
                    case qzz28 => exact fun _ _ _ h => h
                    case szz28 => first | assumption | trivial
                    case' rzz28 => simp only [Act.put, List.setIfInBounds_toArray, List.set_cons_zero, List.set_cons_succ]
                    refine wpAnyL_ready (rs := [6, 8]) (by kernel_rfl) (by simp) ?_
                    refine AllReadyL.cons (o := ?ozz33) ?hzz33 (fun K hK => ?kzz33) ?mzz33
                    case hzz33 => simp only [List.getElem?_toArray, List.getElem?_cons_zero, List.getElem?_cons_succ]; rfl
                    case kzz33 =>
                      go_simp
                      refine hK.out _ _ ?Szz33 (fun hHeld => ?Rzz33)
                      case Szz33 =>
                        exact hHeld
                      case Rzz33 =>
                        clear hK K
                        try simp only [Act.put, List.setIfInBounds_toArray, List.set_cons_zero, List.set_cons_succ]
                        refine wpAnyL_ready (rs := [8]) (by kernel_rfl) (by simp) ?_
                        refine AllReadyL.consK (o := ?ozz30) ?hzz30 ?lzz30 (fun K hK => ?kzz30) ?mzz30
                        case hzz30 => simp only [List.getElem?_toArray, List.getElem?_cons_zero, List.getElem?_cons_succ]; rfl
                        case lzz30 => kernel_rfl
                        case kzz30 =>
                          have HZ := Lib.hid hHeld
                          obtain ⟨⟨b0, b1, b2⟩, g0, g1, g2⟩ := BX.out.get3
                          go_simp
                          refine hK.out _ _ ?Rzz30
                          case Rzz30 =>
                            clear hK K
                            try simp only [Act.put, List.setIfInBounds_toArray, List.set_cons_zero, List.set_cons_succ]
                            refine wpAnyH_take (i := 9) (oi := ?ozz29) (v := ?vzz29) ?hzz29 ?azz29 ?bzz29 ?czz29 ?qzz29 ?yzz29 ?szz29 ?rzz29
                            case hzz29 => simp only [List.getElem?_toArray, List.getElem?_cons_zero, List.getElem?_cons_succ]; rfl
                            case azz29 => kernel_rfl
                            case bzz29 => kernel_rfl
                            case czz29 => kernel_rfl
                            case yzz29 =>
                              refine Or.inl ⟨by rfl, ?_⟩
                              intro w hSw
                              skip
                              go_simp
                              try with_reducible rfl
                            case qzz29 => exact fun _ _ _ h => h
                            case szz29 => first | assumption | trivial
                            case' rzz29 => simp only [Act.put, List.setIfInBounds_toArray, List.set_cons_zero, List.set_cons_succ]
                            refine wpAnyH_done (by kernel_rfl) ?_ _
                            go_wp2_with fail
                            go_meet
                            exact ⟨rfl, ((HZ.out.setCell (p := ⟨nb, 0, none⟩) hnb _).setCell (p := ⟨nb, 1, none⟩) hnb _).setCell (p := ⟨nb, 2, none⟩) hnb _⟩
                        case' mzz30 => skip
                        exact AllReadyL.nil
                    case' mzz33 => skip
                    refine AllReadyL.consK (o := ?ozz34) ?hzz34 ?lzz34 (fun K hK => ?kzz34) ?mzz34
                    case hzz34 => simp only [List.getElem?_toArray, List.getElem?_cons_zero, List.getElem?_cons_succ]; rfl
                    case lzz34 => kernel_rfl
                    case kzz34 =>
                      have HZ := Lib.hid hHeld
                      obtain ⟨⟨b0, b1, b2⟩, g0, g1, g2⟩ := BX.out.get3
                      go_simp
                      refine hK.out _ _ ?Rzz34
                      case Rzz34 =>
                        clear hK K
                        try simp only [Act.put, List.setIfInBounds_toArray, List.set_cons_zero, List.set_cons_succ]
                        refine wpAnyH_take (i := 6) (oi := ?ozz31) (v := ?vzz31) ?hzz31 ?azz31 ?bzz31 ?czz31 ?qzz31 ?yzz31 ?szz31 ?rzz31
                        case hzz31 => simp only [List.getElem?_toArray, List.getElem?_cons_zero, List.getElem?_cons_succ]; rfl
                        case azz31 => kernel_rfl
                        case bzz31 => kernel_rfl
                        case czz31 => kernel_rfl
                        case yzz31 =>
                          refine Or.inl ⟨by rfl, ?_⟩
                          intro w hSw
                          skip
                          go_simp
                          try with_reducible rfl
                        case qzz31 => exact fun _ _ _ h => h
                        case szz31 => first | assumption | trivial
                        case' rzz31 => simp only [Act.put, List.setIfInBounds_toArray, List.set_cons_zero, List.set_cons_succ]
                        refine wpAnyH_take (i := 9) (oi := ?ozz32) (v := ?vzz32) ?hzz32 ?azz32 ?bzz32 ?czz32 ?qzz32 ?yzz32 ?szz32 ?rzz32
                        case hzz32 => simp only [List.getElem?_toArray, List.getElem?_cons_zero, List.getElem?_cons_succ]; rfl
                        case azz32 => kernel_rfl
                        case bzz32 => kernel_rfl
                        case czz32 => kernel_rfl
                        case yzz32 =>
                          refine Or.inl ⟨by rfl, ?_⟩
                          intro w hSw
                          skip
                          go_simp
                          try with_reducible rfl
                        case qzz32 => exact fun _ _ _ h => h
                        case szz32 => first | assumption | trivial
                        case' rzz32 => simp only [Act.put, List.setIfInBounds_toArray, List.set_cons_zero, List.set_cons_succ]
                        refine wpAnyH_done (by kernel_rfl) ?_ _
                        go_wp2_with fail
                        go_meet
                        exact ⟨rfl, ((HZ.out.setCell (p := ⟨nb, 0, none⟩) hnb _).setCell (p := ⟨nb, 1, none⟩) hnb _).setCell (p := ⟨nb, 2, none⟩) hnb _⟩
                    case' mzz34 => skip
                    exact AllReadyL.nil
                case' mzz35 => skip
                exact AllReadyL.nil
            case' mzz36 => skip
            exact AllReadyL.nil
        case' mzz38 => skip
        exact AllReadyL.nil
      case rest =>
        obtain ⟨rfl, q6⟩ := hcut
        have HV6 := Lib.hid (HV.out.step q6)
        have Q6 := Lib.hid q6
        clear e0 e1 e2 e3 f0 f1 f2' f3
        generalize wc = W6 at HV6 Q6 ⊢
        obtain ⟨⟨e0, e1, e2, e3⟩, f0, f1, f2', f3⟩ := HV6.out.sb.get
        cases b with
        | false =>
          simp only [Bool.false_eq_true, if_false] at HS
          go_wp2
          go_roundw
          case rel => exact ⟨s + 1, by first | rfl | go_num, by omega, by omega, by omega, A2, n2, c2, d2, HV6.out, HF.out, HB.out, by rw [← HS.out]; exact HR.out⟩
          case measure => simp [intOf]; omega
        | true =>
          simp only [if_true] at HS
          go_upto_region 8 with (fail)
          go_cut [11, 12] (fun s11 s12 wx => Cb W6 A2 n2 r er s11 s12 wx)
          case first =>
            refine wp_region_heldL 8 (Q W6) (by kernel_rfl) ?szz39 (fun hHeld => ?rzz39)
            case szz39 =>
              exact (Q.refl W6).drew
            case' rzz39 => skip
            generalize hgen : W6.drew = D0 at hHeld ⊢
            clear hgen
            refine wpAnyL_take (i := 0) (oi := ?ozz40) (v := ?vzz40) ?hzz40 ?azz40 ?bzz40 ?czz40 ?kzz40 ?qzz40 ?yzz40 ?szz40 ?rzz40
            case hzz40 => simp only [List.getElem?_toArray, List.getElem?_cons_zero]; rfl
            case azz40 => kernel_rfl
            case bzz40 => kernel_rfl
            case czz40 => kernel_rfl
            case kzz40 => kernel_rfl
            case yzz40 =>
              refine Or.inl ⟨by rfl, ?_⟩
              intro w hSw
              have x0 := box_ hSw e0; have x1 := box_ hSw e1; have x2 := box_ hSw e2; have x3 := box_ hSw e3; clear hSw
              go_simp
              try with_reducible rfl
            case qzz40 => exact fun _ _ _ h => h
            case szz40 => first | assumption | trivial
            case' rzz40 => simp only [Act.put, List.setIfInBounds_toArray, List.set_cons_zero, List.set_cons_succ]
            refine wpAnyL_take (i := 1) (oi := ?ozz41) (v := ?vzz41) ?hzz41 ?azz41 ?bzz41 ?czz41 ?kzz41 ?qzz41 ?yzz41 ?szz41 ?rzz41
            case hzz41 => simp only [List.getElem?_toArray, List.getElem?_cons_zero, List.getElem?_cons_succ]; rfl
            case azz41 => kernel_rfl
            case bzz41 => kernel_rfl
            case czz41 => kernel_rfl
            case kzz41 => kernel_rfl
            case yzz41 =>
              refine Or.inl ⟨by rfl, ?_⟩
              intro w hSw
              skip
              go_simp
              try with_reducible rfl
            case qzz41 => exact fun _ _ _ h => h
            case szz41 => first | assumption | trivial
            case' rzz41 => simp only [Act.put, List.setIfInBounds_toArray, List.set_cons_zero, List.set_cons_succ]
            refine wpAnyL_ready (rs := [2, 7]) (by kernel_rfl) (by simp) ?_
            refine AllReadyL.cons (o := ?ozz76) ?hzz76 (fun K hK => ?kzz76) ?mzz76
            case hzz76 => simp only [List.getElem?_toArray, List.getElem?_cons_zero, List.getElem?_cons_succ]; rfl
            case kzz76 =>
              go_simp
              refine (KN.out _).mono ?_
              rintro e v2 ⟨rfl, q2⟩
              go_wp2_with fail
              refine hK.out _ _ ?Szz76 (fun hHeld => ?Rzz76)
              case Szz76 =>
                exact hHeld.trans q2
              case Rzz76 =>
                clear hK K
                try simp only [Act.put, List.setIfInBounds_toArray, List.set_cons_zero, List.set_cons_succ]
                refine wpAnyL_ready (rs := [3, 7]) (by kernel_rfl) (by simp) ?_
                refine AllReadyL.cons (o := ?ozz64) ?hzz64 (fun K hK => ?kzz64) ?mzz64
                case hzz64 => simp only [List.getElem?_toArray, List.getElem?_cons_zero, List.getElem?_cons_succ]; rfl
                case kzz64 =>
                  go_simp
                  refine (KD.out _ _ _ _ (HV6.out.dsk.q hHeld)).mono ?_
                  rintro e v3 ⟨A3, n3, c3, rfl, hd3, hf3, q3⟩
                  have HO := Lib.hid (And.intro hd3 (hf3.imp id (fun h ad e => Nat.le_trans hHeld.size (h ad e))))
                  have QO := Lib.hid (Q.refl v3)
                  clear hd3 hf3
                  go_wp2_with fail
                  refine hK.out _ _ ?Szz64 (fun hHeld => ?Rzz64)
                  case Szz64 =>
                    exact hHeld.trans q3
                  case Rzz64 =>
                    clear hK K
                    try simp only [Act.put, List.setIfInBounds_toArray, List.set_cons_zero, List.set_cons_succ]
                    refine wpAnyL_take (i := 4) (oi := ?ozz42) (v := ?vzz42) ?hzz42 ?azz42 ?bzz42 ?czz42 ?kzz42 ?qzz42 ?yzz42 ?szz42 ?rzz42
                    case hzz42 => simp only [List.getElem?_toArray, List.getElem?_cons_zero, List.getElem?_cons_succ]; rfl
                    case azz42 => kernel_rfl
                    case bzz42 => kernel_rfl
                    case czz42 => kernel_rfl
                    case kzz42 => kernel_rfl
                    case yzz42 =>
                      refine Or.inl ⟨by rfl, ?_⟩
                      intro w hSw
                      skip
                      go_simp
                      try with_reducible rfl
                    case qzz42 => exact fun _ _ _ h => h
                    case szz42 => first | assumption | trivial
                    case' rzz42 => simp only [Act.put, List.setIfInBounds_toArray, List.set_cons_zero, List.set_cons_succ]
                    refine wpAnyL_take (i := 5) (oi := ?ozz43) (v := ?vzz43) ?hzz43 ?azz43 ?bzz43 ?czz43 ?kzz43 ?qzz43 ?yzz43 ?szz43 ?rzz43
                    case hzz43 => simp only [List.getElem?_toArray, List.getElem?_cons_zero, List.getElem?_cons_succ]; rfl
                    case azz43 => kernel_rfl
                    case bzz43 => kernel_rfl
                    case czz43 => kernel_rfl
                    case kzz43 => kernel_rfl
                    case yzz43 =>
                      refine Or.inl ⟨by rfl, ?_⟩
                      intro w hSw
                      skip
                      go_simp
                      try with_reducible rfl
                    case qzz43 => exact fun _ _ _ h => h
                    case szz43 => first | assumption | trivial
                    case' rzz43 => simp only [Act.put, List.setIfInBounds_toArray, List.set_cons_zero, List.set_cons_succ]
                    refine wpAnyL_ready (rs := [6, 7]) (by kernel_rfl) (by simp) ?_
                    refine AllReadyL.cons (o := ?ozz53) ?hzz53 (fun K hK => ?kzz53) ?mzz53
                    case hzz53 => simp only [List.getElem?_toArray, List.getElem?_cons_zero, List.getElem?_cons_succ]; rfl
                    case kzz53 =>
                      go_simp
                      refine hK.out _ _ ?Szz53 (fun hHeld => ?Rzz53)
                      case Szz53 =>
                        exact hHeld
                      case Rzz53 =>
                        clear hK K
                        try simp only [Act.put, List.setIfInBounds_toArray, List.set_cons_zero, List.set_cons_succ]
                        refine wpAnyL_ready (rs := [7]) (by kernel_rfl) (by simp) ?_
                        refine AllReadyL.cons (o := ?ozz46) ?hzz46 (fun K hK => ?kzz46) ?mzz46
                        case hzz46 => simp only [List.getElem?_toArray, List.getElem?_cons_zero, List.getElem?_cons_succ]; rfl
                        case kzz46 =>
                          go_simp
                          have BX := Lib.hid (Bx.new v3 [.slice none 0 0, .int .i64 0, .int .i64 0, .bool false] 24)
                          have hnb : W6.heap.size ≤ v3.heap.size := hHeld.size
                          have qa := (Q.refl v3).alloc (.cells #[.slice none 0 0, .int .i64 0, .int .i64 0, .bool false] 24)
                          have BX : Hid (Bx (v3.alloc (.cells #[.slice none 0 0, .int .i64 0, .int .i64 0, .bool false] 24)) v3.heap.size [.slice none 0 0, .int .i64 0, .int .i64 0, .bool false]) := Lib.hid BX.out
                          generalize v3.alloc (.cells #[.slice none 0 0, .int .i64 0, .int .i64 0, .bool false] 24) = Y0 at BX qa ⊢
                          generalize v3.heap.size = nb at BX hnb ⊢
                          refine hK.out _ _ ?Szz46 (fun hHeld => ?Rzz46)
                          case Szz46 =>
                            exact hHeld.trans qa
                          case Rzz46 =>
                            clear hK K
                            try simp only [Act.put, List.setIfInBounds_toArray, List.set_cons_zero, List.set_cons_succ]
                            refine wpAnyL_ready (rs := [8]) (by kernel_rfl) (by simp) ?_
                            refine AllReadyL.consK (o := ?ozz45) ?hzz45 ?lzz45 (fun K hK => ?kzz45) ?mzz45
                            case hzz45 => simp only [List.getElem?_toArray, List.getElem?_cons_zero, List.getElem?_cons_succ]; rfl
                            case lzz45 => kernel_rfl
                            case kzz45 =>
                              have HZ := Lib.hid hHeld
                              obtain ⟨⟨b0, b1, b2, b3⟩, g0, g1, g2, g3⟩ := BX.out.get4
                              have HC := Lib.hid (Cb.mk (A0 := A2) (n0 := n2) (r := r) (er := er) HZ.out (HO.out.1.q (by first | exact Q.refl _ | exact qa)) HO.out.2 BX.out hnb)
                              go_simp
                              refine hK.out _ _ ?Rzz45
                              case Rzz45 =>
                                clear hK K
                                try simp only [Act.put, List.setIfInBounds_toArray, List.set_cons_zero, List.set_cons_succ]
                                refine wpAnyH_take (i := 9) (oi := ?ozz44) (v := ?vzz44) ?hzz44 ?azz44 ?bzz44 ?czz44 ?qzz44 ?yzz44 ?szz44 ?rzz44
                                case hzz44 => simp only [List.getElem?_toArray, List.getElem?_cons_zero, List.getElem?_cons_succ]; rfl
                                case azz44 => kernel_rfl
                                case bzz44 => kernel_rfl
                                case czz44 => kernel_rfl
                                case yzz44 =>
                                  refine Or.inl ⟨by rfl, ?_⟩
                                  intro w hSw
                                  skip
                                  go_simp
                                  try with_reducible rfl
                                case qzz44 => exact fun _ _ _ h => h
                                case szz44 => first | assumption | trivial
                                case' rzz44 => simp only [Act.put, List.setIfInBounds_toArray, List.set_cons_zero, List.set_cons_succ]
                                refine wpAnyH_done (by kernel_rfl) ?_ _
                                go_wp2_with fail
                                go_meet
                                exact HC.out
                            case' mzz45 => skip
                            exact AllReadyL.nil
                        case' mzz46 => skip
                        exact AllReadyL.nil
                    case' mzz53 => skip
                    refine AllReadyL.cons (o := ?ozz54) ?hzz54 (fun K hK => ?kzz54) ?mzz54
                    case hzz54 => simp only [List.getElem?_toArray, List.getElem?_cons_zero, List.getElem?_cons_succ]; rfl
                    case kzz54 =>
                      go_simp
                      have BX := Lib.hid (Bx.new v3 [.slice none 0 0, .int .i64 0, .int .i64 0, .bool false] 24)
                      have hnb : W6.heap.size ≤ v3.heap.size := hHeld.size
                      have qa := (Q.refl v3).alloc (.cells #[.slice none 0 0, .int .i64 0, .int .i64 0, .bool false] 24)
                      have BX : Hid (Bx (v3.alloc (.cells #[.slice none 0 0, .int .i64 0, .int .i64 0, .bool false] 24)) v3.heap.size [.slice none 0 0, .int .i64 0, .int .i64 0, .bool false]) := Lib.hid BX.out
                      generalize v3.alloc (.cells #[.slice none 0 0, .int .i64 0, .int .i64 0, .bool false] 24) = Y1 at BX qa ⊢
                      generalize v3.heap.size = nb at BX hnb ⊢
                      refine hK.out _ _ ?Szz54 (fun hHeld => ?Rzz54)
                      case Szz54 =>
                        exact hHeld.trans qa
                      case Rzz54 =>
                        clear hK K
                        try simp only [Act.put, List.setIfInBounds_toArray, List.set_cons_zero, List.set_cons_succ]
                        refine wpAnyL_ready (rs := [6, 8]) (by kernel_rfl) (by simp) ?_
                        refine AllReadyL.cons (o := ?ozz51) ?hzz51 (fun K hK => ?kzz51) ?mzz51
                        case hzz51 => simp only [List.getElem?_toArray, List.getElem?_cons_zero, List.getElem?_cons_succ]; rfl
                        case kzz51 =>
                          go_simp
                          refine hK.out _ _ ?Szz51 (fun hHeld => ?Rzz51)
                          case Szz51 =>
                            exact hHeld
                          case Rzz51 =>
                            clear hK K
                            try simp only [Act.put, List.setIfInBounds_toArray, List.set_cons_zero, List.set_cons_succ]
                            refine wpAnyL_ready (rs := [8]) (by kernel_rfl) (by simp) ?_
                            refine AllReadyL.consK (o := ?ozz48) ?hzz48 ?lzz48 (fun K hK => ?kzz48) ?mzz48
                            case hzz48 => simp only [List.getElem?_toArray, List.getElem?_cons_zero, List.getElem?_cons_succ]; rfl
                            case lzz48 => kernel_rfl
                            case kzz48 =>
                              have HZ := Lib.hid hHeld
                              obtain ⟨⟨b0, b1, b2, b3⟩, g0, g1, g2, g3⟩ := BX.out.get4
                              have HC := Lib.hid (Cb.mk (A0 := A2) (n0 := n2) (r := r) (er := er) HZ.out (HO.out.1.q (by first | exact Q.refl _ | exact qa)) HO.out.2 BX.out hnb)
                              go_simp
                              refine hK.out _ _ ?Rzz48
                              case Rzz48 =>
                                clear hK K
                                try simp only [Act.put, List.setIfInBounds_toArray, List.set_cons_zero, List.set_cons_succ]
                                refine wpAnyH_take (i := 9) (oi := ?ozz47) (v := ?vzz47) ?hzz47 ?azz47 ?bzz47 ?czz47 ?qzz47 ?yzz47 ?szz47 ?rzz47
                                case hzz47 => simp only [List.getElem?_toArray, List.getElem?_cons_zero, List.getElem?_cons_succ]; rfl
                                case azz47 => kernel_rfl
                                case bzz47 => kernel_rfl
                                case czz47 => kernel_rfl
                                case yzz47 =>
                                  refine Or.inl ⟨by rfl, ?_⟩
                                  intro w hSw
                                  skip
                                  go_simp
                                  try with_reducible rfl
                                case qzz47 => exact fun _ _ _ h => h
                                case szz47 => first | assumption | trivial
                                case' rzz47 => simp only [Act.put, List.setIfInBounds_toArray, List.set_cons_zero, List.set_cons_succ]
                                refine wpAnyH_done (by kernel_rfl) ?_ _
                                go_wp2_with fail
                                go_meet
                                exact HC.out
                            case' mzz48 => skip
                            exact AllReadyL.nil
                        case' mzz51 => skip
                        refine AllReadyL.consK (o := ?ozz52) ?hzz52 ?lzz52 (fun K hK => ?kzz52) ?mzz52
                        case hzz52 => simp only [List.getElem?_toArray, List.getElem?_cons_zero, List.getElem?_cons_succ]; rfl
                        case lzz52 => kernel_rfl
                        case kzz52 =>
                          have HZ := Lib.hid hHeld
                          obtain ⟨⟨b0, b1, b2, b3⟩, g0, g1, g2, g3⟩ := BX.out.get4
                          have HC := Lib.hid (Cb.mk (A0 := A2) (n0 := n2) (r := r) (er := er) HZ.out (HO.out.1.q (by first | exact Q.refl _ | exact qa)) HO.out.2 BX.out hnb)
                          go_simp
                          refine hK.out _ _ ?Rzz52
                          case Rzz52 =>
                            clear hK K
                            try simp only [Act.put, List.setIfInBounds_toArray, List.set_cons_zero, List.set_cons_succ]
                            refine wpAnyH_take (i := 6) (oi := ?ozz49) (v := ?vzz49) ?hzz49 ?azz49 ?bzz49 ?czz49 ?qzz49 ?yzz49 ?szz49 ?rzz49
                            case hzz49 => simp only [List.getElem?_toArray, List.getElem?_cons_zero, List.getElem?_cons_succ]; rfl
                            case azz49 => kernel_rfl
                            case bzz49 => kernel_rfl
                            case czz49 => kernel_rfl
                            case yzz49 =>
                              refine Or.inl ⟨by rfl, ?_⟩
                              intro w hSw
                              skip
                              go_simp
                              try with_reducible rfl
                            case qzz49 => exact fun _ _ _ h => h
                            case szz49 => first | assumption | trivial
                            case' rzz49 => simp only [Act.put, List.setIfInBounds_toArray, List.set_cons_zero, List.set_cons_succ]
                            refine wpAnyH_take (i := 9) (oi := ?ozz50) (v := ?vzz50) ?hzz50 ?azz50 ?bzz50 ?czz50 ?qzz50 ?yzz50 ?szz50 ?rzz50
                            case hzz50 => simp only [List.getElem?_toArray, List.getElem?_cons_zero, List.getElem?_cons_succ]; rfl
                            case azz50 => kernel_rfl
                            case bzz50 => kernel_rfl
                            case czz50 => kernel_rfl
                            case yzz50 =>
                              refine Or.inl ⟨by rfl, ?_⟩
                              intro w hSw
                              skip
                              go_simp
                              try with_reducible rfl
                            case qzz50 => exact fun _ _ _ h => h
                            case szz50 => first | assumption | trivial
                            case' rzz50 => simp only [Act.put, List.setIfInBounds_toArray, List.set_cons_zero, List.set_cons_succ]
                            refine wpAnyH_done (by kernel_rfl) ?_ _
                            go_wp2_with fail
                            go_meet
                            exact HC.out
                        case' mzz52 => skip
                        exact AllReadyL.nil
                    case' mzz54 => skip
                    exact AllReadyL.nil
                case' mzz64 => skip
                refine AllReadyL.cons (o := ?ozz65) ?hzz65 (fun K hK => ?kzz65) ?mzz65
                case hzz65 => simp only [List.getElem?_toArray, List.getElem?_cons_zero, List.getElem?_cons_succ]; rfl
                case kzz65 =>
                  go_simp
                  have BX := Lib.hid (Bx.new v2 [.slice none 0 0, .int .i64 0, .int .i64 0, .bool false] 24)
                  have hnb : W6.heap.size ≤ v2.heap.size := hHeld.size
                  have qa := (Q.refl v2).alloc (.cells #[.slice none 0 0, .int .i64 0, .int .i64 0, .bool false] 24)
                  have BX : Hid (Bx (v2.alloc (.cells #[.slice none 0 0, .int .i64 0, .int .i64 0, .bool false] 24)) v2.heap.size [.slice none 0 0, .int .i64 0, .int .i64 0, .bool false]) := Lib.hid BX.out
                  generalize v2.alloc (.cells #[.slice none 0 0, .int .i64 0, .int .i64 0, .bool false] 24) = Y2 at BX qa ⊢
                  generalize v2.heap.size = nb at BX hnb ⊢
                  refine hK.out _ _ ?Szz65 (fun hHeld => ?Rzz65)
                  case Szz65 =>
                    exact hHeld.trans qa
                  case Rzz65 =>
                    clear hK K
                    try simp only [Act.put, List.setIfInBounds_toArray, List.set_cons_zero, List.set_cons_succ]
                    refine wpAnyL_ready (rs := [3]) (by kernel_rfl) (by simp) ?_
                    refine AllReadyL.cons (o := ?ozz63) ?hzz63 (fun K hK => ?kzz63) ?mzz63
                    case hzz63 => simp only [List.getElem?_toArray, List.getElem?_cons_zero, List.getElem?_cons_succ]; rfl
                    case kzz63 =>
                      go_simp
                      refine (KD.out _ _ _ _ (HV6.out.dsk.q hHeld)).mono ?_
                      rintro e v3 ⟨A3, n3, c3, rfl, hd3, hf3, q3⟩
                      have HO := Lib.hid (And.intro hd3 (hf3.imp id (fun h ad e => Nat.le_trans hHeld.size (h ad e))))
                      have QO := Lib.hid (Q.refl v3)
                      clear hd3 hf3
                      have BX := Lib.hid (BX.out.q q3)
                      go_wp2_with fail
                      refine hK.out _ _ ?Szz63 (fun hHeld => ?Rzz63)
                      case Szz63 =>
                        exact hHeld.trans q3
                      case Rzz63 =>
                        clear hK K
                        try simp only [Act.put, List.setIfInBounds_toArray, List.set_cons_zero, List.set_cons_succ]
                        refine wpAnyL_take (i := 4) (oi := ?ozz55) (v := ?vzz55) ?hzz55 ?azz55 ?bzz55 ?czz55 ?kzz55 ?qzz55 ?yzz55 ?szz55 ?rzz55
                        case hzz55 => simp only [List.getElem?_toArray, List.getElem?_cons_zero, List.getElem?_cons_succ]; rfl
                        case azz55 => kernel_rfl
                        case bzz55 => kernel_rfl
                        case czz55 => kernel_rfl
                        case kzz55 => kernel_rfl
                        case yzz55 =>
                          refine Or.inl ⟨by rfl, ?_⟩
                          intro w hSw
                          skip
                          go_simp
                          try with_reducible rfl
                        case qzz55 => exact fun _ _ _ h => h
                        case szz55 => first | assumption | trivial
                        case' rzz55 => simp only [Act.put, List.setIfInBounds_toArray, List.set_cons_zero, List.set_cons_succ]
                        refine wpAnyL_take (i := 5) (oi := ?ozz56) (v := ?vzz56) ?hzz56 ?azz56 ?bzz56 ?czz56 ?kzz56 ?qzz56 ?yzz56 ?szz56 ?rzz56
                        case hzz56 => simp only [List.getElem?_toArray, List.getElem?_cons_zero, List.getElem?_cons_succ]; rfl
                        case azz56 => kernel_rfl
                        case bzz56 => kernel_rfl
                        case czz56 => kernel_rfl
                        case kzz56 => kernel_rfl
                        case yzz56 =>
                          refine Or.inl ⟨by rfl, ?_⟩
                          intro w hSw
                          skip
                          go_simp
                          try with_reducible rfl
                        case qzz56 => exact fun _ _ _ h => h
                        case szz56 => first | assumption | trivial
                        case' rzz56 => simp only [Act.put, List.setIfInBounds_toArray, List.set_cons_zero, List.set_cons_succ]
                        refine wpAnyL_ready (rs := [6, 8]) (by kernel_rfl) (by simp) ?_
                        refine AllReadyL.cons (o := ?ozz61) ?hzz61 (fun K hK => ?kzz61) ?mzz61
                        case hzz61 => simp only [List.getElem?_toArray, List.getElem?_cons_zero, List.getElem?_cons_succ]; rfl
                        case kzz61 =>
                          go_simp
                          refine hK.out _ _ ?Szz61 (fun hHeld => ?Rzz61)
                          case Szz61 =>
                            exact hHeld
                          case Rzz61 =>
                            clear hK K
                            try simp only [Act.put, List.setIfInBounds_toArray, List.set_cons_zero, List.set_cons_succ]
                            refine wpAnyL_ready (rs := [8]) (by kernel_rfl) (by simp) ?_
                            refine AllReadyL.consK (o := ?ozz58) ?hzz58 ?lzz58 (fun K hK => ?kzz58) ?mzz58
                            case hzz58 => simp only [List.getElem?_toArray, List.getElem?_cons_zero, List.getElem?_cons_succ]; rfl
                            case lzz58 => kernel_rfl
                            case kzz58 =>
                              have HZ := Lib.hid hHeld
                              obtain ⟨⟨b0, b1, b2, b3⟩, g0, g1, g2, g3⟩ := BX.out.get4
                              have HC := Lib.hid (Cb.mk (A0 := A2) (n0 := n2) (r := r) (er := er) HZ.out (HO.out.1.q (by first | exact Q.refl _ | exact qa)) HO.out.2 BX.out hnb)
                              go_simp
                              refine hK.out _ _ ?Rzz58
                              case Rzz58 =>
                                clear hK K
                                try simp only [Act.put, List.setIfInBounds_toArray, List.set_cons_zero, List.set_cons_succ]
                                refine wpAnyH_take (i := 9) (oi := ?ozz57) (v := ?vzz57) ?hzz57 ?azz57 ?bzz57 ?czz57 ?qzz57 ?yzz57 ?szz57 ?rzz57
                                case hzz57 => simp only [List.getElem?_toArray, List.getElem?_cons_zero, List.getElem?_cons_succ]; rfl
                                case azz57 => kernel_rfl
                                case bzz57 => kernel_rfl
                                case czz57 => kernel_rfl
                                case yzz57 =>
                                  refine Or.inl ⟨by rfl, ?_⟩
                                  intro w hSw
                                  skip
                                  go_simp
                                  try with_reducible rfl
                                case qzz57 => exact fun _ _ _ h => h
                                case szz57 => first | assumption | trivial
                                case' rzz57 => simp only [Act.put, List.setIfInBounds_toArray, List.set_cons_zero, List.set_cons_succ]
                                refine wpAnyH_done (by kernel_rfl) ?_ _
                                go_wp2_with fail
                                go_meet
                                exact HC.out
                            case' mzz58 => skip
                            exact AllReadyL.nil
                        case' mzz61 => skip
                        refine AllReadyL.consK (o := ?ozz62) ?hzz62 ?lzz62 (fun K hK => ?kzz62) ?mzz62
                        case hzz62 => simp only [List.getElem?_toArray, List.getElem?_cons_zero, List.getElem?_cons_succ]; rfl
                        case lzz62 => kernel_rfl
                        case kzz62 =>
                          have HZ := Lib.hid hHeld
                          obtain ⟨⟨b0, b1, b2, b3⟩, g0, g1, g2, g3⟩ := BX.out.get4
                          have HC := Lib.hid (Cb.mk (A0 := A2) (n0 := n2) (r := r) (er := er) HZ.out (HO.out.1.q (by first | exact Q.refl _ | exact qa)) HO.out.2 BX.out hnb)
                          go_simp
                          refine hK.out _ _ ?Rzz62
                          case Rzz62 =>
                            clear hK K
                            try simp only [Act.put, List.setIfInBounds_toArray, List.set_cons_zero, List.set_cons_succ]
                            refine wpAnyH_take (i := 6) (oi := ?ozz59) (v := ?vzz59) ?hzz59 ?azz59 ?bzz59 ?czz59 ?qzz59 ?yzz59 ?szz59 ?rzz59
                            case hzz59 => simp only [List.getElem?_toArray, List.getElem?_cons_zero, List.getElem?_cons_succ]; rfl
                            case azz59 => kernel_rfl
                            case bzz59 => kernel_rfl
                            case czz59 => kernel_rfl
                            case yzz59 =>
                              refine Or.inl ⟨by rfl, ?_⟩
                              intro w hSw
                              skip
                              go_simp
                              try with_reducible rfl
                            case qzz59 => exact fun _ _ _ h => h
                            case szz59 => first | assumption | trivial
                            case' rzz59 => simp only [Act.put, List.setIfInBounds_toArray, List.set_cons_zero, List.set_cons_succ]
                            refine wpAnyH_take (i := 9) (oi := ?ozz60) (v := ?vzz60) ?hzz60 ?azz60 ?bzz60 ?czz60 ?qzz60 ?yzz60 ?szz60 ?rzz60
                            case hzz60 => simp only [List.getElem?_toArray, List.getElem?_cons_zero, List.getElem?_cons_succ]; rfl
                            case azz60 => kernel_rfl
                            case bzz60 => kernel_rfl
                            case czz60 => kernel_rfl
                            case yzz60 =>
                              refine Or.inl ⟨by rfl, ?_⟩
                              intro w hSw
                              skip
                              go_simp
                              try with_reducible rfl
                            case qzz60 => exact fun _ _ _ h => h
                            case szz60 => first | assumption | trivial
                            case' rzz60 => simp only [Act.put, List.setIfInBounds_toArray, List.set_cons_zero, List.set_cons_succ]
                            refine wpAnyH_done (by kernel_rfl) ?_ _
                            go_wp2_with fail
                            go_meet
                            exact HC.out
                        case' mzz62 => skip
                        exact AllReadyL.nil
                    case' mzz63 => skip
                    exact AllReadyL.nil
                case' mzz65 => skip
                exact AllReadyL.nil
            case' mzz76 => skip
            refine AllReadyL.cons (o := ?ozz77) ?hzz77 (fun K hK => ?kzz77) ?mzz77
            case hzz77 => simp only [List.getElem?_toArray, List.getElem?_cons_zero, List.getElem?_cons_succ]; rfl
            case kzz77 =>
              go_simp
              have BX := Lib.hid (Bx.new D0 [.slice none 0 0, .int .i64 0, .int .i64 0, .bool false] 24)
              have hnb : W6.heap.size ≤ D0.heap.size := hHeld.size
              have qa := (Q.refl D0).alloc (.cells #[.slice none 0 0, .int .i64 0, .int .i64 0, .bool false] 24)
              have BX : Hid (Bx (D0.alloc (.cells #[.slice none 0 0, .int .i64 0, .int .i64 0, .bool false] 24)) D0.heap.size [.slice none 0 0, .int .i64 0, .int .i64 0, .bool false]) := Lib.hid BX.out
              generalize D0.alloc (.cells #[.slice none 0 0, .int .i64 0, .int .i64 0, .bool false] 24) = Y3 at BX qa ⊢
              generalize D0.heap.size = nb at BX hnb ⊢
              refine hK.out _ _ ?Szz77 (fun hHeld => ?Rzz77)
              case Szz77 =>
                exact hHeld.trans qa
              case Rzz77 =>
                clear hK K
                try simp only [Act.put, List.setIfInBounds_toArray, List.set_cons_zero, List.set_cons_succ]
                refine wpAnyL_ready (rs := [2]) (by kernel_rfl) (by simp) ?_
                refine AllReadyL.cons (o := ?ozz75) ?hzz75 (fun K hK => ?kzz75) ?mzz75
                case hzz75 => simp only [List.getElem?_toArray, List.getElem?_cons_zero, List.getElem?_cons_succ]; rfl
                case kzz75 =>
                  go_simp
                  refine (KN.out _).mono ?_
                  rintro e v2 ⟨rfl, q2⟩
                  have BX := Lib.hid (BX.out.q q2)
                  go_wp2_with fail
                  refine hK.out _ _ ?Szz75 (fun hHeld => ?Rzz75)
                  case Szz75 =>
                    exact hHeld.trans q2
                  case Rzz75 =>
                    clear hK K
                    try simp only [Act.put, List.setIfInBounds_toArray, List.set_cons_zero, List.set_cons_succ]
                    refine wpAnyL_ready (rs := [3]) (by kernel_rfl) (by simp) ?_
                    refine AllReadyL.cons (o := ?ozz74) ?hzz74 (fun K hK => ?kzz74) ?mzz74
                    case hzz74 => simp only [List.getElem?_toArray, List.getElem?_cons_zero, List.getElem?_cons_succ]; rfl
                    case kzz74 =>
                      go_simp
                      refine (KD.out _ _ _ _ (HV6.out.dsk.q hHeld)).mono ?_
                      rintro e v3 ⟨A3, n3, c3, rfl, hd3, hf3, q3⟩
                      have HO := Lib.hid (And.intro hd3 (hf3.imp id (fun h ad e => Nat.le_trans hHeld.size (h ad e))))
                      have QO := Lib.hid (Q.refl v3)
                      clear hd3 hf3
                      have BX := Lib.hid (BX.out.q q3)
                      go_wp2_with fail
                      refine hK.out _ _ ?Szz74 (fun hHeld => ?Rzz74)
                      case Szz74 =>
                        exact hHeld.trans q3
                      case Rzz74 =>
                        clear hK K
                        try simp only [Act.put, List.setIfInBounds_toArray, List.set_cons_zero, List.set_cons_succ]
                        refine wpAnyL_take (i := 4) (oi := ?ozz66) (v := ?vzz66) ?hzz66 ?azz66 ?bzz66 ?czz66 ?kzz66 ?qzz66 ?yzz66 ?szz66 ?rzz66
                        case hzz66 => simp only [List.getElem?_toArray, List.getElem?_cons_zero, List.getElem?_cons_succ]; rfl
                        case azz66 => kernel_rfl
                        case bzz66 => kernel_rfl
                        case czz66 => kernel_rfl
                        case kzz66 => kernel_rfl
                        case yzz66 =>
                          refine Or.inl ⟨by rfl, ?_⟩
                          intro w hSw
                          skip
                          go_simp
                          try with_reducible rfl
                        case qzz66 => exact fun _ _ _ h => h
                        case szz66 => first | assumption | trivial
                        case' rzz66 => simp only [Act.put, List.setIfInBounds_toArray, List.set_cons_zero, List.set_cons_succ]
                        refine wpAnyL_take (i := 5) (oi := ?ozz67) (v := ?vzz67) ?hzz67 ?azz67 ?bzz67 ?czz67 ?kzz67 ?qzz67 ?yzz67 ?szz67 ?rzz67
                        case hzz67 => simp only [List.getElem?_toArray, List.getElem?_cons_zero, List.getElem?_cons_succ]; rfl
                        case azz67 => kernel_rfl
                        case bzz67 => kernel_rfl
                        case czz67 => kernel_rfl
                        case kzz67 => kernel_rfl
                        case yzz67 =>
                          refine Or.inl ⟨by rfl, ?_⟩
                          intro w hSw
                          skip
                          go_simp
                          try with_reducible rfl
                        case qzz67 => exact fun _ _ _ h => h
                        case szz67 => first | assumption | trivial
                        case' rzz67 => simp only [Act.put, List.setIfInBounds_toArray, List.set_cons_zero, List.set_cons_succ]
                        refine wpAnyL_ready (rs := [6, 8]) (by kernel_rfl) (by simp) ?_
                        refine AllReadyL.cons (o := ?ozz72) ?hzz72 (fun K hK => ?kzz72) ?mzz72
                        case hzz72 => simp only [List.getElem?_toArray, List.getElem?_cons_zero, List.getElem?_cons_succ]; rfl
                        case kzz72 =>
                          go_simp
                          refine hK.out _ _ ?Szz72 (fun hHeld => ?Rzz72)
                          case Szz72 =>
                            exact hHeld
                          case Rzz72 =>
                            clear hK K
                            try simp only [Act.put, List.setIfInBounds_toArray, List.set_cons_zero, List.set_cons_succ]
                            refine wpAnyL_ready (rs := [8]) (by kernel_rfl) (by simp) ?_
                            refine AllReadyL.consK (o := ?ozz69) ?hzz69 ?lzz69 (fun K hK => ?kzz69) ?mzz69
                            case hzz69 => simp only [List.getElem?_toArray, List.getElem?_cons_zero, List.getElem?_cons_succ]; rfl
                            case lzz69 => kernel_rfl
                            case kzz69 =>
                              have HZ := Lib.hid hHeld
                              obtain ⟨⟨b0, b1, b2, b3⟩, g0, g1, g2, g3⟩ := BX.out.get4
                              have HC := Lib.hid (Cb.mk (A0 := A2) (n0 := n2) (r := r) (er := er) HZ.out (HO.out.1.q (by first | exact Q.refl _ | exact qa)) HO.out.2 BX.out hnb)
                              go_simp
                              refine hK.out _ _ ?Rzz69
                              case Rzz69 =>
                                clear hK K
                                try simp only [Act.put, List.setIfInBounds_toArray, List.set_cons_zero, List.set_cons_succ]
                                refine wpAnyH_take (i := 9) (oi := ?ozz68) (v := ?vzz68) ?hzz68 ?azz68 ?bzz68 ?czz68 ?qzz68 ?yzz68 ?szz68 ?rzz68
                                case hzz68 => simp only [List.getElem?_toArray, List.getElem?_cons_zero, List.getElem?_cons_succ]; rfl
                                case azz68 => kernel_rfl
                                case bzz68 => kernel_rfl
                                case czz68 => kernel_rfl
                                case yzz68 =>
                                  refine Or.inl ⟨by rfl, ?_⟩
                                  intro w hSw
                                  skip
                                  go_simp
                                  try with_reducible rfl
                                case qzz68 => exact fun _ _ _ h => h
                                case szz68 => first | assumption | trivial
                                case' rzz68 => simp only [Act.put, List.setIfInBounds_toArray, List.set_cons_zero, List.set_cons_succ]
                                refine wpAnyH_done (by kernel_rfl) ?_ _
                                go_wp2_with fail
                                go_meet
                                exact HC.out
                            case' mzz69 => skip
                            exact AllReadyL.nil
                        case' mzz72 => skip
                        refine AllReadyL.consK (o := ?ozz73) ?hzz73 ?lzz73 (fun K hK => ?kzz73) ?mzz73
                        case hzz73 => simp only [List.getElem?_toArray, List.getElem?_cons_zero, List.getElem?_cons_succ]; rfl
                        case lzz73 => kernel_rfl
                        case kzz73 =>
                          have HZ := Lib.hid hHeld
                          obtain ⟨⟨b0, b1, b2, b3⟩, g0, g1, g2, g3⟩ := BX.out.get4
                          have HC := Lib.hid (Cb.mk (A0 := A2) (n0 := n2) (r := r) (er := er) HZ.out (HO.out.1.q (by first | exact Q.refl _ | exact qa)) HO.out.2 BX.out hnb)
                          go_simp
                          refine hK.out _ _ ?Rzz73
                          case Rzz73 =>
                            clear hK K
                            try simp only [Act.put, List.setIfInBounds_toArray, List.set_cons_zero, List.set_cons_succ]
                            refine wpAnyH_take (i := 6) (oi := ?ozz70) (v := ?vzz70) ?hzz70 ?azz70 ?bzz70 ?czz70 ?qzz70 ?yzz70 ?szz70 ?rzz70
                            case hzz70 => simp only [List.getElem?_toArray, List.getElem?_cons_zero, List.getElem?_cons_succ]; rfl
                            case azz70 => kernel_rfl
                            case bzz70 => kernel_rfl
                            case czz70 => kernel_rfl
                            case yzz70 =>
                              refine Or.inl ⟨by rfl, ?_⟩
                              intro w hSw
                              skip
                              go_simp
                              try with_reducible rfl
                            case qzz70 => exact fun _ _ _ h => h
                            case szz70 => first | assumption | trivial
                            case' rzz70 => simp only [Act.put, List.setIfInBounds_toArray, List.set_cons_zero, List.set_cons_succ]
                            refine wpAnyH_take (i := 9) (oi := ?ozz71) (v := ?vzz71) ?hzz71 ?azz71 ?bzz71 ?czz71 ?qzz71 ?yzz71 ?szz71 ?rzz71
                            case hzz71 => simp only [List.getElem?_toArray, List.getElem?_cons_zero, List.getElem?_cons_succ]; rfl
                            case azz71 => kernel_rfl
                            case bzz71 => kernel_rfl
                            case czz71 => kernel_rfl
                            case yzz71 =>
                              refine Or.inl ⟨by rfl, ?_⟩
                              intro w hSw
                              skip
                              go_simp
                              try with_reducible rfl
                            case qzz71 => exact fun _ _ _ h => h
                            case szz71 => first | assumption | trivial
                            case' rzz71 => simp only [Act.put, List.setIfInBounds_toArray, List.set_cons_zero, List.set_cons_succ]
                            refine wpAnyH_done (by kernel_rfl) ?_ _
                            go_wp2_with fail
                            go_meet
                            exact HC.out
                        case' mzz73 => skip
                        exact AllReadyL.nil
                    case' mzz74 => skip
                    exact AllReadyL.nil
                case' mzz75 => skip
                exact AllReadyL.nil
            case' mzz77 => skip
            exact AllReadyL.nil
          case rest =>
            obtain ⟨g, A3, n3, c3, rfl, rfl, hg, hbx, hd3, hf3, q8⟩ := hcut
            have HV8 := Lib.hid (HV6.out.putK (d5 := r) q8 hd3 hf3)
            have HF8 := Lib.hid (HV6.out.farK HF.out hf3)
            have P8 := Lib.hid (HV6.out.step q8)
            obtain ⟨⟨b0, b1, b2, b3⟩, _⟩ := hbx.get4
            clear e0 e1 e2 e3 f0 f1 f2' f3
            clear hd3 hf3 hbx q8
            obtain ⟨⟨e0, e1, e2, e3⟩, f0, f1, f2', f3⟩ := P8.out.sb.get
            go_upto_region 10 with (fail)
            generalize ((((wc.setCell ⟨w.heap.size, 0, none⟩ (.slice A3 n3 c3)).setCell ⟨w.heap.size, 1, none⟩ (.int .i64 r.room)).setCell ⟨w.heap.size, 2, none⟩ (.int .i64 r.fuse)).setCell ⟨w.heap.size, 3, none⟩ (.bool r.off)) = W9 at HV8 ⊢
            clear b0 b1 b2 b3
            clear e0 e1 e2 e3 f0 f1 f2' f3
            obtain ⟨⟨e0, e1, e2, e3⟩, f0, f1, f2', f3⟩ := HV8.out.sb.get
            by_cases he : er = 0
            · subst he
              simp only [if_true] at HS
              go_wp2
              go_roundw
              case rel => exact ⟨s + 1, by first | rfl | go_num, by omega, by omega, by omega, A3, n3, c3, r, HV8.out, HF8.out, HBD.out, HS.out.symm.trans HR.out⟩
              case measure => simp [intOf]; omega
            · have i5 : (er == 0) = false := by simpa using he
              have i6 : (er != 0) = true := by simpa using he
              have HQ := Lib.hid (show R = (r, er) from HR.out.symm.trans (HS.out.trans (if_neg he)))
              clear he
              have F := Lib.hid (HV8.out.endK HF8.out (er) (.slice A3 n3 c3) (.int .i64 r.room) (.int .i64 r.fuse) (.bool r.off))
              obtain ⟨⟨s0, s1, s2, s3⟩, h0, h1, h2, h3⟩ := HV8.out.sb.getR
              go_wp2
              (try rw [Exit.noGoto_ret])
              refine bodyPost_ret (v := .tuple #[dkv A3 n3 c3 r.room r.fuse r.off, .int .i64 (er)]) (by simp [results, Tryz.results11, go_sem, s0, s1, s2, s3]) rfl ?_
              rw [HQ.out]
              exact F.out
    · have HE := Lib.hid (show R = (d2, 0) from HR.out.symm.trans (seqD_end (til - s).toNat s til d2 hc))
      by_cases hl : s < til
      · have i3 : ¬ s ≤ 1000000 := fun h => hc ⟨hl, h⟩
        clear hc
        have F := Lib.hid (HV.out.endK HF.out (0) (.slice A2 n2 c2) (.int .i64 d2.room) (.int .i64 d2.fuse) (.bool d2.off))
        obtain ⟨⟨s0, s1, s2, s3⟩, h0, h1, h2, h3⟩ := HV.out.sb.getR
        go_wp2
        (try rw [Exit.noGoto_ret])
        refine bodyPost_ret (v := .tuple #[dkv A2 n2 c2 d2.room d2.fuse d2.off, .int .i64 (0)]) (by simp [results, Tryz.results11, go_sem, s0, s1, s2, s3]) rfl ?_
        rw [HE.out]
        exact F.out
      · clear hc
        have F := Lib.hid (HV.out.endK HF.out (0) (.slice A2 n2 c2) (.int .i64 d2.room) (.int .i64 d2.fuse) (.bool d2.off))
        obtain ⟨⟨s0, s1, s2, s3⟩, h0, h1, h2, h3⟩ := HV.out.sb.getR
        go_wp2
        (try rw [Exit.noGoto_ret])
        refine bodyPost_ret (v := .tuple #[dkv A2 n2 c2 d2.room d2.fuse d2.off, .int .i64 (0)]) (by simp [results, Tryz.results11, go_sem, s0, s1, s2, s3]) rfl ?_
        rw [HE.out]
        exact F.out

set_option maxRecDepth 100000 in
set_option maxHeartbeats 8000000 in
theorem refDrop_hi (fr til : Int) (A : Option Addr) (n c : Nat) (d : Dk) (w : World) (hd : Dsk w A n c d.fs) (hB : Bnd 2305843009213693952 d) (R : Dk × Int) (hR : seqD (til - fr).toNat fr til d = R) (hf : 1 ≤ fr) (h1 : til ≤ 9223372036854775807) :
    Calls Tryz.prog 11 #[dkv A n c d.room d.fuse d.off, .int .i64 fr, .int .i64 til] w fun e w' => RetDK w A n R.1 R.2 e w' := by
  have S0 := Lib.hid (show Ld w A n til R fr _ from ⟨A, n, c, d, Sv.new w hd, .inl ⟨rfl, rfl⟩, hB, hR⟩)
  have mx : ∀ (d : Dk), Bnd 2305843009213693952 d → ∀ f ∈ d.fs, f.sf.size + f.wt.size ≤ maxLen := fun _ h f hf => Nat.le_trans (h.sum f hf) (by unfold maxLen; omega)
  have MX := Lib.hid mx
  clear hd hB hR mx
  go_enter Tryz.func11, Tryz.ntmps11
  go_wp2
  generalize (w.alloc (.cells #[.slice A n c, .int .i64 d.room, .int .i64 d.fuse, .bool d.off] 24)).alloc (.cells #[.slice none 0 0, .int .i64 0, .int .i64 0, .bool false] 24) = W at S0 ⊢
  go_loopw [8] (fun i wr => ∃ s : Int, i = .int .i64 s ∧ 1 ≤ s ∧ (s ≤ til ∨ s = fr) ∧ s ≤ (max fr 1000001) ∧ Ld w A n til R s wr) (fun i _ => (til - intOf i).toNat)
  case atStart => exact ⟨fr, rfl, by omega, .inr rfl, by omega, S0.out⟩
  case round =>
    obtain ⟨s, rfl, hs1, hs2, hs3, A2, n2, c2, d2, hv, hfar, hb, hr⟩ := hrel
    have HV := Lib.hid hv
    have HF := Lib.hid hfar
    have HB := Lib.hid hb
    have HR := Lib.hid hr
    clear hv hfar hb hr S0
    obtain ⟨⟨e0, e1, e2, e3⟩, f0, f1, f2', f3⟩ := HV.out.sb.get
    by_cases hc : s < til ∧ s ≤ 1000000
    · obtain ⟨hc1, hc2⟩ := hc
      have HS := Lib.hid (seqD_step ((til - s).toNat - 1) s til d2 ⟨hc1, hc2⟩ (by omega))
      have KN := Lib.hid (fun W => refName_any s W (by omega) (by omega))
      have KF := Lib.hid (fun W hf => ref_find (namB s) A2 n2 c2 d2.room d2.fuse d2.off d2.fs W hf HV.out.dsk.max)
      have KD := Lib.hid (fun A n c W hd => ref_del_any (namB s) A n c d2 W hd (MX.out _ HB.out) HB.out.fuse.2)
      have HBD := Lib.hid (HB.out.del (namB s))
      have i1 : ¬ 1000000 < s := by omega
      generalize hnb0 : namB s = nmb at KN KF KD HBD HS
      clear hnb0
      generalize hit nmb d2.fs = x at KF HS
      obtain ⟨⟨xn, xs, xt⟩, b⟩ := x
      simp only at HS
      generalize del d2 nmb = x at KD HBD HS
      obtain ⟨r, er⟩ := x
      simp only at HS HBD
      go_upto_region 6 with (fail)
      go_cut [10] (fun s10 wx => Cf wr b s10 wx)
      case first =>
        refine wp_region_heldL 8 (Q wr) (by kernel_rfl) ?szz78 (fun hHeld => ?rzz78)
        case szz78 =>
          exact (Q.refl wr).drew
        case' rzz78 => skip
        generalize hgen : wr.drew = D0 at hHeld ⊢
        clear hgen
        refine wpAnyL_take (i := 0) (oi := ?ozz79) (v := ?vzz79) ?hzz79 ?azz79 ?bzz79 ?czz79 ?kzz79 ?qzz79 ?yzz79 ?szz79 ?rzz79
        case hzz79 => simp only [List.getElem?_toArray, List.getElem?_cons_zero]; rfl
        case azz79 => kernel_rfl
        case bzz79 => kernel_rfl
        case czz79 => kernel_rfl
        case kzz79 => kernel_rfl
        case yzz79 =>
          refine Or.inl ⟨by rfl, ?_⟩
          intro w hSw
          have x0 := box_ hSw e0; have x1 := box_ hSw e1; have x2 := box_ hSw e2; have x3 := box_ hSw e3; clear hSw
          go_simp
          try with_reducible rfl
        case qzz79 => exact fun _ _ _ h => h
        case szz79 => first | assumption | trivial
        case' rzz79 => simp only [Act.put, List.setIfInBounds_toArray, List.set_cons_zero, List.set_cons_succ]
        refine wpAnyL_take (i := 1) (oi := ?ozz80) (v := ?vzz80) ?hzz80 ?azz80 ?bzz80 ?czz80 ?kzz80 ?qzz80 ?yzz80 ?szz80 ?rzz80
        case hzz80 => simp only [List.getElem?_toArray, List.getElem?_cons_zero, List.getElem?_cons_succ]; rfl
        case azz80 => kernel_rfl
        case bzz80 => kernel_rfl
        case czz80 => kernel_rfl
        case kzz80 => kernel_rfl
        case yzz80 =>
          refine Or.inl ⟨by rfl, ?_⟩
          intro w hSw
          skip
          go_simp
          try with_reducible rfl
        case qzz80 => exact fun _ _ _ h => h
        case szz80 => first | assumption | trivial
        case' rzz80 => simp only [Act.put, List.setIfInBounds_toArray, List.set_cons_zero, List.set_cons_succ]
        refine wpAnyL_ready (rs := [2, 7]) (by kernel_rfl) (by simp) ?_
        refine AllReadyL.cons (o := ?ozz115) ?hzz115 (fun K hK => ?kzz115) ?mzz115
        case hzz115 => simp only [List.getElem?_toArray, List.getElem?_cons_zero, List.getElem?_cons_succ]; rfl
        case kzz115 =>
          go_simp
          refine (KN.out _).mono ?_
          rintro e v2 ⟨rfl, q2⟩
          go_wp2_with fail
          refine hK.out _ _ ?Szz115 (fun hHeld => ?Rzz115)
          case Szz115 =>
            exact hHeld.trans q2
          case Rzz115 =>
            clear hK K
            try simp only [Act.put, List.setIfInBounds_toArray, List.set_cons_zero, List.set_cons_succ]
            refine wpAnyL_ready (rs := [3, 7]) (by kernel_rfl) (by simp) ?_
            refine AllReadyL.cons (o := ?ozz103) ?hzz103 (fun K hK => ?kzz103) ?mzz103
            case hzz103 => simp only [List.getElem?_toArray, List.getElem?_cons_zero, List.getElem?_cons_succ]; rfl
            case kzz103 =>
              go_simp
              refine (KF.out _ (HV.out.dsk.q hHeld).files).mono ?_
              rintro e v3 ⟨rfl, q3⟩
              go_wp2_with fail
              refine hK.out _ _ ?Szz103 (fun hHeld => ?Rzz103)
              case Szz103 =>
                exact hHeld.trans q3
              case Rzz103 =>
                clear hK K
                try simp only [Act.put, List.setIfInBounds_toArray, List.set_cons_zero, List.set_cons_succ]
                refine wpAnyL_take (i := 4) (oi := ?ozz81) (v := ?vzz81) ?hzz81 ?azz81 ?bzz81 ?czz81 ?kzz81 ?qzz81 ?yzz81 ?szz81 ?rzz81
                case hzz81 => simp only [List.getElem?_toArray, List.getElem?_cons_zero, List.getElem?_cons_succ]; rfl
                case azz81 => kernel_rfl
                case bzz81 => kernel_rfl
                case czz81 => kernel_rfl
                case kzz81 => kernel_rfl
                case yzz81 =>
                  refine Or.inl ⟨by rfl, ?_⟩
                  intro w hSw
                  skip
                  go_simp
                  try with_reducible rfl
                case qzz81 => exact fun _ _ _ h => h
                case szz81 => first | assumption | trivial
                case' rzz81 => simp only [Act.put, List.setIfInBounds_toArray, List.set_cons_zero, List.set_cons_succ]
                refine wpAnyL_take (i := 5) (oi := ?ozz82) (v := ?vzz82) ?hzz82 ?azz82 ?bzz82 ?czz82 ?kzz82 ?qzz82 ?yzz82 ?szz82 ?rzz82
                case hzz82 => simp only [List.getElem?_toArray, List.getElem?_cons_zero, List.getElem?_cons_succ]; rfl
                case azz82 => kernel_rfl
                case bzz82 => kernel_rfl
                case czz82 => kernel_rfl
                case kzz82 => kernel_rfl
                case yzz82 =>
                  refine Or.inl ⟨by rfl, ?_⟩
                  intro w hSw
                  skip
                  go_simp
                  try with_reducible rfl
                case qzz82 => exact fun _ _ _ h => h
                case szz82 => first | assumption | trivial
                case' rzz82 => simp only [Act.put, List.setIfInBounds_toArray, List.set_cons_zero, List.set_cons_succ]
                refine wpAnyL_ready (rs := [6, 7]) (by kernel_rfl) (by simp) ?_
                refine AllReadyL.cons (o := ?ozz92) ?hzz92 (fun K hK => ?kzz92) ?mzz92
                case hzz92 => simp only [List.getElem?_toArray, List.getElem?_cons_zero, List.getElem?_cons_succ]; rfl
                case kzz92 =>
                  go_simp
                  refine hK.out _ _ ?Szz92 (fun hHeld => ?Rzz92)
                  case Szz92 =>
                    exact hHeld
                  case Rzz92 =>
                    clear hK K
                    try simp only [Act.put, List.setIfInBounds_toArray, List.set_cons_zero, List.set_cons_succ]
                    refine wpAnyL_ready (rs := [7]) (by kernel_rfl) (by simp) ?_
                    refine AllReadyL.cons (o := ?ozz85) ?hzz85 (fun K hK => ?kzz85) ?mzz85
                    case hzz85 => simp only [List.getElem?_toArray, List.getElem?_cons_zero, List.getElem?_cons_succ]; rfl
                    case kzz85 =>
                      go_simp
                      have BX := Lib.hid (Bx.new v3 [.string ⟨#[]⟩, .string ⟨#[]⟩, .string ⟨#[]⟩] 42)
                      have hnb : wr.heap.size ≤ v3.heap.size := hHeld.size
                      have qa := (Q.refl v3).alloc (.cells #[.string ⟨#[]⟩, .string ⟨#[]⟩, .string ⟨#[]⟩] 42)
                      have BX : Hid (Bx (v3.alloc (.cells #[.string ⟨#[]⟩, .string ⟨#[]⟩, .string ⟨#[]⟩] 42)) v3.heap.size [.string ⟨#[]⟩, .string ⟨#[]⟩, .string ⟨#[]⟩]) := Lib.hid BX.out
                      generalize v3.alloc (.cells #[.string ⟨#[]⟩, .string ⟨#[]⟩, .string ⟨#[]⟩] 42) = Y0 at BX qa ⊢
                      generalize v3.heap.size = nb at BX hnb ⊢
                      refine hK.out _ _ ?Szz85 (fun hHeld => ?Rzz85)
                      case Szz85 =>
                        exact hHeld.trans qa
                      case Rzz85 =>
                        clear hK K
                        try simp only [Act.put, List.setIfInBounds_toArray, List.set_cons_zero, List.set_cons_succ]
                        refine wpAnyL_ready (rs := [8]) (by kernel_rfl) (by simp) ?_
                        refine AllReadyL.consK (o := ?ozz84) ?hzz84 ?lzz84 (fun K hK => ?kzz84) ?mzz84
                        case hzz84 => simp only [List.getElem?_toArray, List.getElem?_cons_zero, List.getElem?_cons_succ]; rfl
                        case lzz84 => kernel_rfl
                        case kzz84 =>
                          have HZ := Lib.hid hHeld
                          obtain ⟨⟨b0, b1, b2⟩, g0, g1, g2⟩ := BX.out.get3
                          go_simp
                          refine hK.out _ _ ?Rzz84
                          case Rzz84 =>
                            clear hK K
                            try simp only [Act.put, List.setIfInBounds_toArray, List.set_cons_zero, List.set_cons_succ]
                            refine wpAnyH_take (i := 9) (oi := ?ozz83) (v := ?vzz83) ?hzz83 ?azz83 ?bzz83 ?czz83 ?qzz83 ?yzz83 ?szz83 ?rzz83
                            case hzz83 => simp only [List.getElem?_toArray, List.getElem?_cons_zero, List.getElem?_cons_succ]; rfl
                            case azz83 => kernel_rfl
                            case bzz83 => kernel_rfl
                            case czz83 => kernel_rfl
                            case yzz83 =>
                              refine Or.inl ⟨by rfl, ?_⟩
                              intro w hSw
                              skip
                              go_simp
                              try with_reducible rfl
                            case qzz83 => exact fun _ _ _ h => h
                            case szz83 => first | assumption | trivial
                            case' rzz83 => simp only [Act.put, List.setIfInBounds_toArray, List.set_cons_zero, List.set_cons_succ]
                            refine wpAnyH_done (by kernel_rfl) ?_ _
                            go_wp2_with fail
                            go_meet
                            exact ⟨rfl, ((HZ.out.setCell (p := ⟨nb, 0, none⟩) hnb _).setCell (p := ⟨nb, 1, none⟩) hnb _).setCell (p := ⟨nb, 2, none⟩) hnb _⟩
                        case' mzz84 => skip
                        exact AllReadyL.nil
                    case' mzz85 => skip
                    exact AllReadyL.nil
                case' mzz92 => skip
                refine AllReadyL.cons (o := ?ozz93) ?hzz93 (fun K hK => ?kzz93) ?mzz93
                case hzz93 => simp only [List.getElem?_toArray, List.getElem?_cons_zero, List.getElem?_cons_succ]; rfl
                case kzz93 =>
                  go_simp
                  have BX := Lib.hid (Bx.new v3 [.string ⟨#[]⟩, .string ⟨#[]⟩, .string ⟨#[]⟩] 42)
                  have hnb : wr.heap.size ≤ v3.heap.size := hHeld.size
                  have qa := (Q.refl v3).alloc (.cells #[.string ⟨#[]⟩, .string ⟨#[]⟩, .string ⟨#[]⟩] 42)
                  have BX : Hid (Bx (v3.alloc (.cells #[.string ⟨#[]⟩, .string ⟨#[]⟩, .string ⟨#[]⟩] 42)) v3.heap.size [.string ⟨#[]⟩, .string ⟨#[]⟩, .string ⟨#[]⟩]) := Lib.hid BX.out
                  generalize v3.alloc (.cells #[.string ⟨#[]⟩, .string ⟨#[]⟩, .string ⟨#[]⟩] 42) = Y1 at BX qa ⊢
                  generalize v3.heap.size = nb at BX hnb ⊢
                  refine hK.out _ _ ?Szz93 (fun hHeld => ?Rzz93)
                  case Szz93 =>
                    exact hHeld.trans qa
                  case Rzz93 =>
                    clear hK K
                    try simp only [Act.put, List.setIfInBounds_toArray, List.set_cons_zero, List.set_cons_succ]
                    refine wpAnyL_ready (rs := [6, 8]) (by kernel_rfl) (by simp) ?_
                    refine AllReadyL.cons (o := ?ozz90) ?hzz90 (fun K hK => ?kzz90) ?mzz90
                    case hzz90 => simp only [List.getElem?_toArray, List.getElem?_cons_zero, List.getElem?_cons_succ]; rfl
                    case kzz90 =>
                      go_simp
                      refine hK.out _ _ ?Szz90 (fun hHeld => ?Rzz90)
                      case Szz90 =>
                        exact hHeld
                      case Rzz90 =>
                        clear hK K
                        try simp only [Act.put, List.setIfInBounds_toArray, List.set_cons_zero, List.set_cons_succ]
                        refine wpAnyL_ready (rs := [8]) (by kernel_rfl) (by simp) ?_
                        refine AllReadyL.consK (o := ?ozz87) ?hzz87 ?lzz87 (fun K hK => ?kzz87) ?mzz87
                        case hzz87 => simp only [List.getElem?_toArray, List.getElem?_cons_zero, List.getElem?_cons_succ]; rfl
                        case lzz87 => kernel_rfl
                        case kzz87 =>
                          have HZ := Lib.hid hHeld
                          obtain ⟨⟨b0, b1, b2⟩, g0, g1, g2⟩ := BX.out.get3
                          go_simp
                          refine hK.out _ _ ?Rzz87
                          case Rzz87 =>
                            clear hK K
                            try simp only [Act.put, List.setIfInBounds_toArray, List.set_cons_zero, List.set_cons_succ]
                            refine wpAnyH_take (i := 9) (oi := ?ozz86) (v := ?vzz86) ?hzz86 ?azz86 ?bzz86 ?czz86 ?qzz86 ?yzz86 ?szz86 ?rzz86
                            case hzz86 => simp only [List.getElem?_toArray, List.getElem?_cons_zero, List.getElem?_cons_succ]; rfl
                            case azz86 => kernel_rfl
                            case bzz86 => kernel_rfl
                            case czz86 => kernel_rfl
                            case yzz86 =>
                              refine Or.inl ⟨by rfl, ?_⟩
                              intro w hSw
                              skip
                              go_simp
                              try with_reducible rfl
                            case qzz86 => exact fun _ _ _ h => h
                            case szz86 => first | assumption | trivial
                            case' rzz86 => simp only [Act.put, List.setIfInBounds_toArray, List.set_cons_zero, List.set_cons_succ]
                            refine wpAnyH_done (by kernel_rfl) ?_ _
                            go_wp2_with fail
                            go_meet
                            exact ⟨rfl, ((HZ.out.setCell (p := ⟨nb, 0, none⟩) hnb _).setCell (p := ⟨nb, 1, none⟩) hnb _).setCell (p := ⟨nb, 2, none⟩) hnb _⟩
                        case' mzz87 => skip
                        exact AllReadyL.nil
                    case' mzz90 => skip
                    refine AllReadyL.consK (o := ?ozz91) ?hzz91 ?lzz91 (fun K hK => ?kzz91) ?mzz91
                    case hzz91 => simp only [List.getElem?_toArray, List.getElem?_cons_zero, List.getElem?_cons_succ]; rfl
                    case lzz91 => kernel_rfl
                    case kzz91 =>
                      have HZ := Lib.hid hHeld
                      obtain ⟨⟨b0, b1, b2⟩, g0, g1, g2⟩ := BX.out.get3
                      go_simp
                      refine hK.out _ _ ?Rzz91
                      case Rzz91 =>
                        clear hK K
                        try simp only [Act.put, List.setIfInBounds_toArray, List.set_cons_zero, List.set_cons_succ]
                        refine wpAnyH_take (i := 6) (oi := ?ozz88) (v := ?vzz88) ?hzz88 ?azz88 ?bzz88 ?czz88 ?qzz88 ?yzz88 ?szz88 ?rzz88
                        case hzz88 => simp only [List.getElem?_toArray, List.getElem?_cons_zero, List.getElem?_cons_succ]; rfl
                        case azz88 => kernel_rfl
                        case bzz88 => kernel_rfl
                        case czz88 => kernel_rfl
                        case yzz88 =>
                          refine Or.inl ⟨by rfl, ?_⟩
                          intro w hSw
                          skip
                          go_simp
                          try with_reducible rfl
                        case qzz88 => exact fun _ _ _ h => h
                        case szz88 => first | assumption | trivial
                        case' rzz88 => simp only [Act.put, List.setIfInBounds_toArray, List.set_cons_zero, List.set_cons_succ]
                        refine wpAnyH_take (i := 9) (oi := ?ozz89) (v := ?vzz89) ?hzz89 ?azz89 ?bzz89 ?czz89 ?qzz89 ?yzz89 ?szz89 ?rzz89
                        case hzz89 => simp only [List.getElem?_toArray, List.getElem?_cons_zero, List.getElem?_cons_succ]; rfl
                        case azz89 => kernel_rfl
                        case bzz89 => kernel_rfl
                        case czz89 => kernel_rfl
                        case yzz89 =>
                          refine Or.inl ⟨by rfl, ?_⟩
                          intro w hSw
                          skip
                          go_simp
                          try with_reducible rfl
                        case qzz89 => exact fun _ _ _ h => h
                        case szz89 => first | assumption | trivial
                        case' rzz89 => simp only [Act.put, List.setIfInBounds_toArray, List.set_cons_zero, List.set_cons_succ]
                        refine wpAnyH_done (by kernel_rfl) ?_ _
                        go_wp2_with fail
                        go_meet
                        exact ⟨rfl, ((HZ.out.setCell (p := ⟨nb, 0, none⟩) hnb _).setCell (p := ⟨nb, 1, none⟩) hnb _).setCell (p := ⟨nb, 2, none⟩) hnb _⟩
                    case' mzz91 => skip
                    exact AllReadyL.nil
                case' mzz93 => skip
                exact AllReadyL.nil
            case' mzz103 => skip
            refine AllReadyL.cons (o := ?ozz104) ?hzz104 (fun K hK => ?kzz104) ?mzz104
            case hzz104 => simp only [List.getElem?_toArray, List.getElem?_cons_zero, List.getElem?_cons_succ]; rfl
            case kzz104 =>
              go_simp
              have BX := Lib.hid (Bx.new v2 [.string ⟨#[]⟩, .string ⟨#[]⟩, .string ⟨#[]⟩] 42)
              have hnb : wr.heap.size ≤ v2.heap.size := hHeld.size
              have qa := (Q.refl v2).alloc (.cells #[.string ⟨#[]⟩, .string ⟨#[]⟩, .string ⟨#[]⟩] 42)
              have BX : Hid (Bx (v2.alloc (.cells #[.string ⟨#[]⟩, .string ⟨#[]⟩, .string ⟨#[]⟩] 42)) v2.heap.size [.string ⟨#[]⟩, .string ⟨#[]⟩, .string ⟨#[]⟩]) := Lib.hid BX.out
              generalize v2.alloc (.cells #[.string ⟨#[]⟩, .string ⟨#[]⟩, .string ⟨#[]⟩] 42) = Y2 at BX qa ⊢
              generalize v2.heap.size = nb at BX hnb ⊢
              refine hK.out _ _ ?Szz104 (fun hHeld => ?Rzz104)
              case Szz104 =>
                exact hHeld.trans qa
              case Rzz104 =>
                clear hK K
                try simp only [Act.put, List.setIfInBounds_toArray, List.set_cons_zero, List.set_cons_succ]
                refine wpAnyL_ready (rs := [3]) (by kernel_rfl) (by simp) ?_
                refine AllReadyL.cons (o := ?ozz102) ?hzz102 (fun K hK => ?kzz102) ?mzz102
                case hzz102 => simp only [List.getElem?_toArray, List.getElem?_cons_zero, List.getElem?_cons_succ]; rfl
                case kzz102 =>
                  go_simp
                  refine (KF.out _ (HV.out.dsk.q hHeld).files).mono ?_
                  rintro e v3 ⟨rfl, q3⟩
                  have BX := Lib.hid (BX.out.q q3)
                  go_wp2_with fail
                  refine hK.out _ _ ?Szz102 (fun hHeld => ?Rzz102)
                  case Szz102 =>
                    exact hHeld.trans q3
                  case Rzz102 =>
                    clear hK K
                    try simp only [Act.put, List.setIfInBounds_toArray, List.set_cons_zero, List.set_cons_succ]
                    refine wpAnyL_take (i := 4) (oi := ?ozz94) (v := ?vzz94) ?hzz94 ?azz94 ?bzz94 ?czz94 ?kzz94 ?qzz94 ?yzz94 ?szz94 ?rzz94
                    case hzz94 => simp only [List.getElem?_toArray, List.getElem?_cons_zero, List.getElem?_cons_succ]; rfl
                    case azz94 => kernel_rfl
                    case bzz94 => kernel_rfl
                    case czz94 => kernel_rfl
                    case kzz94 => kernel_rfl
                    case yzz94 =>
                      refine Or.inl ⟨by rfl, ?_⟩
                      intro w hSw
                      skip
                      go_simp
                      try with_reducible rfl
                    case qzz94 => exact fun _ _ _ h => h
                    case szz94 => first | assumption | trivial
                    case' rzz94 => simp only [Act.put, List.setIfInBounds_toArray, List.set_cons_zero, List.set_cons_succ]
                    refine wpAnyL_take (i := 5) (oi := ?ozz95) (v := ?vzz95) ?hzz95 ?azz95 ?bzz95 ?czz95 ?kzz95 ?qzz95 ?yzz95 ?szz95 ?rzz95
                    case hzz95 => simp only [List.getElem?_toArray, List.getElem?_cons_zero, List.getElem?_cons_succ]; rfl
                    case azz95 => kernel_rfl
                    case bzz95 => kernel_rfl
                    case czz95 => kernel_rfl
                    case kzz95 => kernel_rfl
                    case yzz95 =>
                      refine Or.inl ⟨by rfl, ?_⟩
                      intro w hSw
                      skip
                      go_simp
                      try with_reducible rfl
                    case qzz95 => exact fun _ _ _ h => h
                    case szz95 => first | assumption | trivial
                    case' rzz95 => simp only [Act.put, List.setIfInBounds_toArray, List.set_cons_zero, List.set_cons_succ]
                    refine wpAnyL_ready (rs := [6, 8]) (by kernel_rfl) (by simp) ?_
                    refine AllReadyL.cons (o := ?ozz100) ?hzz100 (fun K hK => ?kzz100) ?mzz100
                    case hzz100 => simp only [List.getElem?_toArray, List.getElem?_cons_zero, List.getElem?_cons_succ]; rfl
                    case kzz100 =>
                      go_simp
                      refine hK.out _ _ ?Szz100 (fun hHeld => ?Rzz100)
                      case Szz100 =>
                        exact hHeld
                      case Rzz100 =>
                        clear hK K
                        try simp only [Act.put, List.setIfInBounds_toArray, List.set_cons_zero, List.set_cons_succ]
                        refine wpAnyL_ready (rs := [8]) (by kernel_rfl) (by simp) ?_
                        refine AllReadyL.consK (o := ?ozz97) ?hzz97 ?lzz97 (fun K hK => ?kzz97) ?mzz97
                        case hzz97 => simp only [List.getElem?_toArray, List.getElem?_cons_zero, List.getElem?_cons_succ]; rfl
                        case lzz97 => kernel_rfl
                        case kzz97 =>
                          have HZ := Lib.hid hHeld
                          obtain ⟨⟨b0, b1, b2⟩, g0, g1, g2⟩ := BX.out.get3
                          go_simp
                          refine hK.out _ _ ?Rzz97
                          case Rzz97 =>
                            clear hK K
                            try simp only [Act.put, List.setIfInBounds_toArray, List.set_cons_zero, List.set_cons_succ]
                            refine wpAnyH_take (i := 9) (oi := ?ozz96) (v := ?vzz96) ?hzz96 ?azz96 ?bzz96 ?czz96 ?qzz96 ?yzz96 ?szz96 ?rzz96
                            case hzz96 => simp only [List.getElem?_toArray, List.getElem?_cons_zero, List.getElem?_cons_succ]; rfl
                            case azz96 => kernel_rfl
                            case bzz96 => kernel_rfl
                            case czz96 => kernel_rfl
                            case yzz96 =>
                              refine Or.inl ⟨by rfl, ?_⟩
                              intro w hSw
                              skip
                              go_simp
                              try with_reducible rfl
                            case qzz96 => exact fun _ _ _ h => h
                            case szz96 => first | assumption | trivial
                            case' rzz96 => simp only [Act.put, List.setIfInBounds_toArray, List.set_cons_zero, List.set_cons_succ]
                            refine wpAnyH_done (by kernel_rfl) ?_ _
                            go_wp2_with fail
                            go_meet
                            exact ⟨rfl, ((HZ.out.setCell (p := ⟨nb, 0, none⟩) hnb _).setCell (p := ⟨nb, 1, none⟩) hnb _).setCell (p := ⟨nb, 2, none⟩) hnb _⟩
                        case' mzz97 => skip
                        exact AllReadyL.nil
                    case' mzz100 => skip
                    refine AllReadyL.consK (o := ?ozz101) ?hzz101 ?lzz101 (fun K hK => ?kzz101) ?mzz101
                    case hzz101 => simp only [List.getElem?_toArray, List.getElem?_cons_zero, List.getElem?_cons_succ]; rfl
                    case lzz101 => kernel_rfl
                    case kzz101 =>
                      have HZ := Lib.hid hHeld
                      obtain ⟨⟨b0, b1, b2⟩, g0, g1, g2⟩ := BX.out.get3
                      go_simp
                      refine hK.out _ _ ?Rzz101
                      case Rzz101 =>
                        clear hK K
                        try simp only [Act.put, List.setIfInBounds_toArray, List.set_cons_zero, List.set_cons_succ]
                        refine wpAnyH_take (i := 6) (oi := ?ozz98) (v := ?vzz98) ?hzz98 ?azz98 ?bzz98 ?czz98 ?qzz98 ?yzz98 ?szz98 ?rzz98
                        case hzz98 => simp only [List.getElem?_toArray, List.getElem?_cons_zero, List.getElem?_cons_succ]; rfl
                        case azz98 => kernel_rfl
                        case bzz98 => kernel_rfl
                        case czz98 => kernel_rfl
                        case yzz98 =>
                          refine Or.inl ⟨by rfl, ?_⟩
                          intro w hSw
                          skip
                          go_simp
                          try with_reducible rfl
                        case qzz98 => exact fun _ _ _ h => h
                        case szz98 => first | assumption | trivial
                        case' rzz98 => simp only [Act.put, List.setIfInBounds_toArray, List.set_cons_zero, List.set_cons_succ]
                        refine wpAnyH_take (i := 9) (oi := ?ozz99) (v := ?vzz99) ?hzz99 ?azz99 ?bzz99 ?czz99 ?qzz99 ?yzz99 ?szz99 ?rzz99
                        case hzz99 => simp only [List.getElem?_toArray, List.getElem?_cons_zero, List.getElem?_cons_succ]; rfl
                        case azz99 => kernel_rfl
                        case bzz99 => kernel_rfl
                        case czz99 => kernel_rfl
                        case yzz99 =>
                          refine Or.inl ⟨by rfl, ?_⟩
                          intro w hSw
                          skip
                          go_simp
                          try with_reducible rfl
                        case qzz99 => exact fun _ _ _ h => h
                        case szz99 => first | assumption | trivial
                        case' rzz99 => simp only [Act.put, List.setIfInBounds_toArray, List.set_cons_zero, List.set_cons_succ]
                        refine wpAnyH_done (by kernel_rfl) ?_ _
                        go_wp2_with fail
                        go_meet
                        exact ⟨rfl, ((HZ.out.setCell (p := ⟨nb, 0, none⟩) hnb _).setCell (p := ⟨nb, 1, none⟩) hnb _).setCell (p := ⟨nb, 2, none⟩) hnb _⟩
                    case' mzz101 => skip
                    exact AllReadyL.nil
                case' mzz102 => skip
                exact AllReadyL.nil
            case' mzz104 => skip
            exact AllReadyL.nil
        case' mzz115 => skip
        refine AllReadyL.cons (o := ?ozz116) ?hzz116 (fun K hK => ?kzz116) ?mzz116
        case hzz116 => simp only [List.getElem?_toArray, List.getElem?_cons_zero, List.getElem?_cons_succ]; rfl
        case kzz116 =>
          go_simp
          have BX := Lib.hid (Bx.new D0 [.string ⟨#[]⟩, .string ⟨#[]⟩, .string ⟨#[]⟩] 42)
          have hnb : wr.heap.size ≤ D0.heap.size := hHeld.size
          have qa := (Q.refl D0).alloc (.cells #[.string ⟨#[]⟩, .string ⟨#[]⟩, .string ⟨#[]⟩] 42)
          have BX : Hid (Bx (D0.alloc (.cells #[.string ⟨#[]⟩, .string ⟨#[]⟩, .string ⟨#[]⟩] 42)) D0.heap.size [.string ⟨#[]⟩, .string ⟨#[]⟩, .string ⟨#[]⟩]) := Lib.hid BX.out
          generalize D0.alloc (.cells #[.string ⟨#[]⟩, .string ⟨#[]⟩, .string ⟨#[]⟩] 42) = Y3 at BX qa ⊢
          generalize D0.heap.size = nb at BX hnb ⊢
          refine hK.out _ _ ?Szz116 (fun hHeld => ?Rzz116)
          case Szz116 =>
            exact hHeld.trans qa
          case Rzz116 =>
            clear hK K
            try simp only [Act.put, List.setIfInBounds_toArray, List.set_cons_zero, List.set_cons_succ]
            refine wpAnyL_ready (rs := [2]) (by kernel_rfl) (by simp) ?_
            refine AllReadyL.cons (o := ?ozz114) ?hzz114 (fun K hK => ?kzz114) ?mzz114
            case hzz114 => simp only [List.getElem?_toArray, List.getElem?_cons_zero, List.getElem?_cons_succ]; rfl
            case kzz114 =>
              go_simp
              refine (KN.out _).mono ?_
              rintro e v2 ⟨rfl, q2⟩
              have BX := Lib.hid (BX.out.q q2)
              go_wp2_with fail
              refine hK.out _ _ ?Szz114 (fun hHeld => ?Rzz114)
              case Szz114 =>
                exact hHeld.trans q2
              case Rzz114 =>
                clear hK K
                try simp only [Act.put, List.setIfInBounds_toArray, List.set_cons_zero, List.set_cons_succ]
                refine wpAnyL_ready (rs := [3]) (by kernel_rfl) (by simp) ?_
                refine AllReadyL.cons (o := ?ozz113) ?hzz113 (fun K hK => ?kzz113) ?mzz113
                case hzz113 => simp only [List.getElem?_toArray, List.getElem?_cons_zero, List.getElem?_cons_succ]; rfl
                case kzz113 =>
                  go_simp
                  refine (KF.out _ (HV.out.dsk.q hHeld).files).mono ?_
                  rintro e v3 ⟨rfl, q3⟩
                  have BX := Lib.hid (BX.out.q q3)
                  go_wp2_with fail
                  refine hK.out _ _ ?Szz113 (fun hHeld => ?Rzz113)
                  case Szz113 =>
                    exact hHeld.trans q3
                  case Rzz113 =>
                    clear hK K
                    try simp only [Act.put, List.setIfInBounds_toArray, List.set_cons_zero, List.set_cons_succ]
                    refine wpAnyL_take (i := 4) (oi := ?ozz105) (v := ?vzz105) ?hzz105 ?azz105 ?bzz105 ?czz105 ?kzz105 ?qzz105 ?yzz105 ?szz105 ?rzz105
                    case hzz105 => simp only [List.getElem?_toArray, List.getElem?_cons_zero, List.getElem?_cons_succ]; rfl
                    case azz105 => kernel_rfl
                    case bzz105 => kernel_rfl
                    case czz105 => kernel_rfl
                    case kzz105 => kernel_rfl
                    case yzz105 =>
                      refine Or.inl ⟨by rfl, ?_⟩
                      intro w hSw
                      skip
                      go_simp
                      try with_reducible rfl
                    case qzz105 => exact fun _ _ _ h => h
                    case szz105 => first | assumption | trivial
                    case' rzz105 => simp only [Act.put, List.setIfInBounds_toArray, List.set_cons_zero, List.set_cons_succ]
                    refine wpAnyL_take (i := 5) (oi := ?ozz106) (v := ?vzz106) ?hzz106 ?azz106 ?bzz106 ?czz106 ?kzz106 ?qzz106 ?yzz106 ?szz106 ?rzz106
                    case hzz106 => simp only [List.getElem?_toArray, List.getElem?_cons_zero, List.getElem?_cons_succ]; rfl
                    case azz106 => kernel_rfl
                    case bzz106 => kernel_rfl
                    case czz106 => kernel_rfl
                    case kzz106 => kernel_rfl
                    case yzz106 =>
                      refine Or.inl ⟨by rfl, ?_⟩
                      intro w hSw
                      skip
                      go_simp
                      try with_reducible rfl
                    case qzz106 => exact fun _ _ _ h => h
                    case szz106 => first | assumption | trivial
                    case' rzz106 => simp only [Act.put, List.setIfInBounds_toArray, List.set_cons_zero, List.set_cons_succ]
                    refine wpAnyL_ready (rs := [6, 8]) (by kernel_rfl) (by simp) ?_
                    refine AllReadyL.cons (o := ?ozz111) ?hzz111 (fun K hK => ?kzz111) ?mzz111
                    case hzz111 => simp only [List.getElem?_toArray, List.getElem?_cons_zero, List.getElem?_cons_succ]; rfl
                    case kzz111 =>
                      go_simp
                      refine hK.out _ _ ?Szz111 (fun hHeld => ?Rzz111)
                      case Szz111 =>
                        exact hHeld
                      case Rzz111 =>
                        clear hK K
                        try simp only [Act.put, List.setIfInBounds_toArray, List.set_cons_zero, List.set_cons_succ]
                        refine wpAnyL_ready (rs := [8]) (by kernel_rfl) (by simp) ?_
                        refine AllReadyL.consK (o := ?ozz108) ?hzz108 ?lzz108 (fun K hK => ?kzz108) ?mzz108
                        case hzz108 => simp only [List.getElem?_toArray, List.getElem?_cons_zero, List.getElem?_cons_succ]; rfl
                        case lzz108 => kernel_rfl
                        case kzz108 =>
                          have HZ := Lib.hid hHeld
                          obtain ⟨⟨b0, b1, b2⟩, g0, g1, g2⟩ := BX.out.get3
                          go_simp
                          refine hK.out _ _ ?Rzz108
                          case Rzz108 =>
                            clear hK K
                            try simp only [Act.put, List.setIfInBounds_toArray, List.set_cons_zero, List.set_cons_succ]
                            refine wpAnyH_take (i := 9) (oi := ?ozz107) (v := ?vzz107) ?hzz107 ?azz107 ?bzz107 ?czz107 ?qzz107 ?yzz107 ?szz107 ?rzz107
                            case hzz107 => simp only [List.getElem?_toArray, List.getElem?_cons_zero, List.getElem?_cons_succ]; rfl
                            case azz107 => kernel_rfl
                            case bzz107 => kernel_rfl
                            case czz107 => kernel_rfl
                            case yzz107 =>
                              refine Or.inl ⟨by rfl, ?_⟩
                              intro w hSw
                              skip
                              go_simp
                              try with_reducible rfl
                            case qzz107 => exact fun _ _ _ h => h
                            case szz107 => first | assumption | trivial
                            case' rzz107 => simp only [Act.put, List.setIfInBounds_toArray, List.set_cons_zero, List.set_cons_succ]
                            refine wpAnyH_done (by kernel_rfl) ?_ _
                            go_wp2_with fail
                            go_meet
                            exact ⟨rfl, ((HZ.out.setCell (p := ⟨nb, 0, none⟩) hnb _).setCell (p := ⟨nb, 1, none⟩) hnb _).setCell (p := ⟨nb, 2, none⟩) hnb _⟩
                        case' mzz108 => skip
                        exact AllReadyL.nil
                    case' mzz111 => skip
                    refine AllReadyL.consK (o := ?ozz112) ?hzz112 ?lzz112 (fun K hK => ?kzz112) ?mzz112
                    case hzz112 => simp only [List.getElem?_toArray, List.getElem?_cons_zero, List.getElem?_cons_succ]; rfl
                    case lzz112 => kernel_rfl
                    case kzz112 =>
                      have HZ := Lib.hid hHeld
                      obtain ⟨⟨b0, b1, b2⟩, g0, g1, g2⟩ := BX.out.get3
                      go_simp
                      refine hK.out _ _ ?Rzz112
                      case Rzz112 =>
                        clear hK K
                        try simp only [Act.put, List.setIfInBounds_toArray, List.set_cons_zero, List.set_cons_succ]
                        refine wpAnyH_take (i := 6) (oi := ?ozz109) (v := ?vzz109) ?hzz109 ?azz109 ?bzz109 ?czz109 ?qzz109 ?yzz109 ?szz109 ?rzz109
                        case hzz109 => simp only [List.getElem?_toArray, List.getElem?_cons_zero, List.getElem?_cons_succ]; rfl
                        case azz109 => kernel_rfl
                        case bzz109 => kernel_rfl
                        case czz109 => kernel_rfl
                        case yzz109 =>
                          refine Or.inl ⟨by rfl, ?_⟩
                          intro w hSw
                          skip
                          go_simp
                          try with_reducible rfl
                        case qzz109 => exact fun _ _ _ h => h
                        case szz109 => first | assumption | trivial
                        case' rzz109 => simp only [Act.put, List.setIfInBounds_toArray, List.set_cons_zero, List.set_cons_succ]
                        refine wpAnyH_take (i := 9) (oi := ?ozz110) (v := ?vzz110) ?hzz110 ?azz110 ?bzz110 ?czz110 ?qzz110 ?yzz110 ?szz110 ?rzz110
                        case hzz110 => simp only [List.getElem?_toArray, List.getElem?_cons_zero, List.getElem?_cons_succ]; rfl
                        case azz110 => kernel_rfl
                        case bzz110 => kernel_rfl
                        case czz110 => kernel_rfl
                        case yzz110 =>
                          refine Or.inl ⟨by rfl, ?_⟩
                          intro w hSw
                          skip
                          go_simp
                          try with_reducible rfl
                        case qzz110 => exact fun _ _ _ h => h
                        case szz110 => first | assumption | trivial
                        case' rzz110 => simp only [Act.put, List.setIfInBounds_toArray, List.set_cons_zero, List.set_cons_succ]
                        refine wpAnyH_done (by kernel_rfl) ?_ _
                        go_wp2_with fail
                        go_meet
                        exact ⟨rfl, ((HZ.out.setCell (p := ⟨nb, 0, none⟩) hnb _).setCell (p := ⟨nb, 1, none⟩) hnb _).setCell (p := ⟨nb, 2, none⟩) hnb _⟩
                    case' mzz112 => skip
                    exact AllReadyL.nil
                case' mzz113 => skip
                exact AllReadyL.nil
            case' mzz114 => skip
            exact AllReadyL.nil
        case' mzz116 => skip
        exact AllReadyL.nil
      case rest =>
        obtain ⟨rfl, q6⟩ := hcut
        have HV6 := Lib.hid (HV.out.step q6)
        have Q6 := Lib.hid q6
        clear e0 e1 e2 e3 f0 f1 f2' f3
        generalize wc = W6 at HV6 Q6 ⊢
        obtain ⟨⟨e0, e1, e2, e3⟩, f0, f1, f2', f3⟩ := HV6.out.sb.get
        cases b with
        | false =>
          simp only [Bool.false_eq_true, if_false] at HS
          go_wp2
          go_roundw
          case rel => exact ⟨s + 1, by first | rfl | go_num, by omega, by omega, by omega, A2, n2, c2, d2, HV6.out, HF.out, HB.out, by rw [← HS.out]; exact HR.out⟩
          case measure => simp [intOf]; omega
        | true =>
          simp only [if_true] at HS
          go_upto_region 8 with (fail)
          go_cut [11, 12] (fun s11 s12 wx => Cb W6 A2 n2 r er s11 s12 wx)
          case first =>
            refine wp_region_heldL 8 (Q W6) (by kernel_rfl) ?szz117 (fun hHeld => ?rzz117)
            case szz117 =>
              exact (Q.refl W6).drew
            case' rzz117 => skip
            generalize hgen : W6.drew = D0 at hHeld ⊢
            clear hgen
            refine wpAnyL_take (i := 0) (oi := ?ozz118) (v := ?vzz118) ?hzz118 ?azz118 ?bzz118 ?czz118 ?kzz118 ?qzz118 ?yzz118 ?szz118 ?rzz118
            case hzz118 => simp only [List.getElem?_toArray, List.getElem?_cons_zero]; rfl
            case azz118 => kernel_rfl
            case bzz118 => kernel_rfl
            case czz118 => kernel_rfl
            case kzz118 => kernel_rfl
            case yzz118 =>
              refine Or.inl ⟨by rfl, ?_⟩
              intro w hSw
              have x0 := box_ hSw e0; have x1 := box_ hSw e1; have x2 := box_ hSw e2; have x3 := box_ hSw e3; clear hSw
              go_simp
              try with_reducible rfl
            case qzz118 => exact fun _ _ _ h => h
            case szz118 => first | assumption | trivial
            case' rzz118 => simp only [Act.put, List.setIfInBounds_toArray, List.set_cons_zero, List.set_cons_succ]
            refine wpAnyL_take (i := 1) (oi := ?ozz119) (v := ?vzz119) ?hzz119 ?azz119 ?bzz119 ?czz119 ?kzz119 ?qzz119 ?yzz119 ?szz119 ?rzz119
            case hzz119 => simp only [List.getElem?_toArray, List.getElem?_cons_zero, List.getElem?_cons_succ]; rfl
            case azz119 => kernel_rfl
            case bzz119 => kernel_rfl
            case czz119 => kernel_rfl
            case kzz119 => kernel_rfl
            case yzz119 =>
              refine Or.inl ⟨by rfl, ?_⟩
              intro w hSw
              skip
              go_simp
              try with_reducible rfl
            case qzz119 => exact fun _ _ _ h => h
            case szz119 => first | assumption | trivial
            case' rzz119 => simp only [Act.put, List.setIfInBounds_toArray, List.set_cons_zero, List.set_cons_succ]
            refine wpAnyL_ready (rs := [2, 7]) (by kernel_rfl) (by simp) ?_
            refine AllReadyL.cons (o := ?ozz154) ?hzz154 (fun K hK => ?kzz154) ?mzz154
            case hzz154 => simp only [List.getElem?_toArray, List.getElem?_cons_zero, List.getElem?_cons_succ]; rfl
            case kzz154 =>
              go_simp
              refine (KN.out _).mono ?_
              rintro e v2 ⟨rfl, q2⟩
              go_wp2_with fail
              refine hK.out _ _ ?Szz154 (fun hHeld => ?Rzz154)
              case Szz154 =>
                exact hHeld.trans q2
              case Rzz154 =>
                clear hK K
                try simp only [Act.put, List.setIfInBounds_toArray, List.set_cons_zero, List.set_cons_succ]
                refine wpAnyL_ready (rs := [3, 7]) (by kernel_rfl) (by simp) ?_
                refine AllReadyL.cons (o := ?ozz142) ?hzz142 (fun K hK => ?kzz142) ?mzz142
                case hzz142 => simp only [List.getElem?_toArray, List.getElem?_cons_zero, List.getElem?_cons_succ]; rfl
                case kzz142 =>
                  go_simp
                  refine (KD.out _ _ _ _ (HV6.out.dsk.q hHeld)).mono ?_
                  rintro e v3 ⟨A3, n3, c3, rfl, hd3, hf3, q3⟩
                  have HO := Lib.hid (And.intro hd3 (hf3.imp id (fun h ad e => Nat.le_trans hHeld.size (h ad e))))
                  have QO := Lib.hid (Q.refl v3)
                  clear hd3 hf3
                  go_wp2_with fail
                  refine hK.out _ _ ?Szz142 (fun hHeld => ?Rzz142)
                  case Szz142 =>
                    exact hHeld.trans q3
                  case Rzz142 =>
                    clear hK K
                    try simp only [Act.put, List.setIfInBounds_toArray, List.set_cons_zero, List.set_cons_succ]
                    refine wpAnyL_take (i := 4) (oi := ?ozz120) (v := ?vzz120) ?hzz120 ?azz120 ?bzz120 ?czz120 ?kzz120 ?qzz120 ?yzz120 ?szz120 ?rzz120
                    case hzz120 => simp only [List.getElem?_toArray, List.getElem?_cons_zero, List.getElem?_cons_succ]; rfl
                    case azz120 => kernel_rfl
                    case bzz120 => kernel_rfl
                    case czz120 => kernel_rfl
                    case kzz120 => kernel_rfl
                    case yzz120 =>
                      refine Or.inl ⟨by rfl, ?_⟩
                      intro w hSw
                      skip
                      go_simp
                      try with_reducible rfl
                    case qzz120 => exact fun _ _ _ h => h
                    case szz120 => first | assumption | trivial
                    case' rzz120 => simp only [Act.put, List.setIfInBounds_toArray, List.set_cons_zero, List.set_cons_succ]
                    refine wpAnyL_take (i := 5) (oi := ?ozz121) (v := ?vzz121) ?hzz121 ?azz121 ?bzz121 ?czz121 ?kzz121 ?qzz121 ?yzz121 ?szz121 ?rzz121
                    case hzz121 => simp only [List.getElem?_toArray, List.getElem?_cons_zero, List.getElem?_cons_succ]; rfl
                    case azz121 => kernel_rfl
                    case bzz121 => kernel_rfl
                    case czz121 => kernel_rfl
                    case kzz121 => kernel_rfl
                    case yzz121 =>
                      refine Or.inl ⟨by rfl, ?_⟩
                      intro w hSw
                      skip
                      go_simp
                      try with_reducible rfl
                    case qzz121 => exact fun _ _ _ h => h
                    case szz121 => first | assumption | trivial
                    case' rzz121 => simp only [Act.put, List.setIfInBounds_toArray, List.set_cons_zero, List.set_cons_succ]
                    refine wpAnyL_ready (rs := [6, 7]) (by kernel_rfl) (by simp) ?_
                    refine AllReadyL.cons (o := ?ozz131) ?hzz131 (fun K hK => ?kzz131) ?mzz131
                    case hzz131 => simp only [List.getElem?_toArray, List.getElem?_cons_zero, List.getElem?_cons_succ]; rfl
                    case kzz131 =>
                      go_simp
                      refine hK.out _ _ ?Szz131 (fun hHeld => ?Rzz131)
                      case Szz131 =>
                        exact hHeld
                      case Rzz131 =>
                        clear hK K
                        try simp only [Act.put, List.setIfInBounds_toArray, List.set_cons_zero, List.set_cons_succ]
                        refine wpAnyL_ready (rs := [7]) (by kernel_rfl) (by simp) ?_
                        refine AllReadyL.cons (o := ?ozz124) ?hzz124 (fun K hK => ?kzz124) ?mzz124
                        case hzz124 => simp only [List.getElem?_toArray, List.getElem?_cons_zero, List.getElem?_cons_succ]; rfl
                        case kzz124 =>
                          go_simp
                          have BX := Lib.hid (Bx.new v3 [.slice none 0 0, .int .i64 0, .int .i64 0, .bool false] 24)
                          have hnb : W6.heap.size ≤ v3.heap.size := hHeld.size
                          have qa := (Q.refl v3).alloc (.cells #[.slice none 0 0, .int .i64 0, .int .i64 0, .bool false] 24)
                          have BX : Hid (Bx (v3.alloc (.cells #[.slice none 0 0, .int .i64 0, .int .i64 0, .bool false] 24)) v3.heap.size [.slice none 0 0, .int .i64 0, .int .i64 0, .bool false]) := Lib.hid BX.out
                          generalize v3.alloc (.cells #[.slice none 0 0, .int .i64 0, .int .i64 0, .bool false] 24) = Y0 at BX qa ⊢
                          generalize v3.heap.size = nb at BX hnb ⊢
                          refine hK.out _ _ ?Szz124 (fun hHeld => ?Rzz124)
                          case Szz124 =>
                            exact hHeld.trans qa
                          case Rzz124 =>
                            clear hK K
                            try simp only [Act.put, List.setIfInBounds_toArray, List.set_cons_zero, List.set_cons_succ]
                            refine wpAnyL_ready (rs := [8]) (by kernel_rfl) (by simp) ?_
                            refine AllReadyL.consK (o := ?ozz123) ?hzz123 ?lzz123 (fun K hK => ?kzz123) ?mzz123
                            case hzz123 => simp only [List.getElem?_toArray, List.getElem?_cons_zero, List.getElem?_cons_succ]; rfl
                            case lzz123 => kernel_rfl
                            case kzz123 =>
                              have HZ := Lib.hid hHeld
                              obtain ⟨⟨b0, b1, b2, b3⟩, g0, g1, g2, g3⟩ := BX.out.get4
                              have HC := Lib.hid (Cb.mk (A0 := A2) (n0 := n2) (r := r) (er := er) HZ.out (HO.out.1.q (by first | exact Q.refl _ | exact qa)) HO.out.2 BX.out hnb)
                              go_simp
                              refine hK.out _ _ ?Rzz123
                              case Rzz123 =>
                                clear hK K
                                try simp only [Act.put, List.setIfInBounds_toArray, List.set_cons_zero, List.set_cons_succ]
                                refine wpAnyH_take (i := 9) (oi := ?ozz122) (v := ?vzz122) ?hzz122 ?azz122 ?bzz122 ?czz122 ?qzz122 ?yzz122 ?szz122 ?rzz122
                                case hzz122 => simp only [List.getElem?_toArray, List.getElem?_cons_zero, List.getElem?_cons_succ]; rfl
                                case azz122 => kernel_rfl
                                case bzz122 => kernel_rfl
                                case czz122 => kernel_rfl
                                case yzz122 =>
                                  refine Or.inl ⟨by rfl, ?_⟩
                                  intro w hSw
                                  skip
                                  go_simp
                                  try with_reducible rfl
                                case qzz122 => exact fun _ _ _ h => h
                                case szz122 => first | assumption | trivial
                                case' rzz122 => simp only [Act.put, List.setIfInBounds_toArray, List.set_cons_zero, List.set_cons_succ]
                                refine wpAnyH_done (by kernel_rfl) ?_ _
                                go_wp2_with fail
                                go_meet
                                exact HC.out
                            case' mzz123 => skip
                            exact AllReadyL.nil
                        case' mzz124 => skip
                        exact AllReadyL.nil
                    case' mzz131 => skip
                    refine AllReadyL.cons (o := ?ozz132) ?hzz132 (fun K hK => ?kzz132) ?mzz132
                    case hzz132 => simp only [List.getElem?_toArray, List.getElem?_cons_zero, List.getElem?_cons_succ]; rfl
                    case kzz132 =>
                      go_simp
                      have BX := Lib.hid (Bx.new v3 [.slice none 0 0, .int .i64 0, .int .i64 0, .bool false] 24)
                      have hnb : W6.heap.size ≤ v3.heap.size := hHeld.size
                      have qa := (Q.refl v3).alloc (.cells #[.slice none 0 0, .int .i64 0, .int .i64 0, .bool false] 24)
                      have BX : Hid (Bx (v3.alloc (.cells #[.slice none 0 0, .int .i64 0, .int .i64 0, .bool false] 24)) v3.heap.size [.slice none 0 0, .int .i64 0, .int .i64 0, .bool false]) := Lib.hid BX.out
                      generalize v3.alloc (.cells #[.slice none 0 0, .int .i64 0, .int .i64 0, .bool false] 24) = Y1 at BX qa ⊢
                      generalize v3.heap.size = nb at BX hnb ⊢
                      refine hK.out _ _ ?Szz132 (fun hHeld => ?Rzz132)
                      case Szz132 =>
                        exact hHeld.trans qa
                      case Rzz132 =>
                        clear hK K
                        try simp only [Act.put, List.setIfInBounds_toArray, List.set_cons_zero, List.set_cons_succ]
                        refine wpAnyL_ready (rs := [6, 8]) (by kernel_rfl) (by simp) ?_
                        refine AllReadyL.cons (o := ?ozz129) ?hzz129 (fun K hK => ?kzz129) ?mzz129
                        case hzz129 => simp only [List.getElem?_toArray, List.getElem?_cons_zero, List.getElem?_cons_succ]; rfl
                        case kzz129 =>
                          go_simp
                          refine hK.out _ _ ?Szz129 (fun hHeld => ?Rzz129)
                          case Szz129 =>
                            exact hHeld
                          case Rzz129 =>
                            clear hK K
                            try simp only [Act.put, List.setIfInBounds_toArray, List.set_cons_zero, List.set_cons_succ]
                            refine wpAnyL_ready (rs := [8]) (by kernel_rfl) (by simp) ?_
                            refine AllReadyL.consK (o := ?ozz126) ?hzz126 ?lzz126 (fun K hK => ?kzz126) ?mzz126
                            case hzz126 => simp only [List.getElem?_toArray, List.getElem?_cons_zero, List.getElem?_cons_succ]; rfl
                            case lzz126 => kernel_rfl
                            case kzz126 =>
                              have HZ := Lib.hid hHeld
                              obtain ⟨⟨b0, b1, b2, b3⟩, g0, g1, g2, g3⟩ := BX.out.get4
                              have HC := Lib.hid (Cb.mk (A0 := A2) (n0 := n2) (r := r) (er := er) HZ.out (HO.out.1.q (by first | exact Q.refl _ | exact qa)) HO.out.2 BX.out hnb)
                              go_simp
                              refine hK.out _ _ ?Rzz126
                              case Rzz126 =>
                                clear hK K
                                try simp only [Act.put, List.setIfInBounds_toArray, List.set_cons_zero, List.set_cons_succ]
                                refine wpAnyH_take (i := 9) (oi := ?ozz125) (v := ?vzz125) ?hzz125 ?azz125 ?bzz125 ?czz125 ?qzz125 ?yzz125 ?szz125 ?rzz125
                                case hzz125 => simp only [List.getElem?_toArray, List.getElem?_cons_zero, List.getElem?_cons_succ]; rfl
                                case azz125 => kernel_rfl
                                case bzz125 => kernel_rfl
                                case czz125 => kernel_rfl
                                case yzz125 =>
                                  refine Or.inl ⟨by rfl, ?_⟩
                                  intro w hSw
                                  skip
                                  go_simp
                                  try with_reducible rfl
                                case qzz125 => exact fun _ _ _ h => h
                                case szz125 => first | assumption | trivial
                                case' rzz125 => simp only [Act.put, List.setIfInBounds_toArray, List.set_cons_zero, List.set_cons_succ]
                                refine wpAnyH_done (by kernel_rfl) ?_ _
                                go_wp2_with fail
                                go_meet
                                exact HC.out
                            case' mzz126 => skip
                            exact AllReadyL.nil
                        case' mzz129 => skip
                        refine AllReadyL.consK (o := ?ozz130) ?hzz130 ?lzz130 (fun K hK => ?kzz130) ?mzz130
                        case hzz130 => simp only [List.getElem?_toArray, List.getElem?_cons_zero, List.getElem?_cons_succ]; rfl
                        case lzz130 => kernel_rfl
                        case kzz130 =>
                          have HZ := Lib.hid hHeld
                          obtain ⟨⟨b0, b1, b2, b3⟩, g0, g1, g2, g3⟩ := BX.out.get4
                          have HC := Lib.hid (Cb.mk (A0 := A2) (n0 := n2) (r := r) (er := er) HZ.out (HO.out.1.q (by first | exact Q.refl _ | exact qa)) HO.out.2 BX.out hnb)
                          go_simp
                          refine hK.out _ _ ?Rzz130
                          case Rzz130 =>
                            clear hK K
                            try simp only [Act.put, List.setIfInBounds_toArray, List.set_cons_zero, List.set_cons_succ]
                            refine wpAnyH_take (i := 6) (oi := ?ozz127) (v := ?vzz127) ?hzz127 ?azz127 ?bzz127 ?czz127 ?qzz127 ?yzz127 ?szz127 ?rzz127
                            case hzz127 => simp only [List.getElem?_toArray, List.getElem?_cons_zero, List.getElem?_cons_succ]; rfl
                            case azz127 => kernel_rfl
                            case bzz127 => kernel_rfl
                            case czz127 => kernel_rfl
                            case yzz127 =>
                              refine Or.inl ⟨by rfl, ?_⟩
                              intro w hSw
                              skip
                              go_simp
                              try with_reducible rfl
                            case qzz127 => exact fun _ _ _ h => h
                            case szz127 => first | assumption | trivial
                            case' rzz127 => simp only [Act.put, List.setIfInBounds_toArray, List.set_cons_zero, List.set_cons_succ]
                            refine wpAnyH_take (i := 9) (oi := ?ozz128) (v := ?vzz128) ?hzz128 ?azz128 ?bzz128 ?czz128 ?qzz128 ?yzz128 ?szz128 ?rzz128
                            case hzz128 => simp only [List.getElem?_toArray, List.getElem?_cons_zero, List.getElem?_cons_succ]; rfl
                            case azz128 => kernel_rfl
                            case bzz128 => kernel_rfl
                            case czz128 => kernel_rfl
                            case yzz128 =>
                              refine Or.inl ⟨by rfl, ?_⟩
                              intro w hSw
                              skip
                              go_simp
                              try with_reducible rfl
                            case qzz128 => exact fun _ _ _ h => h
                            case szz128 => first | assumption | trivial
                            case' rzz128 => simp only [Act.put, List.setIfInBounds_toArray, List.set_cons_zero, List.set_cons_succ]
                            refine wpAnyH_done (by kernel_rfl) ?_ _
                            go_wp2_with fail
                            go_meet
                            exact HC.out
                        case' mzz130 => skip
                        exact AllReadyL.nil
                    case' mzz132 => skip
                    exact AllReadyL.nil
                case' mzz142 => skip
                refine AllReadyL.cons (o := ?ozz143) ?hzz143 (fun K hK => ?kzz143) ?mzz143
                case hzz143 => simp only [List.getElem?_toArray, List.getElem?_cons_zero, List.getElem?_cons_succ]; rfl
                case kzz143 =>
                  go_simp
                  have BX := Lib.hid (Bx.new v2 [.slice none 0 0, .int .i64 0, .int .i64 0, .bool false] 24)
                  have hnb : W6.heap.size ≤ v2.heap.size := hHeld.size
                  have qa := (Q.refl v2).alloc (.cells #[.slice none 0 0, .int .i64 0, .int .i64 0, .bool false] 24)
                  have BX : Hid (Bx (v2.alloc (.cells #[.slice none 0 0, .int .i64 0, .int .i64 0, .bool false] 24)) v2.heap.size [.slice none 0 0, .int .i64 0, .int .i64 0, .bool false]) := Lib.hid BX.out
                  generalize v2.alloc (.cells #[.slice none 0 0, .int .i64 0, .int .i64 0, .bool false] 24) = Y2 at BX qa ⊢
                  generalize v2.heap.size = nb at BX hnb ⊢
                  refine hK.out _ _ ?Szz143 (fun hHeld => ?Rzz143)
                  case Szz143 =>
                    exact hHeld.trans qa
                  case Rzz143 =>
                    clear hK K
                    try simp only [Act.put, List.setIfInBounds_toArray, List.set_cons_zero, List.set_cons_succ]
                    refine wpAnyL_ready (rs := [3]) (by kernel_rfl) (by simp) ?_
                    refine AllReadyL.cons (o := ?ozz141) ?hzz141 (fun K hK => ?kzz141) ?mzz141
                    case hzz141 => simp only [List.getElem?_toArray, List.getElem?_cons_zero, List.getElem?_cons_succ]; rfl
                    case kzz141 =>
                      go_simp
                      refine (KD.out _ _ _ _ (HV6.out.dsk.q hHeld)).mono ?_
                      rintro e v3 ⟨A3, n3, c3, rfl, hd3, hf3, q3⟩
                      have HO := Lib.hid (And.intro hd3 (hf3.imp id (fun h ad e => Nat.le_trans hHeld.size (h ad e))))
                      have QO := Lib.hid (Q.refl v3)
                      clear hd3 hf3
                      have BX := Lib.hid (BX.out.q q3)
                      go_wp2_with fail
                      refine hK.out _ _ ?Szz141 (fun hHeld => ?Rzz141)
                      case Szz141 =>
                        exact hHeld.trans q3
                      case Rzz141 =>
                        clear hK K
                        try simp only [Act.put, List.setIfInBounds_toArray, List.set_cons_zero, List.set_cons_succ]
                        refine wpAnyL_take (i := 4) (oi := ?ozz133) (v := ?vzz133) ?hzz133 ?azz133 ?bzz133 ?czz133 ?kzz133 ?qzz133 ?yzz133 ?szz133 ?rzz133
                        case hzz133 => simp only [List.getElem?_toArray, List.getElem?_cons_zero, List.getElem?_cons_succ]; rfl
                        case azz133 => kernel_rfl
                        case bzz133 => kernel_rfl
                        case czz133 => kernel_rfl
                        case kzz133 => kernel_rfl
                        case yzz133 =>
                          refine Or.inl ⟨by rfl, ?_⟩
                          intro w hSw
                          skip
                          go_simp
                          try with_reducible rfl
                        case qzz133 => exact fun _ _ _ h => h
                        case szz133 => first | assumption | trivial
                        case' rzz133 => simp only [Act.put, List.setIfInBounds_toArray, List.set_cons_zero, List.set_cons_succ]
                        refine wpAnyL_take (i := 5) (oi := ?ozz134) (v := ?vzz134) ?hzz134 ?azz134 ?bzz134 ?czz134 ?kzz134 ?qzz134 ?yzz134 ?szz134 ?rzz134
                        case hzz134 => simp only [List.getElem?_toArray, List.getElem?_cons_zero, List.getElem?_cons_succ]; rfl
                        case azz134 => kernel_rfl
                        case bzz134 => kernel_rfl
                        case czz134 => kernel_rfl
                        case kzz134 => kernel_rfl
                        case yzz134 =>
                          refine Or.inl ⟨by rfl, ?_⟩
                          intro w hSw
                          skip
                          go_simp
                          try with_reducible rfl
                        case qzz134 => exact fun _ _ _ h => h
                        case szz134 => first | assumption | trivial
                        case' rzz134 => simp only [Act.put, List.setIfInBounds_toArray, List.set_cons_zero, List.set_cons_succ]
                        refine wpAnyL_ready (rs := [6, 8]) (by kernel_rfl) (by simp) ?_
                        refine AllReadyL.cons (o := ?ozz139) ?hzz139 (fun K hK => ?kzz139) ?mzz139
                        case hzz139 => simp only [List.getElem?_toArray, List.getElem?_cons_zero, List.getElem?_cons_succ]; rfl
                        case kzz139 =>
                          go_simp
                          refine hK.out _ _ ?Szz139 (fun hHeld => ?Rzz139)
                          case Szz139 =>
                            exact hHeld
                          case Rzz139 =>
                            clear hK K
                            try simp only [Act.put, List.setIfInBounds_toArray, List.set_cons_zero, List.set_cons_succ]
                            refine wpAnyL_ready (rs := [8]) (by kernel_rfl) (by simp) ?_
                            refine AllReadyL.consK (o := ?ozz136) ?hzz136 ?lzz136 (fun K hK => ?kzz136) ?mzz136
                            case hzz136 => simp only [List.getElem?_toArray, List.getElem?_cons_zero, List.getElem?_cons_succ]; rfl
                            case lzz136 => kernel_rfl
                            case kzz136 =>
                              have HZ := Lib.hid hHeld
                              obtain ⟨⟨b0, b1, b2, b3⟩, g0, g1, g2, g3⟩ := BX.out.get4
                              have HC := Lib.hid (Cb.mk (A0 := A2) (n0 := n2) (r := r) (er := er) HZ.out (HO.out.1.q (by first | exact Q.refl _ | exact qa)) HO.out.2 BX.out hnb)
                              go_simp
                              refine hK.out _ _ ?Rzz136
                              case Rzz136 =>
                                clear hK K
                                try simp only [Act.put, List.setIfInBounds_toArray, List.set_cons_zero, List.set_cons_succ]
                                refine wpAnyH_take (i := 9) (oi := ?ozz135) (v := ?vzz135) ?hzz135 ?azz135 ?bzz135 ?czz135 ?qzz135 ?yzz135 ?szz135 ?rzz135
                                case hzz135 => simp only [List.getElem?_toArray, List.getElem?_cons_zero, List.getElem?_cons_succ]; rfl
                                case azz135 => kernel_rfl
                                case bzz135 => kernel_rfl
                                case czz135 => kernel_rfl
                                case yzz135 =>
                                  refine Or.inl ⟨by rfl, ?_⟩
                                  intro w hSw
                                  skip
                                  go_simp
                                  try with_reducible rfl
                                case qzz135 => exact fun _ _ _ h => h
                                case szz135 => first | assumption | trivial
                                case' rzz135 => simp only [Act.put, List.setIfInBounds_toArray, List.set_cons_zero, List.set_cons_succ]
                                refine wpAnyH_done (by kernel_rfl) ?_ _
                                go_wp2_with fail
                                go_meet
                                exact HC.out
                            case' mzz136 => skip
                            exact AllReadyL.nil
                        case' mzz139 => skip
                        refine AllReadyL.consK (o := ?ozz140) ?hzz140 ?lzz140 (fun K hK => ?kzz140) ?mzz140
                        case hzz140 => simp only [List.getElem?_toArray, List.getElem?_cons_zero, List.getElem?_cons_succ]; rfl
                        case lzz140 => kernel_rfl
                        case kzz140 =>
                          have HZ := Lib.hid hHeld
                          obtain ⟨⟨b0, b1, b2, b3⟩, g0, g1, g2, g3⟩ := BX.out.get4
                          have HC := Lib.hid (Cb.mk (A0 := A2) (n0 := n2) (r := r) (er := er) HZ.out (HO.out.1.q (by first | exact Q.refl _ | exact qa)) HO.out.2 BX.out hnb)
                          go_simp
                          refine hK.out _ _ ?Rzz140
                          case Rzz140 =>
                            clear hK K
                            try simp only [Act.put, List.setIfInBounds_toArray, List.set_cons_zero, List.set_cons_succ]
                            refine wpAnyH_take (i := 6) (oi := ?ozz137) (v := ?vzz137) ?hzz137 ?azz137 ?bzz137 ?czz137 ?qzz137 ?yzz137 ?szz137 ?rzz137
                            case hzz137 => simp only [List.getElem?_toArray, List.getElem?_cons_zero, List.getElem?_cons_succ]; rfl
                            case azz137 => kernel_rfl
                            case bzz137 => kernel_rfl
                            case czz137 => kernel_rfl
                            case yzz137 =>
                              refine Or.inl ⟨by rfl, ?_⟩
                              intro w hSw
                              skip
                              go_simp
                              try with_reducible rfl
                            case qzz137 => exact fun _ _ _ h => h
                            case szz137 => first | assumption | trivial
                            case' rzz137 => simp only [Act.put, List.setIfInBounds_toArray, List.set_cons_zero, List.set_cons_succ]
                            refine wpAnyH_take (i := 9) (oi := ?ozz138) (v := ?vzz138) ?hzz138 ?azz138 ?bzz138 ?czz138 ?qzz138 ?yzz138 ?szz138 ?rzz138
                            case hzz138 => simp only [List.getElem?_toArray, List.getElem?_cons_zero, List.getElem?_cons_succ]; rfl
                            case azz138 => kernel_rfl
                            case bzz138 => kernel_rfl
                            case czz138 => kernel_rfl
                            case yzz138 =>
                              refine Or.inl ⟨by rfl, ?_⟩
                              intro w hSw
                              skip
                              go_simp
                              try with_reducible rfl
                            case qzz138 => exact fun _ _ _ h => h
                            case szz138 => first | assumption | trivial
                            case' rzz138 => simp only [Act.put, List.setIfInBounds_toArray, List.set_cons_zero, List.set_cons_succ]
                            refine wpAnyH_done (by kernel_rfl) ?_ _
                            go_wp2_with fail
                            go_meet
                            exact HC.out
                        case' mzz140 => skip
                        exact AllReadyL.nil
                    case' mzz141 => skip
                    exact AllReadyL.nil
                case' mzz143 => skip
                exact AllReadyL.nil
            case' mzz154 => skip
            refine AllReadyL.cons (o := ?ozz155) ?hzz155 (fun K hK => ?kzz155) ?mzz155
            case hzz155 => simp only [List.getElem?_toArray, List.getElem?_cons_zero, List.getElem?_cons_succ]; rfl
            case kzz155 =>
              go_simp
              have BX := Lib.hid (Bx.new D0 [.slice none 0 0, .int .i64 0, .int .i64 0, .bool false] 24)
              have hnb : W6.heap.size ≤ D0.heap.size := hHeld.size
              have qa := (Q.refl D0).alloc (.cells #[.slice none 0 0, .int .i64 0, .int .i64 0, .bool false] 24)
              have BX : Hid (Bx (D0.alloc (.cells #[.slice none 0 0, .int .i64 0, .int .i64 0, .bool false] 24)) D0.heap.size [.slice none 0 0, .int .i64 0, .int .i64 0, .bool false]) := Lib.hid BX.out
              generalize D0.alloc (.cells #[.slice none 0 0, .int .i64 0, .int .i64 0, .bool false] 24) = Y3 at BX qa ⊢
              generalize D0.heap.size = nb at BX hnb ⊢
              refine hK.out _ _ ?Szz155 (fun hHeld => ?Rzz155)
              case Szz155 =>
                exact hHeld.trans qa
              case Rzz155 =>
                clear hK K
                try simp only [Act.put, List.setIfInBounds_toArray, List.set_cons_zero, List.set_cons_succ]
                refine wpAnyL_ready (rs := [2]) (by kernel_rfl) (by simp) ?_
                refine AllReadyL.cons (o := ?ozz153) ?hzz153 (fun K hK => ?kzz153) ?mzz153
                case hzz153 => simp only [List.getElem?_toArray, List.getElem?_cons_zero, List.getElem?_cons_succ]; rfl
                case kzz153 =>
                  go_simp
                  refine (KN.out _).mono ?_
                  rintro e v2 ⟨rfl, q2⟩
                  have BX := Lib.hid (BX.out.q q2)
                  go_wp2_with fail
                  refine hK.out _ _ ?Szz153 (fun hHeld => ?Rzz153)
                  case Szz153 =>
                    exact hHeld.trans q2
                  case Rzz153 =>
                    clear hK K
                    try simp only [Act.put, List.setIfInBounds_toArray, List.set_cons_zero, List.set_cons_succ]
                    refine wpAnyL_ready (rs := [3]) (by kernel_rfl) (by simp) ?_
                    refine AllReadyL.cons (o := ?ozz152) ?hzz152 (fun K hK => ?kzz152) ?mzz152
                    case hzz152 => simp only [List.getElem?_toArray, List.getElem?_cons_zero, List.getElem?_cons_succ]; rfl
                    case kzz152 =>
                      go_simp
                      refine (KD.out _ _ _ _ (HV6.out.dsk.q hHeld)).mono ?_
                      rintro e v3 ⟨A3, n3, c3, rfl, hd3, hf3, q3⟩
                      have HO := Lib.hid (And.intro hd3 (hf3.imp id (fun h ad e => Nat.le_trans hHeld.size (h ad e))))
                      have QO := Lib.hid (Q.refl v3)
                      clear hd3 hf3
                      have BX := Lib.hid (BX.out.q q3)
                      go_wp2_with fail
                      refine hK.out _ _ ?Szz152 (fun hHeld => ?Rzz152)
                      case Szz152 =>
                        exact hHeld.trans q3
                      case Rzz152 =>
                        clear hK K
                        try simp only [Act.put, List.setIfInBounds_toArray, List.set_cons_zero, List.set_cons_succ]
                        refine wpAnyL_take (i := 4) (oi := ?ozz144) (v := ?vzz144) ?hzz144 ?azz144 ?bzz144 ?czz144 ?kzz144 ?qzz144 ?yzz144 ?szz144 ?rzz144
                        case hzz144 => simp only [List.getElem?_toArray, List.getElem?_cons_zero, List.getElem?_cons_succ]; rfl
                        case azz144 => kernel_rfl
                        case bzz144 => kernel_rfl
                        case czz144 => kernel_rfl
                        case kzz144 => kernel_rfl
                        case yzz144 =>
                          refine Or.inl ⟨by rfl, ?_⟩
                          intro w hSw
                          skip
                          go_simp
                          try with_reducible rfl
                        case qzz144 => exact fun _ _ _ h => h
                        case szz144 => first | assumption | trivial
                        case' rzz144 => simp only [Act.put, List.setIfInBounds_toArray, List.set_cons_zero, List.set_cons_succ]
                        refine wpAnyL_take (i := 5) (oi := ?ozz145) (v := ?vzz145) ?hzz145 ?azz145 ?bzz145 ?czz145 ?kzz145 ?qzz145 ?yzz145 ?szz145 ?rzz145
                        case hzz145 => simp only [List.getElem?_toArray, List.getElem?_cons_zero, List.getElem?_cons_succ]; rfl
                        case azz145 => kernel_rfl
                        case bzz145 => kernel_rfl
                        case czz145 => kernel_rfl
                        case kzz145 => kernel_rfl
                        case yzz145 =>
                          refine Or.inl ⟨by rfl, ?_⟩
                          intro w hSw
                          skip
                          go_simp
                          try with_reducible rfl
                        case qzz145 => exact fun _ _ _ h => h
                        case szz145 => first | assumption | trivial
                        case' rzz145 => simp only [Act.put, List.setIfInBounds_toArray, List.set_cons_zero, List.set_cons_succ]
                        refine wpAnyL_ready (rs := [6, 8]) (by kernel_rfl) (by simp) ?_
                        refine AllReadyL.cons (o := ?ozz150) ?hzz150 (fun K hK => ?kzz150) ?mzz150
                        case hzz150 => simp only [List.getElem?_toArray, List.getElem?_cons_zero, List.getElem?_cons_succ]; rfl
                        case kzz150 =>
                          go_simp
                          refine hK.out _ _ ?Szz150 (fun hHeld => ?Rzz150)
                          case Szz150 =>
                            exact hHeld
                          case Rzz150 =>
                            clear hK K
                            try simp only [Act.put, List.setIfInBounds_toArray, List.set_cons_zero, List.set_cons_succ]
                            refine wpAnyL_ready (rs := [8]) (by kernel_rfl) (by simp) ?_
                            refine AllReadyL.consK (o := ?ozz147) ?hzz147 ?lzz147 (fun K hK => ?kzz147) ?mzz147
                            case hzz147 => simp only [List.getElem?_toArray, List.getElem?_cons_zero, List.getElem?_cons_succ]; rfl
                            case lzz147 => kernel_rfl
                            case kzz147 =>
                              have HZ := Lib.hid hHeld
                              obtain ⟨⟨b0, b1, b2, b3⟩, g0, g1, g2, g3⟩ := BX.out.get4
                              have HC := Lib.hid (Cb.mk (A0 := A2) (n0 := n2) (r := r) (er := er) HZ.out (HO.out.1.q (by first | exact Q.refl _ | exact qa)) HO.out.2 BX.out hnb)
                              go_simp
                              refine hK.out _ _ ?Rzz147
                              case Rzz147 =>
                                clear hK K
                                try simp only [Act.put, List.setIfInBounds_toArray, List.set_cons_zero, List.set_cons_succ]
                                refine wpAnyH_take (i := 9) (oi := ?ozz146) (v := ?vzz146) ?hzz146 ?azz146 ?bzz146 ?czz146 ?qzz146 ?yzz146 ?szz146 ?rzz146
                                case hzz146 => simp only [List.getElem?_toArray, List.getElem?_cons_zero, List.getElem?_cons_succ]; rfl
                                case azz146 => kernel_rfl
                                case bzz146 => kernel_rfl
                                case czz146 => kernel_rfl
                                case yzz146 =>
                                  refine Or.inl ⟨by rfl, ?_⟩
                                  intro w hSw
                                  skip
                                  go_simp
                                  try with_reducible rfl
                                case qzz146 => exact fun _ _ _ h => h
                                case szz146 => first | assumption | trivial
                                case' rzz146 => simp only [Act.put, List.setIfInBounds_toArray, List.set_cons_zero, List.set_cons_succ]
                                refine wpAnyH_done (by kernel_rfl) ?_ _
                                go_wp2_with fail
                                go_meet
                                exact HC.out
                            case' mzz147 => skip
                            exact AllReadyL.nil
                        case' mzz150 => skip
                        refine AllReadyL.consK (o := ?ozz151) ?hzz151 ?lzz151 (fun K hK => ?kzz151) ?mzz151
                        case hzz151 => simp only [List.getElem?_toArray, List.getElem?_cons_zero, List.getElem?_cons_succ]; rfl
                        case lzz151 => kernel_rfl
                        case kzz151 =>
                          have HZ := Lib.hid hHeld
                          obtain ⟨⟨b0, b1, b2, b3⟩, g0, g1, g2, g3⟩ := BX.out.get4
                          have HC := Lib.hid (Cb.mk (A0 := A2) (n0 := n2) (r := r) (er := er) HZ.out (HO.out.1.q (by first | exact Q.refl _ | exact qa)) HO.out.2 BX.out hnb)
                          go_simp
                          refine hK.out _ _ ?Rzz151
                          case Rzz151 =>
                            clear hK K
                            try simp only [Act.put, List.setIfInBounds_toArray, List.set_cons_zero, List.set_cons_succ]
                            refine wpAnyH_take (i := 6) (oi := ?ozz148) (v := ?vzz148) ?hzz148 ?azz148 ?bzz148 ?czz148 ?qzz148 ?yzz148 ?szz148 ?rzz148
                            case hzz148 => simp only [List.getElem?_toArray, List.getElem?_cons_zero, List.getElem?_cons_succ]; rfl
                            case azz148 => kernel_rfl
                            case bzz148 => kernel_rfl
                            case czz148 => kernel_rfl
                            case yzz148 =>
                              refine Or.inl ⟨by rfl, ?_⟩
                              intro w hSw
                              skip
                              go_simp
                              try with_reducible rfl
                            case qzz148 => exact fun _ _ _ h => h
                            case szz148 => first | assumption | trivial
                            case' rzz148 => simp only [Act.put, List.setIfInBounds_toArray, List.set_cons_zero, List.set_cons_succ]
                            refine wpAnyH_take (i := 9) (oi := ?ozz149) (v := ?vzz149) ?hzz149 ?azz149 ?bzz149 ?czz149 ?qzz149 ?yzz149 ?szz149 ?rzz149
                            case hzz149 => simp only [List.getElem?_toArray, List.getElem?_cons_zero, List.getElem?_cons_succ]; rfl
                            case azz149 => kernel_rfl
                            case bzz149 => kernel_rfl
                            case czz149 => kernel_rfl
                            case yzz149 =>
                              refine Or.inl ⟨by rfl, ?_⟩
                              intro w hSw
                              skip
                              go_simp
                              try with_reducible rfl
                            case qzz149 => exact fun _ _ _ h => h
                            case szz149 => first | assumption | trivial
                            case' rzz149 => simp only [Act.put, List.setIfInBounds_toArray, List.set_cons_zero, List.set_cons_succ]
                            refine wpAnyH_done (by kernel_rfl) ?_ _
                            go_wp2_with fail
                            go_meet
                            exact HC.out
                        case' mzz151 => skip
                        exact AllReadyL.nil
                    case' mzz152 => skip
                    exact AllReadyL.nil
                case' mzz153 => skip
                exact AllReadyL.nil
            case' mzz155 => skip
            exact AllReadyL.nil
          case rest =>
            obtain ⟨g, A3, n3, c3, rfl, rfl, hg, hbx, hd3, hf3, q8⟩ := hcut
            have HV8 := Lib.hid (HV6.out.putK (d5 := r) q8 hd3 hf3)
            have HF8 := Lib.hid (HV6.out.farK HF.out hf3)
            have P8 := Lib.hid (HV6.out.step q8)
            obtain ⟨⟨b0, b1, b2, b3⟩, _⟩ := hbx.get4
            clear e0 e1 e2 e3 f0 f1 f2' f3
            clear hd3 hf3 hbx q8
            obtain ⟨⟨e0, e1, e2, e3⟩, f0, f1, f2', f3⟩ := P8.out.sb.get
            go_upto_region 10 with (fail)
            generalize ((((wc.setCell ⟨w.heap.size, 0, none⟩ (.slice A3 n3 c3)).setCell ⟨w.heap.size, 1, none⟩ (.int .i64 r.room)).setCell ⟨w.heap.size, 2, none⟩ (.int .i64 r.fuse)).setCell ⟨w.heap.size, 3, none⟩ (.bool r.off)) = W9 at HV8 ⊢
            clear b0 b1 b2 b3
            clear e0 e1 e2 e3 f0 f1 f2' f3
            obtain ⟨⟨e0, e1, e2, e3⟩, f0, f1, f2', f3⟩ := HV8.out.sb.get
            by_cases he : er = 0
            · subst he
              simp only [if_true] at HS
              go_wp2
              go_roundw
              case rel => exact ⟨s + 1, by first | rfl | go_num, by omega, by omega, by omega, A3, n3, c3, r, HV8.out, HF8.out, HBD.out, HS.out.symm.trans HR.out⟩
              case measure => simp [intOf]; omega
            · have i5 : (er == 0) = false := by simpa using he
              have i6 : (er != 0) = true := by simpa using he
              have HQ := Lib.hid (show R = (r, er) from HR.out.symm.trans (HS.out.trans (if_neg he)))
              clear he
              have F := Lib.hid (HV8.out.endK HF8.out (er) (.slice A3 n3 c3) (.int .i64 r.room) (.int .i64 r.fuse) (.bool r.off))
              obtain ⟨⟨s0, s1, s2, s3⟩, h0, h1, h2, h3⟩ := HV8.out.sb.getR
              go_wp2
              (try rw [Exit.noGoto_ret])
              refine bodyPost_ret (v := .tuple #[dkv A3 n3 c3 r.room r.fuse r.off, .int .i64 (er)]) (by simp [results, Tryz.results11, go_sem, s0, s1, s2, s3]) rfl ?_
              rw [HQ.out]
              exact F.out
    · have HE := Lib.hid (show R = (d2, 0) from HR.out.symm.trans (seqD_end (til - s).toNat s til d2 hc))
      by_cases hl : s < til
      · have i3 : ¬ s ≤ 1000000 := fun h => hc ⟨hl, h⟩
        clear hc
        have F := Lib.hid (HV.out.endK HF.out (0) (.slice A2 n2 c2) (.int .i64 d2.room) (.int .i64 d2.fuse) (.bool d2.off))
        obtain ⟨⟨s0, s1, s2, s3⟩, h0, h1, h2, h3⟩ := HV.out.sb.getR
        go_wp2
        (try rw [Exit.noGoto_ret])
        refine bodyPost_ret (v := .tuple #[dkv A2 n2 c2 d2.room d2.fuse d2.off, .int .i64 (0)]) (by simp [results, Tryz.results11, go_sem, s0, s1, s2, s3]) rfl ?_
        rw [HE.out]
        exact F.out
      · clear hc
        have F := Lib.hid (HV.out.endK HF.out (0) (.slice A2 n2 c2) (.int .i64 d2.room) (.int .i64 d2.fuse) (.bool d2.off))
        obtain ⟨⟨s0, s1, s2, s3⟩, h0, h1, h2, h3⟩ := HV.out.sb.getR
        go_wp2
        (try rw [Exit.noGoto_ret])
        refine bodyPost_ret (v := .tuple #[dkv A2 n2 c2 d2.room d2.fuse d2.off, .int .i64 (0)]) (by simp [results, Tryz.results11, go_sem, s0, s1, s2, s3]) rfl ?_
        rw [HE.out]
        exact F.out

theorem refDrop_any (fr til : Int) (A : Option Addr) (n c : Nat) (d : Dk) (w : World) (hd : Dsk w A n c d.fs) (hB : Bnd 2305843009213693952 d) (s : Int) (hs : s = if fr < 1 then 1 else fr) (h1 : til ≤ 9223372036854775807) :
    Calls Tryz.prog 11 #[dkv A n c d.room d.fuse d.off, .int .i64 fr, .int .i64 til] w fun e w' => RetDK w A n (seqD (til - s).toNat s til d).1 (seqD (til - s).toNat s til d).2 e w' := by
  by_cases h : fr < 1
  · rw [if_pos h] at hs
    exact refDrop_lo fr til A n c d w hd hB _ (by rw [hs]) h h1
  · rw [if_neg h] at hs
    exact refDrop_hi fr til A n c d w hd hB _ (by rw [hs]) (by omega) h1
end Go.Proofs.YtggbdhnjogalgaaGreatDoor
