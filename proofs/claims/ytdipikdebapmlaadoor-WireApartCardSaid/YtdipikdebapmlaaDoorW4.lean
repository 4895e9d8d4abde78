/- WiReq, Builder, WiNums: merged. -/
import Derived.Test.YtdipikdebapmlaaDoorW3
import Derived.Test.YtdipikdebapmlaaDoorW1
import Derived.Deep.DeepCutAuto
import Derived.Test.YtdipikdebapmlaaDoorShelf
import Derived.Lib.Builder
import Derived.Lib.AppendStr
import Derived.OwnWalk
import Derived.Test.YtdipikdebapmlaaDoorW2
/- The contracts of the document's num, text, Req (chapter 16). -/
namespace Go.Proofs.YtdipikdebapmlaaDoor
set_option maxRecDepth 100000
open Go.RowKit
set_option linter.unusedVariables false
set_option linter.unusedSimpArgs false
namespace Wi

theorem ba_app (a b : List UInt8) : ba a ++ ba b = ba (a ++ b) := by
  apply ByteArray.ext
  apply Array.ext'
  unfold ba
  simp
set_option maxHeartbeats 1000000 in
theorem wnum_any (n : Int) (w : World) (h0 : 0 ≤ n) (h1 : n ≤ 1073741824) : Calls Tryd.prog 23 #[.int .i64 n] w fun e w' => e = .returned (.string (ba (num n))) ∧ Q w w' := by
  have K1 := Lib.hid (fun W => refNum_any n W h0 (by omega))
  have u1 : IntKind.u64.wrap n = n := by rw [IntKind.wrap_u64]; omega
  go_enter Tryd.func23, Tryd.ntmps23
  go_wp2_with fail
  refine (K1.out _).mono ?_
  rintro e w1 ⟨rfl, q1⟩
  go_wp2
  go_ret
  exact ⟨rfl, q1⟩
theorem ptx_eq (s : ByteArray) : (⟨(Dm.num s.size ++ s.data.toList).toArray⟩ : ByteArray) = ba (ptx s) := by
  unfold ba ptx Rn.ptx
  rw [Rn.size_data]
set_option maxHeartbeats 1000000 in
theorem wtext_any (s : ByteArray) (w : World) (h : s.size ≤ 1000) : Calls Tryd.prog 24 #[.string s] w fun e w' => e = .returned (.string (ba (ptx s))) ∧ Q w w' := by
  have K1 := Lib.hid (fun W => refText_any s W (by omega))
  rw [ptx_eq] at K1
  go_enter Tryd.func24, Tryd.ntmps24
  go_wp2_with fail
  refine (K1.out _).mono ?_
  rintro e w1 ⟨rfl, q1⟩
  go_wp2
  go_ret
  exact ⟨rfl, q1⟩

set_option maxRecDepth 100000 in
set_option maxHeartbeats 4000000 in
theorem wreq_any (q : Rq) (w : World) : Calls Tryd.prog 10 #[rqV q] w fun e w' => e = .returned (.tuple #[.string (ba (reqM q).1), .int .i64 (reqM q).2]) ∧ Q w w' := by
  obtain ⟨k, e, s, n, t, ⟨ok, ky, vl, lo, hi, m⟩⟩ := q
  have KM : Hid (∀ W, Calls Tryd.prog 14 #[.agg #[.int .i64 k, .int .i64 e, .int .i64 s, .int .i64 n, .string t, .int .i64 ok, .string ky, .string vl, .string lo, .string hi, .int .i64 m]] W fun e' w' => e' = .returned (.bool (may ⟨k, e, s, n, t, ⟨ok, ky, vl, lo, hi, m⟩⟩)) ∧ Q W w') := Lib.hid (fun W => wmay_any ⟨k, e, s, n, t, ⟨ok, ky, vl, lo, hi, m⟩⟩ W)
  have HR : Hid (reqM ⟨k, e, s, n, t, ⟨ok, ky, vl, lo, hi, m⟩⟩ = if may ⟨k, e, s, n, t, ⟨ok, ky, vl, lo, hi, m⟩⟩ = true then (req ⟨k, e, s, n, t, ⟨ok, ky, vl, lo, hi, m⟩⟩, 0) else ([], 1)) := Lib.hid rfl
  have X := Lib.hid (And.intro (Bx.new w [.int .i64 k, .int .i64 e, .int .i64 s, .int .i64 n, .string t, .int .i64 ok, .string ky, .string vl, .string lo, .string hi, .int .i64 m] 25) ((Q.refl w).alloc (.cells #[.int .i64 k, .int .i64 e, .int .i64 s, .int .i64 n, .string t, .int .i64 ok, .string ky, .string vl, .string lo, .string hi, .int .i64 m] 25)))
  show Calls _ _ #[.agg #[.int .i64 k, .int .i64 e, .int .i64 s, .int .i64 n, .string t, .int .i64 ok, .string ky, .string vl, .string lo, .string hi, .int .i64 m]] _ _
  generalize reqM ⟨k, e, s, n, t, ⟨ok, ky, vl, lo, hi, m⟩⟩ = res at HR ⊢
  have HMay := Lib.hid (fun h => may_of (q := ⟨k, e, s, n, t, ⟨ok, ky, vl, lo, hi, m⟩⟩) h)
  cases hm : may ⟨k, e, s, n, t, ⟨ok, ky, vl, lo, hi, m⟩⟩ with
  | false =>
    rw [hm] at KM HR
    clear HMay hm
    go_enter Tryd.func10, Tryd.ntmps10
    go_upto_region 1 with (fail)
    change Hid (Bx (w.alloc (.cells #[.int .i64 k, .int .i64 e, .int .i64 s, .int .i64 n, .string t, .int .i64 ok, .string ky, .string vl, .string lo, .string hi, .int .i64 m] 25)) _ _ ∧ Q w (w.alloc (.cells #[.int .i64 k, .int .i64 e, .int .i64 s, .int .i64 n, .string t, .int .i64 ok, .string ky, .string vl, .string lo, .string hi, .int .i64 m] 25))) at X
    generalize w.alloc (.cells #[.int .i64 k, .int .i64 e, .int .i64 s, .int .i64 n, .string t, .int .i64 ok, .string ky, .string vl, .string lo, .string hi, .int .i64 m] 25) = W0 at X ⊢
    have x0 := (X.out.1 0 _ rfl).1
    have x1 := (X.out.1 1 _ rfl).1
    have x2 := (X.out.1 2 _ rfl).1
    have x3 := (X.out.1 3 _ rfl).1
    have x4 := (X.out.1 4 _ rfl).1
    have x5 := (X.out.1 5 _ rfl).1
    have x6 := (X.out.1 6 _ rfl).1
    have x7 := (X.out.1 7 _ rfl).1
    have x8 := (X.out.1 8 _ rfl).1
    have x9 := (X.out.1 9 _ rfl).1
    have x10 := (X.out.1 10 _ rfl).1
    go_wp2_with fail
    refine (KM.out _).mono ?_
    rintro e1 w1 ⟨rfl, q1⟩
    go_wp2
    go_ret2
    exact ⟨by rw [HR.out]; rfl, X.out.2.trans q1⟩
  | true =>
    have hr := HR.out
    rw [if_pos hm] at hr
    have HR2 := Lib.hid hr
    have M := Lib.hid (HMay.out hm)
    rw [hm] at KM
    clear HMay hm hr HR
    have B1 := small_iff.1 M.out.e
    have B2 := small_iff.1 M.out.s
    have B3 := small_iff.1 M.out.n
    have B4 := small_iff.1 M.out.m
    have b5 := M.out.k1
    have b6 := M.out.k2
    have b7 := M.out.t
    simp only at B1 B2 B3 B4 b5 b6 b7
    have K1 := Lib.hid (fun W => wnum_any k W (by omega) (by omega))
    have K2 := Lib.hid (fun W => wnum_any e W B1.1 B1.2)
    have K3 := Lib.hid (fun W => wnum_any s W B2.1 B2.2)
    have K4 := Lib.hid (fun W => wnum_any n W B3.1 B3.2)
    have K5 := Lib.hid (fun W => wtext_any t W (by omega))
    have K11 := Lib.hid (fun W => wnum_any m W B4.1 B4.2)
    have l1 : (ba (num k)).size ≤ 21 := by rw [ba_size]; exact num_len (small_iff.2 (by omega))
    have l2 : (ba (num e)).size ≤ 21 := by rw [ba_size]; exact num_len M.out.e
    have l3 : (ba (num s)).size ≤ 21 := by rw [ba_size]; exact num_len M.out.s
    have l4 : (ba (num n)).size ≤ 21 := by rw [ba_size]; exact num_len M.out.n
    have l5 : (ba (ptx t)).size ≤ 19 := by rw [ba_size]; have := ptx_len (s := t) (by omega); omega
    have l11 : (ba (num m)).size ≤ 21 := by rw [ba_size]; exact num_len M.out.m
    have HHd : Hid (ba (num k) ++ ba (num e) ++ ba (num s) ++ ba (num n) ++ ba (ptx t) = ba (headQ ⟨k, e, s, n, t, ⟨ok, ky, vl, lo, hi, m⟩⟩ [])) := Lib.hid (by unfold headQ; simp only [ba_app, List.append_assoc, List.append_nil])
    have c1 : ¬ 9223372036854775807 < (ba (num k)).size + (ba (num e)).size := by omega
    have c2 : ¬ 9223372036854775807 < (ba (num k)).size + (ba (num e)).size + (ba (num s)).size := by omega
    have c3 : ¬ 9223372036854775807 < (ba (num k)).size + (ba (num e)).size + (ba (num s)).size + (ba (num n)).size := by omega
    have c4 : ¬ 9223372036854775807 < (ba (num k)).size + (ba (num e)).size + (ba (num s)).size + (ba (num n)).size + (ba (ptx t)).size := by omega
    have HSZ : Hid ((ba (num k) ++ ba (num e) ++ ba (num s) ++ ba (num n) ++ ba (ptx t)).size ≤ 200) := Lib.hid (by simp only [ByteArray.size_append]; omega)
    generalize ba (num k) = S1 at K1 l1 HHd c1 c2 c3 c4 HSZ
    generalize ba (num e) = S2 at K2 l2 HHd c1 c2 c3 c4 HSZ
    generalize ba (num s) = S3 at K3 l3 HHd c1 c2 c3 c4 HSZ
    generalize ba (num n) = S4 at K4 l4 HHd c1 c2 c3 c4 HSZ
    generalize ba (ptx t) = S5 at K5 l5 HHd c1 c2 c3 c4 HSZ
    go_enter Tryd.func10, Tryd.ntmps10
    go_upto_region 1 with (fail)
    change Hid (Bx (w.alloc (.cells #[.int .i64 k, .int .i64 e, .int .i64 s, .int .i64 n, .string t, .int .i64 ok, .string ky, .string vl, .string lo, .string hi, .int .i64 m] 25)) _ _ ∧ Q w (w.alloc (.cells #[.int .i64 k, .int .i64 e, .int .i64 s, .int .i64 n, .string t, .int .i64 ok, .string ky, .string vl, .string lo, .string hi, .int .i64 m] 25))) at X
    generalize w.alloc (.cells #[.int .i64 k, .int .i64 e, .int .i64 s, .int .i64 n, .string t, .int .i64 ok, .string ky, .string vl, .string lo, .string hi, .int .i64 m] 25) = W0 at X ⊢
    have x0 := (X.out.1 0 _ rfl).1
    have x1 := (X.out.1 1 _ rfl).1
    have x2 := (X.out.1 2 _ rfl).1
    have x3 := (X.out.1 3 _ rfl).1
    have x4 := (X.out.1 4 _ rfl).1
    have x5 := (X.out.1 5 _ rfl).1
    have x6 := (X.out.1 6 _ rfl).1
    have x7 := (X.out.1 7 _ rfl).1
    have x8 := (X.out.1 8 _ rfl).1
    have x9 := (X.out.1 9 _ rfl).1
    have x10 := (X.out.1 10 _ rfl).1
    go_wp2_with fail
    refine (KM.out _).mono ?_
    rintro e1 w1 ⟨rfl, q1⟩
    have Y := Lib.hid (And.intro (X.out.1.q q1) (X.out.2.trans q1))
    clear q1 KM
    clear x0 x1 x2 x3 x4 x5 x6 x7 x8 x9 x10
    have x0 := (Y.out.1 0 _ rfl).1
    have x1 := (Y.out.1 1 _ rfl).1
    have x2 := (Y.out.1 2 _ rfl).1
    have x3 := (Y.out.1 3 _ rfl).1
    have x4 := (Y.out.1 4 _ rfl).1
    have x5 := (Y.out.1 5 _ rfl).1
    have x6 := (Y.out.1 6 _ rfl).1
    have x7 := (Y.out.1 7 _ rfl).1
    have x8 := (Y.out.1 8 _ rfl).1
    have x9 := (Y.out.1 9 _ rfl).1
    have x10 := (Y.out.1 10 _ rfl).1
    go_upto_region 4 with (fail)
    go_cut [5] (fun s5 wx => s5 = .string (S1 ++ S2 ++ S3 ++ S4 ++ S5) ∧ Q w1 wx)
    case first =>
      refine wp_region_held_drew (S := Q w1) (by kernel_rfl) ?szz0 (fun hHeld => ?rzz0)
      case szz0 =>
        exact (Q.refl w1).drew
      case' rzz0 => skip
      refine wpAnyH_take (i := 0) (oi := ?ozz1) (v := ?vzz1) ?hzz1 ?azz1 ?bzz1 ?czz1 ?qzz1 ?yzz1 ?szz1 ?rzz1
      case hzz1 => simp only [List.getElem?_toArray, List.getElem?_cons_zero]; rfl
      case azz1 => kernel_rfl
      case bzz1 => kernel_rfl
      case czz1 => kernel_rfl
      case yzz1 =>
        refine Or.inl ⟨by rfl, ?_⟩
        intro w hSw
        skip
        go_simp
        try with_reducible rfl
      case qzz1 => exact fun _ _ _ h => h
      case szz1 => first | assumption | trivial
      case' rzz1 => simp only [Act.put, List.setIfInBounds_toArray, List.set_cons_zero, List.set_cons_succ]
      refine wpAnyH_take (i := 1) (oi := ?ozz2) (v := ?vzz2) ?hzz2 ?azz2 ?bzz2 ?czz2 ?qzz2 ?yzz2 ?szz2 ?rzz2
      case hzz2 => simp only [List.getElem?_toArray, List.getElem?_cons_zero, List.getElem?_cons_succ]; rfl
      case azz2 => kernel_rfl
      case bzz2 => kernel_rfl
      case czz2 => kernel_rfl
      case yzz2 =>
        refine Or.inl ⟨by rfl, ?_⟩
        intro w hSw
        have a0 := box_ hSw x0; clear hSw
        go_simp
        try with_reducible rfl
      case qzz2 => exact fun _ _ _ h => h
      case szz2 => first | assumption | trivial
      case' rzz2 => simp only [Act.put, List.setIfInBounds_toArray, List.set_cons_zero, List.set_cons_succ]
      refine wpAnyH_take (i := 3) (oi := ?ozz3) (v := ?vzz3) ?hzz3 ?azz3 ?bzz3 ?czz3 ?qzz3 ?yzz3 ?szz3 ?rzz3
      case hzz3 => simp only [List.getElem?_toArray, List.getElem?_cons_zero, List.getElem?_cons_succ]; rfl
      case azz3 => kernel_rfl
      case bzz3 => kernel_rfl
      case czz3 => kernel_rfl
      case yzz3 =>
        refine Or.inl ⟨by rfl, ?_⟩
        intro w hSw
        skip
        go_simp
        try with_reducible rfl
      case qzz3 => exact fun _ _ _ h => h
      case szz3 => first | assumption | trivial
      case' rzz3 => simp only [Act.put, List.setIfInBounds_toArray, List.set_cons_zero, List.set_cons_succ]
      refine wpAnyH_take (i := 4) (oi := ?ozz4) (v := ?vzz4) ?hzz4 ?azz4 ?bzz4 ?czz4 ?qzz4 ?yzz4 ?szz4 ?rzz4
      case hzz4 => simp only [List.getElem?_toArray, List.getElem?_cons_zero, List.getElem?_cons_succ]; rfl
      case azz4 => kernel_rfl
      case bzz4 => kernel_rfl
      case czz4 => kernel_rfl
      case yzz4 =>
        refine Or.inl ⟨by rfl, ?_⟩
        intro w hSw
        have a0 := box_ hSw x1; clear hSw
        go_simp
        try with_reducible rfl
      case qzz4 => exact fun _ _ _ h => h
      case szz4 => first | assumption | trivial
      case' rzz4 => simp only [Act.put, List.setIfInBounds_toArray, List.set_cons_zero, List.set_cons_succ]
      refine wpAnyH_take (i := 7) (oi := ?ozz5) (v := ?vzz5) ?hzz5 ?azz5 ?bzz5 ?czz5 ?qzz5 ?yzz5 ?szz5 ?rzz5
      case hzz5 => simp only [List.getElem?_toArray, List.getElem?_cons_zero, List.getElem?_cons_succ]; rfl
      case azz5 => kernel_rfl
      case bzz5 => kernel_rfl
      case czz5 => kernel_rfl
      case yzz5 =>
        refine Or.inl ⟨by rfl, ?_⟩
        intro w hSw
        skip
        go_simp
        try with_reducible rfl
      case qzz5 => exact fun _ _ _ h => h
      case szz5 => first | assumption | trivial
      case' rzz5 => simp only [Act.put, List.setIfInBounds_toArray, List.set_cons_zero, List.set_cons_succ]
      refine wpAnyH_take (i := 8) (oi := ?ozz6) (v := ?vzz6) ?hzz6 ?azz6 ?bzz6 ?czz6 ?qzz6 ?yzz6 ?szz6 ?rzz6
      case hzz6 => simp only [List.getElem?_toArray, List.getElem?_cons_zero, List.getElem?_cons_succ]; rfl
      case azz6 => kernel_rfl
      case bzz6 => kernel_rfl
      case czz6 => kernel_rfl
      case yzz6 =>
        refine Or.inl ⟨by rfl, ?_⟩
        intro w hSw
        have a0 := box_ hSw x2; clear hSw
        go_simp
        try with_reducible rfl
      case qzz6 => exact fun _ _ _ h => h
      case szz6 => first | assumption | trivial
      case' rzz6 => simp only [Act.put, List.setIfInBounds_toArray, List.set_cons_zero, List.set_cons_succ]
      refine wpAnyH_take (i := 11) (oi := ?ozz7) (v := ?vzz7) ?hzz7 ?azz7 ?bzz7 ?czz7 ?qzz7 ?yzz7 ?szz7 ?rzz7
      case hzz7 => simp only [List.getElem?_toArray, List.getElem?_cons_zero, List.getElem?_cons_succ]; rfl
      case azz7 => kernel_rfl
      case bzz7 => kernel_rfl
      case czz7 => kernel_rfl
      case yzz7 =>
        refine Or.inl ⟨by rfl, ?_⟩
        intro w hSw
        skip
        go_simp
        try with_reducible rfl
      case qzz7 => exact fun _ _ _ h => h
      case szz7 => first | assumption | trivial
      case' rzz7 => simp only [Act.put, List.setIfInBounds_toArray, List.set_cons_zero, List.set_cons_succ]
      refine wpAnyH_take (i := 12) (oi := ?ozz8) (v := ?vzz8) ?hzz8 ?azz8 ?bzz8 ?czz8 ?qzz8 ?yzz8 ?szz8 ?rzz8
      case hzz8 => simp only [List.getElem?_toArray, List.getElem?_cons_zero, List.getElem?_cons_succ]; rfl
      case azz8 => kernel_rfl
      case bzz8 => kernel_rfl
      case czz8 => kernel_rfl
      case yzz8 =>
        refine Or.inl ⟨by rfl, ?_⟩
        intro w hSw
        have a0 := box_ hSw x3; clear hSw
        go_simp
        try with_reducible rfl
      case qzz8 => exact fun _ _ _ h => h
      case szz8 => first | assumption | trivial
      case' rzz8 => simp only [Act.put, List.setIfInBounds_toArray, List.set_cons_zero, List.set_cons_succ]
      refine wpAnyH_take (i := 15) (oi := ?ozz9) (v := ?vzz9) ?hzz9 ?azz9 ?bzz9 ?czz9 ?qzz9 ?yzz9 ?szz9 ?rzz9
      case hzz9 => simp only [List.getElem?_toArray, List.getElem?_cons_zero, List.getElem?_cons_succ]; rfl
      case azz9 => kernel_rfl
      case bzz9 => kernel_rfl
      case czz9 => kernel_rfl
      case yzz9 =>
        refine Or.inl ⟨by rfl, ?_⟩
        intro w hSw
        skip
        go_simp
        try with_reducible rfl
      case qzz9 => exact fun _ _ _ h => h
      case szz9 => first | assumption | trivial
      case' rzz9 => simp only [Act.put, List.setIfInBounds_toArray, List.set_cons_zero, List.set_cons_succ]
      refine wpAnyH_take (i := 16) (oi := ?ozz10) (v := ?vzz10) ?hzz10 ?azz10 ?bzz10 ?czz10 ?qzz10 ?yzz10 ?szz10 ?rzz10
      case hzz10 => simp only [List.getElem?_toArray, List.getElem?_cons_zero, List.getElem?_cons_succ]; rfl
      case azz10 => kernel_rfl
      case bzz10 => kernel_rfl
      case czz10 => kernel_rfl
      case yzz10 =>
        refine Or.inl ⟨by rfl, ?_⟩
        intro w hSw
        have a0 := box_ hSw x4; clear hSw
        go_simp
        try with_reducible rfl
      case qzz10 => exact fun _ _ _ h => h
      case szz10 => first | assumption | trivial
      case' rzz10 => simp only [Act.put, List.setIfInBounds_toArray, List.set_cons_zero, List.set_cons_succ]
      refine wpAnyH_ready (rs := [2]) (by kernel_rfl) (by simp) ?_
      refine AllReadyH.cons (o := ?ozz20) ?hzz20 (fun K hK => ?kzz20) ?mzz20
      case hzz20 => simp only [List.getElem?_toArray, List.getElem?_cons_zero, List.getElem?_cons_succ]; rfl
      case kzz20 =>
        go_simp
        refine (K1.out _).mono ?_
        rintro e1 v1 ⟨rfl, q11⟩
        go_wp2_with fail
        refine hK.out _ _ ?Szz20 (fun hHeld => ?Rzz20)
        case Szz20 =>
          exact hHeld.trans q11
        case Rzz20 =>
          clear hK K
          try simp only [Act.put, List.setIfInBounds_toArray, List.set_cons_zero, List.set_cons_succ]
          refine wpAnyH_ready (rs := [5]) (by kernel_rfl) (by simp) ?_
          refine AllReadyH.cons (o := ?ozz19) ?hzz19 (fun K hK => ?kzz19) ?mzz19
          case hzz19 => simp only [List.getElem?_toArray, List.getElem?_cons_zero, List.getElem?_cons_succ]; rfl
          case kzz19 =>
            go_simp
            refine (K2.out _).mono ?_
            rintro e2 v2 ⟨rfl, q12⟩
            go_wp2_with fail
            refine hK.out _ _ ?Szz19 (fun hHeld => ?Rzz19)
            case Szz19 =>
              exact hHeld.trans q12
            case Rzz19 =>
              clear hK K
              try simp only [Act.put, List.setIfInBounds_toArray, List.set_cons_zero, List.set_cons_succ]
              refine wpAnyH_take (i := 6) (oi := ?ozz11) (v := ?vzz11) ?hzz11 ?azz11 ?bzz11 ?czz11 ?qzz11 ?yzz11 ?szz11 ?rzz11
              case hzz11 => simp only [List.getElem?_toArray, List.getElem?_cons_zero, List.getElem?_cons_succ]; rfl
              case azz11 => kernel_rfl
              case bzz11 => kernel_rfl
              case czz11 => kernel_rfl
              case yzz11 =>
                refine Or.inl ⟨by rfl, ?_⟩
                intro w hSw
                skip
                go_simp
                try with_reducible rfl
              case qzz11 => exact fun _ _ _ h => h
              case szz11 => first | assumption | trivial
              case' rzz11 => simp only [Act.put, List.setIfInBounds_toArray, List.set_cons_zero, List.set_cons_succ]
              refine wpAnyH_ready (rs := [9]) (by kernel_rfl) (by simp) ?_
              refine AllReadyH.cons (o := ?ozz18) ?hzz18 (fun K hK => ?kzz18) ?mzz18
              case hzz18 => simp only [List.getElem?_toArray, List.getElem?_cons_zero, List.getElem?_cons_succ]; rfl
              case kzz18 =>
                go_simp
                refine (K3.out _).mono ?_
                rintro e3 v3 ⟨rfl, q13⟩
                go_wp2_with fail
                refine hK.out _ _ ?Szz18 (fun hHeld => ?Rzz18)
                case Szz18 =>
                  exact hHeld.trans q13
                case Rzz18 =>
                  clear hK K
                  try simp only [Act.put, List.setIfInBounds_toArray, List.set_cons_zero, List.set_cons_succ]
                  refine wpAnyH_take (i := 10) (oi := ?ozz12) (v := ?vzz12) ?hzz12 ?azz12 ?bzz12 ?czz12 ?qzz12 ?yzz12 ?szz12 ?rzz12
                  case hzz12 => simp only [List.getElem?_toArray, List.getElem?_cons_zero, List.getElem?_cons_succ]; rfl
                  case azz12 => kernel_rfl
                  case bzz12 => kernel_rfl
                  case czz12 => kernel_rfl
                  case yzz12 =>
                    refine Or.inl ⟨by rfl, ?_⟩
                    intro w hSw
                    skip
                    go_simp
                    try with_reducible rfl
                  case qzz12 => exact fun _ _ _ h => h
                  case szz12 => first | assumption | trivial
                  case' rzz12 => simp only [Act.put, List.setIfInBounds_toArray, List.set_cons_zero, List.set_cons_succ]
                  refine wpAnyH_ready (rs := [13]) (by kernel_rfl) (by simp) ?_
                  refine AllReadyH.cons (o := ?ozz17) ?hzz17 (fun K hK => ?kzz17) ?mzz17
                  case hzz17 => simp only [List.getElem?_toArray, List.getElem?_cons_zero, List.getElem?_cons_succ]; rfl
                  case kzz17 =>
                    go_simp
                    refine (K4.out _).mono ?_
                    rintro e4 v4 ⟨rfl, q14⟩
                    go_wp2_with fail
                    refine hK.out _ _ ?Szz17 (fun hHeld => ?Rzz17)
                    case Szz17 =>
                      exact hHeld.trans q14
                    case Rzz17 =>
                      clear hK K
                      try simp only [Act.put, List.setIfInBounds_toArray, List.set_cons_zero, List.set_cons_succ]
                      refine wpAnyH_take (i := 14) (oi := ?ozz13) (v := ?vzz13) ?hzz13 ?azz13 ?bzz13 ?czz13 ?qzz13 ?yzz13 ?szz13 ?rzz13
                      case hzz13 => simp only [List.getElem?_toArray, List.getElem?_cons_zero, List.getElem?_cons_succ]; rfl
                      case azz13 => kernel_rfl
                      case bzz13 => kernel_rfl
                      case czz13 => kernel_rfl
                      case yzz13 =>
                        refine Or.inl ⟨by rfl, ?_⟩
                        intro w hSw
                        skip
                        go_simp
                        try with_reducible rfl
                      case qzz13 => exact fun _ _ _ h => h
                      case szz13 => first | assumption | trivial
                      case' rzz13 => simp only [Act.put, List.setIfInBounds_toArray, List.set_cons_zero, List.set_cons_succ]
                      refine wpAnyH_ready (rs := [17]) (by kernel_rfl) (by simp) ?_
                      refine AllReadyH.cons (o := ?ozz16) ?hzz16 (fun K hK => ?kzz16) ?mzz16
                      case hzz16 => simp only [List.getElem?_toArray, List.getElem?_cons_zero, List.getElem?_cons_succ]; rfl
                      case kzz16 =>
                        go_simp
                        refine (K5.out _).mono ?_
                        rintro e5 v5 ⟨rfl, q15⟩
                        go_wp2_with fail
                        refine hK.out _ _ ?Szz16 (fun hHeld => ?Rzz16)
                        case Szz16 =>
                          exact hHeld.trans q15
                        case Rzz16 =>
                          clear hK K
                          try simp only [Act.put, List.setIfInBounds_toArray, List.set_cons_zero, List.set_cons_succ]
                          refine wpAnyH_take (i := 18) (oi := ?ozz14) (v := ?vzz14) ?hzz14 ?azz14 ?bzz14 ?czz14 ?qzz14 ?yzz14 ?szz14 ?rzz14
                          case hzz14 => simp only [List.getElem?_toArray, List.getElem?_cons_zero, List.getElem?_cons_succ]; rfl
                          case azz14 => kernel_rfl
                          case bzz14 => kernel_rfl
                          case czz14 => kernel_rfl
                          case yzz14 =>
                            refine Or.inl ⟨by rfl, ?_⟩
                            intro w hSw
                            skip
                            go_simp
                            try with_reducible rfl
                          case qzz14 => exact fun _ _ _ h => h
                          case szz14 => first | assumption | trivial
                          case' rzz14 => simp only [Act.put, List.setIfInBounds_toArray, List.set_cons_zero, List.set_cons_succ]
                          refine wpAnyH_take (i := 19) (oi := ?ozz15) (v := ?vzz15) ?hzz15 ?azz15 ?bzz15 ?czz15 ?qzz15 ?yzz15 ?szz15 ?rzz15
                          case hzz15 => simp only [List.getElem?_toArray, List.getElem?_cons_zero, List.getElem?_cons_succ]; rfl
                          case azz15 => kernel_rfl
                          case bzz15 => kernel_rfl
                          case czz15 => kernel_rfl
                          case yzz15 =>
                            refine Or.inl ⟨by rfl, ?_⟩
                            intro w hSw
                            skip
                            go_simp
                            try with_reducible rfl
                          case qzz15 => exact fun _ _ _ h => h
                          case szz15 => first | assumption | trivial
                          case' rzz15 => simp only [Act.put, List.setIfInBounds_toArray, List.set_cons_zero, List.set_cons_succ]
                          refine wpAnyH_done (by kernel_rfl) ?_ _
                          go_wp2_with fail
                          go_meet
                          exact ⟨rfl, hHeld⟩
                      case' mzz16 => skip
                      exact AllReadyH.nil
                  case' mzz17 => skip
                  exact AllReadyH.nil
              case' mzz18 => skip
              exact AllReadyH.nil
          case' mzz19 => skip
          exact AllReadyH.nil
      case' mzz20 => skip
      exact AllReadyH.nil
    case rest =>
      obtain ⟨rfl, q2⟩ := hcut
      generalize S1 ++ S2 ++ S3 ++ S4 ++ S5 = HD at HHd HSZ ⊢
      have Z := Lib.hid (And.intro (Y.out.1.q q2) (Y.out.2.trans q2))
      clear q2 Y x0 x1 x2 x3 x4 x5 x6 x7 x8 x9 x10 c1 c2 c3 c4 l1 l2 l3 l4 l5 K1 K2 K3 K4 K5
      have x0 := (Z.out.1 0 _ rfl).1
      have x1 := (Z.out.1 1 _ rfl).1
      have x2 := (Z.out.1 2 _ rfl).1
      have x3 := (Z.out.1 3 _ rfl).1
      have x4 := (Z.out.1 4 _ rfl).1
      have x5 := (Z.out.1 5 _ rfl).1
      have x6 := (Z.out.1 6 _ rfl).1
      have x7 := (Z.out.1 7 _ rfl).1
      have x8 := (Z.out.1 8 _ rfl).1
      have x9 := (Z.out.1 9 _ rfl).1
      have x10 := (Z.out.1 10 _ rfl).1
      by_cases h5 : k = 5
      · subst h5
        obtain ⟨g1, g2, g3, g4, g5, g6⟩ := mayOp_iff.1 (M.out.o5 rfl)
        simp only at g1 g2 g3 g4 g5 g6
        have K6 := Lib.hid (fun W => wnum_any ok W (by omega) (by omega))
        have K7 := Lib.hid (fun W => wtext_any ky W (by omega))
        have K8 := Lib.hid (fun W => wtext_any vl W (by omega))
        have K9 := Lib.hid (fun W => wtext_any lo W (by omega))
        have K10 := Lib.hid (fun W => wtext_any hi W (by omega))
        have l6 : (ba (num ok)).size ≤ 21 := by rw [ba_size]; exact num_len (small_iff.2 (by omega))
        have l7 : (ba (ptx ky)).size ≤ 35 := by rw [ba_size]; have := ptx_len (s := ky) (by omega); omega
        have l8 : (ba (ptx vl)).size ≤ 67 := by rw [ba_size]; have := ptx_len (s := vl) (by omega); omega
        have l9 : (ba (ptx lo)).size ≤ 35 := by rw [ba_size]; have := ptx_len (s := lo) (by omega); omega
        have l10 : (ba (ptx hi)).size ≤ 35 := by rw [ba_size]; have := ptx_len (s := hi) (by omega); omega
        have HE : Hid (HD ++ ba (num ok) ++ ba (ptx ky) ++ ba (ptx vl) ++ ba (ptx lo) ++ ba (ptx hi) ++ ba (num m) = ba (req ⟨5, e, s, n, t, ⟨ok, ky, vl, lo, hi, m⟩⟩)) := Lib.hid (by
          rw [HHd.out]; unfold req reqR
          rw [if_pos rfl]
          unfold headQ opB
          simp only [ba_app, List.append_assoc, List.append_nil])
        have hz := HSZ.out
        have c1 : ¬ 9223372036854775807 < HD.size + (ba (num ok)).size := by omega
        have c2 : ¬ 9223372036854775807 < HD.size + (ba (num ok)).size + (ba (ptx ky)).size := by omega
        have c3 : ¬ 9223372036854775807 < HD.size + (ba (num ok)).size + (ba (ptx ky)).size + (ba (ptx vl)).size := by omega
        have c4 : ¬ 9223372036854775807 < HD.size + (ba (num ok)).size + (ba (ptx ky)).size + (ba (ptx vl)).size + (ba (ptx lo)).size := by omega
        have c5 : ¬ 9223372036854775807 < HD.size + (ba (num ok)).size + (ba (ptx ky)).size + (ba (ptx vl)).size + (ba (ptx lo)).size + (ba (ptx hi)).size := by omega
        have c6 : ¬ 9223372036854775807 < HD.size + (ba (num ok)).size + (ba (ptx ky)).size + (ba (ptx vl)).size + (ba (ptx lo)).size + (ba (ptx hi)).size + (ba (num m)).size := by omega
        generalize ba (num ok) = S6 at K6 l6 HE c1 c2 c3 c4 c5 c6
        generalize ba (ptx ky) = S7 at K7 l7 HE c1 c2 c3 c4 c5 c6
        generalize ba (ptx vl) = S8 at K8 l8 HE c1 c2 c3 c4 c5 c6
        generalize ba (ptx lo) = S9 at K9 l9 HE c1 c2 c3 c4 c5 c6
        generalize ba (ptx hi) = S10 at K10 l10 HE c1 c2 c3 c4 c5 c6
        generalize ba (num m) = S11 at K11 l11 HE c1 c2 c3 c4 c5 c6
        go_upto_region 6 with (fail)
        refine wp_region_held_drew (S := Q wc) (by kernel_rfl) ?szz21 (fun hHeld => ?rzz21)
        case szz21 =>
          exact (Q.refl wc).drew
        case' rzz21 => skip
        refine wpAnyH_take (i := 0) (oi := ?ozz22) (v := ?vzz22) ?hzz22 ?azz22 ?bzz22 ?czz22 ?qzz22 ?yzz22 ?szz22 ?rzz22
        case hzz22 => simp only [List.getElem?_toArray, List.getElem?_cons_zero]; rfl
        case azz22 => kernel_rfl
        case bzz22 => kernel_rfl
        case czz22 => kernel_rfl
        case yzz22 =>
          refine Or.inl ⟨by rfl, ?_⟩
          intro w hSw
          skip
          go_simp
          try with_reducible rfl
        case qzz22 => exact fun _ _ _ h => h
        case szz22 => first | assumption | trivial
        case' rzz22 => simp only [Act.put, List.setIfInBounds_toArray, List.set_cons_zero, List.set_cons_succ]
        refine wpAnyH_take (i := 1) (oi := ?ozz23) (v := ?vzz23) ?hzz23 ?azz23 ?bzz23 ?czz23 ?qzz23 ?yzz23 ?szz23 ?rzz23
        case hzz23 => simp only [List.getElem?_toArray, List.getElem?_cons_zero, List.getElem?_cons_succ]; rfl
        case azz23 => kernel_rfl
        case bzz23 => kernel_rfl
        case czz23 => kernel_rfl
        case yzz23 =>
          refine Or.inl ⟨by rfl, ?_⟩
          intro w hSw
          skip
          go_simp
          try with_reducible rfl
        case qzz23 => exact fun _ _ _ h => h
        case szz23 => first | assumption | trivial
        case' rzz23 => simp only [Act.put, List.setIfInBounds_toArray, List.set_cons_zero, List.set_cons_succ]
        refine wpAnyH_take (i := 2) (oi := ?ozz24) (v := ?vzz24) ?hzz24 ?azz24 ?bzz24 ?czz24 ?qzz24 ?yzz24 ?szz24 ?rzz24
        case hzz24 => simp only [List.getElem?_toArray, List.getElem?_cons_zero, List.getElem?_cons_succ]; rfl
        case azz24 => kernel_rfl
        case bzz24 => kernel_rfl
        case czz24 => kernel_rfl
        case yzz24 =>
          refine Or.inl ⟨by rfl, ?_⟩
          intro w hSw
          skip
          go_simp
          try with_reducible rfl
        case qzz24 => exact fun _ _ _ h => h
        case szz24 => first | assumption | trivial
        case' rzz24 => simp only [Act.put, List.setIfInBounds_toArray, List.set_cons_zero, List.set_cons_succ]
        refine wpAnyH_take (i := 3) (oi := ?ozz25) (v := ?vzz25) ?hzz25 ?azz25 ?bzz25 ?czz25 ?qzz25 ?yzz25 ?szz25 ?rzz25
        case hzz25 => simp only [List.getElem?_toArray, List.getElem?_cons_zero, List.getElem?_cons_succ]; rfl
        case azz25 => kernel_rfl
        case bzz25 => kernel_rfl
        case czz25 => kernel_rfl
        case yzz25 =>
          refine Or.inl ⟨by rfl, ?_⟩
          intro w hSw
          have a0 := box_ hSw x5; clear hSw
          go_simp
          try with_reducible rfl
        case qzz25 => exact fun _ _ _ h => h
        case szz25 => first | assumption | trivial
        case' rzz25 => simp only [Act.put, List.setIfInBounds_toArray, List.set_cons_zero, List.set_cons_succ]
        refine wpAnyH_take (i := 6) (oi := ?ozz26) (v := ?vzz26) ?hzz26 ?azz26 ?bzz26 ?czz26 ?qzz26 ?yzz26 ?szz26 ?rzz26
        case hzz26 => simp only [List.getElem?_toArray, List.getElem?_cons_zero, List.getElem?_cons_succ]; rfl
        case azz26 => kernel_rfl
        case bzz26 => kernel_rfl
        case czz26 => kernel_rfl
        case yzz26 =>
          refine Or.inl ⟨by rfl, ?_⟩
          intro w hSw
          skip
          go_simp
          try with_reducible rfl
        case qzz26 => exact fun _ _ _ h => h
        case szz26 => first | assumption | trivial
        case' rzz26 => simp only [Act.put, List.setIfInBounds_toArray, List.set_cons_zero, List.set_cons_succ]
        refine wpAnyH_take (i := 7) (oi := ?ozz27) (v := ?vzz27) ?hzz27 ?azz27 ?bzz27 ?czz27 ?qzz27 ?yzz27 ?szz27 ?rzz27
        case hzz27 => simp only [List.getElem?_toArray, List.getElem?_cons_zero, List.getElem?_cons_succ]; rfl
        case azz27 => kernel_rfl
        case bzz27 => kernel_rfl
        case czz27 => kernel_rfl
        case yzz27 =>
          refine Or.inl ⟨by rfl, ?_⟩
          intro w hSw
          skip
          go_simp
          try with_reducible rfl
        case qzz27 => exact fun _ _ _ h => h
        case szz27 => first | assumption | trivial
        case' rzz27 => simp only [Act.put, List.setIfInBounds_toArray, List.set_cons_zero, List.set_cons_succ]
        refine wpAnyH_take (i := 8) (oi := ?ozz28) (v := ?vzz28) ?hzz28 ?azz28 ?bzz28 ?czz28 ?qzz28 ?yzz28 ?szz28 ?rzz28
        case hzz28 => simp only [List.getElem?_toArray, List.getElem?_cons_zero, List.getElem?_cons_succ]; rfl
        case azz28 => kernel_rfl
        case bzz28 => kernel_rfl
        case czz28 => kernel_rfl
        case yzz28 =>
          refine Or.inl ⟨by rfl, ?_⟩
          intro w hSw
          have a0 := box_ hSw x6; clear hSw
          go_simp
          try with_reducible rfl
        case qzz28 => exact fun _ _ _ h => h
        case szz28 => first | assumption | trivial
        case' rzz28 => simp only [Act.put, List.setIfInBounds_toArray, List.set_cons_zero, List.set_cons_succ]
        refine wpAnyH_take (i := 11) (oi := ?ozz29) (v := ?vzz29) ?hzz29 ?azz29 ?bzz29 ?czz29 ?qzz29 ?yzz29 ?szz29 ?rzz29
        case hzz29 => simp only [List.getElem?_toArray, List.getElem?_cons_zero, List.getElem?_cons_succ]; rfl
        case azz29 => kernel_rfl
        case bzz29 => kernel_rfl
        case czz29 => kernel_rfl
        case yzz29 =>
          refine Or.inl ⟨by rfl, ?_⟩
          intro w hSw
          skip
          go_simp
          try with_reducible rfl
        case qzz29 => exact fun _ _ _ h => h
        case szz29 => first | assumption | trivial
        case' rzz29 => simp only [Act.put, List.setIfInBounds_toArray, List.set_cons_zero, List.set_cons_succ]
        refine wpAnyH_take (i := 12) (oi := ?ozz30) (v := ?vzz30) ?hzz30 ?azz30 ?bzz30 ?czz30 ?qzz30 ?yzz30 ?szz30 ?rzz30
        case hzz30 => simp only [List.getElem?_toArray, List.getElem?_cons_zero, List.getElem?_cons_succ]; rfl
        case azz30 => kernel_rfl
        case bzz30 => kernel_rfl
        case czz30 => kernel_rfl
        case yzz30 =>
          refine Or.inl ⟨by rfl, ?_⟩
          intro w hSw
          skip
          go_simp
          try with_reducible rfl
        case qzz30 => exact fun _ _ _ h => h
        case szz30 => first | assumption | trivial
        case' rzz30 => simp only [Act.put, List.setIfInBounds_toArray, List.set_cons_zero, List.set_cons_succ]
        refine wpAnyH_take (i := 13) (oi := ?ozz31) (v := ?vzz31) ?hzz31 ?azz31 ?bzz31 ?czz31 ?qzz31 ?yzz31 ?szz31 ?rzz31
        case hzz31 => simp only [List.getElem?_toArray, List.getElem?_cons_zero, List.getElem?_cons_succ]; rfl
        case azz31 => kernel_rfl
        case bzz31 => kernel_rfl
        case czz31 => kernel_rfl
        case yzz31 =>
          refine Or.inl ⟨by rfl, ?_⟩
          intro w hSw
          have a0 := box_ hSw x7; clear hSw
          go_simp
          try with_reducible rfl
        case qzz31 => exact fun _ _ _ h => h
        case szz31 => first | assumption | trivial
        case' rzz31 => simp only [Act.put, List.setIfInBounds_toArray, List.set_cons_zero, List.set_cons_succ]
        refine wpAnyH_take (i := 16) (oi := ?ozz32) (v := ?vzz32) ?hzz32 ?azz32 ?bzz32 ?czz32 ?qzz32 ?yzz32 ?szz32 ?rzz32
        case hzz32 => simp only [List.getElem?_toArray, List.getElem?_cons_zero, List.getElem?_cons_succ]; rfl
        case azz32 => kernel_rfl
        case bzz32 => kernel_rfl
        case czz32 => kernel_rfl
        case yzz32 =>
          refine Or.inl ⟨by rfl, ?_⟩
          intro w hSw
          skip
          go_simp
          try with_reducible rfl
        case qzz32 => exact fun _ _ _ h => h
        case szz32 => first | assumption | trivial
        case' rzz32 => simp only [Act.put, List.setIfInBounds_toArray, List.set_cons_zero, List.set_cons_succ]
        refine wpAnyH_take (i := 17) (oi := ?ozz33) (v := ?vzz33) ?hzz33 ?azz33 ?bzz33 ?czz33 ?qzz33 ?yzz33 ?szz33 ?rzz33
        case hzz33 => simp only [List.getElem?_toArray, List.getElem?_cons_zero, List.getElem?_cons_succ]; rfl
        case azz33 => kernel_rfl
        case bzz33 => kernel_rfl
        case czz33 => kernel_rfl
        case yzz33 =>
          refine Or.inl ⟨by rfl, ?_⟩
          intro w hSw
          skip
          go_simp
          try with_reducible rfl
        case qzz33 => exact fun _ _ _ h => h
        case szz33 => first | assumption | trivial
        case' rzz33 => simp only [Act.put, List.setIfInBounds_toArray, List.set_cons_zero, List.set_cons_succ]
        refine wpAnyH_take (i := 18) (oi := ?ozz34) (v := ?vzz34) ?hzz34 ?azz34 ?bzz34 ?czz34 ?qzz34 ?yzz34 ?szz34 ?rzz34
        case hzz34 => simp only [List.getElem?_toArray, List.getElem?_cons_zero, List.getElem?_cons_succ]; rfl
        case azz34 => kernel_rfl
        case bzz34 => kernel_rfl
        case czz34 => kernel_rfl
        case yzz34 =>
          refine Or.inl ⟨by rfl, ?_⟩
          intro w hSw
          have a0 := box_ hSw x8; clear hSw
          go_simp
          try with_reducible rfl
        case qzz34 => exact fun _ _ _ h => h
        case szz34 => first | assumption | trivial
        case' rzz34 => simp only [Act.put, List.setIfInBounds_toArray, List.set_cons_zero, List.set_cons_succ]
        refine wpAnyH_take (i := 21) (oi := ?ozz35) (v := ?vzz35) ?hzz35 ?azz35 ?bzz35 ?czz35 ?qzz35 ?yzz35 ?szz35 ?rzz35
        case hzz35 => simp only [List.getElem?_toArray, List.getElem?_cons_zero, List.getElem?_cons_succ]; rfl
        case azz35 => kernel_rfl
        case bzz35 => kernel_rfl
        case czz35 => kernel_rfl
        case yzz35 =>
          refine Or.inl ⟨by rfl, ?_⟩
          intro w hSw
          skip
          go_simp
          try with_reducible rfl
        case qzz35 => exact fun _ _ _ h => h
        case szz35 => first | assumption | trivial
        case' rzz35 => simp only [Act.put, List.setIfInBounds_toArray, List.set_cons_zero, List.set_cons_succ]
        refine wpAnyH_take (i := 22) (oi := ?ozz36) (v := ?vzz36) ?hzz36 ?azz36 ?bzz36 ?czz36 ?qzz36 ?yzz36 ?szz36 ?rzz36
        case hzz36 => simp only [List.getElem?_toArray, List.getElem?_cons_zero, List.getElem?_cons_succ]; rfl
        case azz36 => kernel_rfl
        case bzz36 => kernel_rfl
        case czz36 => kernel_rfl
        case yzz36 =>
          refine Or.inl ⟨by rfl, ?_⟩
          intro w hSw
          skip
          go_simp
          try with_reducible rfl
        case qzz36 => exact fun _ _ _ h => h
        case szz36 => first | assumption | trivial
        case' rzz36 => simp only [Act.put, List.setIfInBounds_toArray, List.set_cons_zero, List.set_cons_succ]
        refine wpAnyH_take (i := 23) (oi := ?ozz37) (v := ?vzz37) ?hzz37 ?azz37 ?bzz37 ?czz37 ?qzz37 ?yzz37 ?szz37 ?rzz37
        case hzz37 => simp only [List.getElem?_toArray, List.getElem?_cons_zero, List.getElem?_cons_succ]; rfl
        case azz37 => kernel_rfl
        case bzz37 => kernel_rfl
        case czz37 => kernel_rfl
        case yzz37 =>
          refine Or.inl ⟨by rfl, ?_⟩
          intro w hSw
          have a0 := box_ hSw x9; clear hSw
          go_simp
          try with_reducible rfl
        case qzz37 => exact fun _ _ _ h => h
        case szz37 => first | assumption | trivial
        case' rzz37 => simp only [Act.put, List.setIfInBounds_toArray, List.set_cons_zero, List.set_cons_succ]
        refine wpAnyH_take (i := 26) (oi := ?ozz38) (v := ?vzz38) ?hzz38 ?azz38 ?bzz38 ?czz38 ?qzz38 ?yzz38 ?szz38 ?rzz38
        case hzz38 => simp only [List.getElem?_toArray, List.getElem?_cons_zero, List.getElem?_cons_succ]; rfl
        case azz38 => kernel_rfl
        case bzz38 => kernel_rfl
        case czz38 => kernel_rfl
        case yzz38 =>
          refine Or.inl ⟨by rfl, ?_⟩
          intro w hSw
          skip
          go_simp
          try with_reducible rfl
        case qzz38 => exact fun _ _ _ h => h
        case szz38 => first | assumption | trivial
        case' rzz38 => simp only [Act.put, List.setIfInBounds_toArray, List.set_cons_zero, List.set_cons_succ]
        refine wpAnyH_take (i := 27) (oi := ?ozz39) (v := ?vzz39) ?hzz39 ?azz39 ?bzz39 ?czz39 ?qzz39 ?yzz39 ?szz39 ?rzz39
        case hzz39 => simp only [List.getElem?_toArray, List.getElem?_cons_zero, List.getElem?_cons_succ]; rfl
        case azz39 => kernel_rfl
        case bzz39 => kernel_rfl
        case czz39 => kernel_rfl
        case yzz39 =>
          refine Or.inl ⟨by rfl, ?_⟩
          intro w hSw
          skip
          go_simp
          try with_reducible rfl
        case qzz39 => exact fun _ _ _ h => h
        case szz39 => first | assumption | trivial
        case' rzz39 => simp only [Act.put, List.setIfInBounds_toArray, List.set_cons_zero, List.set_cons_succ]
        refine wpAnyH_take (i := 28) (oi := ?ozz40) (v := ?vzz40) ?hzz40 ?azz40 ?bzz40 ?czz40 ?qzz40 ?yzz40 ?szz40 ?rzz40
        case hzz40 => simp only [List.getElem?_toArray, List.getElem?_cons_zero, List.getElem?_cons_succ]; rfl
        case azz40 => kernel_rfl
        case bzz40 => kernel_rfl
        case czz40 => kernel_rfl
        case yzz40 =>
          refine Or.inl ⟨by rfl, ?_⟩
          intro w hSw
          have a0 := box_ hSw x10; clear hSw
          go_simp
          try with_reducible rfl
        case qzz40 => exact fun _ _ _ h => h
        case szz40 => first | assumption | trivial
        case' rzz40 => simp only [Act.put, List.setIfInBounds_toArray, List.set_cons_zero, List.set_cons_succ]
        refine wpAnyH_ready (rs := [4]) (by kernel_rfl) (by simp) ?_
        refine AllReadyH.cons (o := ?ozz53) ?hzz53 (fun K hK => ?kzz53) ?mzz53
        case hzz53 => simp only [List.getElem?_toArray, List.getElem?_cons_zero, List.getElem?_cons_succ]; rfl
        case kzz53 =>
          go_simp
          refine (K6.out _).mono ?_
          rintro e6 v6 ⟨rfl, q16⟩
          go_wp2_with fail
          refine hK.out _ _ ?Szz53 (fun hHeld => ?Rzz53)
          case Szz53 =>
            exact hHeld.trans q16
          case Rzz53 =>
            clear hK K
            try simp only [Act.put, List.setIfInBounds_toArray, List.set_cons_zero, List.set_cons_succ]
            refine wpAnyH_take (i := 5) (oi := ?ozz41) (v := ?vzz41) ?hzz41 ?azz41 ?bzz41 ?czz41 ?qzz41 ?yzz41 ?szz41 ?rzz41
            case hzz41 => simp only [List.getElem?_toArray, List.getElem?_cons_zero, List.getElem?_cons_succ]; rfl
            case azz41 => kernel_rfl
            case bzz41 => kernel_rfl
            case czz41 => kernel_rfl
            case yzz41 =>
              refine Or.inl ⟨by rfl, ?_⟩
              intro w hSw
              skip
              go_simp
              try with_reducible rfl
            case qzz41 => exact fun _ _ _ h => h
            case szz41 => first | assumption | trivial
            case' rzz41 => simp only [Act.put, List.setIfInBounds_toArray, List.set_cons_zero, List.set_cons_succ]
            refine wpAnyH_ready (rs := [9]) (by kernel_rfl) (by simp) ?_
            refine AllReadyH.cons (o := ?ozz52) ?hzz52 (fun K hK => ?kzz52) ?mzz52
            case hzz52 => simp only [List.getElem?_toArray, List.getElem?_cons_zero, List.getElem?_cons_succ]; rfl
            case kzz52 =>
              go_simp
              refine (K7.out _).mono ?_
              rintro e7 v7 ⟨rfl, q17⟩
              go_wp2_with fail
              refine hK.out _ _ ?Szz52 (fun hHeld => ?Rzz52)
              case Szz52 =>
                exact hHeld.trans q17
              case Rzz52 =>
                clear hK K
                try simp only [Act.put, List.setIfInBounds_toArray, List.set_cons_zero, List.set_cons_succ]
                refine wpAnyH_take (i := 10) (oi := ?ozz42) (v := ?vzz42) ?hzz42 ?azz42 ?bzz42 ?czz42 ?qzz42 ?yzz42 ?szz42 ?rzz42
                case hzz42 => simp only [List.getElem?_toArray, List.getElem?_cons_zero, List.getElem?_cons_succ]; rfl
                case azz42 => kernel_rfl
                case bzz42 => kernel_rfl
                case czz42 => kernel_rfl
                case yzz42 =>
                  refine Or.inl ⟨by rfl, ?_⟩
                  intro w hSw
                  skip
                  go_simp
                  try with_reducible rfl
                case qzz42 => exact fun _ _ _ h => h
                case szz42 => first | assumption | trivial
                case' rzz42 => simp only [Act.put, List.setIfInBounds_toArray, List.set_cons_zero, List.set_cons_succ]
                refine wpAnyH_ready (rs := [14]) (by kernel_rfl) (by simp) ?_
                refine AllReadyH.cons (o := ?ozz51) ?hzz51 (fun K hK => ?kzz51) ?mzz51
                case hzz51 => simp only [List.getElem?_toArray, List.getElem?_cons_zero, List.getElem?_cons_succ]; rfl
                case kzz51 =>
                  go_simp
                  refine (K8.out _).mono ?_
                  rintro e8 v8 ⟨rfl, q18⟩
                  go_wp2_with fail
                  refine hK.out _ _ ?Szz51 (fun hHeld => ?Rzz51)
                  case Szz51 =>
                    exact hHeld.trans q18
                  case Rzz51 =>
                    clear hK K
                    try simp only [Act.put, List.setIfInBounds_toArray, List.set_cons_zero, List.set_cons_succ]
                    refine wpAnyH_take (i := 15) (oi := ?ozz43) (v := ?vzz43) ?hzz43 ?azz43 ?bzz43 ?czz43 ?qzz43 ?yzz43 ?szz43 ?rzz43
                    case hzz43 => simp only [List.getElem?_toArray, List.getElem?_cons_zero, List.getElem?_cons_succ]; rfl
                    case azz43 => kernel_rfl
                    case bzz43 => kernel_rfl
                    case czz43 => kernel_rfl
                    case yzz43 =>
                      refine Or.inl ⟨by rfl, ?_⟩
                      intro w hSw
                      skip
                      go_simp
                      try with_reducible rfl
                    case qzz43 => exact fun _ _ _ h => h
                    case szz43 => first | assumption | trivial
                    case' rzz43 => simp only [Act.put, List.setIfInBounds_toArray, List.set_cons_zero, List.set_cons_succ]
                    refine wpAnyH_ready (rs := [19]) (by kernel_rfl) (by simp) ?_
                    refine AllReadyH.cons (o := ?ozz50) ?hzz50 (fun K hK => ?kzz50) ?mzz50
                    case hzz50 => simp only [List.getElem?_toArray, List.getElem?_cons_zero, List.getElem?_cons_succ]; rfl
                    case kzz50 =>
                      go_simp
                      refine (K9.out _).mono ?_
                      rintro e9 v9 ⟨rfl, q19⟩
                      go_wp2_with fail
                      refine hK.out _ _ ?Szz50 (fun hHeld => ?Rzz50)
                      case Szz50 =>
                        exact hHeld.trans q19
                      case Rzz50 =>
                        clear hK K
                        try simp only [Act.put, List.setIfInBounds_toArray, List.set_cons_zero, List.set_cons_succ]
                        refine wpAnyH_take (i := 20) (oi := ?ozz44) (v := ?vzz44) ?hzz44 ?azz44 ?bzz44 ?czz44 ?qzz44 ?yzz44 ?szz44 ?rzz44
                        case hzz44 => simp only [List.getElem?_toArray, List.getElem?_cons_zero, List.getElem?_cons_succ]; rfl
                        case azz44 => kernel_rfl
                        case bzz44 => kernel_rfl
                        case czz44 => kernel_rfl
                        case yzz44 =>
                          refine Or.inl ⟨by rfl, ?_⟩
                          intro w hSw
                          skip
                          go_simp
                          try with_reducible rfl
                        case qzz44 => exact fun _ _ _ h => h
                        case szz44 => first | assumption | trivial
                        case' rzz44 => simp only [Act.put, List.setIfInBounds_toArray, List.set_cons_zero, List.set_cons_succ]
                        refine wpAnyH_ready (rs := [24]) (by kernel_rfl) (by simp) ?_
                        refine AllReadyH.cons (o := ?ozz49) ?hzz49 (fun K hK => ?kzz49) ?mzz49
                        case hzz49 => simp only [List.getElem?_toArray, List.getElem?_cons_zero, List.getElem?_cons_succ]; rfl
                        case kzz49 =>
                          go_simp
                          refine (K10.out _).mono ?_
                          rintro e10 v10 ⟨rfl, q110⟩
                          go_wp2_with fail
                          refine hK.out _ _ ?Szz49 (fun hHeld => ?Rzz49)
                          case Szz49 =>
                            exact hHeld.trans q110
                          case Rzz49 =>
                            clear hK K
                            try simp only [Act.put, List.setIfInBounds_toArray, List.set_cons_zero, List.set_cons_succ]
                            refine wpAnyH_take (i := 25) (oi := ?ozz45) (v := ?vzz45) ?hzz45 ?azz45 ?bzz45 ?czz45 ?qzz45 ?yzz45 ?szz45 ?rzz45
                            case hzz45 => simp only [List.getElem?_toArray, List.getElem?_cons_zero, List.getElem?_cons_succ]; rfl
                            case azz45 => kernel_rfl
                            case bzz45 => kernel_rfl
                            case czz45 => kernel_rfl
                            case yzz45 =>
                              refine Or.inl ⟨by rfl, ?_⟩
                              intro w hSw
                              skip
                              go_simp
                              try with_reducible rfl
                            case qzz45 => exact fun _ _ _ h => h
                            case szz45 => first | assumption | trivial
                            case' rzz45 => simp only [Act.put, List.setIfInBounds_toArray, List.set_cons_zero, List.set_cons_succ]
                            refine wpAnyH_ready (rs := [29]) (by kernel_rfl) (by simp) ?_
                            refine AllReadyH.cons (o := ?ozz48) ?hzz48 (fun K hK => ?kzz48) ?mzz48
                            case hzz48 => simp only [List.getElem?_toArray, List.getElem?_cons_zero, List.getElem?_cons_succ]; rfl
                            case kzz48 =>
                              go_simp
                              refine (K11.out _).mono ?_
                              rintro e11 v11 ⟨rfl, q111⟩
                              go_wp2_with fail
                              refine hK.out _ _ ?Szz48 (fun hHeld => ?Rzz48)
                              case Szz48 =>
                                exact hHeld.trans q111
                              case Rzz48 =>
                                clear hK K
                                try simp only [Act.put, List.setIfInBounds_toArray, List.set_cons_zero, List.set_cons_succ]
                                refine wpAnyH_take (i := 30) (oi := ?ozz46) (v := ?vzz46) ?hzz46 ?azz46 ?bzz46 ?czz46 ?qzz46 ?yzz46 ?szz46 ?rzz46
                                case hzz46 => simp only [List.getElem?_toArray, List.getElem?_cons_zero, List.getElem?_cons_succ]; rfl
                                case azz46 => kernel_rfl
                                case bzz46 => kernel_rfl
                                case czz46 => kernel_rfl
                                case yzz46 =>
                                  refine Or.inl ⟨by rfl, ?_⟩
                                  intro w hSw
                                  skip
                                  go_simp
                                  try with_reducible rfl
                                case qzz46 => exact fun _ _ _ h => h
                                case szz46 => first | assumption | trivial
                                case' rzz46 => simp only [Act.put, List.setIfInBounds_toArray, List.set_cons_zero, List.set_cons_succ]
                                refine wpAnyH_take (i := 31) (oi := ?ozz47) (v := ?vzz47) ?hzz47 ?azz47 ?bzz47 ?czz47 ?qzz47 ?yzz47 ?szz47 ?rzz47
                                case hzz47 => simp only [List.getElem?_toArray, List.getElem?_cons_zero, List.getElem?_cons_succ]; rfl
                                case azz47 => kernel_rfl
                                case bzz47 => kernel_rfl
                                case czz47 => kernel_rfl
                                case yzz47 =>
                                  refine Or.inl ⟨by rfl, ?_⟩
                                  intro w hSw
                                  skip
                                  go_simp
                                  try with_reducible rfl
                                case qzz47 => exact fun _ _ _ h => h
                                case szz47 => first | assumption | trivial
                                case' rzz47 => simp only [Act.put, List.setIfInBounds_toArray, List.set_cons_zero, List.set_cons_succ]
                                refine wpAnyH_done (by kernel_rfl) ?_ _
                                go_wp2
                                go_ret2
                                exact ⟨by rw [HR2.out]; rw [← HE.out]; rfl, Z.out.2.trans hHeld⟩
                            case' mzz48 => skip
                            exact AllReadyH.nil
                        case' mzz49 => skip
                        exact AllReadyH.nil
                    case' mzz50 => skip
                    exact AllReadyH.nil
                case' mzz51 => skip
                exact AllReadyH.nil
            case' mzz52 => skip
            exact AllReadyH.nil
        case' mzz53 => skip
        exact AllReadyH.nil
      · have HE : Hid (HD = ba (req ⟨k, e, s, n, t, ⟨ok, ky, vl, lo, hi, m⟩⟩)) := Lib.hid (by
          rw [HHd.out]; unfold req reqR
          rw [if_neg h5])
        go_wp2
        go_ret2
        exact ⟨by rw [HR2.out, HE.out]; rfl, Z.out.2⟩
end Wi
end Go.Proofs.YtdipikdebapmlaaDoor

/- Contracts: strings.Builder's copyCheck, WriteString, String, at a builder that the call has made. -/
namespace Go.Proofs.YtdipikdebapmlaaDoor
set_option maxRecDepth 100000
open Go.RowKit
set_option linter.unusedVariables false

theorem bld_size : (Tryd.prog.info? 79).map (fun i => i.size) = some 2 := by kernel_rfl
theorem bld_lies : liesAt Tryd.prog Tryd.prog.depth 79 (2 / Tryd.prog.cellsOf 79) 0 79 1 = true := by kernel_rfl
theorem byte_info : (Tryd.prog.info? 5).map (fun i => (i.zero, i.size, i.bytes)) = some (some (.int .u8 0), 1, 1) := by kernel_rfl

set_option maxHeartbeats 1000000 in
set_option maxRecDepth 100000 in
theorem check_used (b : Nat) (w : World) (h0 : w.cell? ⟨b, 0, none⟩ = some (.pointer (some ⟨b, 0, none⟩))) :
    Calls Tryd.prog 58 #[.pointer (some ⟨b, 0, none⟩)] w fun e w' => e = .returned (.tuple #[]) ∧ w' = w := by
  obtain ⟨j, hj, _⟩ := Option.map_eq_some_iff.1 bld_size
  go_enter Tryd.func58, Tryd.ntmps58
  go_wp2
  rw [Lib.run_neq_ptr_same w _ Tryd.underlying76 hj]
  go_wp2
  go_end0
  exact ⟨rfl, rfl⟩

set_option maxHeartbeats 1000000 in
set_option maxRecDepth 100000 in
theorem check_fresh (b : Nat) (w : World) (h0 : w.cell? ⟨b, 0, none⟩ = some (.pointer none)) (hsh : w.shape? b = some (79, 2)) (hfz : w.frozen? ⟨b, 0, none⟩ = false) :
    Calls Tryd.prog 58 #[.pointer (some ⟨b, 0, none⟩)] w fun e w' => e = .returned (.tuple #[]) ∧ w' = w.setCell ⟨b, 0, none⟩ (.pointer (some ⟨b, 0, none⟩)) := by
  obtain ⟨j, hj, hjs⟩ := Option.map_eq_some_iff.1 bld_size
  go_enter Tryd.func58, Tryd.ntmps58
  go_wp2
  rw [Lib.run_to_unsafe w ⟨b, 0, none⟩ Tryd.underlying76 Tryd.underlying110 hj (by rw [hjs]; decide) hsh (Nat.zero_lt_succ 1)]
  simp only [Result.andThen]
  rw [Oper.upon_value]
  go_wp2
  rw [run_callFunc_extern Tryd.func77 (by kernel_rfl) (by kernel_rfl) (by kernel_rfl) (e := Extern.AbiNoEscape.same) (by kernel_rfl)]
  rw [Lib.run_noEscape]
  simp only [Result.andThen]
  rw [Oper.upon_value]
  go_wp2
  rw [Lib.run_from_unsafe w ⟨b, 0, none⟩ Tryd.underlying110 Tryd.underlying76 hj hsh bld_lies]
  simp only [Result.andThen]
  rw [Oper.upon_value]
  go_wp2
  go_end0
  exact ⟨rfl, rfl⟩

abbrev BldAt (B b : Nat) (p : Value) (l : List UInt8) (w : World) : Prop := Lib.BuilderAt 79 5 B b p (Lib.byteCells l) w
/-- a builder in block b that holds these bytes. -/
def Bld (B b : Nat) (l : List UInt8) (w : World) : Prop := Lib.IsBuilder 79 5 B b (Lib.byteCells l) w

theorem check_any (B b : Nat) (l : List UInt8) (w : World) (h : Bld B b l w) :
    Calls Tryd.prog 58 #[.pointer (some ⟨b, 0, none⟩)] w fun e w' => e = .returned (.tuple #[]) ∧ BldAt B b (.pointer (some ⟨b, 0, none⟩)) l w' ∧ Below B w w' ∧ ∀ X, X ≠ b → w'.heap[X]? = w.heap[X]? := by
  rcases h with h | h
  · refine (check_fresh b w h.cell0 h.shape h.frozen0).mono ?_
    rintro e w' ⟨rfl, rfl⟩
    exact ⟨rfl, h.used _, (Below.refl B w).setCell (p := ⟨b, 0, none⟩) h.1 _, fun X hX => heap_setCell_other w ⟨b, 0, none⟩ X _ hX⟩
  · refine (check_used b w h.cell0).mono ?_
    rintro e w' ⟨rfl, rfl⟩
    exact ⟨rfl, h, Below.refl B _, fun _ _ => rfl⟩
/-- all rows but those of bytes, and the builder itself, are as they were. -/
def KeepB (b : Nat) (w w' : World) : Prop := ∀ X cs T fr, w.heap[X]? = some (.cells cs T fr) → T ≠ 5 → X ≠ b → w'.heap[X]? = some (.cells cs T fr)

theorem str_cells (s : ByteArray) : Lib.strCells s = Lib.byteCells s.data.toList := rfl
theorem byteCells_app (l m : List UInt8) : Lib.byteCells l ++ Lib.byteCells m = Lib.byteCells (l ++ m) := by simp [Lib.byteCells]
theorem byteCells_len (l : List UInt8) : (Lib.byteCells l).length = l.length := by simp [Lib.byteCells]

set_option maxHeartbeats 2000000 in
set_option maxRecDepth 100000 in
theorem write_any (B b : Nat) (l : List UInt8) (s : ByteArray) (w : World) (h : Bld B b l w) (hlen : l.length + s.size ≤ 140737488355328) (hBw : B ≤ w.heap.size) :
    Calls Tryd.prog 40 #[.pointer (some ⟨b, 0, none⟩), .string s] w fun e w' => e = .returned (.tuple #[.int .i64 s.size, .nilIface]) ∧ Bld B b (l ++ s.data.toList) w' ∧ Below B w w' ∧ KeepB b w w' := by
  obtain ⟨i0, hi, hz0, hz1, hz2⟩ := info_parts byte_info
  have hne : (79 : TypeId) ≠ 5 := by decide
  have hbl := byteCells_len l
  have HBL := Lib.hid hbl
  clear hbl
  go_enter Tryd.func40, Tryd.ntmps40
  go_wp2_with fail
  refine (check_any B b l _ h).mono ?_
  rintro e w1 ⟨rfl, ⟨hB, v, hbk, hown, hnv⟩, hb1, hk1⟩
  have HK1 := Lib.hid hk1
  clear hk1
  have c0 : w1.cell? ⟨b, 0, none⟩ = some (.pointer (some ⟨b, 0, none⟩)) := by rw [Lib.cell_of_heap hbk]; rfl
  have c1 : w1.cell? ⟨b, 1, none⟩ = some v := by rw [Lib.cell_of_heap hbk]; rfl
  go_wp2_with (at_builtin; refine Lib.wpList_append_own_string _ rfl _ _ 77 9 rfl B 5 i0 Tryd.underlying77 Tryd.underlying9 hi hz0 hz1 hz2 _ _ _ rfl hown s rfl ?c3 ?c4 ?c5 ?_)
  case c3 => unfold maxLen; have := HBL.out; omega
  case c4 => have := HBL.out; omega
  case c5 => have := hb1.size; omega
  intro v' w2 hown' hgrow _
  have hlt : b < w1.heap.size := by
    rcases Nat.lt_or_ge b w1.heap.size with h' | h'
    · exact h'
    · simp [Array.getElem?_eq_none h'] at hbk
  have hb2 : w2.heap[b]? = some (.cells #[.pointer (some ⟨b, 0, none⟩), v] 79 (0, 0)) := by
    rw [hgrow.block b hlt (fun e => hnv e.symm)]
    exact hbk
  have d0 : w2.cell? ⟨b, 0, none⟩ = some (.pointer (some ⟨b, 0, none⟩)) := by rw [Lib.cell_of_heap hb2]; rfl
  have d1 : w2.cell? ⟨b, 1, none⟩ = some v := by rw [Lib.cell_of_heap hb2]; rfl
  have f1 : w2.frozen? ⟨b, 1, none⟩ = false := Lib.frozen_of_heap hb2 1
  obtain ⟨ao, n', cap, rfl⟩ : ∃ ao n' cap, v' = .slice ao n' cap := by
    rcases hown'.2 with ⟨hv, _⟩ | ⟨g, cap, cur, hv, _⟩
    · exact ⟨_, _, _, hv⟩
    · exact ⟨_, _, _, hv⟩
  go_wp2
  go_ret2
  refine ⟨rfl, .inr ?_, ?_, fun X cs T fr hX hT hXb => ?_⟩
  · have := Lib.BuilderAt.put (T := 79) (e := 5) hB hb2 (bs' := Lib.byteCells l ++ Lib.strCells s) (by simpa [Lib.strCells_length] using hown') hne
    rw [str_cells, byteCells_app] at this
    exact this
  · exact (hb1.grown hgrow (by have := hb1.size; omega) (fun k hk => (hown.lt k hk).1)).setCell (p := ⟨b, 1, none⟩) hB _
  · rw [heap_setCell_other w2 ⟨b, 1, none⟩ X _ hXb]
    have hX1 : w1.heap[X]? = some (.cells cs T fr) := (HK1.out X hXb).trans hX
    have hlt1 : X < w1.heap.size := by
      rcases Nat.lt_or_ge X w1.heap.size with h' | h'
      · exact h'
      · rw [Array.getElem?_eq_none h'] at hX1; cases hX1
    rw [hgrow.block X hlt1 (fun e => Lib.ownBlock_ne hown hX1 hT e.symm)]
    exact hX1

theorem string_any (B b : Nat) (l : List UInt8) (w : World) (h : Bld B b l w) (hBw : B ≤ w.heap.size) :
    Calls Tryd.prog 42 #[.pointer (some ⟨b, 0, none⟩)] w fun e w' => e = .returned (.string ⟨l.toArray⟩) ∧ Below B w w' := Tryd.Builder_String_any B b l w h hBw
theorem owns_q {w w' : World} {base : Nat} {T : TypeId} {k : Nat} {v : Value} {n : Nat} {xs : List Value} (h : w.ownsRow base T k v n xs) (q : Q w w') : w'.ownsRow base T k v n xs := by
  refine ⟨h.1, ?_⟩
  rcases h.2 with ⟨e, h0⟩ | ⟨g, cap, cur, e, hg, hh, r⟩
  · exact .inl ⟨e, h0⟩
  · have hlt : g < w.heap.size := by
      rcases Nat.lt_or_ge g w.heap.size with hlt | hge
      · exact hlt
      · rw [Array.getElem?_eq_none hge] at hh; cases hh
    exact .inr ⟨g, cap, cur, e, hg, (q.below.block g hlt).trans hh, r⟩
theorem Bld.q {B b : Nat} {l : List UInt8} {w w' : World} (h : Bld B b l w) (q : Q w w') : Bld B b l w' := by
  have key : ∀ p, BldAt B b p l w → BldAt B b p l w' := by
    rintro p ⟨hB, v, hbk, hown, hnv⟩
    have hlt : b < w.heap.size := by
      rcases Nat.lt_or_ge b w.heap.size with h' | h'
      · exact h'
      · simp [Array.getElem?_eq_none h'] at hbk
    exact ⟨hB, v, (q.below.block b hlt).trans hbk, owns_q hown q, hnv⟩
  rcases h with h | h
  · exact .inl (key _ h)
  · exact .inr (key _ h)
theorem Bld.lt {B b : Nat} {l : List UInt8} {w : World} (h : Bld B b l w) : b < w.heap.size := by
  rcases h with h | h
  · exact h.lt
  · exact h.lt
theorem Bld.fresh (w : World) : Bld w.heap.size w.heap.size [] (w.alloc (.cells #[.pointer none, .slice none 0 0] 79)) := Lib.fresh_isBuilder _ _ w
end Go.Proofs.YtdipikdebapmlaaDoor

/- Contracts: the package's nums, texts, word. -/
namespace Go.Proofs.YtdipikdebapmlaaDoor
set_option maxRecDepth 100000
open Go.RowKit
set_option linter.unusedVariables false
set_option linter.unusedSimpArgs false
namespace Wi

def catN (l : List Int) : List UInt8 := l.flatMap num
def catT (l : List ByteArray) : List UInt8 := l.flatMap ptx
theorem catN_snoc (l : List Int) {k : Nat} (hk : k < l.length) : catN (l.take (k + 1)) = catN (l.take k) ++ num l[k] := by
  unfold catN; rw [List.take_succ_eq_append_getElem hk, List.flatMap_append]; simp
theorem catT_snoc (l : List ByteArray) {k : Nat} (hk : k < l.length) : catT (l.take (k + 1)) = catT (l.take k) ++ ptx l[k] := by
  unfold catT; rw [List.take_succ_eq_append_getElem hk, List.flatMap_append]; simp
theorem catN_len (l : List Int) (h : ∀ x ∈ l, small x = true) : (catN l).length ≤ 21 * l.length := by
  induction l with
  | nil => simp [catN]
  | cons a l ih =>
    have h1 := num_len (h a (by simp))
    have h2 := ih (fun x hx => h x (by simp [hx]))
    unfold catN at h2 ⊢
    simp only [List.flatMap_cons, List.length_append, List.length_cons]
    omega
theorem catT_len (l : List ByteArray) (h : ∀ x ∈ l, x.size ≤ 64) : (catT l).length ≤ 67 * l.length := by
  induction l with
  | nil => simp [catT]
  | cons a l ih =>
    have h0 := h a (by simp)
    have h1 := ptx_len (s := a) (by omega)
    have h2 := ih (fun x hx => h x (by simp [hx]))
    unfold catT at h2 ⊢
    simp only [List.flatMap_cons, List.length_append, List.length_cons]
    omega

set_option maxHeartbeats 4000000 in
theorem onums_any (A : Option Addr) (n c : Nat) (l : List Int) (w : World) (hf : Lst numK w A n l) (hn : n ≤ 4) (hs : ∀ x ∈ l, small x = true) :
    Calls Tryd.prog 21 #[.slice A n c] w fun e w' => e = .returned (.string (ba (catN l))) ∧ Q w w' := by
  have HF := Lib.hid hf
  have hlen := hf.len
  have HL := Lib.hid hlen
  have HS := Lib.hid hs
  have HTot := Lib.hid (show ∀ k, k ≤ n → (catN (l.take k)).length ≤ 21 * k from fun k hk => by
    have h1 := catN_len (l.take k) fun p hp => hs p (List.mem_of_mem_take hp)
    rw [List.length_take, Nat.min_eq_left (by omega)] at h1
    exact h1)
  have B1 := Lib.hid (Bld.fresh w)
  have Q1 := Lib.hid ((Q.refl w).alloc (.cells #[.pointer none, .slice none 0 0] 79))
  clear hf hlen hs
  go_enter Tryd.func21, Tryd.ntmps21
  go_upto_region 2 with (fail)
  generalize w.alloc (.cells #[.pointer none, .slice none 0 0] 79) = w1 at B1 Q1 ⊢
  go_wp2
  go_loopw [8] (fun i wr => ∃ k : Nat, k ≤ n ∧ i = .int .i64 k ∧ Bld w.heap.size w.heap.size (catN (l.take k)) wr ∧ Q w wr) (fun i _ => n - (intOf i).toNat)
  case atStart => exact ⟨0, Nat.zero_le _, rfl, B1.out, Q1.out⟩
  case round =>
    obtain ⟨k, hk, rfl, b4, q4⟩ := hrel
    have B4 := Lib.hid b4
    have Q4 := Lib.hid q4
    clear b4 q4 B1 Q1
    by_cases hlt : k < n
    · have hkl : k < l.length := by have := HL.out; omega
      have hx := HS.out l[k] (List.getElem_mem hkl)
      have ht0 := HTot.out k (by omega)
      have HSn := Lib.hid (catN_snoc l hkl)
      obtain ⟨ad, rfl, hab, x0⟩ := load_num (HF.out.q Q4.out) hlt hkl
      generalize l[k] = x at x0 hx HSn
      generalize hacc : catN (l.take k) = acc at B4 ht0 HSn
      clear hacc
      have KT := Lib.hid (fun W => num_any x W (by have := small_iff.1 hx; omega) (by have := small_iff.1 hx; omega))
      have u1 : IntKind.u64.wrap x = x := by rw [IntKind.wrap_u64]; have := small_iff.1 hx; omega
      have HX := Lib.hid hx
      have ez : (ba (num x)).size ≤ 21 := by rw [ba_size]; exact num_len HX.out
      have HE := Lib.hid ez
      have HT0 := Lib.hid ht0
      clear hx ez ht0
      go_wp2_with fail
      refine (KT.out _).mono ?_
      rintro e w5 ⟨rfl, q5⟩
      have Q5 := Lib.hid q5
      clear q5
      go_wp2_with fail
      refine (write_any w.heap.size w.heap.size acc (ba (num x)) _ (B4.out.q Q5.out) (by have := HT0.out; have := HE.out; omega) (by have := Q4.out.size; have := Q5.out.size; omega)).mono ?_
      rintro e w6 ⟨rfl, b6, be6, _⟩
      have B6 := Lib.hid (show Bld w.heap.size w.heap.size (catN (l.take (k + 1))) w6 by rw [HSn.out, ← ba_data (num x)]; exact b6)
      have Q6 := Lib.hid (show Q w w6 from (Q4.out.trans Q5.out).below.trans be6)
      clear b6 be6
      go_wp2
      go_roundw
      case rel => exact ⟨k + 1, by omega, by go_num, B6.out, Q6.out⟩
      case measure => simp [intOf]; omega
    · have hkn : k = n := by omega
      have hfull : catN (l.take k) = catN l := by rw [hkn, List.take_of_length_le (by rw [HL.out]; exact Nat.le_refl _)]
      have hfull2 : catN (l.take n) = catN l := by rw [List.take_of_length_le (by rw [HL.out]; exact Nat.le_refl _)]
      rw [hfull] at B4
      clear hfull hkn hfull2
      go_wp2_with fail
      refine (string_any w.heap.size w.heap.size (catN l) _ B4.out Q4.out.size).mono ?_
      rintro e w5 ⟨rfl, be5⟩
      have Q5 := Lib.hid (show Q w w5 from Q4.out.below.trans be5)
      clear be5
      go_wp2
      go_ret
      exact ⟨rfl, Q5.out⟩
set_option maxHeartbeats 4000000 in
theorem otexts_any (A : Option Addr) (n c : Nat) (l : List ByteArray) (w : World) (hf : Lst strK w A n l) (hn : n ≤ 4) (hs : ∀ x ∈ l, x.size ≤ 64) :
    Calls Tryd.prog 22 #[.slice A n c] w fun e w' => e = .returned (.string (ba (catT l))) ∧ Q w w' := by
  have HF := Lib.hid hf
  have hlen := hf.len
  have HL := Lib.hid hlen
  have HS := Lib.hid hs
  have HTot := Lib.hid (show ∀ k, k ≤ n → (catT (l.take k)).length ≤ 67 * k from fun k hk => by
    have h1 := catT_len (l.take k) fun p hp => hs p (List.mem_of_mem_take hp)
    rw [List.length_take, Nat.min_eq_left (by omega)] at h1
    exact h1)
  have B1 := Lib.hid (Bld.fresh w)
  have Q1 := Lib.hid ((Q.refl w).alloc (.cells #[.pointer none, .slice none 0 0] 79))
  clear hf hlen hs
  go_enter Tryd.func22, Tryd.ntmps22
  go_upto_region 2 with (fail)
  generalize w.alloc (.cells #[.pointer none, .slice none 0 0] 79) = w1 at B1 Q1 ⊢
  go_wp2
  go_loopw [8] (fun i wr => ∃ k : Nat, k ≤ n ∧ i = .int .i64 k ∧ Bld w.heap.size w.heap.size (catT (l.take k)) wr ∧ Q w wr) (fun i _ => n - (intOf i).toNat)
  case atStart => exact ⟨0, Nat.zero_le _, rfl, B1.out, Q1.out⟩
  case round =>
    obtain ⟨k, hk, rfl, b4, q4⟩ := hrel
    have B4 := Lib.hid b4
    have Q4 := Lib.hid q4
    clear b4 q4 B1 Q1
    by_cases hlt : k < n
    · have hkl : k < l.length := by have := HL.out; omega
      have hx := HS.out l[k] (List.getElem_mem hkl)
      have ht0 := HTot.out k (by omega)
      have HSn := Lib.hid (catT_snoc l hkl)
      obtain ⟨ad, rfl, hab, x0⟩ := load_str (HF.out.q Q4.out) hlt hkl
      generalize l[k] = x at x0 hx HSn
      generalize hacc : catT (l.take k) = acc at B4 ht0 HSn
      clear hacc
      have KT := Lib.hid (fun W => text_any x W (by omega))
      rw [ptx_eq] at KT
      have HX := Lib.hid hx
      have ez : (ba (ptx x)).size ≤ 67 := by rw [ba_size]; exact by have h0 := HX.out; have := ptx_len (s := x) (by omega); omega
      have HE := Lib.hid ez
      have HT0 := Lib.hid ht0
      clear hx ez ht0
      go_wp2_with fail
      refine (KT.out _).mono ?_
      rintro e w5 ⟨rfl, q5⟩
      have Q5 := Lib.hid q5
      clear q5
      go_wp2_with fail
      refine (write_any w.heap.size w.heap.size acc (ba (ptx x)) _ (B4.out.q Q5.out) (by have := HT0.out; have := HE.out; omega) (by have := Q4.out.size; have := Q5.out.size; omega)).mono ?_
      rintro e w6 ⟨rfl, b6, be6, _⟩
      have B6 := Lib.hid (show Bld w.heap.size w.heap.size (catT (l.take (k + 1))) w6 by rw [HSn.out, ← ba_data (ptx x)]; exact b6)
      have Q6 := Lib.hid (show Q w w6 from (Q4.out.trans Q5.out).below.trans be6)
      clear b6 be6
      go_wp2
      go_roundw
      case rel => exact ⟨k + 1, by omega, by go_num, B6.out, Q6.out⟩
      case measure => simp [intOf]; omega
    · have hkn : k = n := by omega
      have hfull : catT (l.take k) = catT l := by rw [hkn, List.take_of_length_le (by rw [HL.out]; exact Nat.le_refl _)]
      have hfull2 : catT (l.take n) = catT l := by rw [List.take_of_length_le (by rw [HL.out]; exact Nat.le_refl _)]
      rw [hfull] at B4
      clear hfull hkn hfull2
      go_wp2_with fail
      refine (string_any w.heap.size w.heap.size (catT l) _ B4.out Q4.out.size).mono ?_
      rintro e w5 ⟨rfl, be5⟩
      have Q5 := Lib.hid (show Q w w5 from Q4.out.below.trans be5)
      clear be5
      go_wp2
      go_ret
      exact ⟨rfl, Q5.out⟩
theorem word_any (b : Bool) (w : World) : Calls Tryd.prog 34 #[.bool b] w fun e w' => e = .returned (.int .i64 (fl b : Nat)) ∧ Q w w' := by
  cases b
  · go_enter Tryd.func34, Tryd.ntmps34
    go_wp2
    go_ret
    exact ⟨rfl, Q.refl _⟩
  · go_enter Tryd.func34, Tryd.ntmps34
    go_wp2
    go_ret
    exact ⟨rfl, Q.refl _⟩
end Wi
end Go.Proofs.YtdipikdebapmlaaDoor
