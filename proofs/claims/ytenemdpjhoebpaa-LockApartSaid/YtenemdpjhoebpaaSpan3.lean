/- Contract: span.Covers. -/
import Derived.Test.YtenemdpjhoebpaaSpan2
import Derived.Laws.StructEq
import Derived.Test.YtenemdpjhoebpaaBox
import Derived.Test.YtenemdpjhoebpaaHeld
namespace Go.Proofs.Ytenemdpjhoebpaa
set_option maxRecDepth 100000
open Go.RowKit Prm Sm
set_option linter.unusedVariables false
set_option linter.unusedSimpArgs false

theorem wn_eq (a b : Wn) : decide (a = b) = (decide (a.mode = b.mode) && (decide (a.lo = b.lo) && decide (a.hi = b.hi))) := by
  obtain ⟨m, lo, hi⟩ := a
  obtain ⟨n, bo, bi⟩ := b
  rw [Bool.eq_iff_iff]
  simp
@[go_sem high] theorem run_eql_wn (w : World) (m n : Int) (lo hi bo bi : ByteArray) :
    (binOp .eql 27 (.agg #[.int .i64 m, .string lo, .string hi]) (.agg #[.int .i64 n, .string bo, .string bi])).run Try.prog w = .ok (.bool (decide ((⟨m, lo, hi⟩ : Wn) = ⟨n, bo, bi⟩))) w := by
  rw [wn_eq, run_eql_struct, show (10000 : Nat) = 9999 + 1 from rfl, run_equalIn_agg _ _ _ _ _ (by kernel_rfl) (by kernel_rfl)]
  simp only [Program.fieldsOf, Try.underlying27]
  have f0 : Try.prog.underlying 3 = some (.int .i64) := by kernel_rfl
  have f1 : Try.prog.underlying 9 = some .string := by kernel_rfl
  rw [← same_str, ← same_str]
  simp [Op.eqFields, go_sem, run_equalIn_int (h := f0), run_equalIn_string (h := f1)]
  by_cases h0 : m = n <;> by_cases h1 : lo.toList = bo.toList <;> by_cases h2 : hi.toList = bi.toList <;> simp [h0, h1, h2]
theorem run_guard_wn (w : World) (x y : Operand) (m n : Int) (lo hi bo bi : ByteArray) :
    (eqGuard .eql 27 x y (.agg #[.int .i64 m, .string lo, .string hi]) (.agg #[.int .i64 n, .string bo, .string bi])).run Try.prog w = .ok () w :=
  run_eqGuard_agg w _ _ _ _ _ _ (by kernel_rfl)

theorem wn_boxes (w : World) (m : Int) (lo hi : ByteArray) (n : Int) (bo bi : ByteArray) :
    Wx ((w.alloc (.cells #[.int .i64 m, .string lo, .string hi] 27)).alloc (.cells #[.int .i64 n, .string bo, .string bi] 27)) w.heap.size ⟨m, lo, hi⟩ ∧
    Wx ((w.alloc (.cells #[.int .i64 m, .string lo, .string hi] 27)).alloc (.cells #[.int .i64 n, .string bo, .string bi] 27)) (w.heap.size + 1) ⟨n, bo, bi⟩ ∧
    Q w ((w.alloc (.cells #[.int .i64 m, .string lo, .string hi] 27)).alloc (.cells #[.int .i64 n, .string bo, .string bi] 27)) := by
  have h1 := (Bx.new w [.int .i64 m, .string lo, .string hi] 27).alloc (.cells #[.int .i64 n, .string bo, .string bi] 27)
  have h2 := Bx.new (w.alloc (.cells #[.int .i64 m, .string lo, .string hi] 27)) [.int .i64 n, .string bo, .string bi] 27
  rw [show (w.alloc (.cells #[.int .i64 m, .string lo, .string hi] 27)).heap.size = w.heap.size + 1 by simp] at h2
  exact ⟨⟨h1.get3.1.1, h1.get3.1.2.1, h1.get3.1.2.2⟩, ⟨h2.get3.1.1, h2.get3.1.2.1, h2.get3.1.2.2⟩, ((Q.refl w).alloc _).alloc _⟩

set_option maxHeartbeats 4000000 in
theorem scovers_any (a b : Wn) (w : World) :
    Calls Try.prog 58 #[wnV a, wnV b] w fun e w' => e = .returned (.bool (covers a b)) ∧ Q w w' := by
  have M := Lib.hid (fun W => smay_any b W)
  have P := Lib.hid (fun W => spart_any a b W)
  by_cases h2 : b.mode = 2
  · by_cases h3 : a.mode = 2
    · rw [show covers a b = (may b && decide (Sm.part a b = b)) by unfold covers; simp [h2, h3]]
      cases hm : may b with
      | true =>
        rw [Bool.true_and]
        rw [hm] at M
        clear hm
        generalize Sm.part a b = p at P ⊢
        obtain ⟨k, po, pi⟩ := p
        obtain ⟨m, lo, hi⟩ := a
        obtain ⟨n, bo, bi⟩ := b
        simp only at h2 h3
        subst h2 h3
        unfold wnV at *
        go_enter Try.func58, Try.ntmps58
        go_wp2
        have B := wn_boxes w 2 lo hi 2 bo bi
        generalize (w.alloc (.cells #[.int .i64 2, .string lo, .string hi] 27)).alloc (.cells #[.int .i64 2, .string bo, .string bi] 27) = W at B ⊢
        obtain ⟨⟨c0, c1, c2⟩, ⟨c3, c4, c5⟩, bq⟩ := B
        have BQ := Lib.hid bq
        clear bq
        refine wp_region_held_drew (S := Q W) (by kernel_rfl) ?szz0 (fun hHeld => ?rzz0)
        case szz0 =>
          exact (Q.refl W).drew
        case' rzz0 => skip
        refine wpAnyH_take (i := 0) (oi := ?ozz1) (v := ?vzz1) ?hzz1 ?azz1 ?bzz1 ?czz1 ?qzz1 ?yzz1 ?szz1 ?rzz1
        case hzz1 => simp only [List.getElem?_toArray, List.getElem?_cons_zero]; rfl
        case azz1 => kernel_rfl
        case bzz1 => kernel_rfl
        case czz1 => kernel_rfl
        case yzz1 =>
          refine Or.inl ⟨by rfl, ?_⟩
          intro w hSw
          have x0 := box_ hSw c0; have x1 := box_ hSw c1; have x2 := box_ hSw c2; have x3 := box_ hSw c3; have x4 := box_ hSw c4; have x5 := box_ hSw c5; clear hSw
          go_simp
          try with_reducible rfl
        case qzz1 => exact fun _ _ _ h => h
        case szz1 => first | assumption | trivial
        case' rzz1 => simp only [Act.put, List.setIfInBounds_toArray, List.set_cons_zero, List.set_cons_succ]
        refine wpAnyH_ready (rs := [1]) (by kernel_rfl) (by simp) ?_
        refine AllReadyH.cons (o := ?ozz10) ?hzz10 (fun K hK => ?kzz10) ?mzz10
        case hzz10 => simp only [List.getElem?_toArray, List.getElem?_cons_zero, List.getElem?_cons_succ]; rfl
        case kzz10 =>
          go_simp
          refine (M.out _).mono ?_
          rintro e w1 ⟨rfl, q1⟩
          go_wp2_with fail
          refine hK.out _ _ ?Szz10 (fun hHeld => ?Rzz10)
          case Szz10 =>
            exact hHeld.trans q1
          case Rzz10 =>
            clear hK K
            try simp only [Act.put, List.setIfInBounds_toArray, List.set_cons_zero, List.set_cons_succ]
            refine wpAnyH_take (i := 2) (oi := ?ozz2) (v := ?vzz2) ?hzz2 ?azz2 ?bzz2 ?czz2 ?qzz2 ?yzz2 ?szz2 ?rzz2
            case hzz2 => simp only [List.getElem?_toArray, List.getElem?_cons_zero, List.getElem?_cons_succ]; rfl
            case azz2 => kernel_rfl
            case bzz2 => kernel_rfl
            case czz2 => kernel_rfl
            case yzz2 =>
              refine Or.inl ⟨by rfl, ?_⟩
              intro w hSw
              skip
              go_simp
              try with_reducible rfl
            case qzz2 => exact fun _ _ _ h => h
            case szz2 => first | assumption | trivial
            case' rzz2 => simp only [Act.put, List.setIfInBounds_toArray, List.set_cons_zero, List.set_cons_succ]
            refine wpAnyH_take (i := 3) (oi := ?ozz3) (v := ?vzz3) ?hzz3 ?azz3 ?bzz3 ?czz3 ?qzz3 ?yzz3 ?szz3 ?rzz3
            case hzz3 => simp only [List.getElem?_toArray, List.getElem?_cons_zero, List.getElem?_cons_succ]; rfl
            case azz3 => kernel_rfl
            case bzz3 => kernel_rfl
            case czz3 => kernel_rfl
            case yzz3 =>
              refine Or.inl ⟨by rfl, ?_⟩
              intro w hSw
              have x0 := box_ hSw c0; have x1 := box_ hSw c1; have x2 := box_ hSw c2; have x3 := box_ hSw c3; have x4 := box_ hSw c4; have x5 := box_ hSw c5; clear hSw
              go_simp
              try with_reducible rfl
            case qzz3 => exact fun _ _ _ h => h
            case szz3 => first | assumption | trivial
            case' rzz3 => simp only [Act.put, List.setIfInBounds_toArray, List.set_cons_zero, List.set_cons_succ]
            refine wpAnyH_take (i := 4) (oi := ?ozz4) (v := ?vzz4) ?hzz4 ?azz4 ?bzz4 ?czz4 ?qzz4 ?yzz4 ?szz4 ?rzz4
            case hzz4 => simp only [List.getElem?_toArray, List.getElem?_cons_zero, List.getElem?_cons_succ]; rfl
            case azz4 => kernel_rfl
            case bzz4 => kernel_rfl
            case czz4 => kernel_rfl
            case yzz4 =>
              refine Or.inl ⟨by rfl, ?_⟩
              intro w hSw
              have x0 := box_ hSw c0; have x1 := box_ hSw c1; have x2 := box_ hSw c2; have x3 := box_ hSw c3; have x4 := box_ hSw c4; have x5 := box_ hSw c5; clear hSw
              go_simp
              try with_reducible rfl
            case qzz4 => exact fun _ _ _ h => h
            case szz4 => first | assumption | trivial
            case' rzz4 => simp only [Act.put, List.setIfInBounds_toArray, List.set_cons_zero, List.set_cons_succ]
            refine wpAnyH_take (i := 6) (oi := ?ozz5) (v := ?vzz5) ?hzz5 ?azz5 ?bzz5 ?czz5 ?qzz5 ?yzz5 ?szz5 ?rzz5
            case hzz5 => simp only [List.getElem?_toArray, List.getElem?_cons_zero, List.getElem?_cons_succ]; rfl
            case azz5 => kernel_rfl
            case bzz5 => kernel_rfl
            case czz5 => kernel_rfl
            case yzz5 =>
              refine Or.inl ⟨by rfl, ?_⟩
              intro w hSw
              have x0 := box_ hSw c0; have x1 := box_ hSw c1; have x2 := box_ hSw c2; have x3 := box_ hSw c3; have x4 := box_ hSw c4; have x5 := box_ hSw c5; clear hSw
              go_simp
              try with_reducible rfl
            case qzz5 => exact fun _ _ _ h => h
            case szz5 => first | assumption | trivial
            case' rzz5 => simp only [Act.put, List.setIfInBounds_toArray, List.set_cons_zero, List.set_cons_succ]
            refine wpAnyH_ready (rs := [5]) (by kernel_rfl) (by simp) ?_
            refine AllReadyH.cons (o := ?ozz9) ?hzz9 (fun K hK => ?kzz9) ?mzz9
            case hzz9 => simp only [List.getElem?_toArray, List.getElem?_cons_zero, List.getElem?_cons_succ]; rfl
            case kzz9 =>
              go_simp
              refine (P.out _).mono ?_
              rintro e w2 ⟨rfl, q2⟩
              go_wp2_with fail
              refine hK.out _ _ ?Szz9 (fun hHeld => ?Rzz9)
              case Szz9 =>
                exact hHeld.trans q2
              case Rzz9 =>
                clear hK K
                try simp only [Act.put, List.setIfInBounds_toArray, List.set_cons_zero, List.set_cons_succ]
                refine wpAnyH_take (i := 7) (oi := ?ozz6) (v := ?vzz6) ?hzz6 ?azz6 ?bzz6 ?czz6 ?qzz6 ?yzz6 ?szz6 ?rzz6
                case hzz6 => simp only [List.getElem?_toArray, List.getElem?_cons_zero, List.getElem?_cons_succ]; rfl
                case azz6 => kernel_rfl
                case bzz6 => kernel_rfl
                case czz6 => kernel_rfl
                case yzz6 =>
                  refine Or.inl ⟨by rfl, ?_⟩
                  intro w hSw
                  skip
                  go_simp
                  try with_reducible rfl
                case qzz6 => exact fun _ _ _ h => h
                case szz6 => first | assumption | trivial
                case' rzz6 => simp only [Act.put, List.setIfInBounds_toArray, List.set_cons_zero, List.set_cons_succ]
                refine wpAnyH_take (i := 8) (oi := ?ozz7) (v := ?vzz7) ?hzz7 ?azz7 ?bzz7 ?czz7 ?qzz7 ?yzz7 ?szz7 ?rzz7
                case hzz7 => simp only [List.getElem?_toArray, List.getElem?_cons_zero, List.getElem?_cons_succ]; rfl
                case azz7 => kernel_rfl
                case bzz7 => kernel_rfl
                case czz7 => kernel_rfl
                case yzz7 =>
                  refine Or.inl ⟨by rfl, ?_⟩
                  intro w hSw
                  skip
                  go_simp
                  try with_reducible rfl
                case qzz7 => exact fun _ _ _ h => h
                case szz7 => first | assumption | trivial
                case' rzz7 => simp only [Act.put, List.setIfInBounds_toArray, List.set_cons_zero, List.set_cons_succ]
                refine wpAnyH_take (i := 9) (oi := ?ozz8) (v := ?vzz8) ?hzz8 ?azz8 ?bzz8 ?czz8 ?qzz8 ?yzz8 ?szz8 ?rzz8
                case hzz8 => simp only [List.getElem?_toArray, List.getElem?_cons_zero, List.getElem?_cons_succ]; rfl
                case azz8 => kernel_rfl
                case bzz8 => kernel_rfl
                case czz8 => kernel_rfl
                case yzz8 =>
                  refine Or.inl ⟨by rfl, ?_⟩
                  intro w hSw
                  skip
                  go_simp
                  try with_reducible rfl
                case qzz8 => exact fun _ _ _ h => h
                case szz8 => first | assumption | trivial
                case' rzz8 => simp only [Act.put, List.setIfInBounds_toArray, List.set_cons_zero, List.set_cons_succ]
                refine wpAnyH_done (by kernel_rfl) ?_ _
                go_wp2
                go_ret
                exact ⟨by first | rfl | (simp; done), BQ.out.trans hHeld⟩
            case' mzz9 => skip
            exact AllReadyH.nil
        case' mzz10 => skip
        exact AllReadyH.nil
      | false =>
        rw [Bool.false_and]
        rw [hm] at M
        clear hm
        obtain ⟨m, lo, hi⟩ := a
        obtain ⟨n, bo, bi⟩ := b
        simp only at h2 h3
        subst h2 h3
        unfold wnV at *
        go_enter Try.func58, Try.ntmps58
        go_wp2
        have B := wn_boxes w 2 lo hi 2 bo bi
        generalize (w.alloc (.cells #[.int .i64 2, .string lo, .string hi] 27)).alloc (.cells #[.int .i64 2, .string bo, .string bi] 27) = W at B ⊢
        obtain ⟨⟨c0, c1, c2⟩, ⟨c3, c4, c5⟩, bq⟩ := B
        have BQ := Lib.hid bq
        clear bq
        refine wp_region_held_drew (S := Q W) (by kernel_rfl) ?szz11 (fun hHeld => ?rzz11)
        case szz11 =>
          exact (Q.refl W).drew
        case' rzz11 => skip
        refine wpAnyH_take (i := 0) (oi := ?ozz12) (v := ?vzz12) ?hzz12 ?azz12 ?bzz12 ?czz12 ?qzz12 ?yzz12 ?szz12 ?rzz12
        case hzz12 => simp only [List.getElem?_toArray, List.getElem?_cons_zero]; rfl
        case azz12 => kernel_rfl
        case bzz12 => kernel_rfl
        case czz12 => kernel_rfl
        case yzz12 =>
          refine Or.inl ⟨by rfl, ?_⟩
          intro w hSw
          have x0 := box_ hSw c0; have x1 := box_ hSw c1; have x2 := box_ hSw c2; have x3 := box_ hSw c3; have x4 := box_ hSw c4; have x5 := box_ hSw c5; clear hSw
          go_simp
          try with_reducible rfl
        case qzz12 => exact fun _ _ _ h => h
        case szz12 => first | assumption | trivial
        case' rzz12 => simp only [Act.put, List.setIfInBounds_toArray, List.set_cons_zero, List.set_cons_succ]
        refine wpAnyH_ready (rs := [1]) (by kernel_rfl) (by simp) ?_
        refine AllReadyH.cons (o := ?ozz21) ?hzz21 (fun K hK => ?kzz21) ?mzz21
        case hzz21 => simp only [List.getElem?_toArray, List.getElem?_cons_zero, List.getElem?_cons_succ]; rfl
        case kzz21 =>
          go_simp
          refine (M.out _).mono ?_
          rintro e w1 ⟨rfl, q1⟩
          go_wp2_with fail
          refine hK.out _ _ ?Szz21 (fun hHeld => ?Rzz21)
          case Szz21 =>
            exact hHeld.trans q1
          case Rzz21 =>
            clear hK K
            try simp only [Act.put, List.setIfInBounds_toArray, List.set_cons_zero, List.set_cons_succ]
            refine wpAnyH_take (i := 2) (oi := ?ozz13) (v := ?vzz13) ?hzz13 ?azz13 ?bzz13 ?czz13 ?qzz13 ?yzz13 ?szz13 ?rzz13
            case hzz13 => simp only [List.getElem?_toArray, List.getElem?_cons_zero, List.getElem?_cons_succ]; rfl
            case azz13 => kernel_rfl
            case bzz13 => kernel_rfl
            case czz13 => kernel_rfl
            case yzz13 =>
              refine Or.inl ⟨by rfl, ?_⟩
              intro w hSw
              skip
              go_simp
              try with_reducible rfl
            case qzz13 => exact fun _ _ _ h => h
            case szz13 => first | assumption | trivial
            case' rzz13 => simp only [Act.put, List.setIfInBounds_toArray, List.set_cons_zero, List.set_cons_succ]
            refine wpAnyH_take (i := 3) (oi := ?ozz14) (v := undef) ?hzz14 ?azz14 ?bzz14 ?czz14 ?qzz14 ?yzz14 ?szz14 ?rzz14
            case hzz14 => simp only [List.getElem?_toArray, List.getElem?_cons_zero, List.getElem?_cons_succ]; rfl
            case azz14 => kernel_rfl
            case bzz14 => kernel_rfl
            case czz14 => kernel_rfl
            case yzz14 => exact Or.inr ⟨by rfl, rfl⟩
            case qzz14 => exact fun _ _ _ h => h
            case szz14 => first | assumption | trivial
            case' rzz14 => simp only [Act.put, List.setIfInBounds_toArray, List.set_cons_zero, List.set_cons_succ]
            refine wpAnyH_take (i := 4) (oi := ?ozz15) (v := undef) ?hzz15 ?azz15 ?bzz15 ?czz15 ?qzz15 ?yzz15 ?szz15 ?rzz15
            case hzz15 => simp only [List.getElem?_toArray, List.getElem?_cons_zero, List.getElem?_cons_succ]; rfl
            case azz15 => kernel_rfl
            case bzz15 => kernel_rfl
            case czz15 => kernel_rfl
            case yzz15 => exact Or.inr ⟨by rfl, rfl⟩
            case qzz15 => exact fun _ _ _ h => h
            case szz15 => first | assumption | trivial
            case' rzz15 => simp only [Act.put, List.setIfInBounds_toArray, List.set_cons_zero, List.set_cons_succ]
            refine wpAnyH_take (i := 5) (oi := ?ozz16) (v := undef) ?hzz16 ?azz16 ?bzz16 ?czz16 ?qzz16 ?yzz16 ?szz16 ?rzz16
            case hzz16 => simp only [List.getElem?_toArray, List.getElem?_cons_zero, List.getElem?_cons_succ]; rfl
            case azz16 => kernel_rfl
            case bzz16 => kernel_rfl
            case czz16 => kernel_rfl
            case yzz16 => exact Or.inr ⟨by rfl, rfl⟩
            case qzz16 => exact fun _ _ _ h => h
            case szz16 => first | assumption | trivial
            case' rzz16 => simp only [Act.put, List.setIfInBounds_toArray, List.set_cons_zero, List.set_cons_succ]
            refine wpAnyH_take (i := 6) (oi := ?ozz17) (v := undef) ?hzz17 ?azz17 ?bzz17 ?czz17 ?qzz17 ?yzz17 ?szz17 ?rzz17
            case hzz17 => simp only [List.getElem?_toArray, List.getElem?_cons_zero, List.getElem?_cons_succ]; rfl
            case azz17 => kernel_rfl
            case bzz17 => kernel_rfl
            case czz17 => kernel_rfl
            case yzz17 => exact Or.inr ⟨by rfl, rfl⟩
            case qzz17 => exact fun _ _ _ h => h
            case szz17 => first | assumption | trivial
            case' rzz17 => simp only [Act.put, List.setIfInBounds_toArray, List.set_cons_zero, List.set_cons_succ]
            refine wpAnyH_take (i := 7) (oi := ?ozz18) (v := undef) ?hzz18 ?azz18 ?bzz18 ?czz18 ?qzz18 ?yzz18 ?szz18 ?rzz18
            case hzz18 => simp only [List.getElem?_toArray, List.getElem?_cons_zero, List.getElem?_cons_succ]; rfl
            case azz18 => kernel_rfl
            case bzz18 => kernel_rfl
            case czz18 => kernel_rfl
            case yzz18 => exact Or.inr ⟨by rfl, rfl⟩
            case qzz18 => exact fun _ _ _ h => h
            case szz18 => first | assumption | trivial
            case' rzz18 => simp only [Act.put, List.setIfInBounds_toArray, List.set_cons_zero, List.set_cons_succ]
            refine wpAnyH_take (i := 8) (oi := ?ozz19) (v := ?vzz19) ?hzz19 ?azz19 ?bzz19 ?czz19 ?qzz19 ?yzz19 ?szz19 ?rzz19
            case hzz19 => simp only [List.getElem?_toArray, List.getElem?_cons_zero, List.getElem?_cons_succ]; rfl
            case azz19 => kernel_rfl
            case bzz19 => kernel_rfl
            case czz19 => kernel_rfl
            case yzz19 =>
              refine Or.inl ⟨by rfl, ?_⟩
              intro w hSw
              skip
              go_simp
              try with_reducible rfl
            case qzz19 => exact fun _ _ _ h => h
            case szz19 => first | assumption | trivial
            case' rzz19 => simp only [Act.put, List.setIfInBounds_toArray, List.set_cons_zero, List.set_cons_succ]
            refine wpAnyH_take (i := 9) (oi := ?ozz20) (v := ?vzz20) ?hzz20 ?azz20 ?bzz20 ?czz20 ?qzz20 ?yzz20 ?szz20 ?rzz20
            case hzz20 => simp only [List.getElem?_toArray, List.getElem?_cons_zero, List.getElem?_cons_succ]; rfl
            case azz20 => kernel_rfl
            case bzz20 => kernel_rfl
            case czz20 => kernel_rfl
            case yzz20 =>
              refine Or.inl ⟨by rfl, ?_⟩
              intro w hSw
              skip
              go_simp
              try with_reducible rfl
            case qzz20 => exact fun _ _ _ h => h
            case szz20 => first | assumption | trivial
            case' rzz20 => simp only [Act.put, List.setIfInBounds_toArray, List.set_cons_zero, List.set_cons_succ]
            refine wpAnyH_done (by kernel_rfl) ?_ _
            go_wp2
            go_ret
            exact ⟨by first | rfl | (simp; done), BQ.out.trans hHeld⟩
        case' mzz21 => skip
        exact AllReadyH.nil
    · rw [show covers a b = false by unfold covers; simp [h2, h3]]
      obtain ⟨m, lo, hi⟩ := a
      obtain ⟨n, bo, bi⟩ := b
      simp only at h2 h3
      subst h2
      have e1 : (m == 2) = false := by simpa using h3
      have e2 : (m != 2) = true := by simpa using h3
      clear h3
      unfold wnV at *
      go_enter Try.func58, Try.ntmps58
      go_wp2
      go_ret
      exact ⟨rfl, ((Q.refl w).alloc _).alloc _⟩
  · by_cases h3 : b.mode = 1
    · rw [show covers a b = (may b && decide (Sm.part a b = b)) by unfold covers; simp [h2]]
      cases hm : may b with
      | true =>
        rw [Bool.true_and]
        rw [hm] at M
        clear hm
        generalize Sm.part a b = p at P ⊢
        obtain ⟨k, po, pi⟩ := p
        obtain ⟨m, lo, hi⟩ := a
        obtain ⟨n, bo, bi⟩ := b
        simp only at h2 h3
        clear h2
        subst h3
        unfold wnV at *
        go_enter Try.func58, Try.ntmps58
        go_wp2
        have B := wn_boxes w m lo hi 1 bo bi
        generalize (w.alloc (.cells #[.int .i64 m, .string lo, .string hi] 27)).alloc (.cells #[.int .i64 1, .string bo, .string bi] 27) = W at B ⊢
        obtain ⟨⟨c0, c1, c2⟩, ⟨c3, c4, c5⟩, bq⟩ := B
        have BQ := Lib.hid bq
        clear bq
        refine wp_region_held_drew (S := Q W) (by kernel_rfl) ?szz22 (fun hHeld => ?rzz22)
        case szz22 =>
          exact (Q.refl W).drew
        case' rzz22 => skip
        refine wpAnyH_take (i := 0) (oi := ?ozz23) (v := ?vzz23) ?hzz23 ?azz23 ?bzz23 ?czz23 ?qzz23 ?yzz23 ?szz23 ?rzz23
        case hzz23 => simp only [List.getElem?_toArray, List.getElem?_cons_zero]; rfl
        case azz23 => kernel_rfl
        case bzz23 => kernel_rfl
        case czz23 => kernel_rfl
        case yzz23 =>
          refine Or.inl ⟨by rfl, ?_⟩
          intro w hSw
          have x0 := box_ hSw c0; have x1 := box_ hSw c1; have x2 := box_ hSw c2; have x3 := box_ hSw c3; have x4 := box_ hSw c4; have x5 := box_ hSw c5; clear hSw
          go_simp
          try with_reducible rfl
        case qzz23 => exact fun _ _ _ h => h
        case szz23 => first | assumption | trivial
        case' rzz23 => simp only [Act.put, List.setIfInBounds_toArray, List.set_cons_zero, List.set_cons_succ]
        refine wpAnyH_ready (rs := [1]) (by kernel_rfl) (by simp) ?_
        refine AllReadyH.cons (o := ?ozz32) ?hzz32 (fun K hK => ?kzz32) ?mzz32
        case hzz32 => simp only [List.getElem?_toArray, List.getElem?_cons_zero, List.getElem?_cons_succ]; rfl
        case kzz32 =>
          go_simp
          refine (M.out _).mono ?_
          rintro e w1 ⟨rfl, q1⟩
          go_wp2_with fail
          refine hK.out _ _ ?Szz32 (fun hHeld => ?Rzz32)
          case Szz32 =>
            exact hHeld.trans q1
          case Rzz32 =>
            clear hK K
            try simp only [Act.put, List.setIfInBounds_toArray, List.set_cons_zero, List.set_cons_succ]
            refine wpAnyH_take (i := 2) (oi := ?ozz24) (v := ?vzz24) ?hzz24 ?azz24 ?bzz24 ?czz24 ?qzz24 ?yzz24 ?szz24 ?rzz24
            case hzz24 => simp only [List.getElem?_toArray, List.getElem?_cons_zero, List.getElem?_cons_succ]; rfl
            case azz24 => kernel_rfl
            case bzz24 => kernel_rfl
            case czz24 => kernel_rfl
            case yzz24 =>
              refine Or.inl ⟨by rfl, ?_⟩
              intro w hSw
              skip
              go_simp
              try with_reducible rfl
            case qzz24 => exact fun _ _ _ h => h
            case szz24 => first | assumption | trivial
            case' rzz24 => simp only [Act.put, List.setIfInBounds_toArray, List.set_cons_zero, List.set_cons_succ]
            refine wpAnyH_take (i := 3) (oi := ?ozz25) (v := ?vzz25) ?hzz25 ?azz25 ?bzz25 ?czz25 ?qzz25 ?yzz25 ?szz25 ?rzz25
            case hzz25 => simp only [List.getElem?_toArray, List.getElem?_cons_zero, List.getElem?_cons_succ]; rfl
            case azz25 => kernel_rfl
            case bzz25 => kernel_rfl
            case czz25 => kernel_rfl
            case yzz25 =>
              refine Or.inl ⟨by rfl, ?_⟩
              intro w hSw
              have x0 := box_ hSw c0; have x1 := box_ hSw c1; have x2 := box_ hSw c2; have x3 := box_ hSw c3; have x4 := box_ hSw c4; have x5 := box_ hSw c5; clear hSw
              go_simp
              try with_reducible rfl
            case qzz25 => exact fun _ _ _ h => h
            case szz25 => first | assumption | trivial
            case' rzz25 => simp only [Act.put, List.setIfInBounds_toArray, List.set_cons_zero, List.set_cons_succ]
            refine wpAnyH_take (i := 4) (oi := ?ozz26) (v := ?vzz26) ?hzz26 ?azz26 ?bzz26 ?czz26 ?qzz26 ?yzz26 ?szz26 ?rzz26
            case hzz26 => simp only [List.getElem?_toArray, List.getElem?_cons_zero, List.getElem?_cons_succ]; rfl
            case azz26 => kernel_rfl
            case bzz26 => kernel_rfl
            case czz26 => kernel_rfl
            case yzz26 =>
              refine Or.inl ⟨by rfl, ?_⟩
              intro w hSw
              have x0 := box_ hSw c0; have x1 := box_ hSw c1; have x2 := box_ hSw c2; have x3 := box_ hSw c3; have x4 := box_ hSw c4; have x5 := box_ hSw c5; clear hSw
              go_simp
              try with_reducible rfl
            case qzz26 => exact fun _ _ _ h => h
            case szz26 => first | assumption | trivial
            case' rzz26 => simp only [Act.put, List.setIfInBounds_toArray, List.set_cons_zero, List.set_cons_succ]
            refine wpAnyH_take (i := 6) (oi := ?ozz27) (v := ?vzz27) ?hzz27 ?azz27 ?bzz27 ?czz27 ?qzz27 ?yzz27 ?szz27 ?rzz27
            case hzz27 => simp only [List.getElem?_toArray, List.getElem?_cons_zero, List.getElem?_cons_succ]; rfl
            case azz27 => kernel_rfl
            case bzz27 => kernel_rfl
            case czz27 => kernel_rfl
            case yzz27 =>
              refine Or.inl ⟨by rfl, ?_⟩
              intro w hSw
              have x0 := box_ hSw c0; have x1 := box_ hSw c1; have x2 := box_ hSw c2; have x3 := box_ hSw c3; have x4 := box_ hSw c4; have x5 := box_ hSw c5; clear hSw
              go_simp
              try with_reducible rfl
            case qzz27 => exact fun _ _ _ h => h
            case szz27 => first | assumption | trivial
            case' rzz27 => simp only [Act.put, List.setIfInBounds_toArray, List.set_cons_zero, List.set_cons_succ]
            refine wpAnyH_ready (rs := [5]) (by kernel_rfl) (by simp) ?_
            refine AllReadyH.cons (o := ?ozz31) ?hzz31 (fun K hK => ?kzz31) ?mzz31
            case hzz31 => simp only [List.getElem?_toArray, List.getElem?_cons_zero, List.getElem?_cons_succ]; rfl
            case kzz31 =>
              go_simp
              refine (P.out _).mono ?_
              rintro e w2 ⟨rfl, q2⟩
              go_wp2_with fail
              refine hK.out _ _ ?Szz31 (fun hHeld => ?Rzz31)
              case Szz31 =>
                exact hHeld.trans q2
              case Rzz31 =>
                clear hK K
                try simp only [Act.put, List.setIfInBounds_toArray, List.set_cons_zero, List.set_cons_succ]
                refine wpAnyH_take (i := 7) (oi := ?ozz28) (v := ?vzz28) ?hzz28 ?azz28 ?bzz28 ?czz28 ?qzz28 ?yzz28 ?szz28 ?rzz28
                case hzz28 => simp only [List.getElem?_toArray, List.getElem?_cons_zero, List.getElem?_cons_succ]; rfl
                case azz28 => kernel_rfl
                case bzz28 => kernel_rfl
                case czz28 => kernel_rfl
                case yzz28 =>
                  refine Or.inl ⟨by rfl, ?_⟩
                  intro w hSw
                  skip
                  go_simp
                  try with_reducible rfl
                case qzz28 => exact fun _ _ _ h => h
                case szz28 => first | assumption | trivial
                case' rzz28 => simp only [Act.put, List.setIfInBounds_toArray, List.set_cons_zero, List.set_cons_succ]
                refine wpAnyH_take (i := 8) (oi := ?ozz29) (v := ?vzz29) ?hzz29 ?azz29 ?bzz29 ?czz29 ?qzz29 ?yzz29 ?szz29 ?rzz29
                case hzz29 => simp only [List.getElem?_toArray, List.getElem?_cons_zero, List.getElem?_cons_succ]; rfl
                case azz29 => kernel_rfl
                case bzz29 => kernel_rfl
                case czz29 => kernel_rfl
                case yzz29 =>
                  refine Or.inl ⟨by rfl, ?_⟩
                  intro w hSw
                  skip
                  go_simp
                  try with_reducible rfl
                case qzz29 => exact fun _ _ _ h => h
                case szz29 => first | assumption | trivial
                case' rzz29 => simp only [Act.put, List.setIfInBounds_toArray, List.set_cons_zero, List.set_cons_succ]
                refine wpAnyH_take (i := 9) (oi := ?ozz30) (v := ?vzz30) ?hzz30 ?azz30 ?bzz30 ?czz30 ?qzz30 ?yzz30 ?szz30 ?rzz30
                case hzz30 => simp only [List.getElem?_toArray, List.getElem?_cons_zero, List.getElem?_cons_succ]; rfl
                case azz30 => kernel_rfl
                case bzz30 => kernel_rfl
                case czz30 => kernel_rfl
                case yzz30 =>
                  refine Or.inl ⟨by rfl, ?_⟩
                  intro w hSw
                  skip
                  go_simp
                  try with_reducible rfl
                case qzz30 => exact fun _ _ _ h => h
                case szz30 => first | assumption | trivial
                case' rzz30 => simp only [Act.put, List.setIfInBounds_toArray, List.set_cons_zero, List.set_cons_succ]
                refine wpAnyH_done (by kernel_rfl) ?_ _
                go_wp2
                go_ret
                exact ⟨by first | rfl | (simp; done), BQ.out.trans hHeld⟩
            case' mzz31 => skip
            exact AllReadyH.nil
        case' mzz32 => skip
        exact AllReadyH.nil
      | false =>
        rw [Bool.false_and]
        rw [hm] at M
        clear hm
        obtain ⟨m, lo, hi⟩ := a
        obtain ⟨n, bo, bi⟩ := b
        simp only at h2 h3
        clear h2
        subst h3
        unfold wnV at *
        go_enter Try.func58, Try.ntmps58
        go_wp2
        have B := wn_boxes w m lo hi 1 bo bi
        generalize (w.alloc (.cells #[.int .i64 m, .string lo, .string hi] 27)).alloc (.cells #[.int .i64 1, .string bo, .string bi] 27) = W at B ⊢
        obtain ⟨⟨c0, c1, c2⟩, ⟨c3, c4, c5⟩, bq⟩ := B
        have BQ := Lib.hid bq
        clear bq
        refine wp_region_held_drew (S := Q W) (by kernel_rfl) ?szz33 (fun hHeld => ?rzz33)
        case szz33 =>
          exact (Q.refl W).drew
        case' rzz33 => skip
        refine wpAnyH_take (i := 0) (oi := ?ozz34) (v := ?vzz34) ?hzz34 ?azz34 ?bzz34 ?czz34 ?qzz34 ?yzz34 ?szz34 ?rzz34
        case hzz34 => simp only [List.getElem?_toArray, List.getElem?_cons_zero]; rfl
        case azz34 => kernel_rfl
        case bzz34 => kernel_rfl
        case czz34 => kernel_rfl
        case yzz34 =>
          refine Or.inl ⟨by rfl, ?_⟩
          intro w hSw
          have x0 := box_ hSw c0; have x1 := box_ hSw c1; have x2 := box_ hSw c2; have x3 := box_ hSw c3; have x4 := box_ hSw c4; have x5 := box_ hSw c5; clear hSw
          go_simp
          try with_reducible rfl
        case qzz34 => exact fun _ _ _ h => h
        case szz34 => first | assumption | trivial
        case' rzz34 => simp only [Act.put, List.setIfInBounds_toArray, List.set_cons_zero, List.set_cons_succ]
        refine wpAnyH_ready (rs := [1]) (by kernel_rfl) (by simp) ?_
        refine AllReadyH.cons (o := ?ozz43) ?hzz43 (fun K hK => ?kzz43) ?mzz43
        case hzz43 => simp only [List.getElem?_toArray, List.getElem?_cons_zero, List.getElem?_cons_succ]; rfl
        case kzz43 =>
          go_simp
          refine (M.out _).mono ?_
          rintro e w1 ⟨rfl, q1⟩
          go_wp2_with fail
          refine hK.out _ _ ?Szz43 (fun hHeld => ?Rzz43)
          case Szz43 =>
            exact hHeld.trans q1
          case Rzz43 =>
            clear hK K
            try simp only [Act.put, List.setIfInBounds_toArray, List.set_cons_zero, List.set_cons_succ]
            refine wpAnyH_take (i := 2) (oi := ?ozz35) (v := ?vzz35) ?hzz35 ?azz35 ?bzz35 ?czz35 ?qzz35 ?yzz35 ?szz35 ?rzz35
            case hzz35 => simp only [List.getElem?_toArray, List.getElem?_cons_zero, List.getElem?_cons_succ]; rfl
            case azz35 => kernel_rfl
            case bzz35 => kernel_rfl
            case czz35 => kernel_rfl
            case yzz35 =>
              refine Or.inl ⟨by rfl, ?_⟩
              intro w hSw
              skip
              go_simp
              try with_reducible rfl
            case qzz35 => exact fun _ _ _ h => h
            case szz35 => first | assumption | trivial
            case' rzz35 => simp only [Act.put, List.setIfInBounds_toArray, List.set_cons_zero, List.set_cons_succ]
            refine wpAnyH_take (i := 3) (oi := ?ozz36) (v := undef) ?hzz36 ?azz36 ?bzz36 ?czz36 ?qzz36 ?yzz36 ?szz36 ?rzz36
            case hzz36 => simp only [List.getElem?_toArray, List.getElem?_cons_zero, List.getElem?_cons_succ]; rfl
            case azz36 => kernel_rfl
            case bzz36 => kernel_rfl
            case czz36 => kernel_rfl
            case yzz36 => exact Or.inr ⟨by rfl, rfl⟩
            case qzz36 => exact fun _ _ _ h => h
            case szz36 => first | assumption | trivial
            case' rzz36 => simp only [Act.put, List.setIfInBounds_toArray, List.set_cons_zero, List.set_cons_succ]
            refine wpAnyH_take (i := 4) (oi := ?ozz37) (v := undef) ?hzz37 ?azz37 ?bzz37 ?czz37 ?qzz37 ?yzz37 ?szz37 ?rzz37
            case hzz37 => simp only [List.getElem?_toArray, List.getElem?_cons_zero, List.getElem?_cons_succ]; rfl
            case azz37 => kernel_rfl
            case bzz37 => kernel_rfl
            case czz37 => kernel_rfl
            case yzz37 => exact Or.inr ⟨by rfl, rfl⟩
            case qzz37 => exact fun _ _ _ h => h
            case szz37 => first | assumption | trivial
            case' rzz37 => simp only [Act.put, List.setIfInBounds_toArray, List.set_cons_zero, List.set_cons_succ]
            refine wpAnyH_take (i := 5) (oi := ?ozz38) (v := undef) ?hzz38 ?azz38 ?bzz38 ?czz38 ?qzz38 ?yzz38 ?szz38 ?rzz38
            case hzz38 => simp only [List.getElem?_toArray, List.getElem?_cons_zero, List.getElem?_cons_succ]; rfl
            case azz38 => kernel_rfl
            case bzz38 => kernel_rfl
            case czz38 => kernel_rfl
            case yzz38 => exact Or.inr ⟨by rfl, rfl⟩
            case qzz38 => exact fun _ _ _ h => h
            case szz38 => first | assumption | trivial
            case' rzz38 => simp only [Act.put, List.setIfInBounds_toArray, List.set_cons_zero, List.set_cons_succ]
            refine wpAnyH_take (i := 6) (oi := ?ozz39) (v := undef) ?hzz39 ?azz39 ?bzz39 ?czz39 ?qzz39 ?yzz39 ?szz39 ?rzz39
            case hzz39 => simp only [List.getElem?_toArray, List.getElem?_cons_zero, List.getElem?_cons_succ]; rfl
            case azz39 => kernel_rfl
            case bzz39 => kernel_rfl
            case czz39 => kernel_rfl
            case yzz39 => exact Or.inr ⟨by rfl, rfl⟩
            case qzz39 => exact fun _ _ _ h => h
            case szz39 => first | assumption | trivial
            case' rzz39 => simp only [Act.put, List.setIfInBounds_toArray, List.set_cons_zero, List.set_cons_succ]
            refine wpAnyH_take (i := 7) (oi := ?ozz40) (v := undef) ?hzz40 ?azz40 ?bzz40 ?czz40 ?qzz40 ?yzz40 ?szz40 ?rzz40
            case hzz40 => simp only [List.getElem?_toArray, List.getElem?_cons_zero, List.getElem?_cons_succ]; rfl
            case azz40 => kernel_rfl
            case bzz40 => kernel_rfl
            case czz40 => kernel_rfl
            case yzz40 => exact Or.inr ⟨by rfl, rfl⟩
            case qzz40 => exact fun _ _ _ h => h
            case szz40 => first | assumption | trivial
            case' rzz40 => simp only [Act.put, List.setIfInBounds_toArray, List.set_cons_zero, List.set_cons_succ]
            refine wpAnyH_take (i := 8) (oi := ?ozz41) (v := ?vzz41) ?hzz41 ?azz41 ?bzz41 ?czz41 ?qzz41 ?yzz41 ?szz41 ?rzz41
            case hzz41 => simp only [List.getElem?_toArray, List.getElem?_cons_zero, List.getElem?_cons_succ]; rfl
            case azz41 => kernel_rfl
            case bzz41 => kernel_rfl
            case czz41 => kernel_rfl
            case yzz41 =>
              refine Or.inl ⟨by rfl, ?_⟩
              intro w hSw
              skip
              go_simp
              try with_reducible rfl
            case qzz41 => exact fun _ _ _ h => h
            case szz41 => first | assumption | trivial
            case' rzz41 => simp only [Act.put, List.setIfInBounds_toArray, List.set_cons_zero, List.set_cons_succ]
            refine wpAnyH_take (i := 9) (oi := ?ozz42) (v := ?vzz42) ?hzz42 ?azz42 ?bzz42 ?czz42 ?qzz42 ?yzz42 ?szz42 ?rzz42
            case hzz42 => simp only [List.getElem?_toArray, List.getElem?_cons_zero, List.getElem?_cons_succ]; rfl
            case azz42 => kernel_rfl
            case bzz42 => kernel_rfl
            case czz42 => kernel_rfl
            case yzz42 =>
              refine Or.inl ⟨by rfl, ?_⟩
              intro w hSw
              skip
              go_simp
              try with_reducible rfl
            case qzz42 => exact fun _ _ _ h => h
            case szz42 => first | assumption | trivial
            case' rzz42 => simp only [Act.put, List.setIfInBounds_toArray, List.set_cons_zero, List.set_cons_succ]
            refine wpAnyH_done (by kernel_rfl) ?_ _
            go_wp2
            go_ret
            exact ⟨by first | rfl | (simp; done), BQ.out.trans hHeld⟩
        case' mzz43 => skip
        exact AllReadyH.nil
    · rw [show covers a b = false by unfold covers may ok; simp [h2, h3]]
      obtain ⟨m, lo, hi⟩ := a
      obtain ⟨n, bo, bi⟩ := b
      simp only at h2 h3
      have e1 : (n == 2) = false := by simpa using h2
      have e2 : (n == 1) = false := by simpa using h3
      clear h2 h3
      unfold wnV at *
      go_enter Try.func58, Try.ntmps58
      go_wp2
      go_ret
      exact ⟨rfl, ((Q.refl w).alloc _).alloc _⟩
end Go.Proofs.Ytenemdpjhoebpaa
