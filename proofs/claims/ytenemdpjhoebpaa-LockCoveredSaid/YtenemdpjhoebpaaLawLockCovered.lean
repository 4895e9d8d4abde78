/- For every locks, place and span: who asks for what a span of its own covers is told OK, and nothing changes, unless it waits. No condition. -/
import Derived.Test.YtenemdpjhoebpaaLockLaw
namespace Go.Proofs.Ytenemdpjhoebpaa.lockCovered
set_option maxRecDepth 100000
open Go.ChangeShapes Go.WideShapes Go.ChangeAt Go.RowKit Prm Lm Sm
set_option linter.unusedVariables false
set_option linter.unusedSimpArgs false

set_option maxHeartbeats 8000000 in
theorem walk_many (A B : Option Addr) (n c m d : Nat) (l : Lo) (i : Int) (x : Wn) (w : World) (h : LIn w A n c B m d l) (hx : WnS x) (hs : ¬ (n ≤ 200 ∧ m ≤ 40)) :
    Calls Try.prog 8 #[locV A n c B m d, .int .i64 i, wnV x] w fun e w' => e = .returned (.bool true) ∧ Q w w' := by
  have KS := Lib.hid (fun W => lsmall_any A B n c m d W)
  rw [many hs] at KS
  clear h hx hs
  unfold wnV at *
  have HQ := Lib.hid (((Q.refl w).alloc (.cells #[.slice A n c, .slice B m d] 25)).alloc (.cells #[.int .i64 x.mode, .string x.lo, .string x.hi] 27))
  have XL : Hid (Bx ((w.alloc (.cells #[.slice A n c, .slice B m d] 25)).alloc (.cells #[.int .i64 x.mode, .string x.lo, .string x.hi] 27)) w.heap.size [.slice A n c, .slice B m d]) := Lib.hid ((Bx.new w [.slice A n c, .slice B m d] 25).alloc (.cells #[.int .i64 x.mode, .string x.lo, .string x.hi] 27))
  have XW : Hid (Bx ((w.alloc (.cells #[.slice A n c, .slice B m d] 25)).alloc (.cells #[.int .i64 x.mode, .string x.lo, .string x.hi] 27)) (w.heap.size + 1) [.int .i64 x.mode, .string x.lo, .string x.hi]) := Lib.hid (by have := Bx.new (w.alloc (.cells #[.slice A n c, .slice B m d] 25)) [.int .i64 x.mode, .string x.lo, .string x.hi] 27; rwa [show (w.alloc (.cells #[.slice A n c, .slice B m d] 25)).heap.size = w.heap.size + 1 by simp] at this)
  go_enter Try.func8, Try.ntmps8
  go_wp2_with fail
  generalize (w.alloc (.cells #[.slice A n c, .slice B m d] 25)).alloc (.cells #[.int .i64 x.mode, .string x.lo, .string x.hi] 27) = W0 at XL XW HQ ⊢
  generalize w.heap.size + 1 = gW at XW ⊢
  generalize w.heap.size = gL at XL ⊢
  refine (lshown_any _).mono ?_
  rintro e w1 ⟨rfl, q1⟩
  have XL := Lib.hid (XL.out.q q1)
  have XW := Lib.hid (XW.out.q q1)
  have HQ := Lib.hid (HQ.out.trans q1)
  clear q1
  obtain ⟨⟨x0, x1⟩, x2, x3⟩ := XL.out.get2
  go_wp2_with fail
  refine (KS.out _).mono ?_
  rintro e w2 ⟨rfl, q1⟩
  have XL := Lib.hid (XL.out.q q1)
  have XW := Lib.hid (XW.out.q q1)
  have HQ := Lib.hid (HQ.out.trans q1)
  clear q1
  clear x0 x1 x2 x3
  obtain ⟨⟨x0, x1⟩, x2, x3⟩ := XL.out.get2
  obtain ⟨⟨y0, y1, y2⟩, y3, y4, y5⟩ := XW.out.get3
  go_wp2
  refine wp_region_held_drew (S := Q w2) (by kernel_rfl) ?szz0 (fun hHeld => ?rzz0)
  case szz0 =>
    exact (Q.refl w2).drew
  case' rzz0 => skip
  refine wpAnyH_take (i := 0) (oi := ?ozz1) (v := ?vzz1) ?hzz1 ?azz1 ?bzz1 ?czz1 ?qzz1 ?yzz1 ?szz1 ?rzz1
  case hzz1 => simp only [List.getElem?_toArray, List.getElem?_cons_zero]; rfl
  case azz1 => kernel_rfl
  case bzz1 => kernel_rfl
  case czz1 => kernel_rfl
  case yzz1 =>
    refine Or.inl ⟨by rfl, ?_⟩
    intro w hSw
    skip
    go_simp
    try with_reducible rfl
  case qzz1 => exact fun _ _ _ h => h
  case szz1 => first | assumption | trivial
  case' rzz1 => simp only [Act.put, List.setIfInBounds_toArray, List.set_cons_zero, List.set_cons_succ]
  refine wpAnyH_take (i := 1) (oi := ?ozz2) (v := ?vzz2) ?hzz2 ?azz2 ?bzz2 ?czz2 ?qzz2 ?yzz2 ?szz2 ?rzz2
  case hzz2 => simp only [List.getElem?_toArray, List.getElem?_cons_zero, List.getElem?_cons_succ]; rfl
  case azz2 => kernel_rfl
  case bzz2 => kernel_rfl
  case czz2 => kernel_rfl
  case yzz2 =>
    refine Or.inl ⟨by rfl, ?_⟩
    intro w hSw
    skip
    go_simp
    try with_reducible rfl
  case qzz2 => exact fun _ _ _ h => h
  case szz2 => first | assumption | trivial
  case' rzz2 => simp only [Act.put, List.setIfInBounds_toArray, List.set_cons_zero, List.set_cons_succ]
  refine wpAnyH_take (i := 2) (oi := ?ozz3) (v := ?vzz3) ?hzz3 ?azz3 ?bzz3 ?czz3 ?qzz3 ?yzz3 ?szz3 ?rzz3
  case hzz3 => simp only [List.getElem?_toArray, List.getElem?_cons_zero, List.getElem?_cons_succ]; rfl
  case azz3 => kernel_rfl
  case bzz3 => kernel_rfl
  case czz3 => kernel_rfl
  case yzz3 =>
    refine Or.inl ⟨by rfl, ?_⟩
    intro w hSw
    skip
    go_simp
    try with_reducible rfl
  case qzz3 => exact fun _ _ _ h => h
  case szz3 => first | assumption | trivial
  case' rzz3 => simp only [Act.put, List.setIfInBounds_toArray, List.set_cons_zero, List.set_cons_succ]
  refine wpAnyH_take (i := 3) (oi := ?ozz4) (v := ?vzz4) ?hzz4 ?azz4 ?bzz4 ?czz4 ?qzz4 ?yzz4 ?szz4 ?rzz4
  case hzz4 => simp only [List.getElem?_toArray, List.getElem?_cons_zero, List.getElem?_cons_succ]; rfl
  case azz4 => kernel_rfl
  case bzz4 => kernel_rfl
  case czz4 => kernel_rfl
  case yzz4 =>
    refine Or.inl ⟨by rfl, ?_⟩
    intro w hSw
    skip
    go_simp
    try with_reducible rfl
  case qzz4 => exact fun _ _ _ h => h
  case szz4 => first | assumption | trivial
  case' rzz4 => simp only [Act.put, List.setIfInBounds_toArray, List.set_cons_zero, List.set_cons_succ]
  refine wpAnyH_take (i := 4) (oi := ?ozz5) (v := ?vzz5) ?hzz5 ?azz5 ?bzz5 ?czz5 ?qzz5 ?yzz5 ?szz5 ?rzz5
  case hzz5 => simp only [List.getElem?_toArray, List.getElem?_cons_zero, List.getElem?_cons_succ]; rfl
  case azz5 => kernel_rfl
  case bzz5 => kernel_rfl
  case czz5 => kernel_rfl
  case yzz5 =>
    refine Or.inl ⟨by rfl, ?_⟩
    intro w hSw
    skip
    go_simp
    try with_reducible rfl
  case qzz5 => exact fun _ _ _ h => h
  case szz5 => first | assumption | trivial
  case' rzz5 => simp only [Act.put, List.setIfInBounds_toArray, List.set_cons_zero, List.set_cons_succ]
  refine wpAnyH_take (i := 5) (oi := ?ozz6) (v := ?vzz6) ?hzz6 ?azz6 ?bzz6 ?czz6 ?qzz6 ?yzz6 ?szz6 ?rzz6
  case hzz6 => simp only [List.getElem?_toArray, List.getElem?_cons_zero, List.getElem?_cons_succ]; rfl
  case azz6 => kernel_rfl
  case bzz6 => kernel_rfl
  case czz6 => kernel_rfl
  case yzz6 =>
    refine Or.inl ⟨by rfl, ?_⟩
    intro w hSw
    skip
    go_simp
    try with_reducible rfl
  case qzz6 => exact fun _ _ _ h => h
  case szz6 => first | assumption | trivial
  case' rzz6 => simp only [Act.put, List.setIfInBounds_toArray, List.set_cons_zero, List.set_cons_succ]
  refine wpAnyH_take (i := 6) (oi := ?ozz7) (v := ?vzz7) ?hzz7 ?azz7 ?bzz7 ?czz7 ?qzz7 ?yzz7 ?szz7 ?rzz7
  case hzz7 => simp only [List.getElem?_toArray, List.getElem?_cons_zero, List.getElem?_cons_succ]; rfl
  case azz7 => kernel_rfl
  case bzz7 => kernel_rfl
  case czz7 => kernel_rfl
  case yzz7 =>
    refine Or.inl ⟨by rfl, ?_⟩
    intro w hSw
    skip
    go_simp
    try with_reducible rfl
  case qzz7 => exact fun _ _ _ h => h
  case szz7 => first | assumption | trivial
  case' rzz7 => simp only [Act.put, List.setIfInBounds_toArray, List.set_cons_zero, List.set_cons_succ]
  refine wpAnyH_take (i := 7) (oi := ?ozz8) (v := undef) ?hzz8 ?azz8 ?bzz8 ?czz8 ?qzz8 ?yzz8 ?szz8 ?rzz8
  case hzz8 => simp only [List.getElem?_toArray, List.getElem?_cons_zero, List.getElem?_cons_succ]; rfl
  case azz8 => kernel_rfl
  case bzz8 => kernel_rfl
  case czz8 => kernel_rfl
  case yzz8 => exact Or.inr ⟨by rfl, rfl⟩
  case qzz8 => exact fun _ _ _ h => h
  case szz8 => first | assumption | trivial
  case' rzz8 => simp only [Act.put, List.setIfInBounds_toArray, List.set_cons_zero, List.set_cons_succ]
  refine wpAnyH_take (i := 8) (oi := ?ozz9) (v := undef) ?hzz9 ?azz9 ?bzz9 ?czz9 ?qzz9 ?yzz9 ?szz9 ?rzz9
  case hzz9 => simp only [List.getElem?_toArray, List.getElem?_cons_zero, List.getElem?_cons_succ]; rfl
  case azz9 => kernel_rfl
  case bzz9 => kernel_rfl
  case czz9 => kernel_rfl
  case yzz9 => exact Or.inr ⟨by rfl, rfl⟩
  case qzz9 => exact fun _ _ _ h => h
  case szz9 => first | assumption | trivial
  case' rzz9 => simp only [Act.put, List.setIfInBounds_toArray, List.set_cons_zero, List.set_cons_succ]
  refine wpAnyH_take (i := 9) (oi := ?ozz10) (v := ?vzz10) ?hzz10 ?azz10 ?bzz10 ?czz10 ?qzz10 ?yzz10 ?szz10 ?rzz10
  case hzz10 => simp only [List.getElem?_toArray, List.getElem?_cons_zero, List.getElem?_cons_succ]; rfl
  case azz10 => kernel_rfl
  case bzz10 => kernel_rfl
  case czz10 => kernel_rfl
  case yzz10 =>
    refine Or.inl ⟨by rfl, ?_⟩
    intro w hSw
    skip
    go_simp
    try with_reducible rfl
  case qzz10 => exact fun _ _ _ h => h
  case szz10 => first | assumption | trivial
  case' rzz10 => simp only [Act.put, List.setIfInBounds_toArray, List.set_cons_zero, List.set_cons_succ]
  refine wpAnyH_take (i := 10) (oi := ?ozz11) (v := ?vzz11) ?hzz11 ?azz11 ?bzz11 ?czz11 ?qzz11 ?yzz11 ?szz11 ?rzz11
  case hzz11 => simp only [List.getElem?_toArray, List.getElem?_cons_zero, List.getElem?_cons_succ]; rfl
  case azz11 => kernel_rfl
  case bzz11 => kernel_rfl
  case czz11 => kernel_rfl
  case yzz11 =>
    refine Or.inl ⟨by rfl, ?_⟩
    intro w hSw
    skip
    go_simp
    try with_reducible rfl
  case qzz11 => exact fun _ _ _ h => h
  case szz11 => first | assumption | trivial
  case' rzz11 => simp only [Act.put, List.setIfInBounds_toArray, List.set_cons_zero, List.set_cons_succ]
  refine wpAnyH_take (i := 11) (oi := ?ozz12) (v := undef) ?hzz12 ?azz12 ?bzz12 ?czz12 ?qzz12 ?yzz12 ?szz12 ?rzz12
  case hzz12 => simp only [List.getElem?_toArray, List.getElem?_cons_zero, List.getElem?_cons_succ]; rfl
  case azz12 => kernel_rfl
  case bzz12 => kernel_rfl
  case czz12 => kernel_rfl
  case yzz12 => exact Or.inr ⟨by rfl, rfl⟩
  case qzz12 => exact fun _ _ _ h => h
  case szz12 => first | assumption | trivial
  case' rzz12 => simp only [Act.put, List.setIfInBounds_toArray, List.set_cons_zero, List.set_cons_succ]
  refine wpAnyH_take (i := 12) (oi := ?ozz13) (v := undef) ?hzz13 ?azz13 ?bzz13 ?czz13 ?qzz13 ?yzz13 ?szz13 ?rzz13
  case hzz13 => simp only [List.getElem?_toArray, List.getElem?_cons_zero, List.getElem?_cons_succ]; rfl
  case azz13 => kernel_rfl
  case bzz13 => kernel_rfl
  case czz13 => kernel_rfl
  case yzz13 => exact Or.inr ⟨by rfl, rfl⟩
  case qzz13 => exact fun _ _ _ h => h
  case szz13 => first | assumption | trivial
  case' rzz13 => simp only [Act.put, List.setIfInBounds_toArray, List.set_cons_zero, List.set_cons_succ]
  refine wpAnyH_take (i := 13) (oi := ?ozz14) (v := undef) ?hzz14 ?azz14 ?bzz14 ?czz14 ?qzz14 ?yzz14 ?szz14 ?rzz14
  case hzz14 => simp only [List.getElem?_toArray, List.getElem?_cons_zero, List.getElem?_cons_succ]; rfl
  case azz14 => kernel_rfl
  case bzz14 => kernel_rfl
  case czz14 => kernel_rfl
  case yzz14 => exact Or.inr ⟨by rfl, rfl⟩
  case qzz14 => exact fun _ _ _ h => h
  case szz14 => first | assumption | trivial
  case' rzz14 => simp only [Act.put, List.setIfInBounds_toArray, List.set_cons_zero, List.set_cons_succ]
  refine wpAnyH_take (i := 14) (oi := ?ozz15) (v := undef) ?hzz15 ?azz15 ?bzz15 ?czz15 ?qzz15 ?yzz15 ?szz15 ?rzz15
  case hzz15 => simp only [List.getElem?_toArray, List.getElem?_cons_zero, List.getElem?_cons_succ]; rfl
  case azz15 => kernel_rfl
  case bzz15 => kernel_rfl
  case czz15 => kernel_rfl
  case yzz15 => exact Or.inr ⟨by rfl, rfl⟩
  case qzz15 => exact fun _ _ _ h => h
  case szz15 => first | assumption | trivial
  case' rzz15 => simp only [Act.put, List.setIfInBounds_toArray, List.set_cons_zero, List.set_cons_succ]
  refine wpAnyH_take (i := 15) (oi := ?ozz16) (v := undef) ?hzz16 ?azz16 ?bzz16 ?czz16 ?qzz16 ?yzz16 ?szz16 ?rzz16
  case hzz16 => simp only [List.getElem?_toArray, List.getElem?_cons_zero, List.getElem?_cons_succ]; rfl
  case azz16 => kernel_rfl
  case bzz16 => kernel_rfl
  case czz16 => kernel_rfl
  case yzz16 => exact Or.inr ⟨by rfl, rfl⟩
  case qzz16 => exact fun _ _ _ h => h
  case szz16 => first | assumption | trivial
  case' rzz16 => simp only [Act.put, List.setIfInBounds_toArray, List.set_cons_zero, List.set_cons_succ]
  refine wpAnyH_take (i := 16) (oi := ?ozz17) (v := ?vzz17) ?hzz17 ?azz17 ?bzz17 ?czz17 ?qzz17 ?yzz17 ?szz17 ?rzz17
  case hzz17 => simp only [List.getElem?_toArray, List.getElem?_cons_zero, List.getElem?_cons_succ]; rfl
  case azz17 => kernel_rfl
  case bzz17 => kernel_rfl
  case czz17 => kernel_rfl
  case yzz17 =>
    refine Or.inl ⟨by rfl, ?_⟩
    intro w hSw
    skip
    go_simp
    try with_reducible rfl
  case qzz17 => exact fun _ _ _ h => h
  case szz17 => first | assumption | trivial
  case' rzz17 => simp only [Act.put, List.setIfInBounds_toArray, List.set_cons_zero, List.set_cons_succ]
  refine wpAnyH_take (i := 17) (oi := ?ozz18) (v := ?vzz18) ?hzz18 ?azz18 ?bzz18 ?czz18 ?qzz18 ?yzz18 ?szz18 ?rzz18
  case hzz18 => simp only [List.getElem?_toArray, List.getElem?_cons_zero, List.getElem?_cons_succ]; rfl
  case azz18 => kernel_rfl
  case bzz18 => kernel_rfl
  case czz18 => kernel_rfl
  case yzz18 =>
    refine Or.inl ⟨by rfl, ?_⟩
    intro w hSw
    skip
    go_simp
    try with_reducible rfl
  case qzz18 => exact fun _ _ _ h => h
  case szz18 => first | assumption | trivial
  case' rzz18 => simp only [Act.put, List.setIfInBounds_toArray, List.set_cons_zero, List.set_cons_succ]
  refine wpAnyH_take (i := 18) (oi := ?ozz19) (v := undef) ?hzz19 ?azz19 ?bzz19 ?czz19 ?qzz19 ?yzz19 ?szz19 ?rzz19
  case hzz19 => simp only [List.getElem?_toArray, List.getElem?_cons_zero, List.getElem?_cons_succ]; rfl
  case azz19 => kernel_rfl
  case bzz19 => kernel_rfl
  case czz19 => kernel_rfl
  case yzz19 => exact Or.inr ⟨by rfl, rfl⟩
  case qzz19 => exact fun _ _ _ h => h
  case szz19 => first | assumption | trivial
  case' rzz19 => simp only [Act.put, List.setIfInBounds_toArray, List.set_cons_zero, List.set_cons_succ]
  refine wpAnyH_take (i := 19) (oi := ?ozz20) (v := undef) ?hzz20 ?azz20 ?bzz20 ?czz20 ?qzz20 ?yzz20 ?szz20 ?rzz20
  case hzz20 => simp only [List.getElem?_toArray, List.getElem?_cons_zero, List.getElem?_cons_succ]; rfl
  case azz20 => kernel_rfl
  case bzz20 => kernel_rfl
  case czz20 => kernel_rfl
  case yzz20 => exact Or.inr ⟨by rfl, rfl⟩
  case qzz20 => exact fun _ _ _ h => h
  case szz20 => first | assumption | trivial
  case' rzz20 => simp only [Act.put, List.setIfInBounds_toArray, List.set_cons_zero, List.set_cons_succ]
  refine wpAnyH_take (i := 20) (oi := ?ozz21) (v := undef) ?hzz21 ?azz21 ?bzz21 ?czz21 ?qzz21 ?yzz21 ?szz21 ?rzz21
  case hzz21 => simp only [List.getElem?_toArray, List.getElem?_cons_zero, List.getElem?_cons_succ]; rfl
  case azz21 => kernel_rfl
  case bzz21 => kernel_rfl
  case czz21 => kernel_rfl
  case yzz21 => exact Or.inr ⟨by rfl, rfl⟩
  case qzz21 => exact fun _ _ _ h => h
  case szz21 => first | assumption | trivial
  case' rzz21 => simp only [Act.put, List.setIfInBounds_toArray, List.set_cons_zero, List.set_cons_succ]
  refine wpAnyH_take (i := 21) (oi := ?ozz22) (v := undef) ?hzz22 ?azz22 ?bzz22 ?czz22 ?qzz22 ?yzz22 ?szz22 ?rzz22
  case hzz22 => simp only [List.getElem?_toArray, List.getElem?_cons_zero, List.getElem?_cons_succ]; rfl
  case azz22 => kernel_rfl
  case bzz22 => kernel_rfl
  case czz22 => kernel_rfl
  case yzz22 => exact Or.inr ⟨by rfl, rfl⟩
  case qzz22 => exact fun _ _ _ h => h
  case szz22 => first | assumption | trivial
  case' rzz22 => simp only [Act.put, List.setIfInBounds_toArray, List.set_cons_zero, List.set_cons_succ]
  refine wpAnyH_take (i := 22) (oi := ?ozz23) (v := undef) ?hzz23 ?azz23 ?bzz23 ?czz23 ?qzz23 ?yzz23 ?szz23 ?rzz23
  case hzz23 => simp only [List.getElem?_toArray, List.getElem?_cons_zero, List.getElem?_cons_succ]; rfl
  case azz23 => kernel_rfl
  case bzz23 => kernel_rfl
  case czz23 => kernel_rfl
  case yzz23 => exact Or.inr ⟨by rfl, rfl⟩
  case qzz23 => exact fun _ _ _ h => h
  case szz23 => first | assumption | trivial
  case' rzz23 => simp only [Act.put, List.setIfInBounds_toArray, List.set_cons_zero, List.set_cons_succ]
  refine wpAnyH_take (i := 23) (oi := ?ozz24) (v := undef) ?hzz24 ?azz24 ?bzz24 ?czz24 ?qzz24 ?yzz24 ?szz24 ?rzz24
  case hzz24 => simp only [List.getElem?_toArray, List.getElem?_cons_zero, List.getElem?_cons_succ]; rfl
  case azz24 => kernel_rfl
  case bzz24 => kernel_rfl
  case czz24 => kernel_rfl
  case yzz24 => exact Or.inr ⟨by rfl, rfl⟩
  case qzz24 => exact fun _ _ _ h => h
  case szz24 => first | assumption | trivial
  case' rzz24 => simp only [Act.put, List.setIfInBounds_toArray, List.set_cons_zero, List.set_cons_succ]
  refine wpAnyH_take (i := 24) (oi := ?ozz25) (v := undef) ?hzz25 ?azz25 ?bzz25 ?czz25 ?qzz25 ?yzz25 ?szz25 ?rzz25
  case hzz25 => simp only [List.getElem?_toArray, List.getElem?_cons_zero, List.getElem?_cons_succ]; rfl
  case azz25 => kernel_rfl
  case bzz25 => kernel_rfl
  case czz25 => kernel_rfl
  case yzz25 => exact Or.inr ⟨by rfl, rfl⟩
  case qzz25 => exact fun _ _ _ h => h
  case szz25 => first | assumption | trivial
  case' rzz25 => simp only [Act.put, List.setIfInBounds_toArray, List.set_cons_zero, List.set_cons_succ]
  refine wpAnyH_take (i := 25) (oi := ?ozz26) (v := ?vzz26) ?hzz26 ?azz26 ?bzz26 ?czz26 ?qzz26 ?yzz26 ?szz26 ?rzz26
  case hzz26 => simp only [List.getElem?_toArray, List.getElem?_cons_zero, List.getElem?_cons_succ]; rfl
  case azz26 => kernel_rfl
  case bzz26 => kernel_rfl
  case czz26 => kernel_rfl
  case yzz26 =>
    refine Or.inl ⟨by rfl, ?_⟩
    intro w hSw
    skip
    go_simp
    try with_reducible rfl
  case qzz26 => exact fun _ _ _ h => h
  case szz26 => first | assumption | trivial
  case' rzz26 => simp only [Act.put, List.setIfInBounds_toArray, List.set_cons_zero, List.set_cons_succ]
  refine wpAnyH_take (i := 26) (oi := ?ozz27) (v := ?vzz27) ?hzz27 ?azz27 ?bzz27 ?czz27 ?qzz27 ?yzz27 ?szz27 ?rzz27
  case hzz27 => simp only [List.getElem?_toArray, List.getElem?_cons_zero, List.getElem?_cons_succ]; rfl
  case azz27 => kernel_rfl
  case bzz27 => kernel_rfl
  case czz27 => kernel_rfl
  case yzz27 =>
    refine Or.inl ⟨by rfl, ?_⟩
    intro w hSw
    skip
    go_simp
    try with_reducible rfl
  case qzz27 => exact fun _ _ _ h => h
  case szz27 => first | assumption | trivial
  case' rzz27 => simp only [Act.put, List.setIfInBounds_toArray, List.set_cons_zero, List.set_cons_succ]
  refine wpAnyH_take (i := 27) (oi := ?ozz28) (v := undef) ?hzz28 ?azz28 ?bzz28 ?czz28 ?qzz28 ?yzz28 ?szz28 ?rzz28
  case hzz28 => simp only [List.getElem?_toArray, List.getElem?_cons_zero, List.getElem?_cons_succ]; rfl
  case azz28 => kernel_rfl
  case bzz28 => kernel_rfl
  case czz28 => kernel_rfl
  case yzz28 => exact Or.inr ⟨by rfl, rfl⟩
  case qzz28 => exact fun _ _ _ h => h
  case szz28 => first | assumption | trivial
  case' rzz28 => simp only [Act.put, List.setIfInBounds_toArray, List.set_cons_zero, List.set_cons_succ]
  refine wpAnyH_take (i := 28) (oi := ?ozz29) (v := undef) ?hzz29 ?azz29 ?bzz29 ?czz29 ?qzz29 ?yzz29 ?szz29 ?rzz29
  case hzz29 => simp only [List.getElem?_toArray, List.getElem?_cons_zero, List.getElem?_cons_succ]; rfl
  case azz29 => kernel_rfl
  case bzz29 => kernel_rfl
  case czz29 => kernel_rfl
  case yzz29 => exact Or.inr ⟨by rfl, rfl⟩
  case qzz29 => exact fun _ _ _ h => h
  case szz29 => first | assumption | trivial
  case' rzz29 => simp only [Act.put, List.setIfInBounds_toArray, List.set_cons_zero, List.set_cons_succ]
  refine wpAnyH_take (i := 29) (oi := ?ozz30) (v := undef) ?hzz30 ?azz30 ?bzz30 ?czz30 ?qzz30 ?yzz30 ?szz30 ?rzz30
  case hzz30 => simp only [List.getElem?_toArray, List.getElem?_cons_zero, List.getElem?_cons_succ]; rfl
  case azz30 => kernel_rfl
  case bzz30 => kernel_rfl
  case czz30 => kernel_rfl
  case yzz30 => exact Or.inr ⟨by rfl, rfl⟩
  case qzz30 => exact fun _ _ _ h => h
  case szz30 => first | assumption | trivial
  case' rzz30 => simp only [Act.put, List.setIfInBounds_toArray, List.set_cons_zero, List.set_cons_succ]
  refine wpAnyH_take (i := 30) (oi := ?ozz31) (v := undef) ?hzz31 ?azz31 ?bzz31 ?czz31 ?qzz31 ?yzz31 ?szz31 ?rzz31
  case hzz31 => simp only [List.getElem?_toArray, List.getElem?_cons_zero, List.getElem?_cons_succ]; rfl
  case azz31 => kernel_rfl
  case bzz31 => kernel_rfl
  case czz31 => kernel_rfl
  case yzz31 => exact Or.inr ⟨by rfl, rfl⟩
  case qzz31 => exact fun _ _ _ h => h
  case szz31 => first | assumption | trivial
  case' rzz31 => simp only [Act.put, List.setIfInBounds_toArray, List.set_cons_zero, List.set_cons_succ]
  refine wpAnyH_take (i := 31) (oi := ?ozz32) (v := undef) ?hzz32 ?azz32 ?bzz32 ?czz32 ?qzz32 ?yzz32 ?szz32 ?rzz32
  case hzz32 => simp only [List.getElem?_toArray, List.getElem?_cons_zero, List.getElem?_cons_succ]; rfl
  case azz32 => kernel_rfl
  case bzz32 => kernel_rfl
  case czz32 => kernel_rfl
  case yzz32 => exact Or.inr ⟨by rfl, rfl⟩
  case qzz32 => exact fun _ _ _ h => h
  case szz32 => first | assumption | trivial
  case' rzz32 => simp only [Act.put, List.setIfInBounds_toArray, List.set_cons_zero, List.set_cons_succ]
  refine wpAnyH_take (i := 32) (oi := ?ozz33) (v := undef) ?hzz33 ?azz33 ?bzz33 ?czz33 ?qzz33 ?yzz33 ?szz33 ?rzz33
  case hzz33 => simp only [List.getElem?_toArray, List.getElem?_cons_zero, List.getElem?_cons_succ]; rfl
  case azz33 => kernel_rfl
  case bzz33 => kernel_rfl
  case czz33 => kernel_rfl
  case yzz33 => exact Or.inr ⟨by rfl, rfl⟩
  case qzz33 => exact fun _ _ _ h => h
  case szz33 => first | assumption | trivial
  case' rzz33 => simp only [Act.put, List.setIfInBounds_toArray, List.set_cons_zero, List.set_cons_succ]
  refine wpAnyH_take (i := 33) (oi := ?ozz34) (v := undef) ?hzz34 ?azz34 ?bzz34 ?czz34 ?qzz34 ?yzz34 ?szz34 ?rzz34
  case hzz34 => simp only [List.getElem?_toArray, List.getElem?_cons_zero, List.getElem?_cons_succ]; rfl
  case azz34 => kernel_rfl
  case bzz34 => kernel_rfl
  case czz34 => kernel_rfl
  case yzz34 => exact Or.inr ⟨by rfl, rfl⟩
  case qzz34 => exact fun _ _ _ h => h
  case szz34 => first | assumption | trivial
  case' rzz34 => simp only [Act.put, List.setIfInBounds_toArray, List.set_cons_zero, List.set_cons_succ]
  refine wpAnyH_take (i := 34) (oi := ?ozz35) (v := undef) ?hzz35 ?azz35 ?bzz35 ?czz35 ?qzz35 ?yzz35 ?szz35 ?rzz35
  case hzz35 => simp only [List.getElem?_toArray, List.getElem?_cons_zero, List.getElem?_cons_succ]; rfl
  case azz35 => kernel_rfl
  case bzz35 => kernel_rfl
  case czz35 => kernel_rfl
  case yzz35 => exact Or.inr ⟨by rfl, rfl⟩
  case qzz35 => exact fun _ _ _ h => h
  case szz35 => first | assumption | trivial
  case' rzz35 => simp only [Act.put, List.setIfInBounds_toArray, List.set_cons_zero, List.set_cons_succ]
  refine wpAnyH_take (i := 35) (oi := ?ozz36) (v := ?vzz36) ?hzz36 ?azz36 ?bzz36 ?czz36 ?qzz36 ?yzz36 ?szz36 ?rzz36
  case hzz36 => simp only [List.getElem?_toArray, List.getElem?_cons_zero, List.getElem?_cons_succ]; rfl
  case azz36 => kernel_rfl
  case bzz36 => kernel_rfl
  case czz36 => kernel_rfl
  case yzz36 =>
    refine Or.inl ⟨by rfl, ?_⟩
    intro w hSw
    skip
    go_simp
    try with_reducible rfl
  case qzz36 => exact fun _ _ _ h => h
  case szz36 => first | assumption | trivial
  case' rzz36 => simp only [Act.put, List.setIfInBounds_toArray, List.set_cons_zero, List.set_cons_succ]
  refine wpAnyH_done (by kernel_rfl) ?_ _
  have HQ := Lib.hid (HQ.out.trans hHeld)
  go_wp2
  go_ret
  exact ⟨rfl, HQ.out⟩
set_option maxHeartbeats 8000000 in
theorem walk_neg (A B : Option Addr) (n c m d : Nat) (l : Lo) (i : Int) (x : Wn) (w : World) (h : LIn w A n c B m d l) (hx : WnS x) (hs : n ≤ 200 ∧ m ≤ 40) (hi : i < 0) :
    Calls Try.prog 8 #[locV A n c B m d, .int .i64 i, wnV x] w fun e w' => e = .returned (.bool true) ∧ Q w w' := by
  have KS := Lib.hid (fun W => lsmall_any A B n c m d W)
  rw [Go.Proofs.Ytenemdpjhoebpaa.few hs] at KS
  clear h hx hs
  unfold wnV at *
  have HQ := Lib.hid (((Q.refl w).alloc (.cells #[.slice A n c, .slice B m d] 25)).alloc (.cells #[.int .i64 x.mode, .string x.lo, .string x.hi] 27))
  have XL : Hid (Bx ((w.alloc (.cells #[.slice A n c, .slice B m d] 25)).alloc (.cells #[.int .i64 x.mode, .string x.lo, .string x.hi] 27)) w.heap.size [.slice A n c, .slice B m d]) := Lib.hid ((Bx.new w [.slice A n c, .slice B m d] 25).alloc (.cells #[.int .i64 x.mode, .string x.lo, .string x.hi] 27))
  have XW : Hid (Bx ((w.alloc (.cells #[.slice A n c, .slice B m d] 25)).alloc (.cells #[.int .i64 x.mode, .string x.lo, .string x.hi] 27)) (w.heap.size + 1) [.int .i64 x.mode, .string x.lo, .string x.hi]) := Lib.hid (by have := Bx.new (w.alloc (.cells #[.slice A n c, .slice B m d] 25)) [.int .i64 x.mode, .string x.lo, .string x.hi] 27; rwa [show (w.alloc (.cells #[.slice A n c, .slice B m d] 25)).heap.size = w.heap.size + 1 by simp] at this)
  go_enter Try.func8, Try.ntmps8
  go_wp2_with fail
  generalize (w.alloc (.cells #[.slice A n c, .slice B m d] 25)).alloc (.cells #[.int .i64 x.mode, .string x.lo, .string x.hi] 27) = W0 at XL XW HQ ⊢
  generalize w.heap.size + 1 = gW at XW ⊢
  generalize w.heap.size = gL at XL ⊢
  refine (lshown_any _).mono ?_
  rintro e w1 ⟨rfl, q1⟩
  have XL := Lib.hid (XL.out.q q1)
  have XW := Lib.hid (XW.out.q q1)
  have HQ := Lib.hid (HQ.out.trans q1)
  clear q1
  obtain ⟨⟨x0, x1⟩, x2, x3⟩ := XL.out.get2
  go_wp2_with fail
  refine (KS.out _).mono ?_
  rintro e w2 ⟨rfl, q1⟩
  have XL := Lib.hid (XL.out.q q1)
  have XW := Lib.hid (XW.out.q q1)
  have HQ := Lib.hid (HQ.out.trans q1)
  clear q1
  clear x0 x1 x2 x3
  obtain ⟨⟨x0, x1⟩, x2, x3⟩ := XL.out.get2
  obtain ⟨⟨y0, y1, y2⟩, y3, y4, y5⟩ := XW.out.get3
  go_wp2
  refine wp_region_held_drew (S := Q w2) (by kernel_rfl) ?szz37 (fun hHeld => ?rzz37)
  case szz37 =>
    exact (Q.refl w2).drew
  case' rzz37 => skip
  refine wpAnyH_take (i := 0) (oi := ?ozz38) (v := ?vzz38) ?hzz38 ?azz38 ?bzz38 ?czz38 ?qzz38 ?yzz38 ?szz38 ?rzz38
  case hzz38 => simp only [List.getElem?_toArray, List.getElem?_cons_zero]; rfl
  case azz38 => kernel_rfl
  case bzz38 => kernel_rfl
  case czz38 => kernel_rfl
  case yzz38 =>
    refine Or.inl ⟨by rfl, ?_⟩
    intro w hSw
    skip
    go_simp
    try with_reducible rfl
  case qzz38 => exact fun _ _ _ h => h
  case szz38 => first | assumption | trivial
  case' rzz38 => simp only [Act.put, List.setIfInBounds_toArray, List.set_cons_zero, List.set_cons_succ]
  refine wpAnyH_take (i := 1) (oi := ?ozz39) (v := ?vzz39) ?hzz39 ?azz39 ?bzz39 ?czz39 ?qzz39 ?yzz39 ?szz39 ?rzz39
  case hzz39 => simp only [List.getElem?_toArray, List.getElem?_cons_zero, List.getElem?_cons_succ]; rfl
  case azz39 => kernel_rfl
  case bzz39 => kernel_rfl
  case czz39 => kernel_rfl
  case yzz39 =>
    refine Or.inl ⟨by rfl, ?_⟩
    intro w hSw
    skip
    go_simp
    try with_reducible rfl
  case qzz39 => exact fun _ _ _ h => h
  case szz39 => first | assumption | trivial
  case' rzz39 => simp only [Act.put, List.setIfInBounds_toArray, List.set_cons_zero, List.set_cons_succ]
  refine wpAnyH_take (i := 2) (oi := ?ozz40) (v := ?vzz40) ?hzz40 ?azz40 ?bzz40 ?czz40 ?qzz40 ?yzz40 ?szz40 ?rzz40
  case hzz40 => simp only [List.getElem?_toArray, List.getElem?_cons_zero, List.getElem?_cons_succ]; rfl
  case azz40 => kernel_rfl
  case bzz40 => kernel_rfl
  case czz40 => kernel_rfl
  case yzz40 =>
    refine Or.inl ⟨by rfl, ?_⟩
    intro w hSw
    skip
    go_simp
    try with_reducible rfl
  case qzz40 => exact fun _ _ _ h => h
  case szz40 => first | assumption | trivial
  case' rzz40 => simp only [Act.put, List.setIfInBounds_toArray, List.set_cons_zero, List.set_cons_succ]
  refine wpAnyH_take (i := 3) (oi := ?ozz41) (v := ?vzz41) ?hzz41 ?azz41 ?bzz41 ?czz41 ?qzz41 ?yzz41 ?szz41 ?rzz41
  case hzz41 => simp only [List.getElem?_toArray, List.getElem?_cons_zero, List.getElem?_cons_succ]; rfl
  case azz41 => kernel_rfl
  case bzz41 => kernel_rfl
  case czz41 => kernel_rfl
  case yzz41 =>
    refine Or.inl ⟨by rfl, ?_⟩
    intro w hSw
    skip
    go_simp
    try with_reducible rfl
  case qzz41 => exact fun _ _ _ h => h
  case szz41 => first | assumption | trivial
  case' rzz41 => simp only [Act.put, List.setIfInBounds_toArray, List.set_cons_zero, List.set_cons_succ]
  refine wpAnyH_take (i := 4) (oi := ?ozz42) (v := ?vzz42) ?hzz42 ?azz42 ?bzz42 ?czz42 ?qzz42 ?yzz42 ?szz42 ?rzz42
  case hzz42 => simp only [List.getElem?_toArray, List.getElem?_cons_zero, List.getElem?_cons_succ]; rfl
  case azz42 => kernel_rfl
  case bzz42 => kernel_rfl
  case czz42 => kernel_rfl
  case yzz42 =>
    refine Or.inl ⟨by rfl, ?_⟩
    intro w hSw
    skip
    go_simp
    try with_reducible rfl
  case qzz42 => exact fun _ _ _ h => h
  case szz42 => first | assumption | trivial
  case' rzz42 => simp only [Act.put, List.setIfInBounds_toArray, List.set_cons_zero, List.set_cons_succ]
  refine wpAnyH_take (i := 5) (oi := ?ozz43) (v := ?vzz43) ?hzz43 ?azz43 ?bzz43 ?czz43 ?qzz43 ?yzz43 ?szz43 ?rzz43
  case hzz43 => simp only [List.getElem?_toArray, List.getElem?_cons_zero, List.getElem?_cons_succ]; rfl
  case azz43 => kernel_rfl
  case bzz43 => kernel_rfl
  case czz43 => kernel_rfl
  case yzz43 =>
    refine Or.inl ⟨by rfl, ?_⟩
    intro w hSw
    skip
    go_simp
    try with_reducible rfl
  case qzz43 => exact fun _ _ _ h => h
  case szz43 => first | assumption | trivial
  case' rzz43 => simp only [Act.put, List.setIfInBounds_toArray, List.set_cons_zero, List.set_cons_succ]
  refine wpAnyH_take (i := 6) (oi := ?ozz44) (v := ?vzz44) ?hzz44 ?azz44 ?bzz44 ?czz44 ?qzz44 ?yzz44 ?szz44 ?rzz44
  case hzz44 => simp only [List.getElem?_toArray, List.getElem?_cons_zero, List.getElem?_cons_succ]; rfl
  case azz44 => kernel_rfl
  case bzz44 => kernel_rfl
  case czz44 => kernel_rfl
  case yzz44 =>
    refine Or.inl ⟨by rfl, ?_⟩
    intro w hSw
    skip
    go_simp
    try with_reducible rfl
  case qzz44 => exact fun _ _ _ h => h
  case szz44 => first | assumption | trivial
  case' rzz44 => simp only [Act.put, List.setIfInBounds_toArray, List.set_cons_zero, List.set_cons_succ]
  refine wpAnyH_take (i := 7) (oi := ?ozz45) (v := ?vzz45) ?hzz45 ?azz45 ?bzz45 ?czz45 ?qzz45 ?yzz45 ?szz45 ?rzz45
  case hzz45 => simp only [List.getElem?_toArray, List.getElem?_cons_zero, List.getElem?_cons_succ]; rfl
  case azz45 => kernel_rfl
  case bzz45 => kernel_rfl
  case czz45 => kernel_rfl
  case yzz45 =>
    refine Or.inl ⟨by rfl, ?_⟩
    intro w hSw
    skip
    go_simp
    try with_reducible rfl
  case qzz45 => exact fun _ _ _ h => h
  case szz45 => first | assumption | trivial
  case' rzz45 => simp only [Act.put, List.setIfInBounds_toArray, List.set_cons_zero, List.set_cons_succ]
  refine wpAnyH_take (i := 8) (oi := ?ozz46) (v := ?vzz46) ?hzz46 ?azz46 ?bzz46 ?czz46 ?qzz46 ?yzz46 ?szz46 ?rzz46
  case hzz46 => simp only [List.getElem?_toArray, List.getElem?_cons_zero, List.getElem?_cons_succ]; rfl
  case azz46 => kernel_rfl
  case bzz46 => kernel_rfl
  case czz46 => kernel_rfl
  case yzz46 =>
    refine Or.inl ⟨by rfl, ?_⟩
    intro w hSw
    skip
    go_simp
    try with_reducible rfl
  case qzz46 => exact fun _ _ _ h => h
  case szz46 => first | assumption | trivial
  case' rzz46 => simp only [Act.put, List.setIfInBounds_toArray, List.set_cons_zero, List.set_cons_succ]
  refine wpAnyH_take (i := 9) (oi := ?ozz47) (v := ?vzz47) ?hzz47 ?azz47 ?bzz47 ?czz47 ?qzz47 ?yzz47 ?szz47 ?rzz47
  case hzz47 => simp only [List.getElem?_toArray, List.getElem?_cons_zero, List.getElem?_cons_succ]; rfl
  case azz47 => kernel_rfl
  case bzz47 => kernel_rfl
  case czz47 => kernel_rfl
  case yzz47 =>
    refine Or.inl ⟨by rfl, ?_⟩
    intro w hSw
    skip
    go_simp
    try with_reducible rfl
  case qzz47 => exact fun _ _ _ h => h
  case szz47 => first | assumption | trivial
  case' rzz47 => simp only [Act.put, List.setIfInBounds_toArray, List.set_cons_zero, List.set_cons_succ]
  refine wpAnyH_take (i := 10) (oi := ?ozz48) (v := ?vzz48) ?hzz48 ?azz48 ?bzz48 ?czz48 ?qzz48 ?yzz48 ?szz48 ?rzz48
  case hzz48 => simp only [List.getElem?_toArray, List.getElem?_cons_zero, List.getElem?_cons_succ]; rfl
  case azz48 => kernel_rfl
  case bzz48 => kernel_rfl
  case czz48 => kernel_rfl
  case yzz48 =>
    refine Or.inl ⟨by rfl, ?_⟩
    intro w hSw
    skip
    go_simp
    try with_reducible rfl
  case qzz48 => exact fun _ _ _ h => h
  case szz48 => first | assumption | trivial
  case' rzz48 => simp only [Act.put, List.setIfInBounds_toArray, List.set_cons_zero, List.set_cons_succ]
  refine wpAnyH_take (i := 11) (oi := ?ozz49) (v := undef) ?hzz49 ?azz49 ?bzz49 ?czz49 ?qzz49 ?yzz49 ?szz49 ?rzz49
  case hzz49 => simp only [List.getElem?_toArray, List.getElem?_cons_zero, List.getElem?_cons_succ]; rfl
  case azz49 => kernel_rfl
  case bzz49 => kernel_rfl
  case czz49 => kernel_rfl
  case yzz49 => exact Or.inr ⟨by rfl, rfl⟩
  case qzz49 => exact fun _ _ _ h => h
  case szz49 => first | assumption | trivial
  case' rzz49 => simp only [Act.put, List.setIfInBounds_toArray, List.set_cons_zero, List.set_cons_succ]
  refine wpAnyH_take (i := 12) (oi := ?ozz50) (v := undef) ?hzz50 ?azz50 ?bzz50 ?czz50 ?qzz50 ?yzz50 ?szz50 ?rzz50
  case hzz50 => simp only [List.getElem?_toArray, List.getElem?_cons_zero, List.getElem?_cons_succ]; rfl
  case azz50 => kernel_rfl
  case bzz50 => kernel_rfl
  case czz50 => kernel_rfl
  case yzz50 => exact Or.inr ⟨by rfl, rfl⟩
  case qzz50 => exact fun _ _ _ h => h
  case szz50 => first | assumption | trivial
  case' rzz50 => simp only [Act.put, List.setIfInBounds_toArray, List.set_cons_zero, List.set_cons_succ]
  refine wpAnyH_take (i := 13) (oi := ?ozz51) (v := undef) ?hzz51 ?azz51 ?bzz51 ?czz51 ?qzz51 ?yzz51 ?szz51 ?rzz51
  case hzz51 => simp only [List.getElem?_toArray, List.getElem?_cons_zero, List.getElem?_cons_succ]; rfl
  case azz51 => kernel_rfl
  case bzz51 => kernel_rfl
  case czz51 => kernel_rfl
  case yzz51 => exact Or.inr ⟨by rfl, rfl⟩
  case qzz51 => exact fun _ _ _ h => h
  case szz51 => first | assumption | trivial
  case' rzz51 => simp only [Act.put, List.setIfInBounds_toArray, List.set_cons_zero, List.set_cons_succ]
  refine wpAnyH_take (i := 14) (oi := ?ozz52) (v := undef) ?hzz52 ?azz52 ?bzz52 ?czz52 ?qzz52 ?yzz52 ?szz52 ?rzz52
  case hzz52 => simp only [List.getElem?_toArray, List.getElem?_cons_zero, List.getElem?_cons_succ]; rfl
  case azz52 => kernel_rfl
  case bzz52 => kernel_rfl
  case czz52 => kernel_rfl
  case yzz52 => exact Or.inr ⟨by rfl, rfl⟩
  case qzz52 => exact fun _ _ _ h => h
  case szz52 => first | assumption | trivial
  case' rzz52 => simp only [Act.put, List.setIfInBounds_toArray, List.set_cons_zero, List.set_cons_succ]
  refine wpAnyH_take (i := 15) (oi := ?ozz53) (v := undef) ?hzz53 ?azz53 ?bzz53 ?czz53 ?qzz53 ?yzz53 ?szz53 ?rzz53
  case hzz53 => simp only [List.getElem?_toArray, List.getElem?_cons_zero, List.getElem?_cons_succ]; rfl
  case azz53 => kernel_rfl
  case bzz53 => kernel_rfl
  case czz53 => kernel_rfl
  case yzz53 => exact Or.inr ⟨by rfl, rfl⟩
  case qzz53 => exact fun _ _ _ h => h
  case szz53 => first | assumption | trivial
  case' rzz53 => simp only [Act.put, List.setIfInBounds_toArray, List.set_cons_zero, List.set_cons_succ]
  refine wpAnyH_take (i := 16) (oi := ?ozz54) (v := ?vzz54) ?hzz54 ?azz54 ?bzz54 ?czz54 ?qzz54 ?yzz54 ?szz54 ?rzz54
  case hzz54 => simp only [List.getElem?_toArray, List.getElem?_cons_zero, List.getElem?_cons_succ]; rfl
  case azz54 => kernel_rfl
  case bzz54 => kernel_rfl
  case czz54 => kernel_rfl
  case yzz54 =>
    refine Or.inl ⟨by rfl, ?_⟩
    intro w hSw
    skip
    go_simp
    try with_reducible rfl
  case qzz54 => exact fun _ _ _ h => h
  case szz54 => first | assumption | trivial
  case' rzz54 => simp only [Act.put, List.setIfInBounds_toArray, List.set_cons_zero, List.set_cons_succ]
  refine wpAnyH_take (i := 17) (oi := ?ozz55) (v := ?vzz55) ?hzz55 ?azz55 ?bzz55 ?czz55 ?qzz55 ?yzz55 ?szz55 ?rzz55
  case hzz55 => simp only [List.getElem?_toArray, List.getElem?_cons_zero, List.getElem?_cons_succ]; rfl
  case azz55 => kernel_rfl
  case bzz55 => kernel_rfl
  case czz55 => kernel_rfl
  case yzz55 =>
    refine Or.inl ⟨by rfl, ?_⟩
    intro w hSw
    skip
    go_simp
    try with_reducible rfl
  case qzz55 => exact fun _ _ _ h => h
  case szz55 => first | assumption | trivial
  case' rzz55 => simp only [Act.put, List.setIfInBounds_toArray, List.set_cons_zero, List.set_cons_succ]
  refine wpAnyH_take (i := 18) (oi := ?ozz56) (v := undef) ?hzz56 ?azz56 ?bzz56 ?czz56 ?qzz56 ?yzz56 ?szz56 ?rzz56
  case hzz56 => simp only [List.getElem?_toArray, List.getElem?_cons_zero, List.getElem?_cons_succ]; rfl
  case azz56 => kernel_rfl
  case bzz56 => kernel_rfl
  case czz56 => kernel_rfl
  case yzz56 => exact Or.inr ⟨by rfl, rfl⟩
  case qzz56 => exact fun _ _ _ h => h
  case szz56 => first | assumption | trivial
  case' rzz56 => simp only [Act.put, List.setIfInBounds_toArray, List.set_cons_zero, List.set_cons_succ]
  refine wpAnyH_take (i := 19) (oi := ?ozz57) (v := undef) ?hzz57 ?azz57 ?bzz57 ?czz57 ?qzz57 ?yzz57 ?szz57 ?rzz57
  case hzz57 => simp only [List.getElem?_toArray, List.getElem?_cons_zero, List.getElem?_cons_succ]; rfl
  case azz57 => kernel_rfl
  case bzz57 => kernel_rfl
  case czz57 => kernel_rfl
  case yzz57 => exact Or.inr ⟨by rfl, rfl⟩
  case qzz57 => exact fun _ _ _ h => h
  case szz57 => first | assumption | trivial
  case' rzz57 => simp only [Act.put, List.setIfInBounds_toArray, List.set_cons_zero, List.set_cons_succ]
  refine wpAnyH_take (i := 20) (oi := ?ozz58) (v := undef) ?hzz58 ?azz58 ?bzz58 ?czz58 ?qzz58 ?yzz58 ?szz58 ?rzz58
  case hzz58 => simp only [List.getElem?_toArray, List.getElem?_cons_zero, List.getElem?_cons_succ]; rfl
  case azz58 => kernel_rfl
  case bzz58 => kernel_rfl
  case czz58 => kernel_rfl
  case yzz58 => exact Or.inr ⟨by rfl, rfl⟩
  case qzz58 => exact fun _ _ _ h => h
  case szz58 => first | assumption | trivial
  case' rzz58 => simp only [Act.put, List.setIfInBounds_toArray, List.set_cons_zero, List.set_cons_succ]
  refine wpAnyH_take (i := 21) (oi := ?ozz59) (v := undef) ?hzz59 ?azz59 ?bzz59 ?czz59 ?qzz59 ?yzz59 ?szz59 ?rzz59
  case hzz59 => simp only [List.getElem?_toArray, List.getElem?_cons_zero, List.getElem?_cons_succ]; rfl
  case azz59 => kernel_rfl
  case bzz59 => kernel_rfl
  case czz59 => kernel_rfl
  case yzz59 => exact Or.inr ⟨by rfl, rfl⟩
  case qzz59 => exact fun _ _ _ h => h
  case szz59 => first | assumption | trivial
  case' rzz59 => simp only [Act.put, List.setIfInBounds_toArray, List.set_cons_zero, List.set_cons_succ]
  refine wpAnyH_take (i := 22) (oi := ?ozz60) (v := undef) ?hzz60 ?azz60 ?bzz60 ?czz60 ?qzz60 ?yzz60 ?szz60 ?rzz60
  case hzz60 => simp only [List.getElem?_toArray, List.getElem?_cons_zero, List.getElem?_cons_succ]; rfl
  case azz60 => kernel_rfl
  case bzz60 => kernel_rfl
  case czz60 => kernel_rfl
  case yzz60 => exact Or.inr ⟨by rfl, rfl⟩
  case qzz60 => exact fun _ _ _ h => h
  case szz60 => first | assumption | trivial
  case' rzz60 => simp only [Act.put, List.setIfInBounds_toArray, List.set_cons_zero, List.set_cons_succ]
  refine wpAnyH_take (i := 23) (oi := ?ozz61) (v := undef) ?hzz61 ?azz61 ?bzz61 ?czz61 ?qzz61 ?yzz61 ?szz61 ?rzz61
  case hzz61 => simp only [List.getElem?_toArray, List.getElem?_cons_zero, List.getElem?_cons_succ]; rfl
  case azz61 => kernel_rfl
  case bzz61 => kernel_rfl
  case czz61 => kernel_rfl
  case yzz61 => exact Or.inr ⟨by rfl, rfl⟩
  case qzz61 => exact fun _ _ _ h => h
  case szz61 => first | assumption | trivial
  case' rzz61 => simp only [Act.put, List.setIfInBounds_toArray, List.set_cons_zero, List.set_cons_succ]
  refine wpAnyH_take (i := 24) (oi := ?ozz62) (v := undef) ?hzz62 ?azz62 ?bzz62 ?czz62 ?qzz62 ?yzz62 ?szz62 ?rzz62
  case hzz62 => simp only [List.getElem?_toArray, List.getElem?_cons_zero, List.getElem?_cons_succ]; rfl
  case azz62 => kernel_rfl
  case bzz62 => kernel_rfl
  case czz62 => kernel_rfl
  case yzz62 => exact Or.inr ⟨by rfl, rfl⟩
  case qzz62 => exact fun _ _ _ h => h
  case szz62 => first | assumption | trivial
  case' rzz62 => simp only [Act.put, List.setIfInBounds_toArray, List.set_cons_zero, List.set_cons_succ]
  refine wpAnyH_take (i := 25) (oi := ?ozz63) (v := ?vzz63) ?hzz63 ?azz63 ?bzz63 ?czz63 ?qzz63 ?yzz63 ?szz63 ?rzz63
  case hzz63 => simp only [List.getElem?_toArray, List.getElem?_cons_zero, List.getElem?_cons_succ]; rfl
  case azz63 => kernel_rfl
  case bzz63 => kernel_rfl
  case czz63 => kernel_rfl
  case yzz63 =>
    refine Or.inl ⟨by rfl, ?_⟩
    intro w hSw
    skip
    go_simp
    try with_reducible rfl
  case qzz63 => exact fun _ _ _ h => h
  case szz63 => first | assumption | trivial
  case' rzz63 => simp only [Act.put, List.setIfInBounds_toArray, List.set_cons_zero, List.set_cons_succ]
  refine wpAnyH_take (i := 26) (oi := ?ozz64) (v := ?vzz64) ?hzz64 ?azz64 ?bzz64 ?czz64 ?qzz64 ?yzz64 ?szz64 ?rzz64
  case hzz64 => simp only [List.getElem?_toArray, List.getElem?_cons_zero, List.getElem?_cons_succ]; rfl
  case azz64 => kernel_rfl
  case bzz64 => kernel_rfl
  case czz64 => kernel_rfl
  case yzz64 =>
    refine Or.inl ⟨by rfl, ?_⟩
    intro w hSw
    skip
    go_simp
    try with_reducible rfl
  case qzz64 => exact fun _ _ _ h => h
  case szz64 => first | assumption | trivial
  case' rzz64 => simp only [Act.put, List.setIfInBounds_toArray, List.set_cons_zero, List.set_cons_succ]
  refine wpAnyH_take (i := 27) (oi := ?ozz65) (v := undef) ?hzz65 ?azz65 ?bzz65 ?czz65 ?qzz65 ?yzz65 ?szz65 ?rzz65
  case hzz65 => simp only [List.getElem?_toArray, List.getElem?_cons_zero, List.getElem?_cons_succ]; rfl
  case azz65 => kernel_rfl
  case bzz65 => kernel_rfl
  case czz65 => kernel_rfl
  case yzz65 => exact Or.inr ⟨by rfl, rfl⟩
  case qzz65 => exact fun _ _ _ h => h
  case szz65 => first | assumption | trivial
  case' rzz65 => simp only [Act.put, List.setIfInBounds_toArray, List.set_cons_zero, List.set_cons_succ]
  refine wpAnyH_take (i := 28) (oi := ?ozz66) (v := undef) ?hzz66 ?azz66 ?bzz66 ?czz66 ?qzz66 ?yzz66 ?szz66 ?rzz66
  case hzz66 => simp only [List.getElem?_toArray, List.getElem?_cons_zero, List.getElem?_cons_succ]; rfl
  case azz66 => kernel_rfl
  case bzz66 => kernel_rfl
  case czz66 => kernel_rfl
  case yzz66 => exact Or.inr ⟨by rfl, rfl⟩
  case qzz66 => exact fun _ _ _ h => h
  case szz66 => first | assumption | trivial
  case' rzz66 => simp only [Act.put, List.setIfInBounds_toArray, List.set_cons_zero, List.set_cons_succ]
  refine wpAnyH_take (i := 29) (oi := ?ozz67) (v := undef) ?hzz67 ?azz67 ?bzz67 ?czz67 ?qzz67 ?yzz67 ?szz67 ?rzz67
  case hzz67 => simp only [List.getElem?_toArray, List.getElem?_cons_zero, List.getElem?_cons_succ]; rfl
  case azz67 => kernel_rfl
  case bzz67 => kernel_rfl
  case czz67 => kernel_rfl
  case yzz67 => exact Or.inr ⟨by rfl, rfl⟩
  case qzz67 => exact fun _ _ _ h => h
  case szz67 => first | assumption | trivial
  case' rzz67 => simp only [Act.put, List.setIfInBounds_toArray, List.set_cons_zero, List.set_cons_succ]
  refine wpAnyH_take (i := 30) (oi := ?ozz68) (v := undef) ?hzz68 ?azz68 ?bzz68 ?czz68 ?qzz68 ?yzz68 ?szz68 ?rzz68
  case hzz68 => simp only [List.getElem?_toArray, List.getElem?_cons_zero, List.getElem?_cons_succ]; rfl
  case azz68 => kernel_rfl
  case bzz68 => kernel_rfl
  case czz68 => kernel_rfl
  case yzz68 => exact Or.inr ⟨by rfl, rfl⟩
  case qzz68 => exact fun _ _ _ h => h
  case szz68 => first | assumption | trivial
  case' rzz68 => simp only [Act.put, List.setIfInBounds_toArray, List.set_cons_zero, List.set_cons_succ]
  refine wpAnyH_take (i := 31) (oi := ?ozz69) (v := undef) ?hzz69 ?azz69 ?bzz69 ?czz69 ?qzz69 ?yzz69 ?szz69 ?rzz69
  case hzz69 => simp only [List.getElem?_toArray, List.getElem?_cons_zero, List.getElem?_cons_succ]; rfl
  case azz69 => kernel_rfl
  case bzz69 => kernel_rfl
  case czz69 => kernel_rfl
  case yzz69 => exact Or.inr ⟨by rfl, rfl⟩
  case qzz69 => exact fun _ _ _ h => h
  case szz69 => first | assumption | trivial
  case' rzz69 => simp only [Act.put, List.setIfInBounds_toArray, List.set_cons_zero, List.set_cons_succ]
  refine wpAnyH_take (i := 32) (oi := ?ozz70) (v := undef) ?hzz70 ?azz70 ?bzz70 ?czz70 ?qzz70 ?yzz70 ?szz70 ?rzz70
  case hzz70 => simp only [List.getElem?_toArray, List.getElem?_cons_zero, List.getElem?_cons_succ]; rfl
  case azz70 => kernel_rfl
  case bzz70 => kernel_rfl
  case czz70 => kernel_rfl
  case yzz70 => exact Or.inr ⟨by rfl, rfl⟩
  case qzz70 => exact fun _ _ _ h => h
  case szz70 => first | assumption | trivial
  case' rzz70 => simp only [Act.put, List.setIfInBounds_toArray, List.set_cons_zero, List.set_cons_succ]
  refine wpAnyH_take (i := 33) (oi := ?ozz71) (v := undef) ?hzz71 ?azz71 ?bzz71 ?czz71 ?qzz71 ?yzz71 ?szz71 ?rzz71
  case hzz71 => simp only [List.getElem?_toArray, List.getElem?_cons_zero, List.getElem?_cons_succ]; rfl
  case azz71 => kernel_rfl
  case bzz71 => kernel_rfl
  case czz71 => kernel_rfl
  case yzz71 => exact Or.inr ⟨by rfl, rfl⟩
  case qzz71 => exact fun _ _ _ h => h
  case szz71 => first | assumption | trivial
  case' rzz71 => simp only [Act.put, List.setIfInBounds_toArray, List.set_cons_zero, List.set_cons_succ]
  refine wpAnyH_take (i := 34) (oi := ?ozz72) (v := undef) ?hzz72 ?azz72 ?bzz72 ?czz72 ?qzz72 ?yzz72 ?szz72 ?rzz72
  case hzz72 => simp only [List.getElem?_toArray, List.getElem?_cons_zero, List.getElem?_cons_succ]; rfl
  case azz72 => kernel_rfl
  case bzz72 => kernel_rfl
  case czz72 => kernel_rfl
  case yzz72 => exact Or.inr ⟨by rfl, rfl⟩
  case qzz72 => exact fun _ _ _ h => h
  case szz72 => first | assumption | trivial
  case' rzz72 => simp only [Act.put, List.setIfInBounds_toArray, List.set_cons_zero, List.set_cons_succ]
  refine wpAnyH_take (i := 35) (oi := ?ozz73) (v := ?vzz73) ?hzz73 ?azz73 ?bzz73 ?czz73 ?qzz73 ?yzz73 ?szz73 ?rzz73
  case hzz73 => simp only [List.getElem?_toArray, List.getElem?_cons_zero, List.getElem?_cons_succ]; rfl
  case azz73 => kernel_rfl
  case bzz73 => kernel_rfl
  case czz73 => kernel_rfl
  case yzz73 =>
    refine Or.inl ⟨by rfl, ?_⟩
    intro w hSw
    skip
    go_simp
    try with_reducible rfl
  case qzz73 => exact fun _ _ _ h => h
  case szz73 => first | assumption | trivial
  case' rzz73 => simp only [Act.put, List.setIfInBounds_toArray, List.set_cons_zero, List.set_cons_succ]
  refine wpAnyH_done (by kernel_rfl) ?_ _
  have HQ := Lib.hid (HQ.out.trans hHeld)
  go_wp2
  go_ret
  exact ⟨rfl, HQ.out⟩
set_option maxHeartbeats 8000000 in
theorem walk_far (A B : Option Addr) (n c m d : Nat) (l : Lo) (i : Int) (x : Wn) (w : World) (h : LIn w A n c B m d l) (hx : WnS x) (hs : n ≤ 200 ∧ m ≤ 40) (hi : (n : Int) ≤ i) :
    Calls Try.prog 8 #[locV A n c B m d, .int .i64 i, wnV x] w fun e w' => e = .returned (.bool true) ∧ Q w w' := by
  have KS := Lib.hid (fun W => lsmall_any A B n c m d W)
  rw [Go.Proofs.Ytenemdpjhoebpaa.few hs] at KS
  have hi0 : ¬ i < 0 := by omega
  have d0 : decide (i < 0) = false := decide_eq_false hi0
  have d1 : decide ((n : Int) ≤ i) = true := decide_eq_true hi
  clear h hx hs
  unfold wnV at *
  have HQ := Lib.hid (((Q.refl w).alloc (.cells #[.slice A n c, .slice B m d] 25)).alloc (.cells #[.int .i64 x.mode, .string x.lo, .string x.hi] 27))
  have XL : Hid (Bx ((w.alloc (.cells #[.slice A n c, .slice B m d] 25)).alloc (.cells #[.int .i64 x.mode, .string x.lo, .string x.hi] 27)) w.heap.size [.slice A n c, .slice B m d]) := Lib.hid ((Bx.new w [.slice A n c, .slice B m d] 25).alloc (.cells #[.int .i64 x.mode, .string x.lo, .string x.hi] 27))
  have XW : Hid (Bx ((w.alloc (.cells #[.slice A n c, .slice B m d] 25)).alloc (.cells #[.int .i64 x.mode, .string x.lo, .string x.hi] 27)) (w.heap.size + 1) [.int .i64 x.mode, .string x.lo, .string x.hi]) := Lib.hid (by have := Bx.new (w.alloc (.cells #[.slice A n c, .slice B m d] 25)) [.int .i64 x.mode, .string x.lo, .string x.hi] 27; rwa [show (w.alloc (.cells #[.slice A n c, .slice B m d] 25)).heap.size = w.heap.size + 1 by simp] at this)
  go_enter Try.func8, Try.ntmps8
  go_wp2_with fail
  generalize (w.alloc (.cells #[.slice A n c, .slice B m d] 25)).alloc (.cells #[.int .i64 x.mode, .string x.lo, .string x.hi] 27) = W0 at XL XW HQ ⊢
  generalize w.heap.size + 1 = gW at XW ⊢
  generalize w.heap.size = gL at XL ⊢
  refine (lshown_any _).mono ?_
  rintro e w1 ⟨rfl, q1⟩
  have XL := Lib.hid (XL.out.q q1)
  have XW := Lib.hid (XW.out.q q1)
  have HQ := Lib.hid (HQ.out.trans q1)
  clear q1
  obtain ⟨⟨x0, x1⟩, x2, x3⟩ := XL.out.get2
  go_wp2_with fail
  refine (KS.out _).mono ?_
  rintro e w2 ⟨rfl, q1⟩
  have XL := Lib.hid (XL.out.q q1)
  have XW := Lib.hid (XW.out.q q1)
  have HQ := Lib.hid (HQ.out.trans q1)
  clear q1
  clear x0 x1 x2 x3
  obtain ⟨⟨x0, x1⟩, x2, x3⟩ := XL.out.get2
  obtain ⟨⟨y0, y1, y2⟩, y3, y4, y5⟩ := XW.out.get3
  go_wp2
  refine wp_region_held_drew (S := Q w2) (by kernel_rfl) ?szz74 (fun hHeld => ?rzz74)
  case szz74 =>
    exact (Q.refl w2).drew
  case' rzz74 => skip
  refine wpAnyH_take (i := 0) (oi := ?ozz75) (v := ?vzz75) ?hzz75 ?azz75 ?bzz75 ?czz75 ?qzz75 ?yzz75 ?szz75 ?rzz75
  case hzz75 => simp only [List.getElem?_toArray, List.getElem?_cons_zero]; rfl
  case azz75 => kernel_rfl
  case bzz75 => kernel_rfl
  case czz75 => kernel_rfl
  case yzz75 =>
    refine Or.inl ⟨by rfl, ?_⟩
    intro w hSw
    skip
    go_simp
    try with_reducible rfl
  case qzz75 => exact fun _ _ _ h => h
  case szz75 => first | assumption | trivial
  case' rzz75 => simp only [Act.put, List.setIfInBounds_toArray, List.set_cons_zero, List.set_cons_succ]
  refine wpAnyH_take (i := 1) (oi := ?ozz76) (v := ?vzz76) ?hzz76 ?azz76 ?bzz76 ?czz76 ?qzz76 ?yzz76 ?szz76 ?rzz76
  case hzz76 => simp only [List.getElem?_toArray, List.getElem?_cons_zero, List.getElem?_cons_succ]; rfl
  case azz76 => kernel_rfl
  case bzz76 => kernel_rfl
  case czz76 => kernel_rfl
  case yzz76 =>
    refine Or.inl ⟨by rfl, ?_⟩
    intro w hSw
    skip
    go_simp
    try with_reducible rfl
  case qzz76 => exact fun _ _ _ h => h
  case szz76 => first | assumption | trivial
  case' rzz76 => simp only [Act.put, List.setIfInBounds_toArray, List.set_cons_zero, List.set_cons_succ]
  refine wpAnyH_take (i := 2) (oi := ?ozz77) (v := ?vzz77) ?hzz77 ?azz77 ?bzz77 ?czz77 ?qzz77 ?yzz77 ?szz77 ?rzz77
  case hzz77 => simp only [List.getElem?_toArray, List.getElem?_cons_zero, List.getElem?_cons_succ]; rfl
  case azz77 => kernel_rfl
  case bzz77 => kernel_rfl
  case czz77 => kernel_rfl
  case yzz77 =>
    refine Or.inl ⟨by rfl, ?_⟩
    intro w hSw
    skip
    go_simp
    try with_reducible rfl
  case qzz77 => exact fun _ _ _ h => h
  case szz77 => first | assumption | trivial
  case' rzz77 => simp only [Act.put, List.setIfInBounds_toArray, List.set_cons_zero, List.set_cons_succ]
  refine wpAnyH_take (i := 3) (oi := ?ozz78) (v := ?vzz78) ?hzz78 ?azz78 ?bzz78 ?czz78 ?qzz78 ?yzz78 ?szz78 ?rzz78
  case hzz78 => simp only [List.getElem?_toArray, List.getElem?_cons_zero, List.getElem?_cons_succ]; rfl
  case azz78 => kernel_rfl
  case bzz78 => kernel_rfl
  case czz78 => kernel_rfl
  case yzz78 =>
    refine Or.inl ⟨by rfl, ?_⟩
    intro w hSw
    skip
    go_simp
    try with_reducible rfl
  case qzz78 => exact fun _ _ _ h => h
  case szz78 => first | assumption | trivial
  case' rzz78 => simp only [Act.put, List.setIfInBounds_toArray, List.set_cons_zero, List.set_cons_succ]
  refine wpAnyH_take (i := 4) (oi := ?ozz79) (v := ?vzz79) ?hzz79 ?azz79 ?bzz79 ?czz79 ?qzz79 ?yzz79 ?szz79 ?rzz79
  case hzz79 => simp only [List.getElem?_toArray, List.getElem?_cons_zero, List.getElem?_cons_succ]; rfl
  case azz79 => kernel_rfl
  case bzz79 => kernel_rfl
  case czz79 => kernel_rfl
  case yzz79 =>
    refine Or.inl ⟨by rfl, ?_⟩
    intro w hSw
    skip
    go_simp
    try with_reducible rfl
  case qzz79 => exact fun _ _ _ h => h
  case szz79 => first | assumption | trivial
  case' rzz79 => simp only [Act.put, List.setIfInBounds_toArray, List.set_cons_zero, List.set_cons_succ]
  refine wpAnyH_take (i := 5) (oi := ?ozz80) (v := ?vzz80) ?hzz80 ?azz80 ?bzz80 ?czz80 ?qzz80 ?yzz80 ?szz80 ?rzz80
  case hzz80 => simp only [List.getElem?_toArray, List.getElem?_cons_zero, List.getElem?_cons_succ]; rfl
  case azz80 => kernel_rfl
  case bzz80 => kernel_rfl
  case czz80 => kernel_rfl
  case yzz80 =>
    refine Or.inl ⟨by rfl, ?_⟩
    intro w hSw
    skip
    go_simp
    try with_reducible rfl
  case qzz80 => exact fun _ _ _ h => h
  case szz80 => first | assumption | trivial
  case' rzz80 => simp only [Act.put, List.setIfInBounds_toArray, List.set_cons_zero, List.set_cons_succ]
  refine wpAnyH_take (i := 6) (oi := ?ozz81) (v := ?vzz81) ?hzz81 ?azz81 ?bzz81 ?czz81 ?qzz81 ?yzz81 ?szz81 ?rzz81
  case hzz81 => simp only [List.getElem?_toArray, List.getElem?_cons_zero, List.getElem?_cons_succ]; rfl
  case azz81 => kernel_rfl
  case bzz81 => kernel_rfl
  case czz81 => kernel_rfl
  case yzz81 =>
    refine Or.inl ⟨by rfl, ?_⟩
    intro w hSw
    skip
    go_simp
    try with_reducible rfl
  case qzz81 => exact fun _ _ _ h => h
  case szz81 => first | assumption | trivial
  case' rzz81 => simp only [Act.put, List.setIfInBounds_toArray, List.set_cons_zero, List.set_cons_succ]
  refine wpAnyH_take (i := 7) (oi := ?ozz82) (v := ?vzz82) ?hzz82 ?azz82 ?bzz82 ?czz82 ?qzz82 ?yzz82 ?szz82 ?rzz82
  case hzz82 => simp only [List.getElem?_toArray, List.getElem?_cons_zero, List.getElem?_cons_succ]; rfl
  case azz82 => kernel_rfl
  case bzz82 => kernel_rfl
  case czz82 => kernel_rfl
  case yzz82 =>
    refine Or.inl ⟨by rfl, ?_⟩
    intro w hSw
    skip
    go_simp
    try with_reducible rfl
  case qzz82 => exact fun _ _ _ h => h
  case szz82 => first | assumption | trivial
  case' rzz82 => simp only [Act.put, List.setIfInBounds_toArray, List.set_cons_zero, List.set_cons_succ]
  refine wpAnyH_take (i := 8) (oi := ?ozz83) (v := ?vzz83) ?hzz83 ?azz83 ?bzz83 ?czz83 ?qzz83 ?yzz83 ?szz83 ?rzz83
  case hzz83 => simp only [List.getElem?_toArray, List.getElem?_cons_zero, List.getElem?_cons_succ]; rfl
  case azz83 => kernel_rfl
  case bzz83 => kernel_rfl
  case czz83 => kernel_rfl
  case yzz83 =>
    refine Or.inl ⟨by rfl, ?_⟩
    intro w hSw
    skip
    go_simp
    try with_reducible rfl
  case qzz83 => exact fun _ _ _ h => h
  case szz83 => first | assumption | trivial
  case' rzz83 => simp only [Act.put, List.setIfInBounds_toArray, List.set_cons_zero, List.set_cons_succ]
  refine wpAnyH_take (i := 9) (oi := ?ozz84) (v := ?vzz84) ?hzz84 ?azz84 ?bzz84 ?czz84 ?qzz84 ?yzz84 ?szz84 ?rzz84
  case hzz84 => simp only [List.getElem?_toArray, List.getElem?_cons_zero, List.getElem?_cons_succ]; rfl
  case azz84 => kernel_rfl
  case bzz84 => kernel_rfl
  case czz84 => kernel_rfl
  case yzz84 =>
    refine Or.inl ⟨by rfl, ?_⟩
    intro w hSw
    skip
    go_simp
    try with_reducible rfl
  case qzz84 => exact fun _ _ _ h => h
  case szz84 => first | assumption | trivial
  case' rzz84 => simp only [Act.put, List.setIfInBounds_toArray, List.set_cons_zero, List.set_cons_succ]
  refine wpAnyH_take (i := 10) (oi := ?ozz85) (v := ?vzz85) ?hzz85 ?azz85 ?bzz85 ?czz85 ?qzz85 ?yzz85 ?szz85 ?rzz85
  case hzz85 => simp only [List.getElem?_toArray, List.getElem?_cons_zero, List.getElem?_cons_succ]; rfl
  case azz85 => kernel_rfl
  case bzz85 => kernel_rfl
  case czz85 => kernel_rfl
  case yzz85 =>
    refine Or.inl ⟨by rfl, ?_⟩
    intro w hSw
    skip
    go_simp
    try with_reducible rfl
  case qzz85 => exact fun _ _ _ h => h
  case szz85 => first | assumption | trivial
  case' rzz85 => simp only [Act.put, List.setIfInBounds_toArray, List.set_cons_zero, List.set_cons_succ]
  refine wpAnyH_take (i := 11) (oi := ?ozz86) (v := ?vzz86) ?hzz86 ?azz86 ?bzz86 ?czz86 ?qzz86 ?yzz86 ?szz86 ?rzz86
  case hzz86 => simp only [List.getElem?_toArray, List.getElem?_cons_zero, List.getElem?_cons_succ]; rfl
  case azz86 => kernel_rfl
  case bzz86 => kernel_rfl
  case czz86 => kernel_rfl
  case yzz86 =>
    refine Or.inl ⟨by rfl, ?_⟩
    intro w hSw
    skip
    go_simp
    try with_reducible rfl
  case qzz86 => exact fun _ _ _ h => h
  case szz86 => first | assumption | trivial
  case' rzz86 => simp only [Act.put, List.setIfInBounds_toArray, List.set_cons_zero, List.set_cons_succ]
  refine wpAnyH_take (i := 12) (oi := ?ozz87) (v := ?vzz87) ?hzz87 ?azz87 ?bzz87 ?czz87 ?qzz87 ?yzz87 ?szz87 ?rzz87
  case hzz87 => simp only [List.getElem?_toArray, List.getElem?_cons_zero, List.getElem?_cons_succ]; rfl
  case azz87 => kernel_rfl
  case bzz87 => kernel_rfl
  case czz87 => kernel_rfl
  case yzz87 =>
    refine Or.inl ⟨by rfl, ?_⟩
    intro w hSw
    skip
    go_simp
    try with_reducible rfl
  case qzz87 => exact fun _ _ _ h => h
  case szz87 => first | assumption | trivial
  case' rzz87 => simp only [Act.put, List.setIfInBounds_toArray, List.set_cons_zero, List.set_cons_succ]
  refine wpAnyH_take (i := 13) (oi := ?ozz88) (v := ?vzz88) ?hzz88 ?azz88 ?bzz88 ?czz88 ?qzz88 ?yzz88 ?szz88 ?rzz88
  case hzz88 => simp only [List.getElem?_toArray, List.getElem?_cons_zero, List.getElem?_cons_succ]; rfl
  case azz88 => kernel_rfl
  case bzz88 => kernel_rfl
  case czz88 => kernel_rfl
  case yzz88 =>
    refine Or.inl ⟨by rfl, ?_⟩
    intro w hSw
    have z0 := box_ hSw x0; have z1 := box_ hSw x1; have z2 := box_ hSw y0; have z3 := box_ hSw y1; have z4 := box_ hSw y2; clear hSw
    go_simp
    try with_reducible rfl
  case qzz88 => exact fun _ _ _ h => h
  case szz88 => first | assumption | trivial
  case' rzz88 => simp only [Act.put, List.setIfInBounds_toArray, List.set_cons_zero, List.set_cons_succ]
  refine wpAnyH_take (i := 14) (oi := ?ozz89) (v := ?vzz89) ?hzz89 ?azz89 ?bzz89 ?czz89 ?qzz89 ?yzz89 ?szz89 ?rzz89
  case hzz89 => simp only [List.getElem?_toArray, List.getElem?_cons_zero, List.getElem?_cons_succ]; rfl
  case azz89 => kernel_rfl
  case bzz89 => kernel_rfl
  case czz89 => kernel_rfl
  case yzz89 =>
    refine Or.inl ⟨by rfl, ?_⟩
    intro w hSw
    skip
    go_simp
    try with_reducible rfl
  case qzz89 => exact fun _ _ _ h => h
  case szz89 => first | assumption | trivial
  case' rzz89 => simp only [Act.put, List.setIfInBounds_toArray, List.set_cons_zero, List.set_cons_succ]
  refine wpAnyH_take (i := 15) (oi := ?ozz90) (v := ?vzz90) ?hzz90 ?azz90 ?bzz90 ?czz90 ?qzz90 ?yzz90 ?szz90 ?rzz90
  case hzz90 => simp only [List.getElem?_toArray, List.getElem?_cons_zero, List.getElem?_cons_succ]; rfl
  case azz90 => kernel_rfl
  case bzz90 => kernel_rfl
  case czz90 => kernel_rfl
  case yzz90 =>
    refine Or.inl ⟨by rfl, ?_⟩
    intro w hSw
    skip
    go_simp
    try with_reducible rfl
  case qzz90 => exact fun _ _ _ h => h
  case szz90 => first | assumption | trivial
  case' rzz90 => simp only [Act.put, List.setIfInBounds_toArray, List.set_cons_zero, List.set_cons_succ]
  refine wpAnyH_take (i := 16) (oi := ?ozz91) (v := ?vzz91) ?hzz91 ?azz91 ?bzz91 ?czz91 ?qzz91 ?yzz91 ?szz91 ?rzz91
  case hzz91 => simp only [List.getElem?_toArray, List.getElem?_cons_zero, List.getElem?_cons_succ]; rfl
  case azz91 => kernel_rfl
  case bzz91 => kernel_rfl
  case czz91 => kernel_rfl
  case yzz91 =>
    refine Or.inl ⟨by rfl, ?_⟩
    intro w hSw
    skip
    go_simp
    try with_reducible rfl
  case qzz91 => exact fun _ _ _ h => h
  case szz91 => first | assumption | trivial
  case' rzz91 => simp only [Act.put, List.setIfInBounds_toArray, List.set_cons_zero, List.set_cons_succ]
  refine wpAnyH_take (i := 17) (oi := ?ozz92) (v := ?vzz92) ?hzz92 ?azz92 ?bzz92 ?czz92 ?qzz92 ?yzz92 ?szz92 ?rzz92
  case hzz92 => simp only [List.getElem?_toArray, List.getElem?_cons_zero, List.getElem?_cons_succ]; rfl
  case azz92 => kernel_rfl
  case bzz92 => kernel_rfl
  case czz92 => kernel_rfl
  case yzz92 =>
    refine Or.inl ⟨by rfl, ?_⟩
    intro w hSw
    skip
    go_simp
    try with_reducible rfl
  case qzz92 => exact fun _ _ _ h => h
  case szz92 => first | assumption | trivial
  case' rzz92 => simp only [Act.put, List.setIfInBounds_toArray, List.set_cons_zero, List.set_cons_succ]
  refine wpAnyH_take (i := 18) (oi := ?ozz93) (v := undef) ?hzz93 ?azz93 ?bzz93 ?czz93 ?qzz93 ?yzz93 ?szz93 ?rzz93
  case hzz93 => simp only [List.getElem?_toArray, List.getElem?_cons_zero, List.getElem?_cons_succ]; rfl
  case azz93 => kernel_rfl
  case bzz93 => kernel_rfl
  case czz93 => kernel_rfl
  case yzz93 => exact Or.inr ⟨by rfl, rfl⟩
  case qzz93 => exact fun _ _ _ h => h
  case szz93 => first | assumption | trivial
  case' rzz93 => simp only [Act.put, List.setIfInBounds_toArray, List.set_cons_zero, List.set_cons_succ]
  refine wpAnyH_take (i := 19) (oi := ?ozz94) (v := undef) ?hzz94 ?azz94 ?bzz94 ?czz94 ?qzz94 ?yzz94 ?szz94 ?rzz94
  case hzz94 => simp only [List.getElem?_toArray, List.getElem?_cons_zero, List.getElem?_cons_succ]; rfl
  case azz94 => kernel_rfl
  case bzz94 => kernel_rfl
  case czz94 => kernel_rfl
  case yzz94 => exact Or.inr ⟨by rfl, rfl⟩
  case qzz94 => exact fun _ _ _ h => h
  case szz94 => first | assumption | trivial
  case' rzz94 => simp only [Act.put, List.setIfInBounds_toArray, List.set_cons_zero, List.set_cons_succ]
  refine wpAnyH_take (i := 20) (oi := ?ozz95) (v := undef) ?hzz95 ?azz95 ?bzz95 ?czz95 ?qzz95 ?yzz95 ?szz95 ?rzz95
  case hzz95 => simp only [List.getElem?_toArray, List.getElem?_cons_zero, List.getElem?_cons_succ]; rfl
  case azz95 => kernel_rfl
  case bzz95 => kernel_rfl
  case czz95 => kernel_rfl
  case yzz95 => exact Or.inr ⟨by rfl, rfl⟩
  case qzz95 => exact fun _ _ _ h => h
  case szz95 => first | assumption | trivial
  case' rzz95 => simp only [Act.put, List.setIfInBounds_toArray, List.set_cons_zero, List.set_cons_succ]
  refine wpAnyH_take (i := 21) (oi := ?ozz96) (v := undef) ?hzz96 ?azz96 ?bzz96 ?czz96 ?qzz96 ?yzz96 ?szz96 ?rzz96
  case hzz96 => simp only [List.getElem?_toArray, List.getElem?_cons_zero, List.getElem?_cons_succ]; rfl
  case azz96 => kernel_rfl
  case bzz96 => kernel_rfl
  case czz96 => kernel_rfl
  case yzz96 => exact Or.inr ⟨by rfl, rfl⟩
  case qzz96 => exact fun _ _ _ h => h
  case szz96 => first | assumption | trivial
  case' rzz96 => simp only [Act.put, List.setIfInBounds_toArray, List.set_cons_zero, List.set_cons_succ]
  refine wpAnyH_take (i := 22) (oi := ?ozz97) (v := undef) ?hzz97 ?azz97 ?bzz97 ?czz97 ?qzz97 ?yzz97 ?szz97 ?rzz97
  case hzz97 => simp only [List.getElem?_toArray, List.getElem?_cons_zero, List.getElem?_cons_succ]; rfl
  case azz97 => kernel_rfl
  case bzz97 => kernel_rfl
  case czz97 => kernel_rfl
  case yzz97 => exact Or.inr ⟨by rfl, rfl⟩
  case qzz97 => exact fun _ _ _ h => h
  case szz97 => first | assumption | trivial
  case' rzz97 => simp only [Act.put, List.setIfInBounds_toArray, List.set_cons_zero, List.set_cons_succ]
  refine wpAnyH_take (i := 23) (oi := ?ozz98) (v := undef) ?hzz98 ?azz98 ?bzz98 ?czz98 ?qzz98 ?yzz98 ?szz98 ?rzz98
  case hzz98 => simp only [List.getElem?_toArray, List.getElem?_cons_zero, List.getElem?_cons_succ]; rfl
  case azz98 => kernel_rfl
  case bzz98 => kernel_rfl
  case czz98 => kernel_rfl
  case yzz98 => exact Or.inr ⟨by rfl, rfl⟩
  case qzz98 => exact fun _ _ _ h => h
  case szz98 => first | assumption | trivial
  case' rzz98 => simp only [Act.put, List.setIfInBounds_toArray, List.set_cons_zero, List.set_cons_succ]
  refine wpAnyH_take (i := 24) (oi := ?ozz99) (v := undef) ?hzz99 ?azz99 ?bzz99 ?czz99 ?qzz99 ?yzz99 ?szz99 ?rzz99
  case hzz99 => simp only [List.getElem?_toArray, List.getElem?_cons_zero, List.getElem?_cons_succ]; rfl
  case azz99 => kernel_rfl
  case bzz99 => kernel_rfl
  case czz99 => kernel_rfl
  case yzz99 => exact Or.inr ⟨by rfl, rfl⟩
  case qzz99 => exact fun _ _ _ h => h
  case szz99 => first | assumption | trivial
  case' rzz99 => simp only [Act.put, List.setIfInBounds_toArray, List.set_cons_zero, List.set_cons_succ]
  refine wpAnyH_take (i := 25) (oi := ?ozz100) (v := ?vzz100) ?hzz100 ?azz100 ?bzz100 ?czz100 ?qzz100 ?yzz100 ?szz100 ?rzz100
  case hzz100 => simp only [List.getElem?_toArray, List.getElem?_cons_zero, List.getElem?_cons_succ]; rfl
  case azz100 => kernel_rfl
  case bzz100 => kernel_rfl
  case czz100 => kernel_rfl
  case yzz100 =>
    refine Or.inl ⟨by rfl, ?_⟩
    intro w hSw
    skip
    go_simp
    try with_reducible rfl
  case qzz100 => exact fun _ _ _ h => h
  case szz100 => first | assumption | trivial
  case' rzz100 => simp only [Act.put, List.setIfInBounds_toArray, List.set_cons_zero, List.set_cons_succ]
  refine wpAnyH_take (i := 26) (oi := ?ozz101) (v := ?vzz101) ?hzz101 ?azz101 ?bzz101 ?czz101 ?qzz101 ?yzz101 ?szz101 ?rzz101
  case hzz101 => simp only [List.getElem?_toArray, List.getElem?_cons_zero, List.getElem?_cons_succ]; rfl
  case azz101 => kernel_rfl
  case bzz101 => kernel_rfl
  case czz101 => kernel_rfl
  case yzz101 =>
    refine Or.inl ⟨by rfl, ?_⟩
    intro w hSw
    skip
    go_simp
    try with_reducible rfl
  case qzz101 => exact fun _ _ _ h => h
  case szz101 => first | assumption | trivial
  case' rzz101 => simp only [Act.put, List.setIfInBounds_toArray, List.set_cons_zero, List.set_cons_succ]
  refine wpAnyH_take (i := 27) (oi := ?ozz102) (v := undef) ?hzz102 ?azz102 ?bzz102 ?czz102 ?qzz102 ?yzz102 ?szz102 ?rzz102
  case hzz102 => simp only [List.getElem?_toArray, List.getElem?_cons_zero, List.getElem?_cons_succ]; rfl
  case azz102 => kernel_rfl
  case bzz102 => kernel_rfl
  case czz102 => kernel_rfl
  case yzz102 => exact Or.inr ⟨by rfl, rfl⟩
  case qzz102 => exact fun _ _ _ h => h
  case szz102 => first | assumption | trivial
  case' rzz102 => simp only [Act.put, List.setIfInBounds_toArray, List.set_cons_zero, List.set_cons_succ]
  refine wpAnyH_take (i := 28) (oi := ?ozz103) (v := undef) ?hzz103 ?azz103 ?bzz103 ?czz103 ?qzz103 ?yzz103 ?szz103 ?rzz103
  case hzz103 => simp only [List.getElem?_toArray, List.getElem?_cons_zero, List.getElem?_cons_succ]; rfl
  case azz103 => kernel_rfl
  case bzz103 => kernel_rfl
  case czz103 => kernel_rfl
  case yzz103 => exact Or.inr ⟨by rfl, rfl⟩
  case qzz103 => exact fun _ _ _ h => h
  case szz103 => first | assumption | trivial
  case' rzz103 => simp only [Act.put, List.setIfInBounds_toArray, List.set_cons_zero, List.set_cons_succ]
  refine wpAnyH_take (i := 29) (oi := ?ozz104) (v := undef) ?hzz104 ?azz104 ?bzz104 ?czz104 ?qzz104 ?yzz104 ?szz104 ?rzz104
  case hzz104 => simp only [List.getElem?_toArray, List.getElem?_cons_zero, List.getElem?_cons_succ]; rfl
  case azz104 => kernel_rfl
  case bzz104 => kernel_rfl
  case czz104 => kernel_rfl
  case yzz104 => exact Or.inr ⟨by rfl, rfl⟩
  case qzz104 => exact fun _ _ _ h => h
  case szz104 => first | assumption | trivial
  case' rzz104 => simp only [Act.put, List.setIfInBounds_toArray, List.set_cons_zero, List.set_cons_succ]
  refine wpAnyH_take (i := 30) (oi := ?ozz105) (v := undef) ?hzz105 ?azz105 ?bzz105 ?czz105 ?qzz105 ?yzz105 ?szz105 ?rzz105
  case hzz105 => simp only [List.getElem?_toArray, List.getElem?_cons_zero, List.getElem?_cons_succ]; rfl
  case azz105 => kernel_rfl
  case bzz105 => kernel_rfl
  case czz105 => kernel_rfl
  case yzz105 => exact Or.inr ⟨by rfl, rfl⟩
  case qzz105 => exact fun _ _ _ h => h
  case szz105 => first | assumption | trivial
  case' rzz105 => simp only [Act.put, List.setIfInBounds_toArray, List.set_cons_zero, List.set_cons_succ]
  refine wpAnyH_take (i := 31) (oi := ?ozz106) (v := undef) ?hzz106 ?azz106 ?bzz106 ?czz106 ?qzz106 ?yzz106 ?szz106 ?rzz106
  case hzz106 => simp only [List.getElem?_toArray, List.getElem?_cons_zero, List.getElem?_cons_succ]; rfl
  case azz106 => kernel_rfl
  case bzz106 => kernel_rfl
  case czz106 => kernel_rfl
  case yzz106 => exact Or.inr ⟨by rfl, rfl⟩
  case qzz106 => exact fun _ _ _ h => h
  case szz106 => first | assumption | trivial
  case' rzz106 => simp only [Act.put, List.setIfInBounds_toArray, List.set_cons_zero, List.set_cons_succ]
  refine wpAnyH_take (i := 32) (oi := ?ozz107) (v := undef) ?hzz107 ?azz107 ?bzz107 ?czz107 ?qzz107 ?yzz107 ?szz107 ?rzz107
  case hzz107 => simp only [List.getElem?_toArray, List.getElem?_cons_zero, List.getElem?_cons_succ]; rfl
  case azz107 => kernel_rfl
  case bzz107 => kernel_rfl
  case czz107 => kernel_rfl
  case yzz107 => exact Or.inr ⟨by rfl, rfl⟩
  case qzz107 => exact fun _ _ _ h => h
  case szz107 => first | assumption | trivial
  case' rzz107 => simp only [Act.put, List.setIfInBounds_toArray, List.set_cons_zero, List.set_cons_succ]
  refine wpAnyH_take (i := 33) (oi := ?ozz108) (v := undef) ?hzz108 ?azz108 ?bzz108 ?czz108 ?qzz108 ?yzz108 ?szz108 ?rzz108
  case hzz108 => simp only [List.getElem?_toArray, List.getElem?_cons_zero, List.getElem?_cons_succ]; rfl
  case azz108 => kernel_rfl
  case bzz108 => kernel_rfl
  case czz108 => kernel_rfl
  case yzz108 => exact Or.inr ⟨by rfl, rfl⟩
  case qzz108 => exact fun _ _ _ h => h
  case szz108 => first | assumption | trivial
  case' rzz108 => simp only [Act.put, List.setIfInBounds_toArray, List.set_cons_zero, List.set_cons_succ]
  refine wpAnyH_take (i := 34) (oi := ?ozz109) (v := undef) ?hzz109 ?azz109 ?bzz109 ?czz109 ?qzz109 ?yzz109 ?szz109 ?rzz109
  case hzz109 => simp only [List.getElem?_toArray, List.getElem?_cons_zero, List.getElem?_cons_succ]; rfl
  case azz109 => kernel_rfl
  case bzz109 => kernel_rfl
  case czz109 => kernel_rfl
  case yzz109 => exact Or.inr ⟨by rfl, rfl⟩
  case qzz109 => exact fun _ _ _ h => h
  case szz109 => first | assumption | trivial
  case' rzz109 => simp only [Act.put, List.setIfInBounds_toArray, List.set_cons_zero, List.set_cons_succ]
  refine wpAnyH_take (i := 35) (oi := ?ozz110) (v := ?vzz110) ?hzz110 ?azz110 ?bzz110 ?czz110 ?qzz110 ?yzz110 ?szz110 ?rzz110
  case hzz110 => simp only [List.getElem?_toArray, List.getElem?_cons_zero, List.getElem?_cons_succ]; rfl
  case azz110 => kernel_rfl
  case bzz110 => kernel_rfl
  case czz110 => kernel_rfl
  case yzz110 =>
    refine Or.inl ⟨by rfl, ?_⟩
    intro w hSw
    skip
    go_simp
    try with_reducible rfl
  case qzz110 => exact fun _ _ _ h => h
  case szz110 => first | assumption | trivial
  case' rzz110 => simp only [Act.put, List.setIfInBounds_toArray, List.set_cons_zero, List.set_cons_succ]
  refine wpAnyH_done (by kernel_rfl) ?_ _
  have HQ := Lib.hid (HQ.out.trans hHeld)
  go_wp2
  go_ret
  exact ⟨rfl, HQ.out⟩
set_option maxHeartbeats 8000000 in
theorem walk_low (A B : Option Addr) (n c m d : Nat) (l : Lo) (i : Int) (x : Wn) (w : World) (h : LIn w A n c B m d l) (hx : WnS x) (hs : n ≤ 200 ∧ m ≤ 40) (hi : 0 ≤ i) (him : i < n) (ho : ∀ hk : i.toNat < l.held.length, l.held[i.toNat].txn < 1) :
    Calls Try.prog 8 #[locV A n c B m d, .int .i64 i, wnV x] w fun e w' => e = .returned (.bool true) ∧ Q w w' := by
  have KS := Lib.hid (fun W => lsmall_any A B n c m d W)
  rw [Go.Proofs.Ytenemdpjhoebpaa.few hs] at KS
  obtain ⟨k, rfl⟩ : ∃ k : Nat, i = k := ⟨i.toNat, by omega⟩
  have hkm : k < n := by omega
  have hkl : k < l.held.length := by have := h.held.len; omega
  have hkn : (k : Int) < (n : Int) := by omega
  have hk0 : ¬ (k : Int) < 0 := by omega
  have hkm2 : ¬ (n : Int) ≤ (k : Int) := by omega
  have d0 : decide ((k : Int) < 0) = false := decide_eq_false hk0
  have d1 : decide ((n : Int) ≤ (k : Int)) = false := decide_eq_false hkm2
  have d3 : decide (n ≤ k) = false := decide_eq_false (by omega)
  have HI := Lib.hid h
  have LC := Lib.hid (fun W (q : Q w W) => load_hold (h.held.lst.q q) hkm hkl)
  have ho := ho (by simpa using hkl)
  simp only [Int.toNat_natCast] at ho
  generalize l.held[k] = z at LC ho
  have d2 : decide (z.txn < 1) = true := decide_eq_true ho
  clear h hx hs hi him hkl
  unfold wnV at *
  have HQ := Lib.hid (((Q.refl w).alloc (.cells #[.slice A n c, .slice B m d] 25)).alloc (.cells #[.int .i64 x.mode, .string x.lo, .string x.hi] 27))
  have XL : Hid (Bx ((w.alloc (.cells #[.slice A n c, .slice B m d] 25)).alloc (.cells #[.int .i64 x.mode, .string x.lo, .string x.hi] 27)) w.heap.size [.slice A n c, .slice B m d]) := Lib.hid ((Bx.new w [.slice A n c, .slice B m d] 25).alloc (.cells #[.int .i64 x.mode, .string x.lo, .string x.hi] 27))
  have XW : Hid (Bx ((w.alloc (.cells #[.slice A n c, .slice B m d] 25)).alloc (.cells #[.int .i64 x.mode, .string x.lo, .string x.hi] 27)) (w.heap.size + 1) [.int .i64 x.mode, .string x.lo, .string x.hi]) := Lib.hid (by have := Bx.new (w.alloc (.cells #[.slice A n c, .slice B m d] 25)) [.int .i64 x.mode, .string x.lo, .string x.hi] 27; rwa [show (w.alloc (.cells #[.slice A n c, .slice B m d] 25)).heap.size = w.heap.size + 1 by simp] at this)
  go_enter Try.func8, Try.ntmps8
  go_wp2_with fail
  generalize (w.alloc (.cells #[.slice A n c, .slice B m d] 25)).alloc (.cells #[.int .i64 x.mode, .string x.lo, .string x.hi] 27) = W0 at XL XW HQ ⊢
  generalize w.heap.size + 1 = gW at XW ⊢
  generalize w.heap.size = gL at XL ⊢
  refine (lshown_any _).mono ?_
  rintro e w1 ⟨rfl, q1⟩
  have XL := Lib.hid (XL.out.q q1)
  have XW := Lib.hid (XW.out.q q1)
  have HQ := Lib.hid (HQ.out.trans q1)
  clear q1
  obtain ⟨⟨x0, x1⟩, x2, x3⟩ := XL.out.get2
  go_wp2_with fail
  refine (KS.out _).mono ?_
  rintro e w2 ⟨rfl, q1⟩
  have XL := Lib.hid (XL.out.q q1)
  have XW := Lib.hid (XW.out.q q1)
  have HQ := Lib.hid (HQ.out.trans q1)
  clear q1
  clear x0 x1 x2 x3
  obtain ⟨⟨x0, x1⟩, x2, x3⟩ := XL.out.get2
  obtain ⟨⟨y0, y1, y2⟩, y3, y4, y5⟩ := XW.out.get3
  obtain ⟨ad, rfl, hab, k0, k1, k2, k3⟩ := LC.out _ HQ.out
  go_wp2
  refine wp_region_held_drew (S := Q w2) (by kernel_rfl) ?szz111 (fun hHeld => ?rzz111)
  case szz111 =>
    exact (Q.refl w2).drew
  case' rzz111 => skip
  refine wpAnyH_take (i := 0) (oi := ?ozz112) (v := ?vzz112) ?hzz112 ?azz112 ?bzz112 ?czz112 ?qzz112 ?yzz112 ?szz112 ?rzz112
  case hzz112 => simp only [List.getElem?_toArray, List.getElem?_cons_zero]; rfl
  case azz112 => kernel_rfl
  case bzz112 => kernel_rfl
  case czz112 => kernel_rfl
  case yzz112 =>
    refine Or.inl ⟨by rfl, ?_⟩
    intro w hSw
    skip
    go_simp
    try with_reducible rfl
  case qzz112 => exact fun _ _ _ h => h
  case szz112 => first | assumption | trivial
  case' rzz112 => simp only [Act.put, List.setIfInBounds_toArray, List.set_cons_zero, List.set_cons_succ]
  refine wpAnyH_take (i := 1) (oi := ?ozz113) (v := ?vzz113) ?hzz113 ?azz113 ?bzz113 ?czz113 ?qzz113 ?yzz113 ?szz113 ?rzz113
  case hzz113 => simp only [List.getElem?_toArray, List.getElem?_cons_zero, List.getElem?_cons_succ]; rfl
  case azz113 => kernel_rfl
  case bzz113 => kernel_rfl
  case czz113 => kernel_rfl
  case yzz113 =>
    refine Or.inl ⟨by rfl, ?_⟩
    intro w hSw
    skip
    go_simp
    try with_reducible rfl
  case qzz113 => exact fun _ _ _ h => h
  case szz113 => first | assumption | trivial
  case' rzz113 => simp only [Act.put, List.setIfInBounds_toArray, List.set_cons_zero, List.set_cons_succ]
  refine wpAnyH_take (i := 2) (oi := ?ozz114) (v := ?vzz114) ?hzz114 ?azz114 ?bzz114 ?czz114 ?qzz114 ?yzz114 ?szz114 ?rzz114
  case hzz114 => simp only [List.getElem?_toArray, List.getElem?_cons_zero, List.getElem?_cons_succ]; rfl
  case azz114 => kernel_rfl
  case bzz114 => kernel_rfl
  case czz114 => kernel_rfl
  case yzz114 =>
    refine Or.inl ⟨by rfl, ?_⟩
    intro w hSw
    skip
    go_simp
    try with_reducible rfl
  case qzz114 => exact fun _ _ _ h => h
  case szz114 => first | assumption | trivial
  case' rzz114 => simp only [Act.put, List.setIfInBounds_toArray, List.set_cons_zero, List.set_cons_succ]
  refine wpAnyH_take (i := 3) (oi := ?ozz115) (v := ?vzz115) ?hzz115 ?azz115 ?bzz115 ?czz115 ?qzz115 ?yzz115 ?szz115 ?rzz115
  case hzz115 => simp only [List.getElem?_toArray, List.getElem?_cons_zero, List.getElem?_cons_succ]; rfl
  case azz115 => kernel_rfl
  case bzz115 => kernel_rfl
  case czz115 => kernel_rfl
  case yzz115 =>
    refine Or.inl ⟨by rfl, ?_⟩
    intro w hSw
    skip
    go_simp
    try with_reducible rfl
  case qzz115 => exact fun _ _ _ h => h
  case szz115 => first | assumption | trivial
  case' rzz115 => simp only [Act.put, List.setIfInBounds_toArray, List.set_cons_zero, List.set_cons_succ]
  refine wpAnyH_take (i := 4) (oi := ?ozz116) (v := ?vzz116) ?hzz116 ?azz116 ?bzz116 ?czz116 ?qzz116 ?yzz116 ?szz116 ?rzz116
  case hzz116 => simp only [List.getElem?_toArray, List.getElem?_cons_zero, List.getElem?_cons_succ]; rfl
  case azz116 => kernel_rfl
  case bzz116 => kernel_rfl
  case czz116 => kernel_rfl
  case yzz116 =>
    refine Or.inl ⟨by rfl, ?_⟩
    intro w hSw
    skip
    go_simp
    try with_reducible rfl
  case qzz116 => exact fun _ _ _ h => h
  case szz116 => first | assumption | trivial
  case' rzz116 => simp only [Act.put, List.setIfInBounds_toArray, List.set_cons_zero, List.set_cons_succ]
  refine wpAnyH_take (i := 5) (oi := ?ozz117) (v := ?vzz117) ?hzz117 ?azz117 ?bzz117 ?czz117 ?qzz117 ?yzz117 ?szz117 ?rzz117
  case hzz117 => simp only [List.getElem?_toArray, List.getElem?_cons_zero, List.getElem?_cons_succ]; rfl
  case azz117 => kernel_rfl
  case bzz117 => kernel_rfl
  case czz117 => kernel_rfl
  case yzz117 =>
    refine Or.inl ⟨by rfl, ?_⟩
    intro w hSw
    skip
    go_simp
    try with_reducible rfl
  case qzz117 => exact fun _ _ _ h => h
  case szz117 => first | assumption | trivial
  case' rzz117 => simp only [Act.put, List.setIfInBounds_toArray, List.set_cons_zero, List.set_cons_succ]
  refine wpAnyH_take (i := 6) (oi := ?ozz118) (v := ?vzz118) ?hzz118 ?azz118 ?bzz118 ?czz118 ?qzz118 ?yzz118 ?szz118 ?rzz118
  case hzz118 => simp only [List.getElem?_toArray, List.getElem?_cons_zero, List.getElem?_cons_succ]; rfl
  case azz118 => kernel_rfl
  case bzz118 => kernel_rfl
  case czz118 => kernel_rfl
  case yzz118 =>
    refine Or.inl ⟨by rfl, ?_⟩
    intro w hSw
    skip
    go_simp
    try with_reducible rfl
  case qzz118 => exact fun _ _ _ h => h
  case szz118 => first | assumption | trivial
  case' rzz118 => simp only [Act.put, List.setIfInBounds_toArray, List.set_cons_zero, List.set_cons_succ]
  refine wpAnyH_take (i := 7) (oi := ?ozz119) (v := ?vzz119) ?hzz119 ?azz119 ?bzz119 ?czz119 ?qzz119 ?yzz119 ?szz119 ?rzz119
  case hzz119 => simp only [List.getElem?_toArray, List.getElem?_cons_zero, List.getElem?_cons_succ]; rfl
  case azz119 => kernel_rfl
  case bzz119 => kernel_rfl
  case czz119 => kernel_rfl
  case yzz119 =>
    refine Or.inl ⟨by rfl, ?_⟩
    intro w hSw
    skip
    go_simp
    try with_reducible rfl
  case qzz119 => exact fun _ _ _ h => h
  case szz119 => first | assumption | trivial
  case' rzz119 => simp only [Act.put, List.setIfInBounds_toArray, List.set_cons_zero, List.set_cons_succ]
  refine wpAnyH_take (i := 8) (oi := ?ozz120) (v := ?vzz120) ?hzz120 ?azz120 ?bzz120 ?czz120 ?qzz120 ?yzz120 ?szz120 ?rzz120
  case hzz120 => simp only [List.getElem?_toArray, List.getElem?_cons_zero, List.getElem?_cons_succ]; rfl
  case azz120 => kernel_rfl
  case bzz120 => kernel_rfl
  case czz120 => kernel_rfl
  case yzz120 =>
    refine Or.inl ⟨by rfl, ?_⟩
    intro w hSw
    skip
    go_simp
    try with_reducible rfl
  case qzz120 => exact fun _ _ _ h => h
  case szz120 => first | assumption | trivial
  case' rzz120 => simp only [Act.put, List.setIfInBounds_toArray, List.set_cons_zero, List.set_cons_succ]
  refine wpAnyH_take (i := 9) (oi := ?ozz121) (v := ?vzz121) ?hzz121 ?azz121 ?bzz121 ?czz121 ?qzz121 ?yzz121 ?szz121 ?rzz121
  case hzz121 => simp only [List.getElem?_toArray, List.getElem?_cons_zero, List.getElem?_cons_succ]; rfl
  case azz121 => kernel_rfl
  case bzz121 => kernel_rfl
  case czz121 => kernel_rfl
  case yzz121 =>
    refine Or.inl ⟨by rfl, ?_⟩
    intro w hSw
    skip
    go_simp
    try with_reducible rfl
  case qzz121 => exact fun _ _ _ h => h
  case szz121 => first | assumption | trivial
  case' rzz121 => simp only [Act.put, List.setIfInBounds_toArray, List.set_cons_zero, List.set_cons_succ]
  refine wpAnyH_take (i := 10) (oi := ?ozz122) (v := ?vzz122) ?hzz122 ?azz122 ?bzz122 ?czz122 ?qzz122 ?yzz122 ?szz122 ?rzz122
  case hzz122 => simp only [List.getElem?_toArray, List.getElem?_cons_zero, List.getElem?_cons_succ]; rfl
  case azz122 => kernel_rfl
  case bzz122 => kernel_rfl
  case czz122 => kernel_rfl
  case yzz122 =>
    refine Or.inl ⟨by rfl, ?_⟩
    intro w hSw
    skip
    go_simp
    try with_reducible rfl
  case qzz122 => exact fun _ _ _ h => h
  case szz122 => first | assumption | trivial
  case' rzz122 => simp only [Act.put, List.setIfInBounds_toArray, List.set_cons_zero, List.set_cons_succ]
  refine wpAnyH_take (i := 11) (oi := ?ozz123) (v := ?vzz123) ?hzz123 ?azz123 ?bzz123 ?czz123 ?qzz123 ?yzz123 ?szz123 ?rzz123
  case hzz123 => simp only [List.getElem?_toArray, List.getElem?_cons_zero, List.getElem?_cons_succ]; rfl
  case azz123 => kernel_rfl
  case bzz123 => kernel_rfl
  case czz123 => kernel_rfl
  case yzz123 =>
    refine Or.inl ⟨by rfl, ?_⟩
    intro w hSw
    skip
    go_simp
    try with_reducible rfl
  case qzz123 => exact fun _ _ _ h => h
  case szz123 => first | assumption | trivial
  case' rzz123 => simp only [Act.put, List.setIfInBounds_toArray, List.set_cons_zero, List.set_cons_succ]
  refine wpAnyH_take (i := 12) (oi := ?ozz124) (v := ?vzz124) ?hzz124 ?azz124 ?bzz124 ?czz124 ?qzz124 ?yzz124 ?szz124 ?rzz124
  case hzz124 => simp only [List.getElem?_toArray, List.getElem?_cons_zero, List.getElem?_cons_succ]; rfl
  case azz124 => kernel_rfl
  case bzz124 => kernel_rfl
  case czz124 => kernel_rfl
  case yzz124 =>
    refine Or.inl ⟨by rfl, ?_⟩
    intro w hSw
    skip
    go_simp
    try with_reducible rfl
  case qzz124 => exact fun _ _ _ h => h
  case szz124 => first | assumption | trivial
  case' rzz124 => simp only [Act.put, List.setIfInBounds_toArray, List.set_cons_zero, List.set_cons_succ]
  refine wpAnyH_take (i := 13) (oi := ?ozz125) (v := ?vzz125) ?hzz125 ?azz125 ?bzz125 ?czz125 ?qzz125 ?yzz125 ?szz125 ?rzz125
  case hzz125 => simp only [List.getElem?_toArray, List.getElem?_cons_zero, List.getElem?_cons_succ]; rfl
  case azz125 => kernel_rfl
  case bzz125 => kernel_rfl
  case czz125 => kernel_rfl
  case yzz125 =>
    refine Or.inl ⟨by rfl, ?_⟩
    intro w hSw
    have z0 := box_ hSw x0; have z1 := box_ hSw x1; have z2 := box_ hSw y0; have z3 := box_ hSw y1; have z4 := box_ hSw y2; have z5 := box_ hSw k0; have z6 := box_ hSw k1; have z7 := box_ hSw k2; have z8 := box_ hSw k3; clear hSw
    go_simp
    try with_reducible rfl
  case qzz125 => exact fun _ _ _ h => h
  case szz125 => first | assumption | trivial
  case' rzz125 => simp only [Act.put, List.setIfInBounds_toArray, List.set_cons_zero, List.set_cons_succ]
  refine wpAnyH_take (i := 14) (oi := ?ozz126) (v := ?vzz126) ?hzz126 ?azz126 ?bzz126 ?czz126 ?qzz126 ?yzz126 ?szz126 ?rzz126
  case hzz126 => simp only [List.getElem?_toArray, List.getElem?_cons_zero, List.getElem?_cons_succ]; rfl
  case azz126 => kernel_rfl
  case bzz126 => kernel_rfl
  case czz126 => kernel_rfl
  case yzz126 =>
    refine Or.inl ⟨by rfl, ?_⟩
    intro w hSw
    skip
    go_simp
    try with_reducible rfl
  case qzz126 => exact fun _ _ _ h => h
  case szz126 => first | assumption | trivial
  case' rzz126 => simp only [Act.put, List.setIfInBounds_toArray, List.set_cons_zero, List.set_cons_succ]
  refine wpAnyH_take (i := 15) (oi := ?ozz127) (v := ?vzz127) ?hzz127 ?azz127 ?bzz127 ?czz127 ?qzz127 ?yzz127 ?szz127 ?rzz127
  case hzz127 => simp only [List.getElem?_toArray, List.getElem?_cons_zero, List.getElem?_cons_succ]; rfl
  case azz127 => kernel_rfl
  case bzz127 => kernel_rfl
  case czz127 => kernel_rfl
  case yzz127 =>
    refine Or.inl ⟨by rfl, ?_⟩
    intro w hSw
    skip
    go_simp
    try with_reducible rfl
  case qzz127 => exact fun _ _ _ h => h
  case szz127 => first | assumption | trivial
  case' rzz127 => simp only [Act.put, List.setIfInBounds_toArray, List.set_cons_zero, List.set_cons_succ]
  refine wpAnyH_take (i := 16) (oi := ?ozz128) (v := ?vzz128) ?hzz128 ?azz128 ?bzz128 ?czz128 ?qzz128 ?yzz128 ?szz128 ?rzz128
  case hzz128 => simp only [List.getElem?_toArray, List.getElem?_cons_zero, List.getElem?_cons_succ]; rfl
  case azz128 => kernel_rfl
  case bzz128 => kernel_rfl
  case czz128 => kernel_rfl
  case yzz128 =>
    refine Or.inl ⟨by rfl, ?_⟩
    intro w hSw
    skip
    go_simp
    try with_reducible rfl
  case qzz128 => exact fun _ _ _ h => h
  case szz128 => first | assumption | trivial
  case' rzz128 => simp only [Act.put, List.setIfInBounds_toArray, List.set_cons_zero, List.set_cons_succ]
  refine wpAnyH_take (i := 17) (oi := ?ozz129) (v := ?vzz129) ?hzz129 ?azz129 ?bzz129 ?czz129 ?qzz129 ?yzz129 ?szz129 ?rzz129
  case hzz129 => simp only [List.getElem?_toArray, List.getElem?_cons_zero, List.getElem?_cons_succ]; rfl
  case azz129 => kernel_rfl
  case bzz129 => kernel_rfl
  case czz129 => kernel_rfl
  case yzz129 =>
    refine Or.inl ⟨by rfl, ?_⟩
    intro w hSw
    skip
    go_simp
    try with_reducible rfl
  case qzz129 => exact fun _ _ _ h => h
  case szz129 => first | assumption | trivial
  case' rzz129 => simp only [Act.put, List.setIfInBounds_toArray, List.set_cons_zero, List.set_cons_succ]
  refine wpAnyH_take (i := 18) (oi := ?ozz130) (v := ?vzz130) ?hzz130 ?azz130 ?bzz130 ?czz130 ?qzz130 ?yzz130 ?szz130 ?rzz130
  case hzz130 => simp only [List.getElem?_toArray, List.getElem?_cons_zero, List.getElem?_cons_succ]; rfl
  case azz130 => kernel_rfl
  case bzz130 => kernel_rfl
  case czz130 => kernel_rfl
  case yzz130 =>
    refine Or.inl ⟨by rfl, ?_⟩
    intro w hSw
    skip
    go_simp
    try with_reducible rfl
  case qzz130 => exact fun _ _ _ h => h
  case szz130 => first | assumption | trivial
  case' rzz130 => simp only [Act.put, List.setIfInBounds_toArray, List.set_cons_zero, List.set_cons_succ]
  refine wpAnyH_take (i := 19) (oi := ?ozz131) (v := ?vzz131) ?hzz131 ?azz131 ?bzz131 ?czz131 ?qzz131 ?yzz131 ?szz131 ?rzz131
  case hzz131 => simp only [List.getElem?_toArray, List.getElem?_cons_zero, List.getElem?_cons_succ]; rfl
  case azz131 => kernel_rfl
  case bzz131 => kernel_rfl
  case czz131 => kernel_rfl
  case yzz131 =>
    refine Or.inl ⟨by rfl, ?_⟩
    intro w hSw
    have z0 := box_ hSw x0; have z1 := box_ hSw x1; have z2 := box_ hSw y0; have z3 := box_ hSw y1; have z4 := box_ hSw y2; have z5 := box_ hSw k0; have z6 := box_ hSw k1; have z7 := box_ hSw k2; have z8 := box_ hSw k3; clear hSw
    go_simp
    try with_reducible rfl
  case qzz131 => exact fun _ _ _ h => h
  case szz131 => first | assumption | trivial
  case' rzz131 => simp only [Act.put, List.setIfInBounds_toArray, List.set_cons_zero, List.set_cons_succ]
  refine wpAnyH_take (i := 20) (oi := ?ozz132) (v := ?vzz132) ?hzz132 ?azz132 ?bzz132 ?czz132 ?qzz132 ?yzz132 ?szz132 ?rzz132
  case hzz132 => simp only [List.getElem?_toArray, List.getElem?_cons_zero, List.getElem?_cons_succ]; rfl
  case azz132 => kernel_rfl
  case bzz132 => kernel_rfl
  case czz132 => kernel_rfl
  case yzz132 =>
    refine Or.inl ⟨by rfl, ?_⟩
    intro w hSw
    skip
    go_simp
    try with_reducible rfl
  case qzz132 => exact fun _ _ _ h => h
  case szz132 => first | assumption | trivial
  case' rzz132 => simp only [Act.put, List.setIfInBounds_toArray, List.set_cons_zero, List.set_cons_succ]
  refine wpAnyH_take (i := 21) (oi := ?ozz133) (v := ?vzz133) ?hzz133 ?azz133 ?bzz133 ?czz133 ?qzz133 ?yzz133 ?szz133 ?rzz133
  case hzz133 => simp only [List.getElem?_toArray, List.getElem?_cons_zero, List.getElem?_cons_succ]; rfl
  case azz133 => kernel_rfl
  case bzz133 => kernel_rfl
  case czz133 => kernel_rfl
  case yzz133 =>
    refine Or.inl ⟨by rfl, ?_⟩
    intro w hSw
    have z0 := box_ hSw x0; have z1 := box_ hSw x1; have z2 := box_ hSw y0; have z3 := box_ hSw y1; have z4 := box_ hSw y2; have z5 := box_ hSw k0; have z6 := box_ hSw k1; have z7 := box_ hSw k2; have z8 := box_ hSw k3; clear hSw
    go_simp
    try with_reducible rfl
  case qzz133 => exact fun _ _ _ h => h
  case szz133 => first | assumption | trivial
  case' rzz133 => simp only [Act.put, List.setIfInBounds_toArray, List.set_cons_zero, List.set_cons_succ]
  refine wpAnyH_take (i := 22) (oi := ?ozz134) (v := ?vzz134) ?hzz134 ?azz134 ?bzz134 ?czz134 ?qzz134 ?yzz134 ?szz134 ?rzz134
  case hzz134 => simp only [List.getElem?_toArray, List.getElem?_cons_zero, List.getElem?_cons_succ]; rfl
  case azz134 => kernel_rfl
  case bzz134 => kernel_rfl
  case czz134 => kernel_rfl
  case yzz134 =>
    refine Or.inl ⟨by rfl, ?_⟩
    intro w hSw
    skip
    go_simp
    try with_reducible rfl
  case qzz134 => exact fun _ _ _ h => h
  case szz134 => first | assumption | trivial
  case' rzz134 => simp only [Act.put, List.setIfInBounds_toArray, List.set_cons_zero, List.set_cons_succ]
  refine wpAnyH_take (i := 23) (oi := ?ozz135) (v := ?vzz135) ?hzz135 ?azz135 ?bzz135 ?czz135 ?qzz135 ?yzz135 ?szz135 ?rzz135
  case hzz135 => simp only [List.getElem?_toArray, List.getElem?_cons_zero, List.getElem?_cons_succ]; rfl
  case azz135 => kernel_rfl
  case bzz135 => kernel_rfl
  case czz135 => kernel_rfl
  case yzz135 =>
    refine Or.inl ⟨by rfl, ?_⟩
    intro w hSw
    have z0 := box_ hSw x0; have z1 := box_ hSw x1; have z2 := box_ hSw y0; have z3 := box_ hSw y1; have z4 := box_ hSw y2; have z5 := box_ hSw k0; have z6 := box_ hSw k1; have z7 := box_ hSw k2; have z8 := box_ hSw k3; clear hSw
    go_simp
    try with_reducible rfl
  case qzz135 => exact fun _ _ _ h => h
  case szz135 => first | assumption | trivial
  case' rzz135 => simp only [Act.put, List.setIfInBounds_toArray, List.set_cons_zero, List.set_cons_succ]
  refine wpAnyH_take (i := 24) (oi := ?ozz136) (v := ?vzz136) ?hzz136 ?azz136 ?bzz136 ?czz136 ?qzz136 ?yzz136 ?szz136 ?rzz136
  case hzz136 => simp only [List.getElem?_toArray, List.getElem?_cons_zero, List.getElem?_cons_succ]; rfl
  case azz136 => kernel_rfl
  case bzz136 => kernel_rfl
  case czz136 => kernel_rfl
  case yzz136 =>
    refine Or.inl ⟨by rfl, ?_⟩
    intro w hSw
    skip
    go_simp
    try with_reducible rfl
  case qzz136 => exact fun _ _ _ h => h
  case szz136 => first | assumption | trivial
  case' rzz136 => simp only [Act.put, List.setIfInBounds_toArray, List.set_cons_zero, List.set_cons_succ]
  refine wpAnyH_take (i := 25) (oi := ?ozz137) (v := ?vzz137) ?hzz137 ?azz137 ?bzz137 ?czz137 ?qzz137 ?yzz137 ?szz137 ?rzz137
  case hzz137 => simp only [List.getElem?_toArray, List.getElem?_cons_zero, List.getElem?_cons_succ]; rfl
  case azz137 => kernel_rfl
  case bzz137 => kernel_rfl
  case czz137 => kernel_rfl
  case yzz137 =>
    refine Or.inl ⟨by rfl, ?_⟩
    intro w hSw
    skip
    go_simp
    try with_reducible rfl
  case qzz137 => exact fun _ _ _ h => h
  case szz137 => first | assumption | trivial
  case' rzz137 => simp only [Act.put, List.setIfInBounds_toArray, List.set_cons_zero, List.set_cons_succ]
  refine wpAnyH_take (i := 26) (oi := ?ozz138) (v := ?vzz138) ?hzz138 ?azz138 ?bzz138 ?czz138 ?qzz138 ?yzz138 ?szz138 ?rzz138
  case hzz138 => simp only [List.getElem?_toArray, List.getElem?_cons_zero, List.getElem?_cons_succ]; rfl
  case azz138 => kernel_rfl
  case bzz138 => kernel_rfl
  case czz138 => kernel_rfl
  case yzz138 =>
    refine Or.inl ⟨by rfl, ?_⟩
    intro w hSw
    skip
    go_simp
    try with_reducible rfl
  case qzz138 => exact fun _ _ _ h => h
  case szz138 => first | assumption | trivial
  case' rzz138 => simp only [Act.put, List.setIfInBounds_toArray, List.set_cons_zero, List.set_cons_succ]
  refine wpAnyH_take (i := 27) (oi := ?ozz139) (v := undef) ?hzz139 ?azz139 ?bzz139 ?czz139 ?qzz139 ?yzz139 ?szz139 ?rzz139
  case hzz139 => simp only [List.getElem?_toArray, List.getElem?_cons_zero, List.getElem?_cons_succ]; rfl
  case azz139 => kernel_rfl
  case bzz139 => kernel_rfl
  case czz139 => kernel_rfl
  case yzz139 => exact Or.inr ⟨by rfl, rfl⟩
  case qzz139 => exact fun _ _ _ h => h
  case szz139 => first | assumption | trivial
  case' rzz139 => simp only [Act.put, List.setIfInBounds_toArray, List.set_cons_zero, List.set_cons_succ]
  refine wpAnyH_take (i := 28) (oi := ?ozz140) (v := undef) ?hzz140 ?azz140 ?bzz140 ?czz140 ?qzz140 ?yzz140 ?szz140 ?rzz140
  case hzz140 => simp only [List.getElem?_toArray, List.getElem?_cons_zero, List.getElem?_cons_succ]; rfl
  case azz140 => kernel_rfl
  case bzz140 => kernel_rfl
  case czz140 => kernel_rfl
  case yzz140 => exact Or.inr ⟨by rfl, rfl⟩
  case qzz140 => exact fun _ _ _ h => h
  case szz140 => first | assumption | trivial
  case' rzz140 => simp only [Act.put, List.setIfInBounds_toArray, List.set_cons_zero, List.set_cons_succ]
  refine wpAnyH_take (i := 29) (oi := ?ozz141) (v := undef) ?hzz141 ?azz141 ?bzz141 ?czz141 ?qzz141 ?yzz141 ?szz141 ?rzz141
  case hzz141 => simp only [List.getElem?_toArray, List.getElem?_cons_zero, List.getElem?_cons_succ]; rfl
  case azz141 => kernel_rfl
  case bzz141 => kernel_rfl
  case czz141 => kernel_rfl
  case yzz141 => exact Or.inr ⟨by rfl, rfl⟩
  case qzz141 => exact fun _ _ _ h => h
  case szz141 => first | assumption | trivial
  case' rzz141 => simp only [Act.put, List.setIfInBounds_toArray, List.set_cons_zero, List.set_cons_succ]
  refine wpAnyH_take (i := 30) (oi := ?ozz142) (v := undef) ?hzz142 ?azz142 ?bzz142 ?czz142 ?qzz142 ?yzz142 ?szz142 ?rzz142
  case hzz142 => simp only [List.getElem?_toArray, List.getElem?_cons_zero, List.getElem?_cons_succ]; rfl
  case azz142 => kernel_rfl
  case bzz142 => kernel_rfl
  case czz142 => kernel_rfl
  case yzz142 => exact Or.inr ⟨by rfl, rfl⟩
  case qzz142 => exact fun _ _ _ h => h
  case szz142 => first | assumption | trivial
  case' rzz142 => simp only [Act.put, List.setIfInBounds_toArray, List.set_cons_zero, List.set_cons_succ]
  refine wpAnyH_take (i := 31) (oi := ?ozz143) (v := undef) ?hzz143 ?azz143 ?bzz143 ?czz143 ?qzz143 ?yzz143 ?szz143 ?rzz143
  case hzz143 => simp only [List.getElem?_toArray, List.getElem?_cons_zero, List.getElem?_cons_succ]; rfl
  case azz143 => kernel_rfl
  case bzz143 => kernel_rfl
  case czz143 => kernel_rfl
  case yzz143 => exact Or.inr ⟨by rfl, rfl⟩
  case qzz143 => exact fun _ _ _ h => h
  case szz143 => first | assumption | trivial
  case' rzz143 => simp only [Act.put, List.setIfInBounds_toArray, List.set_cons_zero, List.set_cons_succ]
  refine wpAnyH_take (i := 32) (oi := ?ozz144) (v := undef) ?hzz144 ?azz144 ?bzz144 ?czz144 ?qzz144 ?yzz144 ?szz144 ?rzz144
  case hzz144 => simp only [List.getElem?_toArray, List.getElem?_cons_zero, List.getElem?_cons_succ]; rfl
  case azz144 => kernel_rfl
  case bzz144 => kernel_rfl
  case czz144 => kernel_rfl
  case yzz144 => exact Or.inr ⟨by rfl, rfl⟩
  case qzz144 => exact fun _ _ _ h => h
  case szz144 => first | assumption | trivial
  case' rzz144 => simp only [Act.put, List.setIfInBounds_toArray, List.set_cons_zero, List.set_cons_succ]
  refine wpAnyH_take (i := 33) (oi := ?ozz145) (v := undef) ?hzz145 ?azz145 ?bzz145 ?czz145 ?qzz145 ?yzz145 ?szz145 ?rzz145
  case hzz145 => simp only [List.getElem?_toArray, List.getElem?_cons_zero, List.getElem?_cons_succ]; rfl
  case azz145 => kernel_rfl
  case bzz145 => kernel_rfl
  case czz145 => kernel_rfl
  case yzz145 => exact Or.inr ⟨by rfl, rfl⟩
  case qzz145 => exact fun _ _ _ h => h
  case szz145 => first | assumption | trivial
  case' rzz145 => simp only [Act.put, List.setIfInBounds_toArray, List.set_cons_zero, List.set_cons_succ]
  refine wpAnyH_take (i := 34) (oi := ?ozz146) (v := undef) ?hzz146 ?azz146 ?bzz146 ?czz146 ?qzz146 ?yzz146 ?szz146 ?rzz146
  case hzz146 => simp only [List.getElem?_toArray, List.getElem?_cons_zero, List.getElem?_cons_succ]; rfl
  case azz146 => kernel_rfl
  case bzz146 => kernel_rfl
  case czz146 => kernel_rfl
  case yzz146 => exact Or.inr ⟨by rfl, rfl⟩
  case qzz146 => exact fun _ _ _ h => h
  case szz146 => first | assumption | trivial
  case' rzz146 => simp only [Act.put, List.setIfInBounds_toArray, List.set_cons_zero, List.set_cons_succ]
  refine wpAnyH_take (i := 35) (oi := ?ozz147) (v := ?vzz147) ?hzz147 ?azz147 ?bzz147 ?czz147 ?qzz147 ?yzz147 ?szz147 ?rzz147
  case hzz147 => simp only [List.getElem?_toArray, List.getElem?_cons_zero, List.getElem?_cons_succ]; rfl
  case azz147 => kernel_rfl
  case bzz147 => kernel_rfl
  case czz147 => kernel_rfl
  case yzz147 =>
    refine Or.inl ⟨by rfl, ?_⟩
    intro w hSw
    skip
    go_simp
    try with_reducible rfl
  case qzz147 => exact fun _ _ _ h => h
  case szz147 => first | assumption | trivial
  case' rzz147 => simp only [Act.put, List.setIfInBounds_toArray, List.set_cons_zero, List.set_cons_succ]
  refine wpAnyH_done (by kernel_rfl) ?_ _
  have HQ := Lib.hid (HQ.out.trans hHeld)
  go_wp2
  go_ret
  exact ⟨rfl, HQ.out⟩
set_option maxHeartbeats 8000000 in
theorem walk_waits (A B : Option Addr) (n c m d : Nat) (l : Lo) (i : Int) (x : Wn) (w : World) (h : LIn w A n c B m d l) (hx : WnS x) (hs : n ≤ 200 ∧ m ≤ 40) (hi : 0 ≤ i) (him : i < n) (ho : ∀ hk : i.toNat < l.held.length, 1 ≤ l.held[i.toNat].txn) (hw : ∀ hk : i.toNat < l.held.length, waits l l.held[i.toNat].txn = true) :
    Calls Try.prog 8 #[locV A n c B m d, .int .i64 i, wnV x] w fun e w' => e = .returned (.bool true) ∧ Q w w' := by
  have KS := Lib.hid (fun W => lsmall_any A B n c m d W)
  rw [Go.Proofs.Ytenemdpjhoebpaa.few hs] at KS
  obtain ⟨k, rfl⟩ : ∃ k : Nat, i = k := ⟨i.toNat, by omega⟩
  have hkm : k < n := by omega
  have hkl : k < l.held.length := by have := h.held.len; omega
  have hkn : (k : Int) < (n : Int) := by omega
  have hk0 : ¬ (k : Int) < 0 := by omega
  have hkm2 : ¬ (n : Int) ≤ (k : Int) := by omega
  have d0 : decide ((k : Int) < 0) = false := decide_eq_false hk0
  have d1 : decide ((n : Int) ≤ (k : Int)) = false := decide_eq_false hkm2
  have d3 : decide (n ≤ k) = false := decide_eq_false (by omega)
  have HI := Lib.hid h
  have LC := Lib.hid (fun W (q : Q w W) => load_hold (h.held.lst.q q) hkm hkl)
  have ho := ho (by simpa using hkl)
  simp only [Int.toNat_natCast] at ho
  have hw := hw (by simpa using hkl)
  simp only [Int.toNat_natCast] at hw
  have KW := Lib.hid (fun W q => lwaits_any A B n c m d l l.held[k].txn W (h.queue.lst.q q) h.queue.max)
  rw [hw] at KW
  generalize l.held[k] = z at LC ho KW
  have ho2 : ¬ z.txn < 1 := by omega
  have d2 : decide (z.txn < 1) = false := decide_eq_false ho2
  clear h hx hs hi him hkl hw ho
  unfold wnV at *
  have HQ := Lib.hid (((Q.refl w).alloc (.cells #[.slice A n c, .slice B m d] 25)).alloc (.cells #[.int .i64 x.mode, .string x.lo, .string x.hi] 27))
  have XL : Hid (Bx ((w.alloc (.cells #[.slice A n c, .slice B m d] 25)).alloc (.cells #[.int .i64 x.mode, .string x.lo, .string x.hi] 27)) w.heap.size [.slice A n c, .slice B m d]) := Lib.hid ((Bx.new w [.slice A n c, .slice B m d] 25).alloc (.cells #[.int .i64 x.mode, .string x.lo, .string x.hi] 27))
  have XW : Hid (Bx ((w.alloc (.cells #[.slice A n c, .slice B m d] 25)).alloc (.cells #[.int .i64 x.mode, .string x.lo, .string x.hi] 27)) (w.heap.size + 1) [.int .i64 x.mode, .string x.lo, .string x.hi]) := Lib.hid (by have := Bx.new (w.alloc (.cells #[.slice A n c, .slice B m d] 25)) [.int .i64 x.mode, .string x.lo, .string x.hi] 27; rwa [show (w.alloc (.cells #[.slice A n c, .slice B m d] 25)).heap.size = w.heap.size + 1 by simp] at this)
  go_enter Try.func8, Try.ntmps8
  go_wp2_with fail
  generalize (w.alloc (.cells #[.slice A n c, .slice B m d] 25)).alloc (.cells #[.int .i64 x.mode, .string x.lo, .string x.hi] 27) = W0 at XL XW HQ ⊢
  generalize w.heap.size + 1 = gW at XW ⊢
  generalize w.heap.size = gL at XL ⊢
  refine (lshown_any _).mono ?_
  rintro e w1 ⟨rfl, q1⟩
  have XL := Lib.hid (XL.out.q q1)
  have XW := Lib.hid (XW.out.q q1)
  have HQ := Lib.hid (HQ.out.trans q1)
  clear q1
  obtain ⟨⟨x0, x1⟩, x2, x3⟩ := XL.out.get2
  go_wp2_with fail
  refine (KS.out _).mono ?_
  rintro e w2 ⟨rfl, q1⟩
  have XL := Lib.hid (XL.out.q q1)
  have XW := Lib.hid (XW.out.q q1)
  have HQ := Lib.hid (HQ.out.trans q1)
  clear q1
  clear x0 x1 x2 x3
  obtain ⟨⟨x0, x1⟩, x2, x3⟩ := XL.out.get2
  obtain ⟨⟨y0, y1, y2⟩, y3, y4, y5⟩ := XW.out.get3
  obtain ⟨ad, rfl, hab, k0, k1, k2, k3⟩ := LC.out _ HQ.out
  go_wp2
  refine wp_region_held_drew (S := Q w2) (by kernel_rfl) ?szz148 (fun hHeld => ?rzz148)
  case szz148 =>
    exact (Q.refl w2).drew
  case' rzz148 => skip
  refine wpAnyH_take (i := 0) (oi := ?ozz149) (v := ?vzz149) ?hzz149 ?azz149 ?bzz149 ?czz149 ?qzz149 ?yzz149 ?szz149 ?rzz149
  case hzz149 => simp only [List.getElem?_toArray, List.getElem?_cons_zero]; rfl
  case azz149 => kernel_rfl
  case bzz149 => kernel_rfl
  case czz149 => kernel_rfl
  case yzz149 =>
    refine Or.inl ⟨by rfl, ?_⟩
    intro w hSw
    skip
    go_simp
    try with_reducible rfl
  case qzz149 => exact fun _ _ _ h => h
  case szz149 => first | assumption | trivial
  case' rzz149 => simp only [Act.put, List.setIfInBounds_toArray, List.set_cons_zero, List.set_cons_succ]
  refine wpAnyH_take (i := 1) (oi := ?ozz150) (v := ?vzz150) ?hzz150 ?azz150 ?bzz150 ?czz150 ?qzz150 ?yzz150 ?szz150 ?rzz150
  case hzz150 => simp only [List.getElem?_toArray, List.getElem?_cons_zero, List.getElem?_cons_succ]; rfl
  case azz150 => kernel_rfl
  case bzz150 => kernel_rfl
  case czz150 => kernel_rfl
  case yzz150 =>
    refine Or.inl ⟨by rfl, ?_⟩
    intro w hSw
    skip
    go_simp
    try with_reducible rfl
  case qzz150 => exact fun _ _ _ h => h
  case szz150 => first | assumption | trivial
  case' rzz150 => simp only [Act.put, List.setIfInBounds_toArray, List.set_cons_zero, List.set_cons_succ]
  refine wpAnyH_take (i := 2) (oi := ?ozz151) (v := ?vzz151) ?hzz151 ?azz151 ?bzz151 ?czz151 ?qzz151 ?yzz151 ?szz151 ?rzz151
  case hzz151 => simp only [List.getElem?_toArray, List.getElem?_cons_zero, List.getElem?_cons_succ]; rfl
  case azz151 => kernel_rfl
  case bzz151 => kernel_rfl
  case czz151 => kernel_rfl
  case yzz151 =>
    refine Or.inl ⟨by rfl, ?_⟩
    intro w hSw
    skip
    go_simp
    try with_reducible rfl
  case qzz151 => exact fun _ _ _ h => h
  case szz151 => first | assumption | trivial
  case' rzz151 => simp only [Act.put, List.setIfInBounds_toArray, List.set_cons_zero, List.set_cons_succ]
  refine wpAnyH_take (i := 3) (oi := ?ozz152) (v := ?vzz152) ?hzz152 ?azz152 ?bzz152 ?czz152 ?qzz152 ?yzz152 ?szz152 ?rzz152
  case hzz152 => simp only [List.getElem?_toArray, List.getElem?_cons_zero, List.getElem?_cons_succ]; rfl
  case azz152 => kernel_rfl
  case bzz152 => kernel_rfl
  case czz152 => kernel_rfl
  case yzz152 =>
    refine Or.inl ⟨by rfl, ?_⟩
    intro w hSw
    skip
    go_simp
    try with_reducible rfl
  case qzz152 => exact fun _ _ _ h => h
  case szz152 => first | assumption | trivial
  case' rzz152 => simp only [Act.put, List.setIfInBounds_toArray, List.set_cons_zero, List.set_cons_succ]
  refine wpAnyH_take (i := 4) (oi := ?ozz153) (v := ?vzz153) ?hzz153 ?azz153 ?bzz153 ?czz153 ?qzz153 ?yzz153 ?szz153 ?rzz153
  case hzz153 => simp only [List.getElem?_toArray, List.getElem?_cons_zero, List.getElem?_cons_succ]; rfl
  case azz153 => kernel_rfl
  case bzz153 => kernel_rfl
  case czz153 => kernel_rfl
  case yzz153 =>
    refine Or.inl ⟨by rfl, ?_⟩
    intro w hSw
    skip
    go_simp
    try with_reducible rfl
  case qzz153 => exact fun _ _ _ h => h
  case szz153 => first | assumption | trivial
  case' rzz153 => simp only [Act.put, List.setIfInBounds_toArray, List.set_cons_zero, List.set_cons_succ]
  refine wpAnyH_take (i := 5) (oi := ?ozz154) (v := ?vzz154) ?hzz154 ?azz154 ?bzz154 ?czz154 ?qzz154 ?yzz154 ?szz154 ?rzz154
  case hzz154 => simp only [List.getElem?_toArray, List.getElem?_cons_zero, List.getElem?_cons_succ]; rfl
  case azz154 => kernel_rfl
  case bzz154 => kernel_rfl
  case czz154 => kernel_rfl
  case yzz154 =>
    refine Or.inl ⟨by rfl, ?_⟩
    intro w hSw
    skip
    go_simp
    try with_reducible rfl
  case qzz154 => exact fun _ _ _ h => h
  case szz154 => first | assumption | trivial
  case' rzz154 => simp only [Act.put, List.setIfInBounds_toArray, List.set_cons_zero, List.set_cons_succ]
  refine wpAnyH_take (i := 6) (oi := ?ozz155) (v := ?vzz155) ?hzz155 ?azz155 ?bzz155 ?czz155 ?qzz155 ?yzz155 ?szz155 ?rzz155
  case hzz155 => simp only [List.getElem?_toArray, List.getElem?_cons_zero, List.getElem?_cons_succ]; rfl
  case azz155 => kernel_rfl
  case bzz155 => kernel_rfl
  case czz155 => kernel_rfl
  case yzz155 =>
    refine Or.inl ⟨by rfl, ?_⟩
    intro w hSw
    skip
    go_simp
    try with_reducible rfl
  case qzz155 => exact fun _ _ _ h => h
  case szz155 => first | assumption | trivial
  case' rzz155 => simp only [Act.put, List.setIfInBounds_toArray, List.set_cons_zero, List.set_cons_succ]
  refine wpAnyH_take (i := 7) (oi := ?ozz156) (v := ?vzz156) ?hzz156 ?azz156 ?bzz156 ?czz156 ?qzz156 ?yzz156 ?szz156 ?rzz156
  case hzz156 => simp only [List.getElem?_toArray, List.getElem?_cons_zero, List.getElem?_cons_succ]; rfl
  case azz156 => kernel_rfl
  case bzz156 => kernel_rfl
  case czz156 => kernel_rfl
  case yzz156 =>
    refine Or.inl ⟨by rfl, ?_⟩
    intro w hSw
    skip
    go_simp
    try with_reducible rfl
  case qzz156 => exact fun _ _ _ h => h
  case szz156 => first | assumption | trivial
  case' rzz156 => simp only [Act.put, List.setIfInBounds_toArray, List.set_cons_zero, List.set_cons_succ]
  refine wpAnyH_take (i := 8) (oi := ?ozz157) (v := ?vzz157) ?hzz157 ?azz157 ?bzz157 ?czz157 ?qzz157 ?yzz157 ?szz157 ?rzz157
  case hzz157 => simp only [List.getElem?_toArray, List.getElem?_cons_zero, List.getElem?_cons_succ]; rfl
  case azz157 => kernel_rfl
  case bzz157 => kernel_rfl
  case czz157 => kernel_rfl
  case yzz157 =>
    refine Or.inl ⟨by rfl, ?_⟩
    intro w hSw
    skip
    go_simp
    try with_reducible rfl
  case qzz157 => exact fun _ _ _ h => h
  case szz157 => first | assumption | trivial
  case' rzz157 => simp only [Act.put, List.setIfInBounds_toArray, List.set_cons_zero, List.set_cons_succ]
  refine wpAnyH_take (i := 9) (oi := ?ozz158) (v := ?vzz158) ?hzz158 ?azz158 ?bzz158 ?czz158 ?qzz158 ?yzz158 ?szz158 ?rzz158
  case hzz158 => simp only [List.getElem?_toArray, List.getElem?_cons_zero, List.getElem?_cons_succ]; rfl
  case azz158 => kernel_rfl
  case bzz158 => kernel_rfl
  case czz158 => kernel_rfl
  case yzz158 =>
    refine Or.inl ⟨by rfl, ?_⟩
    intro w hSw
    skip
    go_simp
    try with_reducible rfl
  case qzz158 => exact fun _ _ _ h => h
  case szz158 => first | assumption | trivial
  case' rzz158 => simp only [Act.put, List.setIfInBounds_toArray, List.set_cons_zero, List.set_cons_succ]
  refine wpAnyH_take (i := 10) (oi := ?ozz159) (v := ?vzz159) ?hzz159 ?azz159 ?bzz159 ?czz159 ?qzz159 ?yzz159 ?szz159 ?rzz159
  case hzz159 => simp only [List.getElem?_toArray, List.getElem?_cons_zero, List.getElem?_cons_succ]; rfl
  case azz159 => kernel_rfl
  case bzz159 => kernel_rfl
  case czz159 => kernel_rfl
  case yzz159 =>
    refine Or.inl ⟨by rfl, ?_⟩
    intro w hSw
    skip
    go_simp
    try with_reducible rfl
  case qzz159 => exact fun _ _ _ h => h
  case szz159 => first | assumption | trivial
  case' rzz159 => simp only [Act.put, List.setIfInBounds_toArray, List.set_cons_zero, List.set_cons_succ]
  refine wpAnyH_take (i := 11) (oi := ?ozz160) (v := ?vzz160) ?hzz160 ?azz160 ?bzz160 ?czz160 ?qzz160 ?yzz160 ?szz160 ?rzz160
  case hzz160 => simp only [List.getElem?_toArray, List.getElem?_cons_zero, List.getElem?_cons_succ]; rfl
  case azz160 => kernel_rfl
  case bzz160 => kernel_rfl
  case czz160 => kernel_rfl
  case yzz160 =>
    refine Or.inl ⟨by rfl, ?_⟩
    intro w hSw
    skip
    go_simp
    try with_reducible rfl
  case qzz160 => exact fun _ _ _ h => h
  case szz160 => first | assumption | trivial
  case' rzz160 => simp only [Act.put, List.setIfInBounds_toArray, List.set_cons_zero, List.set_cons_succ]
  refine wpAnyH_take (i := 12) (oi := ?ozz161) (v := ?vzz161) ?hzz161 ?azz161 ?bzz161 ?czz161 ?qzz161 ?yzz161 ?szz161 ?rzz161
  case hzz161 => simp only [List.getElem?_toArray, List.getElem?_cons_zero, List.getElem?_cons_succ]; rfl
  case azz161 => kernel_rfl
  case bzz161 => kernel_rfl
  case czz161 => kernel_rfl
  case yzz161 =>
    refine Or.inl ⟨by rfl, ?_⟩
    intro w hSw
    skip
    go_simp
    try with_reducible rfl
  case qzz161 => exact fun _ _ _ h => h
  case szz161 => first | assumption | trivial
  case' rzz161 => simp only [Act.put, List.setIfInBounds_toArray, List.set_cons_zero, List.set_cons_succ]
  refine wpAnyH_take (i := 13) (oi := ?ozz162) (v := ?vzz162) ?hzz162 ?azz162 ?bzz162 ?czz162 ?qzz162 ?yzz162 ?szz162 ?rzz162
  case hzz162 => simp only [List.getElem?_toArray, List.getElem?_cons_zero, List.getElem?_cons_succ]; rfl
  case azz162 => kernel_rfl
  case bzz162 => kernel_rfl
  case czz162 => kernel_rfl
  case yzz162 =>
    refine Or.inl ⟨by rfl, ?_⟩
    intro w hSw
    have z0 := box_ hSw x0; have z1 := box_ hSw x1; have z2 := box_ hSw y0; have z3 := box_ hSw y1; have z4 := box_ hSw y2; have z5 := box_ hSw k0; have z6 := box_ hSw k1; have z7 := box_ hSw k2; have z8 := box_ hSw k3; clear hSw
    go_simp
    try with_reducible rfl
  case qzz162 => exact fun _ _ _ h => h
  case szz162 => first | assumption | trivial
  case' rzz162 => simp only [Act.put, List.setIfInBounds_toArray, List.set_cons_zero, List.set_cons_succ]
  refine wpAnyH_take (i := 14) (oi := ?ozz163) (v := ?vzz163) ?hzz163 ?azz163 ?bzz163 ?czz163 ?qzz163 ?yzz163 ?szz163 ?rzz163
  case hzz163 => simp only [List.getElem?_toArray, List.getElem?_cons_zero, List.getElem?_cons_succ]; rfl
  case azz163 => kernel_rfl
  case bzz163 => kernel_rfl
  case czz163 => kernel_rfl
  case yzz163 =>
    refine Or.inl ⟨by rfl, ?_⟩
    intro w hSw
    skip
    go_simp
    try with_reducible rfl
  case qzz163 => exact fun _ _ _ h => h
  case szz163 => first | assumption | trivial
  case' rzz163 => simp only [Act.put, List.setIfInBounds_toArray, List.set_cons_zero, List.set_cons_succ]
  refine wpAnyH_take (i := 15) (oi := ?ozz164) (v := ?vzz164) ?hzz164 ?azz164 ?bzz164 ?czz164 ?qzz164 ?yzz164 ?szz164 ?rzz164
  case hzz164 => simp only [List.getElem?_toArray, List.getElem?_cons_zero, List.getElem?_cons_succ]; rfl
  case azz164 => kernel_rfl
  case bzz164 => kernel_rfl
  case czz164 => kernel_rfl
  case yzz164 =>
    refine Or.inl ⟨by rfl, ?_⟩
    intro w hSw
    skip
    go_simp
    try with_reducible rfl
  case qzz164 => exact fun _ _ _ h => h
  case szz164 => first | assumption | trivial
  case' rzz164 => simp only [Act.put, List.setIfInBounds_toArray, List.set_cons_zero, List.set_cons_succ]
  refine wpAnyH_take (i := 16) (oi := ?ozz165) (v := ?vzz165) ?hzz165 ?azz165 ?bzz165 ?czz165 ?qzz165 ?yzz165 ?szz165 ?rzz165
  case hzz165 => simp only [List.getElem?_toArray, List.getElem?_cons_zero, List.getElem?_cons_succ]; rfl
  case azz165 => kernel_rfl
  case bzz165 => kernel_rfl
  case czz165 => kernel_rfl
  case yzz165 =>
    refine Or.inl ⟨by rfl, ?_⟩
    intro w hSw
    skip
    go_simp
    try with_reducible rfl
  case qzz165 => exact fun _ _ _ h => h
  case szz165 => first | assumption | trivial
  case' rzz165 => simp only [Act.put, List.setIfInBounds_toArray, List.set_cons_zero, List.set_cons_succ]
  refine wpAnyH_take (i := 17) (oi := ?ozz166) (v := ?vzz166) ?hzz166 ?azz166 ?bzz166 ?czz166 ?qzz166 ?yzz166 ?szz166 ?rzz166
  case hzz166 => simp only [List.getElem?_toArray, List.getElem?_cons_zero, List.getElem?_cons_succ]; rfl
  case azz166 => kernel_rfl
  case bzz166 => kernel_rfl
  case czz166 => kernel_rfl
  case yzz166 =>
    refine Or.inl ⟨by rfl, ?_⟩
    intro w hSw
    skip
    go_simp
    try with_reducible rfl
  case qzz166 => exact fun _ _ _ h => h
  case szz166 => first | assumption | trivial
  case' rzz166 => simp only [Act.put, List.setIfInBounds_toArray, List.set_cons_zero, List.set_cons_succ]
  refine wpAnyH_take (i := 18) (oi := ?ozz167) (v := ?vzz167) ?hzz167 ?azz167 ?bzz167 ?czz167 ?qzz167 ?yzz167 ?szz167 ?rzz167
  case hzz167 => simp only [List.getElem?_toArray, List.getElem?_cons_zero, List.getElem?_cons_succ]; rfl
  case azz167 => kernel_rfl
  case bzz167 => kernel_rfl
  case czz167 => kernel_rfl
  case yzz167 =>
    refine Or.inl ⟨by rfl, ?_⟩
    intro w hSw
    skip
    go_simp
    try with_reducible rfl
  case qzz167 => exact fun _ _ _ h => h
  case szz167 => first | assumption | trivial
  case' rzz167 => simp only [Act.put, List.setIfInBounds_toArray, List.set_cons_zero, List.set_cons_succ]
  refine wpAnyH_take (i := 19) (oi := ?ozz168) (v := ?vzz168) ?hzz168 ?azz168 ?bzz168 ?czz168 ?qzz168 ?yzz168 ?szz168 ?rzz168
  case hzz168 => simp only [List.getElem?_toArray, List.getElem?_cons_zero, List.getElem?_cons_succ]; rfl
  case azz168 => kernel_rfl
  case bzz168 => kernel_rfl
  case czz168 => kernel_rfl
  case yzz168 =>
    refine Or.inl ⟨by rfl, ?_⟩
    intro w hSw
    have z0 := box_ hSw x0; have z1 := box_ hSw x1; have z2 := box_ hSw y0; have z3 := box_ hSw y1; have z4 := box_ hSw y2; have z5 := box_ hSw k0; have z6 := box_ hSw k1; have z7 := box_ hSw k2; have z8 := box_ hSw k3; clear hSw
    go_simp
    try with_reducible rfl
  case qzz168 => exact fun _ _ _ h => h
  case szz168 => first | assumption | trivial
  case' rzz168 => simp only [Act.put, List.setIfInBounds_toArray, List.set_cons_zero, List.set_cons_succ]
  refine wpAnyH_take (i := 20) (oi := ?ozz169) (v := ?vzz169) ?hzz169 ?azz169 ?bzz169 ?czz169 ?qzz169 ?yzz169 ?szz169 ?rzz169
  case hzz169 => simp only [List.getElem?_toArray, List.getElem?_cons_zero, List.getElem?_cons_succ]; rfl
  case azz169 => kernel_rfl
  case bzz169 => kernel_rfl
  case czz169 => kernel_rfl
  case yzz169 =>
    refine Or.inl ⟨by rfl, ?_⟩
    intro w hSw
    skip
    go_simp
    try with_reducible rfl
  case qzz169 => exact fun _ _ _ h => h
  case szz169 => first | assumption | trivial
  case' rzz169 => simp only [Act.put, List.setIfInBounds_toArray, List.set_cons_zero, List.set_cons_succ]
  refine wpAnyH_take (i := 21) (oi := ?ozz170) (v := ?vzz170) ?hzz170 ?azz170 ?bzz170 ?czz170 ?qzz170 ?yzz170 ?szz170 ?rzz170
  case hzz170 => simp only [List.getElem?_toArray, List.getElem?_cons_zero, List.getElem?_cons_succ]; rfl
  case azz170 => kernel_rfl
  case bzz170 => kernel_rfl
  case czz170 => kernel_rfl
  case yzz170 =>
    refine Or.inl ⟨by rfl, ?_⟩
    intro w hSw
    have z0 := box_ hSw x0; have z1 := box_ hSw x1; have z2 := box_ hSw y0; have z3 := box_ hSw y1; have z4 := box_ hSw y2; have z5 := box_ hSw k0; have z6 := box_ hSw k1; have z7 := box_ hSw k2; have z8 := box_ hSw k3; clear hSw
    go_simp
    try with_reducible rfl
  case qzz170 => exact fun _ _ _ h => h
  case szz170 => first | assumption | trivial
  case' rzz170 => simp only [Act.put, List.setIfInBounds_toArray, List.set_cons_zero, List.set_cons_succ]
  refine wpAnyH_take (i := 22) (oi := ?ozz171) (v := ?vzz171) ?hzz171 ?azz171 ?bzz171 ?czz171 ?qzz171 ?yzz171 ?szz171 ?rzz171
  case hzz171 => simp only [List.getElem?_toArray, List.getElem?_cons_zero, List.getElem?_cons_succ]; rfl
  case azz171 => kernel_rfl
  case bzz171 => kernel_rfl
  case czz171 => kernel_rfl
  case yzz171 =>
    refine Or.inl ⟨by rfl, ?_⟩
    intro w hSw
    skip
    go_simp
    try with_reducible rfl
  case qzz171 => exact fun _ _ _ h => h
  case szz171 => first | assumption | trivial
  case' rzz171 => simp only [Act.put, List.setIfInBounds_toArray, List.set_cons_zero, List.set_cons_succ]
  refine wpAnyH_take (i := 23) (oi := ?ozz172) (v := ?vzz172) ?hzz172 ?azz172 ?bzz172 ?czz172 ?qzz172 ?yzz172 ?szz172 ?rzz172
  case hzz172 => simp only [List.getElem?_toArray, List.getElem?_cons_zero, List.getElem?_cons_succ]; rfl
  case azz172 => kernel_rfl
  case bzz172 => kernel_rfl
  case czz172 => kernel_rfl
  case yzz172 =>
    refine Or.inl ⟨by rfl, ?_⟩
    intro w hSw
    have z0 := box_ hSw x0; have z1 := box_ hSw x1; have z2 := box_ hSw y0; have z3 := box_ hSw y1; have z4 := box_ hSw y2; have z5 := box_ hSw k0; have z6 := box_ hSw k1; have z7 := box_ hSw k2; have z8 := box_ hSw k3; clear hSw
    go_simp
    try with_reducible rfl
  case qzz172 => exact fun _ _ _ h => h
  case szz172 => first | assumption | trivial
  case' rzz172 => simp only [Act.put, List.setIfInBounds_toArray, List.set_cons_zero, List.set_cons_succ]
  refine wpAnyH_take (i := 24) (oi := ?ozz173) (v := ?vzz173) ?hzz173 ?azz173 ?bzz173 ?czz173 ?qzz173 ?yzz173 ?szz173 ?rzz173
  case hzz173 => simp only [List.getElem?_toArray, List.getElem?_cons_zero, List.getElem?_cons_succ]; rfl
  case azz173 => kernel_rfl
  case bzz173 => kernel_rfl
  case czz173 => kernel_rfl
  case yzz173 =>
    refine Or.inl ⟨by rfl, ?_⟩
    intro w hSw
    skip
    go_simp
    try with_reducible rfl
  case qzz173 => exact fun _ _ _ h => h
  case szz173 => first | assumption | trivial
  case' rzz173 => simp only [Act.put, List.setIfInBounds_toArray, List.set_cons_zero, List.set_cons_succ]
  refine wpAnyH_take (i := 25) (oi := ?ozz174) (v := ?vzz174) ?hzz174 ?azz174 ?bzz174 ?czz174 ?qzz174 ?yzz174 ?szz174 ?rzz174
  case hzz174 => simp only [List.getElem?_toArray, List.getElem?_cons_zero, List.getElem?_cons_succ]; rfl
  case azz174 => kernel_rfl
  case bzz174 => kernel_rfl
  case czz174 => kernel_rfl
  case yzz174 =>
    refine Or.inl ⟨by rfl, ?_⟩
    intro w hSw
    skip
    go_simp
    try with_reducible rfl
  case qzz174 => exact fun _ _ _ h => h
  case szz174 => first | assumption | trivial
  case' rzz174 => simp only [Act.put, List.setIfInBounds_toArray, List.set_cons_zero, List.set_cons_succ]
  refine wpAnyH_take (i := 26) (oi := ?ozz175) (v := ?vzz175) ?hzz175 ?azz175 ?bzz175 ?czz175 ?qzz175 ?yzz175 ?szz175 ?rzz175
  case hzz175 => simp only [List.getElem?_toArray, List.getElem?_cons_zero, List.getElem?_cons_succ]; rfl
  case azz175 => kernel_rfl
  case bzz175 => kernel_rfl
  case czz175 => kernel_rfl
  case yzz175 =>
    refine Or.inl ⟨by rfl, ?_⟩
    intro w hSw
    skip
    go_simp
    try with_reducible rfl
  case qzz175 => exact fun _ _ _ h => h
  case szz175 => first | assumption | trivial
  case' rzz175 => simp only [Act.put, List.setIfInBounds_toArray, List.set_cons_zero, List.set_cons_succ]
  refine wpAnyH_take (i := 27) (oi := ?ozz176) (v := ?vzz176) ?hzz176 ?azz176 ?bzz176 ?czz176 ?qzz176 ?yzz176 ?szz176 ?rzz176
  case hzz176 => simp only [List.getElem?_toArray, List.getElem?_cons_zero, List.getElem?_cons_succ]; rfl
  case azz176 => kernel_rfl
  case bzz176 => kernel_rfl
  case czz176 => kernel_rfl
  case yzz176 =>
    refine Or.inl ⟨by rfl, ?_⟩
    intro w hSw
    have z0 := box_ hSw x0; have z1 := box_ hSw x1; have z2 := box_ hSw y0; have z3 := box_ hSw y1; have z4 := box_ hSw y2; have z5 := box_ hSw k0; have z6 := box_ hSw k1; have z7 := box_ hSw k2; have z8 := box_ hSw k3; clear hSw
    go_simp
    try with_reducible rfl
  case qzz176 => exact fun _ _ _ h => h
  case szz176 => first | assumption | trivial
  case' rzz176 => simp only [Act.put, List.setIfInBounds_toArray, List.set_cons_zero, List.set_cons_succ]
  refine wpAnyH_take (i := 28) (oi := ?ozz177) (v := ?vzz177) ?hzz177 ?azz177 ?bzz177 ?czz177 ?qzz177 ?yzz177 ?szz177 ?rzz177
  case hzz177 => simp only [List.getElem?_toArray, List.getElem?_cons_zero, List.getElem?_cons_succ]; rfl
  case azz177 => kernel_rfl
  case bzz177 => kernel_rfl
  case czz177 => kernel_rfl
  case yzz177 =>
    refine Or.inl ⟨by rfl, ?_⟩
    intro w hSw
    skip
    go_simp
    try with_reducible rfl
  case qzz177 => exact fun _ _ _ h => h
  case szz177 => first | assumption | trivial
  case' rzz177 => simp only [Act.put, List.setIfInBounds_toArray, List.set_cons_zero, List.set_cons_succ]
  refine wpAnyH_take (i := 29) (oi := ?ozz178) (v := ?vzz178) ?hzz178 ?azz178 ?bzz178 ?czz178 ?qzz178 ?yzz178 ?szz178 ?rzz178
  case hzz178 => simp only [List.getElem?_toArray, List.getElem?_cons_zero, List.getElem?_cons_succ]; rfl
  case azz178 => kernel_rfl
  case bzz178 => kernel_rfl
  case czz178 => kernel_rfl
  case yzz178 =>
    refine Or.inl ⟨by rfl, ?_⟩
    intro w hSw
    have z0 := box_ hSw x0; have z1 := box_ hSw x1; have z2 := box_ hSw y0; have z3 := box_ hSw y1; have z4 := box_ hSw y2; have z5 := box_ hSw k0; have z6 := box_ hSw k1; have z7 := box_ hSw k2; have z8 := box_ hSw k3; clear hSw
    go_simp
    try with_reducible rfl
  case qzz178 => exact fun _ _ _ h => h
  case szz178 => first | assumption | trivial
  case' rzz178 => simp only [Act.put, List.setIfInBounds_toArray, List.set_cons_zero, List.set_cons_succ]
  refine wpAnyH_take (i := 30) (oi := ?ozz179) (v := ?vzz179) ?hzz179 ?azz179 ?bzz179 ?czz179 ?qzz179 ?yzz179 ?szz179 ?rzz179
  case hzz179 => simp only [List.getElem?_toArray, List.getElem?_cons_zero, List.getElem?_cons_succ]; rfl
  case azz179 => kernel_rfl
  case bzz179 => kernel_rfl
  case czz179 => kernel_rfl
  case yzz179 =>
    refine Or.inl ⟨by rfl, ?_⟩
    intro w hSw
    skip
    go_simp
    try with_reducible rfl
  case qzz179 => exact fun _ _ _ h => h
  case szz179 => first | assumption | trivial
  case' rzz179 => simp only [Act.put, List.setIfInBounds_toArray, List.set_cons_zero, List.set_cons_succ]
  refine wpAnyH_take (i := 31) (oi := ?ozz180) (v := ?vzz180) ?hzz180 ?azz180 ?bzz180 ?czz180 ?qzz180 ?yzz180 ?szz180 ?rzz180
  case hzz180 => simp only [List.getElem?_toArray, List.getElem?_cons_zero, List.getElem?_cons_succ]; rfl
  case azz180 => kernel_rfl
  case bzz180 => kernel_rfl
  case czz180 => kernel_rfl
  case yzz180 =>
    refine Or.inl ⟨by rfl, ?_⟩
    intro w hSw
    have z0 := box_ hSw x0; have z1 := box_ hSw x1; have z2 := box_ hSw y0; have z3 := box_ hSw y1; have z4 := box_ hSw y2; have z5 := box_ hSw k0; have z6 := box_ hSw k1; have z7 := box_ hSw k2; have z8 := box_ hSw k3; clear hSw
    go_simp
    try with_reducible rfl
  case qzz180 => exact fun _ _ _ h => h
  case szz180 => first | assumption | trivial
  case' rzz180 => simp only [Act.put, List.setIfInBounds_toArray, List.set_cons_zero, List.set_cons_succ]
  refine wpAnyH_take (i := 32) (oi := ?ozz181) (v := ?vzz181) ?hzz181 ?azz181 ?bzz181 ?czz181 ?qzz181 ?yzz181 ?szz181 ?rzz181
  case hzz181 => simp only [List.getElem?_toArray, List.getElem?_cons_zero, List.getElem?_cons_succ]; rfl
  case azz181 => kernel_rfl
  case bzz181 => kernel_rfl
  case czz181 => kernel_rfl
  case yzz181 =>
    refine Or.inl ⟨by rfl, ?_⟩
    intro w hSw
    skip
    go_simp
    try with_reducible rfl
  case qzz181 => exact fun _ _ _ h => h
  case szz181 => first | assumption | trivial
  case' rzz181 => simp only [Act.put, List.setIfInBounds_toArray, List.set_cons_zero, List.set_cons_succ]
  refine wpAnyH_take (i := 33) (oi := ?ozz182) (v := ?vzz182) ?hzz182 ?azz182 ?bzz182 ?czz182 ?qzz182 ?yzz182 ?szz182 ?rzz182
  case hzz182 => simp only [List.getElem?_toArray, List.getElem?_cons_zero, List.getElem?_cons_succ]; rfl
  case azz182 => kernel_rfl
  case bzz182 => kernel_rfl
  case czz182 => kernel_rfl
  case yzz182 =>
    refine Or.inl ⟨by rfl, ?_⟩
    intro w hSw
    have z0 := box_ hSw x0; have z1 := box_ hSw x1; have z2 := box_ hSw y0; have z3 := box_ hSw y1; have z4 := box_ hSw y2; have z5 := box_ hSw k0; have z6 := box_ hSw k1; have z7 := box_ hSw k2; have z8 := box_ hSw k3; clear hSw
    go_simp
    try with_reducible rfl
  case qzz182 => exact fun _ _ _ h => h
  case szz182 => first | assumption | trivial
  case' rzz182 => simp only [Act.put, List.setIfInBounds_toArray, List.set_cons_zero, List.set_cons_succ]
  refine wpAnyH_ready (rs := [34]) (by kernel_rfl) (by simp) ?_
  refine AllReadyH.cons (o := ?ozz184) ?hzz184 (fun K hK => ?kzz184) ?mzz184
  case hzz184 => simp only [List.getElem?_toArray, List.getElem?_cons_zero, List.getElem?_cons_succ]; rfl
  case kzz184 =>
    go_simp
    refine (KW.out _ (HQ.out.trans hHeld)).mono ?_
    rintro e u1 ⟨rfl, qx⟩
    go_wp2_with fail
    refine hK.out _ _ ?Szz184 (fun hHeld => ?Rzz184)
    case Szz184 =>
      exact hHeld.trans qx
    case Rzz184 =>
      clear hK K
      try simp only [Act.put, List.setIfInBounds_toArray, List.set_cons_zero, List.set_cons_succ]
      refine wpAnyH_take (i := 35) (oi := ?ozz183) (v := ?vzz183) ?hzz183 ?azz183 ?bzz183 ?czz183 ?qzz183 ?yzz183 ?szz183 ?rzz183
      case hzz183 => simp only [List.getElem?_toArray, List.getElem?_cons_zero, List.getElem?_cons_succ]; rfl
      case azz183 => kernel_rfl
      case bzz183 => kernel_rfl
      case czz183 => kernel_rfl
      case yzz183 =>
        refine Or.inl ⟨by rfl, ?_⟩
        intro w hSw
        skip
        go_simp
        try with_reducible rfl
      case qzz183 => exact fun _ _ _ h => h
      case szz183 => first | assumption | trivial
      case' rzz183 => simp only [Act.put, List.setIfInBounds_toArray, List.set_cons_zero, List.set_cons_succ]
      refine wpAnyH_done (by kernel_rfl) ?_ _
      have HQ := Lib.hid (HQ.out.trans hHeld)
      go_wp2
      go_ret
      exact ⟨rfl, HQ.out⟩
  case' mzz184 => skip
  exact AllReadyH.nil
set_option maxHeartbeats 8000000 in
theorem walk_not (A B : Option Addr) (n c m d : Nat) (l : Lo) (i : Int) (x : Wn) (w : World) (h : LIn w A n c B m d l) (hx : WnS x) (hs : n ≤ 200 ∧ m ≤ 40) (hi : 0 ≤ i) (him : i < n) (ho : ∀ hk : i.toNat < l.held.length, 1 ≤ l.held[i.toNat].txn) (hw : ∀ hk : i.toNat < l.held.length, waits l l.held[i.toNat].txn = false) (hc : ∀ hk : i.toNat < l.held.length, covers l.held[i.toNat].w x = false) :
    Calls Try.prog 8 #[locV A n c B m d, .int .i64 i, wnV x] w fun e w' => e = .returned (.bool true) ∧ Q w w' := by
  have KS := Lib.hid (fun W => lsmall_any A B n c m d W)
  rw [Go.Proofs.Ytenemdpjhoebpaa.few hs] at KS
  obtain ⟨k, rfl⟩ : ∃ k : Nat, i = k := ⟨i.toNat, by omega⟩
  have hkm : k < n := by omega
  have hkl : k < l.held.length := by have := h.held.len; omega
  have hkn : (k : Int) < (n : Int) := by omega
  have hk0 : ¬ (k : Int) < 0 := by omega
  have hkm2 : ¬ (n : Int) ≤ (k : Int) := by omega
  have d0 : decide ((k : Int) < 0) = false := decide_eq_false hk0
  have d1 : decide ((n : Int) ≤ (k : Int)) = false := decide_eq_false hkm2
  have d3 : decide (n ≤ k) = false := decide_eq_false (by omega)
  have HI := Lib.hid h
  have LC := Lib.hid (fun W (q : Q w W) => load_hold (h.held.lst.q q) hkm hkl)
  have ho := ho (by simpa using hkl)
  simp only [Int.toNat_natCast] at ho
  have hw := hw (by simpa using hkl)
  have hc := hc (by simpa using hkl)
  simp only [Int.toNat_natCast] at hw hc
  have KW := Lib.hid (fun W q => lwaits_any A B n c m d l l.held[k].txn W (h.queue.lst.q q) h.queue.max)
  rw [hw] at KW
  have hwz : WnS l.held[k].w := h.loW.1 _ (List.getElem_mem hkl)
  have K2 := Lib.hid (fun W => rcovers_any l.held[k].w x W hwz hx)
  rw [hc] at K2
  generalize l.held[k] = z at LC ho KW K2
  have ho2 : ¬ z.txn < 1 := by omega
  have d2 : decide (z.txn < 1) = false := decide_eq_false ho2
  clear h hx hs hi him hkl hw ho hc hwz
  unfold wnV at *
  have HQ := Lib.hid (((Q.refl w).alloc (.cells #[.slice A n c, .slice B m d] 25)).alloc (.cells #[.int .i64 x.mode, .string x.lo, .string x.hi] 27))
  have XL : Hid (Bx ((w.alloc (.cells #[.slice A n c, .slice B m d] 25)).alloc (.cells #[.int .i64 x.mode, .string x.lo, .string x.hi] 27)) w.heap.size [.slice A n c, .slice B m d]) := Lib.hid ((Bx.new w [.slice A n c, .slice B m d] 25).alloc (.cells #[.int .i64 x.mode, .string x.lo, .string x.hi] 27))
  have XW : Hid (Bx ((w.alloc (.cells #[.slice A n c, .slice B m d] 25)).alloc (.cells #[.int .i64 x.mode, .string x.lo, .string x.hi] 27)) (w.heap.size + 1) [.int .i64 x.mode, .string x.lo, .string x.hi]) := Lib.hid (by have := Bx.new (w.alloc (.cells #[.slice A n c, .slice B m d] 25)) [.int .i64 x.mode, .string x.lo, .string x.hi] 27; rwa [show (w.alloc (.cells #[.slice A n c, .slice B m d] 25)).heap.size = w.heap.size + 1 by simp] at this)
  go_enter Try.func8, Try.ntmps8
  go_wp2_with fail
  generalize (w.alloc (.cells #[.slice A n c, .slice B m d] 25)).alloc (.cells #[.int .i64 x.mode, .string x.lo, .string x.hi] 27) = W0 at XL XW HQ ⊢
  generalize w.heap.size + 1 = gW at XW ⊢
  generalize w.heap.size = gL at XL ⊢
  refine (lshown_any _).mono ?_
  rintro e w1 ⟨rfl, q1⟩
  have XL := Lib.hid (XL.out.q q1)
  have XW := Lib.hid (XW.out.q q1)
  have HQ := Lib.hid (HQ.out.trans q1)
  clear q1
  obtain ⟨⟨x0, x1⟩, x2, x3⟩ := XL.out.get2
  go_wp2_with fail
  refine (KS.out _).mono ?_
  rintro e w2 ⟨rfl, q1⟩
  have XL := Lib.hid (XL.out.q q1)
  have XW := Lib.hid (XW.out.q q1)
  have HQ := Lib.hid (HQ.out.trans q1)
  clear q1
  clear x0 x1 x2 x3
  obtain ⟨⟨x0, x1⟩, x2, x3⟩ := XL.out.get2
  obtain ⟨⟨y0, y1, y2⟩, y3, y4, y5⟩ := XW.out.get3
  obtain ⟨ad, rfl, hab, k0, k1, k2, k3⟩ := LC.out _ HQ.out
  go_wp2
  refine wp_region_held_drew (S := Q w2) (by kernel_rfl) ?szz195 (fun hHeld => ?rzz195)
  case szz195 =>
    exact (Q.refl w2).drew
  case' rzz195 => skip
  refine wpAnyH_take (i := 0) (oi := ?ozz196) (v := ?vzz196) ?hzz196 ?azz196 ?bzz196 ?czz196 ?qzz196 ?yzz196 ?szz196 ?rzz196
  case hzz196 => simp only [List.getElem?_toArray, List.getElem?_cons_zero]; rfl
  case azz196 => kernel_rfl
  case bzz196 => kernel_rfl
  case czz196 => kernel_rfl
  case yzz196 =>
    refine Or.inl ⟨by rfl, ?_⟩
    intro w hSw
    skip
    go_simp
    try with_reducible rfl
  case qzz196 => exact fun _ _ _ h => h
  case szz196 => first | assumption | trivial
  case' rzz196 => simp only [Act.put, List.setIfInBounds_toArray, List.set_cons_zero, List.set_cons_succ]
  refine wpAnyH_take (i := 1) (oi := ?ozz197) (v := ?vzz197) ?hzz197 ?azz197 ?bzz197 ?czz197 ?qzz197 ?yzz197 ?szz197 ?rzz197
  case hzz197 => simp only [List.getElem?_toArray, List.getElem?_cons_zero, List.getElem?_cons_succ]; rfl
  case azz197 => kernel_rfl
  case bzz197 => kernel_rfl
  case czz197 => kernel_rfl
  case yzz197 =>
    refine Or.inl ⟨by rfl, ?_⟩
    intro w hSw
    skip
    go_simp
    try with_reducible rfl
  case qzz197 => exact fun _ _ _ h => h
  case szz197 => first | assumption | trivial
  case' rzz197 => simp only [Act.put, List.setIfInBounds_toArray, List.set_cons_zero, List.set_cons_succ]
  refine wpAnyH_take (i := 2) (oi := ?ozz198) (v := ?vzz198) ?hzz198 ?azz198 ?bzz198 ?czz198 ?qzz198 ?yzz198 ?szz198 ?rzz198
  case hzz198 => simp only [List.getElem?_toArray, List.getElem?_cons_zero, List.getElem?_cons_succ]; rfl
  case azz198 => kernel_rfl
  case bzz198 => kernel_rfl
  case czz198 => kernel_rfl
  case yzz198 =>
    refine Or.inl ⟨by rfl, ?_⟩
    intro w hSw
    skip
    go_simp
    try with_reducible rfl
  case qzz198 => exact fun _ _ _ h => h
  case szz198 => first | assumption | trivial
  case' rzz198 => simp only [Act.put, List.setIfInBounds_toArray, List.set_cons_zero, List.set_cons_succ]
  refine wpAnyH_take (i := 3) (oi := ?ozz199) (v := ?vzz199) ?hzz199 ?azz199 ?bzz199 ?czz199 ?qzz199 ?yzz199 ?szz199 ?rzz199
  case hzz199 => simp only [List.getElem?_toArray, List.getElem?_cons_zero, List.getElem?_cons_succ]; rfl
  case azz199 => kernel_rfl
  case bzz199 => kernel_rfl
  case czz199 => kernel_rfl
  case yzz199 =>
    refine Or.inl ⟨by rfl, ?_⟩
    intro w hSw
    skip
    go_simp
    try with_reducible rfl
  case qzz199 => exact fun _ _ _ h => h
  case szz199 => first | assumption | trivial
  case' rzz199 => simp only [Act.put, List.setIfInBounds_toArray, List.set_cons_zero, List.set_cons_succ]
  refine wpAnyH_take (i := 4) (oi := ?ozz200) (v := ?vzz200) ?hzz200 ?azz200 ?bzz200 ?czz200 ?qzz200 ?yzz200 ?szz200 ?rzz200
  case hzz200 => simp only [List.getElem?_toArray, List.getElem?_cons_zero, List.getElem?_cons_succ]; rfl
  case azz200 => kernel_rfl
  case bzz200 => kernel_rfl
  case czz200 => kernel_rfl
  case yzz200 =>
    refine Or.inl ⟨by rfl, ?_⟩
    intro w hSw
    skip
    go_simp
    try with_reducible rfl
  case qzz200 => exact fun _ _ _ h => h
  case szz200 => first | assumption | trivial
  case' rzz200 => simp only [Act.put, List.setIfInBounds_toArray, List.set_cons_zero, List.set_cons_succ]
  refine wpAnyH_take (i := 5) (oi := ?ozz201) (v := ?vzz201) ?hzz201 ?azz201 ?bzz201 ?czz201 ?qzz201 ?yzz201 ?szz201 ?rzz201
  case hzz201 => simp only [List.getElem?_toArray, List.getElem?_cons_zero, List.getElem?_cons_succ]; rfl
  case azz201 => kernel_rfl
  case bzz201 => kernel_rfl
  case czz201 => kernel_rfl
  case yzz201 =>
    refine Or.inl ⟨by rfl, ?_⟩
    intro w hSw
    skip
    go_simp
    try with_reducible rfl
  case qzz201 => exact fun _ _ _ h => h
  case szz201 => first | assumption | trivial
  case' rzz201 => simp only [Act.put, List.setIfInBounds_toArray, List.set_cons_zero, List.set_cons_succ]
  refine wpAnyH_take (i := 6) (oi := ?ozz202) (v := ?vzz202) ?hzz202 ?azz202 ?bzz202 ?czz202 ?qzz202 ?yzz202 ?szz202 ?rzz202
  case hzz202 => simp only [List.getElem?_toArray, List.getElem?_cons_zero, List.getElem?_cons_succ]; rfl
  case azz202 => kernel_rfl
  case bzz202 => kernel_rfl
  case czz202 => kernel_rfl
  case yzz202 =>
    refine Or.inl ⟨by rfl, ?_⟩
    intro w hSw
    skip
    go_simp
    try with_reducible rfl
  case qzz202 => exact fun _ _ _ h => h
  case szz202 => first | assumption | trivial
  case' rzz202 => simp only [Act.put, List.setIfInBounds_toArray, List.set_cons_zero, List.set_cons_succ]
  refine wpAnyH_take (i := 7) (oi := ?ozz203) (v := ?vzz203) ?hzz203 ?azz203 ?bzz203 ?czz203 ?qzz203 ?yzz203 ?szz203 ?rzz203
  case hzz203 => simp only [List.getElem?_toArray, List.getElem?_cons_zero, List.getElem?_cons_succ]; rfl
  case azz203 => kernel_rfl
  case bzz203 => kernel_rfl
  case czz203 => kernel_rfl
  case yzz203 =>
    refine Or.inl ⟨by rfl, ?_⟩
    intro w hSw
    skip
    go_simp
    try with_reducible rfl
  case qzz203 => exact fun _ _ _ h => h
  case szz203 => first | assumption | trivial
  case' rzz203 => simp only [Act.put, List.setIfInBounds_toArray, List.set_cons_zero, List.set_cons_succ]
  refine wpAnyH_take (i := 8) (oi := ?ozz204) (v := ?vzz204) ?hzz204 ?azz204 ?bzz204 ?czz204 ?qzz204 ?yzz204 ?szz204 ?rzz204
  case hzz204 => simp only [List.getElem?_toArray, List.getElem?_cons_zero, List.getElem?_cons_succ]; rfl
  case azz204 => kernel_rfl
  case bzz204 => kernel_rfl
  case czz204 => kernel_rfl
  case yzz204 =>
    refine Or.inl ⟨by rfl, ?_⟩
    intro w hSw
    skip
    go_simp
    try with_reducible rfl
  case qzz204 => exact fun _ _ _ h => h
  case szz204 => first | assumption | trivial
  case' rzz204 => simp only [Act.put, List.setIfInBounds_toArray, List.set_cons_zero, List.set_cons_succ]
  refine wpAnyH_take (i := 9) (oi := ?ozz205) (v := ?vzz205) ?hzz205 ?azz205 ?bzz205 ?czz205 ?qzz205 ?yzz205 ?szz205 ?rzz205
  case hzz205 => simp only [List.getElem?_toArray, List.getElem?_cons_zero, List.getElem?_cons_succ]; rfl
  case azz205 => kernel_rfl
  case bzz205 => kernel_rfl
  case czz205 => kernel_rfl
  case yzz205 =>
    refine Or.inl ⟨by rfl, ?_⟩
    intro w hSw
    skip
    go_simp
    try with_reducible rfl
  case qzz205 => exact fun _ _ _ h => h
  case szz205 => first | assumption | trivial
  case' rzz205 => simp only [Act.put, List.setIfInBounds_toArray, List.set_cons_zero, List.set_cons_succ]
  refine wpAnyH_take (i := 10) (oi := ?ozz206) (v := ?vzz206) ?hzz206 ?azz206 ?bzz206 ?czz206 ?qzz206 ?yzz206 ?szz206 ?rzz206
  case hzz206 => simp only [List.getElem?_toArray, List.getElem?_cons_zero, List.getElem?_cons_succ]; rfl
  case azz206 => kernel_rfl
  case bzz206 => kernel_rfl
  case czz206 => kernel_rfl
  case yzz206 =>
    refine Or.inl ⟨by rfl, ?_⟩
    intro w hSw
    skip
    go_simp
    try with_reducible rfl
  case qzz206 => exact fun _ _ _ h => h
  case szz206 => first | assumption | trivial
  case' rzz206 => simp only [Act.put, List.setIfInBounds_toArray, List.set_cons_zero, List.set_cons_succ]
  refine wpAnyH_take (i := 11) (oi := ?ozz207) (v := ?vzz207) ?hzz207 ?azz207 ?bzz207 ?czz207 ?qzz207 ?yzz207 ?szz207 ?rzz207
  case hzz207 => simp only [List.getElem?_toArray, List.getElem?_cons_zero, List.getElem?_cons_succ]; rfl
  case azz207 => kernel_rfl
  case bzz207 => kernel_rfl
  case czz207 => kernel_rfl
  case yzz207 =>
    refine Or.inl ⟨by rfl, ?_⟩
    intro w hSw
    skip
    go_simp
    try with_reducible rfl
  case qzz207 => exact fun _ _ _ h => h
  case szz207 => first | assumption | trivial
  case' rzz207 => simp only [Act.put, List.setIfInBounds_toArray, List.set_cons_zero, List.set_cons_succ]
  refine wpAnyH_take (i := 12) (oi := ?ozz208) (v := ?vzz208) ?hzz208 ?azz208 ?bzz208 ?czz208 ?qzz208 ?yzz208 ?szz208 ?rzz208
  case hzz208 => simp only [List.getElem?_toArray, List.getElem?_cons_zero, List.getElem?_cons_succ]; rfl
  case azz208 => kernel_rfl
  case bzz208 => kernel_rfl
  case czz208 => kernel_rfl
  case yzz208 =>
    refine Or.inl ⟨by rfl, ?_⟩
    intro w hSw
    skip
    go_simp
    try with_reducible rfl
  case qzz208 => exact fun _ _ _ h => h
  case szz208 => first | assumption | trivial
  case' rzz208 => simp only [Act.put, List.setIfInBounds_toArray, List.set_cons_zero, List.set_cons_succ]
  refine wpAnyH_take (i := 13) (oi := ?ozz209) (v := ?vzz209) ?hzz209 ?azz209 ?bzz209 ?czz209 ?qzz209 ?yzz209 ?szz209 ?rzz209
  case hzz209 => simp only [List.getElem?_toArray, List.getElem?_cons_zero, List.getElem?_cons_succ]; rfl
  case azz209 => kernel_rfl
  case bzz209 => kernel_rfl
  case czz209 => kernel_rfl
  case yzz209 =>
    refine Or.inl ⟨by rfl, ?_⟩
    intro w hSw
    have z0 := box_ hSw x0; have z1 := box_ hSw x1; have z2 := box_ hSw y0; have z3 := box_ hSw y1; have z4 := box_ hSw y2; have z5 := box_ hSw k0; have z6 := box_ hSw k1; have z7 := box_ hSw k2; have z8 := box_ hSw k3; clear hSw
    go_simp
    try with_reducible rfl
  case qzz209 => exact fun _ _ _ h => h
  case szz209 => first | assumption | trivial
  case' rzz209 => simp only [Act.put, List.setIfInBounds_toArray, List.set_cons_zero, List.set_cons_succ]
  refine wpAnyH_take (i := 14) (oi := ?ozz210) (v := ?vzz210) ?hzz210 ?azz210 ?bzz210 ?czz210 ?qzz210 ?yzz210 ?szz210 ?rzz210
  case hzz210 => simp only [List.getElem?_toArray, List.getElem?_cons_zero, List.getElem?_cons_succ]; rfl
  case azz210 => kernel_rfl
  case bzz210 => kernel_rfl
  case czz210 => kernel_rfl
  case yzz210 =>
    refine Or.inl ⟨by rfl, ?_⟩
    intro w hSw
    skip
    go_simp
    try with_reducible rfl
  case qzz210 => exact fun _ _ _ h => h
  case szz210 => first | assumption | trivial
  case' rzz210 => simp only [Act.put, List.setIfInBounds_toArray, List.set_cons_zero, List.set_cons_succ]
  refine wpAnyH_take (i := 15) (oi := ?ozz211) (v := ?vzz211) ?hzz211 ?azz211 ?bzz211 ?czz211 ?qzz211 ?yzz211 ?szz211 ?rzz211
  case hzz211 => simp only [List.getElem?_toArray, List.getElem?_cons_zero, List.getElem?_cons_succ]; rfl
  case azz211 => kernel_rfl
  case bzz211 => kernel_rfl
  case czz211 => kernel_rfl
  case yzz211 =>
    refine Or.inl ⟨by rfl, ?_⟩
    intro w hSw
    skip
    go_simp
    try with_reducible rfl
  case qzz211 => exact fun _ _ _ h => h
  case szz211 => first | assumption | trivial
  case' rzz211 => simp only [Act.put, List.setIfInBounds_toArray, List.set_cons_zero, List.set_cons_succ]
  refine wpAnyH_take (i := 16) (oi := ?ozz212) (v := ?vzz212) ?hzz212 ?azz212 ?bzz212 ?czz212 ?qzz212 ?yzz212 ?szz212 ?rzz212
  case hzz212 => simp only [List.getElem?_toArray, List.getElem?_cons_zero, List.getElem?_cons_succ]; rfl
  case azz212 => kernel_rfl
  case bzz212 => kernel_rfl
  case czz212 => kernel_rfl
  case yzz212 =>
    refine Or.inl ⟨by rfl, ?_⟩
    intro w hSw
    skip
    go_simp
    try with_reducible rfl
  case qzz212 => exact fun _ _ _ h => h
  case szz212 => first | assumption | trivial
  case' rzz212 => simp only [Act.put, List.setIfInBounds_toArray, List.set_cons_zero, List.set_cons_succ]
  refine wpAnyH_take (i := 17) (oi := ?ozz213) (v := ?vzz213) ?hzz213 ?azz213 ?bzz213 ?czz213 ?qzz213 ?yzz213 ?szz213 ?rzz213
  case hzz213 => simp only [List.getElem?_toArray, List.getElem?_cons_zero, List.getElem?_cons_succ]; rfl
  case azz213 => kernel_rfl
  case bzz213 => kernel_rfl
  case czz213 => kernel_rfl
  case yzz213 =>
    refine Or.inl ⟨by rfl, ?_⟩
    intro w hSw
    skip
    go_simp
    try with_reducible rfl
  case qzz213 => exact fun _ _ _ h => h
  case szz213 => first | assumption | trivial
  case' rzz213 => simp only [Act.put, List.setIfInBounds_toArray, List.set_cons_zero, List.set_cons_succ]
  refine wpAnyH_take (i := 18) (oi := ?ozz214) (v := ?vzz214) ?hzz214 ?azz214 ?bzz214 ?czz214 ?qzz214 ?yzz214 ?szz214 ?rzz214
  case hzz214 => simp only [List.getElem?_toArray, List.getElem?_cons_zero, List.getElem?_cons_succ]; rfl
  case azz214 => kernel_rfl
  case bzz214 => kernel_rfl
  case czz214 => kernel_rfl
  case yzz214 =>
    refine Or.inl ⟨by rfl, ?_⟩
    intro w hSw
    skip
    go_simp
    try with_reducible rfl
  case qzz214 => exact fun _ _ _ h => h
  case szz214 => first | assumption | trivial
  case' rzz214 => simp only [Act.put, List.setIfInBounds_toArray, List.set_cons_zero, List.set_cons_succ]
  refine wpAnyH_take (i := 19) (oi := ?ozz215) (v := ?vzz215) ?hzz215 ?azz215 ?bzz215 ?czz215 ?qzz215 ?yzz215 ?szz215 ?rzz215
  case hzz215 => simp only [List.getElem?_toArray, List.getElem?_cons_zero, List.getElem?_cons_succ]; rfl
  case azz215 => kernel_rfl
  case bzz215 => kernel_rfl
  case czz215 => kernel_rfl
  case yzz215 =>
    refine Or.inl ⟨by rfl, ?_⟩
    intro w hSw
    have z0 := box_ hSw x0; have z1 := box_ hSw x1; have z2 := box_ hSw y0; have z3 := box_ hSw y1; have z4 := box_ hSw y2; have z5 := box_ hSw k0; have z6 := box_ hSw k1; have z7 := box_ hSw k2; have z8 := box_ hSw k3; clear hSw
    go_simp
    try with_reducible rfl
  case qzz215 => exact fun _ _ _ h => h
  case szz215 => first | assumption | trivial
  case' rzz215 => simp only [Act.put, List.setIfInBounds_toArray, List.set_cons_zero, List.set_cons_succ]
  refine wpAnyH_take (i := 20) (oi := ?ozz216) (v := ?vzz216) ?hzz216 ?azz216 ?bzz216 ?czz216 ?qzz216 ?yzz216 ?szz216 ?rzz216
  case hzz216 => simp only [List.getElem?_toArray, List.getElem?_cons_zero, List.getElem?_cons_succ]; rfl
  case azz216 => kernel_rfl
  case bzz216 => kernel_rfl
  case czz216 => kernel_rfl
  case yzz216 =>
    refine Or.inl ⟨by rfl, ?_⟩
    intro w hSw
    skip
    go_simp
    try with_reducible rfl
  case qzz216 => exact fun _ _ _ h => h
  case szz216 => first | assumption | trivial
  case' rzz216 => simp only [Act.put, List.setIfInBounds_toArray, List.set_cons_zero, List.set_cons_succ]
  refine wpAnyH_take (i := 21) (oi := ?ozz217) (v := ?vzz217) ?hzz217 ?azz217 ?bzz217 ?czz217 ?qzz217 ?yzz217 ?szz217 ?rzz217
  case hzz217 => simp only [List.getElem?_toArray, List.getElem?_cons_zero, List.getElem?_cons_succ]; rfl
  case azz217 => kernel_rfl
  case bzz217 => kernel_rfl
  case czz217 => kernel_rfl
  case yzz217 =>
    refine Or.inl ⟨by rfl, ?_⟩
    intro w hSw
    have z0 := box_ hSw x0; have z1 := box_ hSw x1; have z2 := box_ hSw y0; have z3 := box_ hSw y1; have z4 := box_ hSw y2; have z5 := box_ hSw k0; have z6 := box_ hSw k1; have z7 := box_ hSw k2; have z8 := box_ hSw k3; clear hSw
    go_simp
    try with_reducible rfl
  case qzz217 => exact fun _ _ _ h => h
  case szz217 => first | assumption | trivial
  case' rzz217 => simp only [Act.put, List.setIfInBounds_toArray, List.set_cons_zero, List.set_cons_succ]
  refine wpAnyH_take (i := 22) (oi := ?ozz218) (v := ?vzz218) ?hzz218 ?azz218 ?bzz218 ?czz218 ?qzz218 ?yzz218 ?szz218 ?rzz218
  case hzz218 => simp only [List.getElem?_toArray, List.getElem?_cons_zero, List.getElem?_cons_succ]; rfl
  case azz218 => kernel_rfl
  case bzz218 => kernel_rfl
  case czz218 => kernel_rfl
  case yzz218 =>
    refine Or.inl ⟨by rfl, ?_⟩
    intro w hSw
    skip
    go_simp
    try with_reducible rfl
  case qzz218 => exact fun _ _ _ h => h
  case szz218 => first | assumption | trivial
  case' rzz218 => simp only [Act.put, List.setIfInBounds_toArray, List.set_cons_zero, List.set_cons_succ]
  refine wpAnyH_take (i := 23) (oi := ?ozz219) (v := ?vzz219) ?hzz219 ?azz219 ?bzz219 ?czz219 ?qzz219 ?yzz219 ?szz219 ?rzz219
  case hzz219 => simp only [List.getElem?_toArray, List.getElem?_cons_zero, List.getElem?_cons_succ]; rfl
  case azz219 => kernel_rfl
  case bzz219 => kernel_rfl
  case czz219 => kernel_rfl
  case yzz219 =>
    refine Or.inl ⟨by rfl, ?_⟩
    intro w hSw
    have z0 := box_ hSw x0; have z1 := box_ hSw x1; have z2 := box_ hSw y0; have z3 := box_ hSw y1; have z4 := box_ hSw y2; have z5 := box_ hSw k0; have z6 := box_ hSw k1; have z7 := box_ hSw k2; have z8 := box_ hSw k3; clear hSw
    go_simp
    try with_reducible rfl
  case qzz219 => exact fun _ _ _ h => h
  case szz219 => first | assumption | trivial
  case' rzz219 => simp only [Act.put, List.setIfInBounds_toArray, List.set_cons_zero, List.set_cons_succ]
  refine wpAnyH_take (i := 24) (oi := ?ozz220) (v := ?vzz220) ?hzz220 ?azz220 ?bzz220 ?czz220 ?qzz220 ?yzz220 ?szz220 ?rzz220
  case hzz220 => simp only [List.getElem?_toArray, List.getElem?_cons_zero, List.getElem?_cons_succ]; rfl
  case azz220 => kernel_rfl
  case bzz220 => kernel_rfl
  case czz220 => kernel_rfl
  case yzz220 =>
    refine Or.inl ⟨by rfl, ?_⟩
    intro w hSw
    skip
    go_simp
    try with_reducible rfl
  case qzz220 => exact fun _ _ _ h => h
  case szz220 => first | assumption | trivial
  case' rzz220 => simp only [Act.put, List.setIfInBounds_toArray, List.set_cons_zero, List.set_cons_succ]
  refine wpAnyH_take (i := 25) (oi := ?ozz221) (v := ?vzz221) ?hzz221 ?azz221 ?bzz221 ?czz221 ?qzz221 ?yzz221 ?szz221 ?rzz221
  case hzz221 => simp only [List.getElem?_toArray, List.getElem?_cons_zero, List.getElem?_cons_succ]; rfl
  case azz221 => kernel_rfl
  case bzz221 => kernel_rfl
  case czz221 => kernel_rfl
  case yzz221 =>
    refine Or.inl ⟨by rfl, ?_⟩
    intro w hSw
    skip
    go_simp
    try with_reducible rfl
  case qzz221 => exact fun _ _ _ h => h
  case szz221 => first | assumption | trivial
  case' rzz221 => simp only [Act.put, List.setIfInBounds_toArray, List.set_cons_zero, List.set_cons_succ]
  refine wpAnyH_take (i := 26) (oi := ?ozz222) (v := ?vzz222) ?hzz222 ?azz222 ?bzz222 ?czz222 ?qzz222 ?yzz222 ?szz222 ?rzz222
  case hzz222 => simp only [List.getElem?_toArray, List.getElem?_cons_zero, List.getElem?_cons_succ]; rfl
  case azz222 => kernel_rfl
  case bzz222 => kernel_rfl
  case czz222 => kernel_rfl
  case yzz222 =>
    refine Or.inl ⟨by rfl, ?_⟩
    intro w hSw
    skip
    go_simp
    try with_reducible rfl
  case qzz222 => exact fun _ _ _ h => h
  case szz222 => first | assumption | trivial
  case' rzz222 => simp only [Act.put, List.setIfInBounds_toArray, List.set_cons_zero, List.set_cons_succ]
  refine wpAnyH_take (i := 27) (oi := ?ozz223) (v := ?vzz223) ?hzz223 ?azz223 ?bzz223 ?czz223 ?qzz223 ?yzz223 ?szz223 ?rzz223
  case hzz223 => simp only [List.getElem?_toArray, List.getElem?_cons_zero, List.getElem?_cons_succ]; rfl
  case azz223 => kernel_rfl
  case bzz223 => kernel_rfl
  case czz223 => kernel_rfl
  case yzz223 =>
    refine Or.inl ⟨by rfl, ?_⟩
    intro w hSw
    have z0 := box_ hSw x0; have z1 := box_ hSw x1; have z2 := box_ hSw y0; have z3 := box_ hSw y1; have z4 := box_ hSw y2; have z5 := box_ hSw k0; have z6 := box_ hSw k1; have z7 := box_ hSw k2; have z8 := box_ hSw k3; clear hSw
    go_simp
    try with_reducible rfl
  case qzz223 => exact fun _ _ _ h => h
  case szz223 => first | assumption | trivial
  case' rzz223 => simp only [Act.put, List.setIfInBounds_toArray, List.set_cons_zero, List.set_cons_succ]
  refine wpAnyH_take (i := 28) (oi := ?ozz224) (v := ?vzz224) ?hzz224 ?azz224 ?bzz224 ?czz224 ?qzz224 ?yzz224 ?szz224 ?rzz224
  case hzz224 => simp only [List.getElem?_toArray, List.getElem?_cons_zero, List.getElem?_cons_succ]; rfl
  case azz224 => kernel_rfl
  case bzz224 => kernel_rfl
  case czz224 => kernel_rfl
  case yzz224 =>
    refine Or.inl ⟨by rfl, ?_⟩
    intro w hSw
    skip
    go_simp
    try with_reducible rfl
  case qzz224 => exact fun _ _ _ h => h
  case szz224 => first | assumption | trivial
  case' rzz224 => simp only [Act.put, List.setIfInBounds_toArray, List.set_cons_zero, List.set_cons_succ]
  refine wpAnyH_take (i := 29) (oi := ?ozz225) (v := ?vzz225) ?hzz225 ?azz225 ?bzz225 ?czz225 ?qzz225 ?yzz225 ?szz225 ?rzz225
  case hzz225 => simp only [List.getElem?_toArray, List.getElem?_cons_zero, List.getElem?_cons_succ]; rfl
  case azz225 => kernel_rfl
  case bzz225 => kernel_rfl
  case czz225 => kernel_rfl
  case yzz225 =>
    refine Or.inl ⟨by rfl, ?_⟩
    intro w hSw
    have z0 := box_ hSw x0; have z1 := box_ hSw x1; have z2 := box_ hSw y0; have z3 := box_ hSw y1; have z4 := box_ hSw y2; have z5 := box_ hSw k0; have z6 := box_ hSw k1; have z7 := box_ hSw k2; have z8 := box_ hSw k3; clear hSw
    go_simp
    try with_reducible rfl
  case qzz225 => exact fun _ _ _ h => h
  case szz225 => first | assumption | trivial
  case' rzz225 => simp only [Act.put, List.setIfInBounds_toArray, List.set_cons_zero, List.set_cons_succ]
  refine wpAnyH_take (i := 30) (oi := ?ozz226) (v := ?vzz226) ?hzz226 ?azz226 ?bzz226 ?czz226 ?qzz226 ?yzz226 ?szz226 ?rzz226
  case hzz226 => simp only [List.getElem?_toArray, List.getElem?_cons_zero, List.getElem?_cons_succ]; rfl
  case azz226 => kernel_rfl
  case bzz226 => kernel_rfl
  case czz226 => kernel_rfl
  case yzz226 =>
    refine Or.inl ⟨by rfl, ?_⟩
    intro w hSw
    skip
    go_simp
    try with_reducible rfl
  case qzz226 => exact fun _ _ _ h => h
  case szz226 => first | assumption | trivial
  case' rzz226 => simp only [Act.put, List.setIfInBounds_toArray, List.set_cons_zero, List.set_cons_succ]
  refine wpAnyH_take (i := 31) (oi := ?ozz227) (v := ?vzz227) ?hzz227 ?azz227 ?bzz227 ?czz227 ?qzz227 ?yzz227 ?szz227 ?rzz227
  case hzz227 => simp only [List.getElem?_toArray, List.getElem?_cons_zero, List.getElem?_cons_succ]; rfl
  case azz227 => kernel_rfl
  case bzz227 => kernel_rfl
  case czz227 => kernel_rfl
  case yzz227 =>
    refine Or.inl ⟨by rfl, ?_⟩
    intro w hSw
    have z0 := box_ hSw x0; have z1 := box_ hSw x1; have z2 := box_ hSw y0; have z3 := box_ hSw y1; have z4 := box_ hSw y2; have z5 := box_ hSw k0; have z6 := box_ hSw k1; have z7 := box_ hSw k2; have z8 := box_ hSw k3; clear hSw
    go_simp
    try with_reducible rfl
  case qzz227 => exact fun _ _ _ h => h
  case szz227 => first | assumption | trivial
  case' rzz227 => simp only [Act.put, List.setIfInBounds_toArray, List.set_cons_zero, List.set_cons_succ]
  refine wpAnyH_take (i := 32) (oi := ?ozz228) (v := ?vzz228) ?hzz228 ?azz228 ?bzz228 ?czz228 ?qzz228 ?yzz228 ?szz228 ?rzz228
  case hzz228 => simp only [List.getElem?_toArray, List.getElem?_cons_zero, List.getElem?_cons_succ]; rfl
  case azz228 => kernel_rfl
  case bzz228 => kernel_rfl
  case czz228 => kernel_rfl
  case yzz228 =>
    refine Or.inl ⟨by rfl, ?_⟩
    intro w hSw
    skip
    go_simp
    try with_reducible rfl
  case qzz228 => exact fun _ _ _ h => h
  case szz228 => first | assumption | trivial
  case' rzz228 => simp only [Act.put, List.setIfInBounds_toArray, List.set_cons_zero, List.set_cons_succ]
  refine wpAnyH_take (i := 33) (oi := ?ozz229) (v := ?vzz229) ?hzz229 ?azz229 ?bzz229 ?czz229 ?qzz229 ?yzz229 ?szz229 ?rzz229
  case hzz229 => simp only [List.getElem?_toArray, List.getElem?_cons_zero, List.getElem?_cons_succ]; rfl
  case azz229 => kernel_rfl
  case bzz229 => kernel_rfl
  case czz229 => kernel_rfl
  case yzz229 =>
    refine Or.inl ⟨by rfl, ?_⟩
    intro w hSw
    have z0 := box_ hSw x0; have z1 := box_ hSw x1; have z2 := box_ hSw y0; have z3 := box_ hSw y1; have z4 := box_ hSw y2; have z5 := box_ hSw k0; have z6 := box_ hSw k1; have z7 := box_ hSw k2; have z8 := box_ hSw k3; clear hSw
    go_simp
    try with_reducible rfl
  case qzz229 => exact fun _ _ _ h => h
  case szz229 => first | assumption | trivial
  case' rzz229 => simp only [Act.put, List.setIfInBounds_toArray, List.set_cons_zero, List.set_cons_succ]
  refine wpAnyH_ready (rs := [34]) (by kernel_rfl) (by simp) ?_
  refine AllReadyH.cons (o := ?ozz231) ?hzz231 (fun K hK => ?kzz231) ?mzz231
  case hzz231 => simp only [List.getElem?_toArray, List.getElem?_cons_zero, List.getElem?_cons_succ]; rfl
  case kzz231 =>
    go_simp
    refine (KW.out _ (HQ.out.trans hHeld)).mono ?_
    rintro e u1 ⟨rfl, qx⟩
    go_wp2_with fail
    refine hK.out _ _ ?Szz231 (fun hHeld => ?Rzz231)
    case Szz231 =>
      exact hHeld.trans qx
    case Rzz231 =>
      clear hK K
      try simp only [Act.put, List.setIfInBounds_toArray, List.set_cons_zero, List.set_cons_succ]
      refine wpAnyH_take (i := 35) (oi := ?ozz230) (v := ?vzz230) ?hzz230 ?azz230 ?bzz230 ?czz230 ?qzz230 ?yzz230 ?szz230 ?rzz230
      case hzz230 => simp only [List.getElem?_toArray, List.getElem?_cons_zero, List.getElem?_cons_succ]; rfl
      case azz230 => kernel_rfl
      case bzz230 => kernel_rfl
      case czz230 => kernel_rfl
      case yzz230 =>
        refine Or.inl ⟨by rfl, ?_⟩
        intro w hSw
        skip
        go_simp
        try with_reducible rfl
      case qzz230 => exact fun _ _ _ h => h
      case szz230 => first | assumption | trivial
      case' rzz230 => simp only [Act.put, List.setIfInBounds_toArray, List.set_cons_zero, List.set_cons_succ]
      refine wpAnyH_done (by kernel_rfl) ?_ _
      have XL := Lib.hid (XL.out.q hHeld)
      have XW := Lib.hid (XW.out.q hHeld)
      have HQ := Lib.hid (HQ.out.trans hHeld)
      clear hHeld k0 k1 k2 k3
      clear x0 x1 x2 x3
      clear y0 y1 y2 y3 y4 y5
      obtain ⟨⟨x0, x1⟩, x2, x3⟩ := XL.out.get2
      obtain ⟨⟨y0, y1, y2⟩, y3, y4, y5⟩ := XW.out.get3
      obtain ⟨ad2, had, hab2, k0, k1, k2, k3⟩ := LC.out _ HQ.out
      cases had
      go_wp2
      refine wp_region_held_drew (S := Q u1) (by kernel_rfl) ?szz185 (fun hHeld => ?rzz185)
      case szz185 =>
        exact (Q.refl u1).drew
      case' rzz185 => skip
      refine wpAnyH_take (i := 0) (oi := ?ozz186) (v := ?vzz186) ?hzz186 ?azz186 ?bzz186 ?czz186 ?qzz186 ?yzz186 ?szz186 ?rzz186
      case hzz186 => simp only [List.getElem?_toArray, List.getElem?_cons_zero]; rfl
      case azz186 => kernel_rfl
      case bzz186 => kernel_rfl
      case czz186 => kernel_rfl
      case yzz186 =>
        refine Or.inl ⟨by rfl, ?_⟩
        intro w hSw
        skip
        go_simp
        try with_reducible rfl
      case qzz186 => exact fun _ _ _ h => h
      case szz186 => first | assumption | trivial
      case' rzz186 => simp only [Act.put, List.setIfInBounds_toArray, List.set_cons_zero, List.set_cons_succ]
      refine wpAnyH_take (i := 1) (oi := ?ozz187) (v := ?vzz187) ?hzz187 ?azz187 ?bzz187 ?czz187 ?qzz187 ?yzz187 ?szz187 ?rzz187
      case hzz187 => simp only [List.getElem?_toArray, List.getElem?_cons_zero, List.getElem?_cons_succ]; rfl
      case azz187 => kernel_rfl
      case bzz187 => kernel_rfl
      case czz187 => kernel_rfl
      case yzz187 =>
        refine Or.inl ⟨by rfl, ?_⟩
        intro w hSw
        have z0 := box_ hSw x0; have z1 := box_ hSw x1; have z2 := box_ hSw y0; have z3 := box_ hSw y1; have z4 := box_ hSw y2; have z5 := box_ hSw k0; have z6 := box_ hSw k1; have z7 := box_ hSw k2; have z8 := box_ hSw k3; clear hSw
        go_simp
        try with_reducible rfl
      case qzz187 => exact fun _ _ _ h => h
      case szz187 => first | assumption | trivial
      case' rzz187 => simp only [Act.put, List.setIfInBounds_toArray, List.set_cons_zero, List.set_cons_succ]
      refine wpAnyH_take (i := 2) (oi := ?ozz188) (v := ?vzz188) ?hzz188 ?azz188 ?bzz188 ?czz188 ?qzz188 ?yzz188 ?szz188 ?rzz188
      case hzz188 => simp only [List.getElem?_toArray, List.getElem?_cons_zero, List.getElem?_cons_succ]; rfl
      case azz188 => kernel_rfl
      case bzz188 => kernel_rfl
      case czz188 => kernel_rfl
      case yzz188 =>
        refine Or.inl ⟨by rfl, ?_⟩
        intro w hSw
        skip
        go_simp
        try with_reducible rfl
      case qzz188 => exact fun _ _ _ h => h
      case szz188 => first | assumption | trivial
      case' rzz188 => simp only [Act.put, List.setIfInBounds_toArray, List.set_cons_zero, List.set_cons_succ]
      refine wpAnyH_take (i := 3) (oi := ?ozz189) (v := ?vzz189) ?hzz189 ?azz189 ?bzz189 ?czz189 ?qzz189 ?yzz189 ?szz189 ?rzz189
      case hzz189 => simp only [List.getElem?_toArray, List.getElem?_cons_zero, List.getElem?_cons_succ]; rfl
      case azz189 => kernel_rfl
      case bzz189 => kernel_rfl
      case czz189 => kernel_rfl
      case yzz189 =>
        refine Or.inl ⟨by rfl, ?_⟩
        intro w hSw
        have z0 := box_ hSw x0; have z1 := box_ hSw x1; have z2 := box_ hSw y0; have z3 := box_ hSw y1; have z4 := box_ hSw y2; have z5 := box_ hSw k0; have z6 := box_ hSw k1; have z7 := box_ hSw k2; have z8 := box_ hSw k3; clear hSw
        go_simp
        try with_reducible rfl
      case qzz189 => exact fun _ _ _ h => h
      case szz189 => first | assumption | trivial
      case' rzz189 => simp only [Act.put, List.setIfInBounds_toArray, List.set_cons_zero, List.set_cons_succ]
      refine wpAnyH_take (i := 4) (oi := ?ozz190) (v := ?vzz190) ?hzz190 ?azz190 ?bzz190 ?czz190 ?qzz190 ?yzz190 ?szz190 ?rzz190
      case hzz190 => simp only [List.getElem?_toArray, List.getElem?_cons_zero, List.getElem?_cons_succ]; rfl
      case azz190 => kernel_rfl
      case bzz190 => kernel_rfl
      case czz190 => kernel_rfl
      case yzz190 =>
        refine Or.inl ⟨by rfl, ?_⟩
        intro w hSw
        skip
        go_simp
        try with_reducible rfl
      case qzz190 => exact fun _ _ _ h => h
      case szz190 => first | assumption | trivial
      case' rzz190 => simp only [Act.put, List.setIfInBounds_toArray, List.set_cons_zero, List.set_cons_succ]
      refine wpAnyH_take (i := 5) (oi := ?ozz191) (v := ?vzz191) ?hzz191 ?azz191 ?bzz191 ?czz191 ?qzz191 ?yzz191 ?szz191 ?rzz191
      case hzz191 => simp only [List.getElem?_toArray, List.getElem?_cons_zero, List.getElem?_cons_succ]; rfl
      case azz191 => kernel_rfl
      case bzz191 => kernel_rfl
      case czz191 => kernel_rfl
      case yzz191 =>
        refine Or.inl ⟨by rfl, ?_⟩
        intro w hSw
        have z0 := box_ hSw x0; have z1 := box_ hSw x1; have z2 := box_ hSw y0; have z3 := box_ hSw y1; have z4 := box_ hSw y2; have z5 := box_ hSw k0; have z6 := box_ hSw k1; have z7 := box_ hSw k2; have z8 := box_ hSw k3; clear hSw
        go_simp
        try with_reducible rfl
      case qzz191 => exact fun _ _ _ h => h
      case szz191 => first | assumption | trivial
      case' rzz191 => simp only [Act.put, List.setIfInBounds_toArray, List.set_cons_zero, List.set_cons_succ]
      refine wpAnyH_take (i := 6) (oi := ?ozz192) (v := ?vzz192) ?hzz192 ?azz192 ?bzz192 ?czz192 ?qzz192 ?yzz192 ?szz192 ?rzz192
      case hzz192 => simp only [List.getElem?_toArray, List.getElem?_cons_zero, List.getElem?_cons_succ]; rfl
      case azz192 => kernel_rfl
      case bzz192 => kernel_rfl
      case czz192 => kernel_rfl
      case yzz192 =>
        refine Or.inl ⟨by rfl, ?_⟩
        intro w hSw
        have z0 := box_ hSw x0; have z1 := box_ hSw x1; have z2 := box_ hSw y0; have z3 := box_ hSw y1; have z4 := box_ hSw y2; have z5 := box_ hSw k0; have z6 := box_ hSw k1; have z7 := box_ hSw k2; have z8 := box_ hSw k3; clear hSw
        go_simp
        try with_reducible rfl
      case qzz192 => exact fun _ _ _ h => h
      case szz192 => first | assumption | trivial
      case' rzz192 => simp only [Act.put, List.setIfInBounds_toArray, List.set_cons_zero, List.set_cons_succ]
      refine wpAnyH_ready (rs := [7]) (by kernel_rfl) (by simp) ?_
      refine AllReadyH.cons (o := ?ozz194) ?hzz194 (fun K hK => ?kzz194) ?mzz194
      case hzz194 => simp only [List.getElem?_toArray, List.getElem?_cons_zero, List.getElem?_cons_succ]; rfl
      case kzz194 =>
        go_simp
        refine (K2.out _).mono ?_
        rintro e u2 ⟨rfl, qy⟩
        go_wp2_with fail
        refine hK.out _ _ ?Szz194 (fun hHeld => ?Rzz194)
        case Szz194 =>
          exact hHeld.trans qy
        case Rzz194 =>
          clear hK K
          try simp only [Act.put, List.setIfInBounds_toArray, List.set_cons_zero, List.set_cons_succ]
          refine wpAnyH_take (i := 8) (oi := ?ozz193) (v := ?vzz193) ?hzz193 ?azz193 ?bzz193 ?czz193 ?qzz193 ?yzz193 ?szz193 ?rzz193
          case hzz193 => simp only [List.getElem?_toArray, List.getElem?_cons_zero, List.getElem?_cons_succ]; rfl
          case azz193 => kernel_rfl
          case bzz193 => kernel_rfl
          case czz193 => kernel_rfl
          case yzz193 =>
            refine Or.inl ⟨by rfl, ?_⟩
            intro w hSw
            skip
            go_simp
            try with_reducible rfl
          case qzz193 => exact fun _ _ _ h => h
          case szz193 => first | assumption | trivial
          case' rzz193 => simp only [Act.put, List.setIfInBounds_toArray, List.set_cons_zero, List.set_cons_succ]
          refine wpAnyH_done (by kernel_rfl) ?_ _
          have HQ := Lib.hid (HQ.out.trans hHeld)
          go_wp2
          go_ret
          exact ⟨rfl, HQ.out⟩
      case' mzz194 => skip
      exact AllReadyH.nil
  case' mzz231 => skip
  exact AllReadyH.nil
set_option maxHeartbeats 8000000 in
theorem walk_yes (A B : Option Addr) (n c m d : Nat) (l : Lo) (i : Int) (x : Wn) (w : World) (h : LIn w A n c B m d l) (hx : WnS x) (hs : n ≤ 200 ∧ m ≤ 40) (hi : 0 ≤ i) (him : i < n) (ho : ∀ hk : i.toNat < l.held.length, 1 ≤ l.held[i.toNat].txn) (hw : ∀ hk : i.toNat < l.held.length, waits l l.held[i.toNat].txn = false) (hc : ∀ hk : i.toNat < l.held.length, covers l.held[i.toNat].w x = true) :
    Calls Try.prog 8 #[locV A n c B m d, .int .i64 i, wnV x] w fun e w' => e = .returned (.bool true) ∧ Q w w' := by
  have KS := Lib.hid (fun W => lsmall_any A B n c m d W)
  rw [Go.Proofs.Ytenemdpjhoebpaa.few hs] at KS
  obtain ⟨k, rfl⟩ : ∃ k : Nat, i = k := ⟨i.toNat, by omega⟩
  have hkm : k < n := by omega
  have hkl : k < l.held.length := by have := h.held.len; omega
  have hkn : (k : Int) < (n : Int) := by omega
  have hk0 : ¬ (k : Int) < 0 := by omega
  have hkm2 : ¬ (n : Int) ≤ (k : Int) := by omega
  have d0 : decide ((k : Int) < 0) = false := decide_eq_false hk0
  have d1 : decide ((n : Int) ≤ (k : Int)) = false := decide_eq_false hkm2
  have d3 : decide (n ≤ k) = false := decide_eq_false (by omega)
  have HI := Lib.hid h
  have LC := Lib.hid (fun W (q : Q w W) => load_hold (h.held.lst.q q) hkm hkl)
  have ho := ho (by simpa using hkl)
  simp only [Int.toNat_natCast] at ho
  have hw := hw (by simpa using hkl)
  have hc := hc (by simpa using hkl)
  simp only [Int.toNat_natCast] at hw hc
  have KW := Lib.hid (fun W q => lwaits_any A B n c m d l l.held[k].txn W (h.queue.lst.q q) h.queue.max)
  rw [hw] at KW
  have hwz : WnS l.held[k].w := h.loW.1 _ (List.getElem_mem hkl)
  have K2 := Lib.hid (fun W => rcovers_any l.held[k].w x W hwz hx)
  rw [hc] at K2
  have ha := ask_covered (List.getElem_mem hkl) ho hw hc 5
  have K1 := Lib.hid (fun W q => ha ▸ lask_any A B n c m d l l.held[k].txn x 5 W (h.held.q q) (h.queue.q q) (h.few hs.1 hs.2))
  clear ha
  generalize l.held[k] = z at LC ho KW K1 K2
  have ho2 : ¬ z.txn < 1 := by omega
  have d2 : decide (z.txn < 1) = false := decide_eq_false ho2
  clear h hx hs hi him hkl hw ho hc hwz
  unfold wnV at *
  have HQ := Lib.hid (((Q.refl w).alloc (.cells #[.slice A n c, .slice B m d] 25)).alloc (.cells #[.int .i64 x.mode, .string x.lo, .string x.hi] 27))
  have XL : Hid (Bx ((w.alloc (.cells #[.slice A n c, .slice B m d] 25)).alloc (.cells #[.int .i64 x.mode, .string x.lo, .string x.hi] 27)) w.heap.size [.slice A n c, .slice B m d]) := Lib.hid ((Bx.new w [.slice A n c, .slice B m d] 25).alloc (.cells #[.int .i64 x.mode, .string x.lo, .string x.hi] 27))
  have XW : Hid (Bx ((w.alloc (.cells #[.slice A n c, .slice B m d] 25)).alloc (.cells #[.int .i64 x.mode, .string x.lo, .string x.hi] 27)) (w.heap.size + 1) [.int .i64 x.mode, .string x.lo, .string x.hi]) := Lib.hid (by have := Bx.new (w.alloc (.cells #[.slice A n c, .slice B m d] 25)) [.int .i64 x.mode, .string x.lo, .string x.hi] 27; rwa [show (w.alloc (.cells #[.slice A n c, .slice B m d] 25)).heap.size = w.heap.size + 1 by simp] at this)
  go_enter Try.func8, Try.ntmps8
  go_wp2_with fail
  generalize (w.alloc (.cells #[.slice A n c, .slice B m d] 25)).alloc (.cells #[.int .i64 x.mode, .string x.lo, .string x.hi] 27) = W0 at XL XW HQ ⊢
  generalize w.heap.size + 1 = gW at XW ⊢
  generalize w.heap.size = gL at XL ⊢
  refine (lshown_any _).mono ?_
  rintro e w1 ⟨rfl, q1⟩
  have XL := Lib.hid (XL.out.q q1)
  have XW := Lib.hid (XW.out.q q1)
  have HQ := Lib.hid (HQ.out.trans q1)
  clear q1
  obtain ⟨⟨x0, x1⟩, x2, x3⟩ := XL.out.get2
  go_wp2_with fail
  refine (KS.out _).mono ?_
  rintro e w2 ⟨rfl, q1⟩
  have XL := Lib.hid (XL.out.q q1)
  have XW := Lib.hid (XW.out.q q1)
  have HQ := Lib.hid (HQ.out.trans q1)
  clear q1
  clear x0 x1 x2 x3
  obtain ⟨⟨x0, x1⟩, x2, x3⟩ := XL.out.get2
  obtain ⟨⟨y0, y1, y2⟩, y3, y4, y5⟩ := XW.out.get3
  obtain ⟨ad, rfl, hab, k0, k1, k2, k3⟩ := LC.out _ HQ.out
  go_wp2
  refine wp_region_held_drew (S := Q w2) (by kernel_rfl) ?szz275 (fun hHeld => ?rzz275)
  case szz275 =>
    exact (Q.refl w2).drew
  case' rzz275 => skip
  refine wpAnyH_take (i := 0) (oi := ?ozz276) (v := ?vzz276) ?hzz276 ?azz276 ?bzz276 ?czz276 ?qzz276 ?yzz276 ?szz276 ?rzz276
  case hzz276 => simp only [List.getElem?_toArray, List.getElem?_cons_zero]; rfl
  case azz276 => kernel_rfl
  case bzz276 => kernel_rfl
  case czz276 => kernel_rfl
  case yzz276 =>
    refine Or.inl ⟨by rfl, ?_⟩
    intro w hSw
    skip
    go_simp
    try with_reducible rfl
  case qzz276 => exact fun _ _ _ h => h
  case szz276 => first | assumption | trivial
  case' rzz276 => simp only [Act.put, List.setIfInBounds_toArray, List.set_cons_zero, List.set_cons_succ]
  refine wpAnyH_take (i := 1) (oi := ?ozz277) (v := ?vzz277) ?hzz277 ?azz277 ?bzz277 ?czz277 ?qzz277 ?yzz277 ?szz277 ?rzz277
  case hzz277 => simp only [List.getElem?_toArray, List.getElem?_cons_zero, List.getElem?_cons_succ]; rfl
  case azz277 => kernel_rfl
  case bzz277 => kernel_rfl
  case czz277 => kernel_rfl
  case yzz277 =>
    refine Or.inl ⟨by rfl, ?_⟩
    intro w hSw
    skip
    go_simp
    try with_reducible rfl
  case qzz277 => exact fun _ _ _ h => h
  case szz277 => first | assumption | trivial
  case' rzz277 => simp only [Act.put, List.setIfInBounds_toArray, List.set_cons_zero, List.set_cons_succ]
  refine wpAnyH_take (i := 2) (oi := ?ozz278) (v := ?vzz278) ?hzz278 ?azz278 ?bzz278 ?czz278 ?qzz278 ?yzz278 ?szz278 ?rzz278
  case hzz278 => simp only [List.getElem?_toArray, List.getElem?_cons_zero, List.getElem?_cons_succ]; rfl
  case azz278 => kernel_rfl
  case bzz278 => kernel_rfl
  case czz278 => kernel_rfl
  case yzz278 =>
    refine Or.inl ⟨by rfl, ?_⟩
    intro w hSw
    skip
    go_simp
    try with_reducible rfl
  case qzz278 => exact fun _ _ _ h => h
  case szz278 => first | assumption | trivial
  case' rzz278 => simp only [Act.put, List.setIfInBounds_toArray, List.set_cons_zero, List.set_cons_succ]
  refine wpAnyH_take (i := 3) (oi := ?ozz279) (v := ?vzz279) ?hzz279 ?azz279 ?bzz279 ?czz279 ?qzz279 ?yzz279 ?szz279 ?rzz279
  case hzz279 => simp only [List.getElem?_toArray, List.getElem?_cons_zero, List.getElem?_cons_succ]; rfl
  case azz279 => kernel_rfl
  case bzz279 => kernel_rfl
  case czz279 => kernel_rfl
  case yzz279 =>
    refine Or.inl ⟨by rfl, ?_⟩
    intro w hSw
    skip
    go_simp
    try with_reducible rfl
  case qzz279 => exact fun _ _ _ h => h
  case szz279 => first | assumption | trivial
  case' rzz279 => simp only [Act.put, List.setIfInBounds_toArray, List.set_cons_zero, List.set_cons_succ]
  refine wpAnyH_take (i := 4) (oi := ?ozz280) (v := ?vzz280) ?hzz280 ?azz280 ?bzz280 ?czz280 ?qzz280 ?yzz280 ?szz280 ?rzz280
  case hzz280 => simp only [List.getElem?_toArray, List.getElem?_cons_zero, List.getElem?_cons_succ]; rfl
  case azz280 => kernel_rfl
  case bzz280 => kernel_rfl
  case czz280 => kernel_rfl
  case yzz280 =>
    refine Or.inl ⟨by rfl, ?_⟩
    intro w hSw
    skip
    go_simp
    try with_reducible rfl
  case qzz280 => exact fun _ _ _ h => h
  case szz280 => first | assumption | trivial
  case' rzz280 => simp only [Act.put, List.setIfInBounds_toArray, List.set_cons_zero, List.set_cons_succ]
  refine wpAnyH_take (i := 5) (oi := ?ozz281) (v := ?vzz281) ?hzz281 ?azz281 ?bzz281 ?czz281 ?qzz281 ?yzz281 ?szz281 ?rzz281
  case hzz281 => simp only [List.getElem?_toArray, List.getElem?_cons_zero, List.getElem?_cons_succ]; rfl
  case azz281 => kernel_rfl
  case bzz281 => kernel_rfl
  case czz281 => kernel_rfl
  case yzz281 =>
    refine Or.inl ⟨by rfl, ?_⟩
    intro w hSw
    skip
    go_simp
    try with_reducible rfl
  case qzz281 => exact fun _ _ _ h => h
  case szz281 => first | assumption | trivial
  case' rzz281 => simp only [Act.put, List.setIfInBounds_toArray, List.set_cons_zero, List.set_cons_succ]
  refine wpAnyH_take (i := 6) (oi := ?ozz282) (v := ?vzz282) ?hzz282 ?azz282 ?bzz282 ?czz282 ?qzz282 ?yzz282 ?szz282 ?rzz282
  case hzz282 => simp only [List.getElem?_toArray, List.getElem?_cons_zero, List.getElem?_cons_succ]; rfl
  case azz282 => kernel_rfl
  case bzz282 => kernel_rfl
  case czz282 => kernel_rfl
  case yzz282 =>
    refine Or.inl ⟨by rfl, ?_⟩
    intro w hSw
    skip
    go_simp
    try with_reducible rfl
  case qzz282 => exact fun _ _ _ h => h
  case szz282 => first | assumption | trivial
  case' rzz282 => simp only [Act.put, List.setIfInBounds_toArray, List.set_cons_zero, List.set_cons_succ]
  refine wpAnyH_take (i := 7) (oi := ?ozz283) (v := ?vzz283) ?hzz283 ?azz283 ?bzz283 ?czz283 ?qzz283 ?yzz283 ?szz283 ?rzz283
  case hzz283 => simp only [List.getElem?_toArray, List.getElem?_cons_zero, List.getElem?_cons_succ]; rfl
  case azz283 => kernel_rfl
  case bzz283 => kernel_rfl
  case czz283 => kernel_rfl
  case yzz283 =>
    refine Or.inl ⟨by rfl, ?_⟩
    intro w hSw
    skip
    go_simp
    try with_reducible rfl
  case qzz283 => exact fun _ _ _ h => h
  case szz283 => first | assumption | trivial
  case' rzz283 => simp only [Act.put, List.setIfInBounds_toArray, List.set_cons_zero, List.set_cons_succ]
  refine wpAnyH_take (i := 8) (oi := ?ozz284) (v := ?vzz284) ?hzz284 ?azz284 ?bzz284 ?czz284 ?qzz284 ?yzz284 ?szz284 ?rzz284
  case hzz284 => simp only [List.getElem?_toArray, List.getElem?_cons_zero, List.getElem?_cons_succ]; rfl
  case azz284 => kernel_rfl
  case bzz284 => kernel_rfl
  case czz284 => kernel_rfl
  case yzz284 =>
    refine Or.inl ⟨by rfl, ?_⟩
    intro w hSw
    skip
    go_simp
    try with_reducible rfl
  case qzz284 => exact fun _ _ _ h => h
  case szz284 => first | assumption | trivial
  case' rzz284 => simp only [Act.put, List.setIfInBounds_toArray, List.set_cons_zero, List.set_cons_succ]
  refine wpAnyH_take (i := 9) (oi := ?ozz285) (v := ?vzz285) ?hzz285 ?azz285 ?bzz285 ?czz285 ?qzz285 ?yzz285 ?szz285 ?rzz285
  case hzz285 => simp only [List.getElem?_toArray, List.getElem?_cons_zero, List.getElem?_cons_succ]; rfl
  case azz285 => kernel_rfl
  case bzz285 => kernel_rfl
  case czz285 => kernel_rfl
  case yzz285 =>
    refine Or.inl ⟨by rfl, ?_⟩
    intro w hSw
    skip
    go_simp
    try with_reducible rfl
  case qzz285 => exact fun _ _ _ h => h
  case szz285 => first | assumption | trivial
  case' rzz285 => simp only [Act.put, List.setIfInBounds_toArray, List.set_cons_zero, List.set_cons_succ]
  refine wpAnyH_take (i := 10) (oi := ?ozz286) (v := ?vzz286) ?hzz286 ?azz286 ?bzz286 ?czz286 ?qzz286 ?yzz286 ?szz286 ?rzz286
  case hzz286 => simp only [List.getElem?_toArray, List.getElem?_cons_zero, List.getElem?_cons_succ]; rfl
  case azz286 => kernel_rfl
  case bzz286 => kernel_rfl
  case czz286 => kernel_rfl
  case yzz286 =>
    refine Or.inl ⟨by rfl, ?_⟩
    intro w hSw
    skip
    go_simp
    try with_reducible rfl
  case qzz286 => exact fun _ _ _ h => h
  case szz286 => first | assumption | trivial
  case' rzz286 => simp only [Act.put, List.setIfInBounds_toArray, List.set_cons_zero, List.set_cons_succ]
  refine wpAnyH_take (i := 11) (oi := ?ozz287) (v := ?vzz287) ?hzz287 ?azz287 ?bzz287 ?czz287 ?qzz287 ?yzz287 ?szz287 ?rzz287
  case hzz287 => simp only [List.getElem?_toArray, List.getElem?_cons_zero, List.getElem?_cons_succ]; rfl
  case azz287 => kernel_rfl
  case bzz287 => kernel_rfl
  case czz287 => kernel_rfl
  case yzz287 =>
    refine Or.inl ⟨by rfl, ?_⟩
    intro w hSw
    skip
    go_simp
    try with_reducible rfl
  case qzz287 => exact fun _ _ _ h => h
  case szz287 => first | assumption | trivial
  case' rzz287 => simp only [Act.put, List.setIfInBounds_toArray, List.set_cons_zero, List.set_cons_succ]
  refine wpAnyH_take (i := 12) (oi := ?ozz288) (v := ?vzz288) ?hzz288 ?azz288 ?bzz288 ?czz288 ?qzz288 ?yzz288 ?szz288 ?rzz288
  case hzz288 => simp only [List.getElem?_toArray, List.getElem?_cons_zero, List.getElem?_cons_succ]; rfl
  case azz288 => kernel_rfl
  case bzz288 => kernel_rfl
  case czz288 => kernel_rfl
  case yzz288 =>
    refine Or.inl ⟨by rfl, ?_⟩
    intro w hSw
    skip
    go_simp
    try with_reducible rfl
  case qzz288 => exact fun _ _ _ h => h
  case szz288 => first | assumption | trivial
  case' rzz288 => simp only [Act.put, List.setIfInBounds_toArray, List.set_cons_zero, List.set_cons_succ]
  refine wpAnyH_take (i := 13) (oi := ?ozz289) (v := ?vzz289) ?hzz289 ?azz289 ?bzz289 ?czz289 ?qzz289 ?yzz289 ?szz289 ?rzz289
  case hzz289 => simp only [List.getElem?_toArray, List.getElem?_cons_zero, List.getElem?_cons_succ]; rfl
  case azz289 => kernel_rfl
  case bzz289 => kernel_rfl
  case czz289 => kernel_rfl
  case yzz289 =>
    refine Or.inl ⟨by rfl, ?_⟩
    intro w hSw
    have z0 := box_ hSw x0; have z1 := box_ hSw x1; have z2 := box_ hSw y0; have z3 := box_ hSw y1; have z4 := box_ hSw y2; have z5 := box_ hSw k0; have z6 := box_ hSw k1; have z7 := box_ hSw k2; have z8 := box_ hSw k3; clear hSw
    go_simp
    try with_reducible rfl
  case qzz289 => exact fun _ _ _ h => h
  case szz289 => first | assumption | trivial
  case' rzz289 => simp only [Act.put, List.setIfInBounds_toArray, List.set_cons_zero, List.set_cons_succ]
  refine wpAnyH_take (i := 14) (oi := ?ozz290) (v := ?vzz290) ?hzz290 ?azz290 ?bzz290 ?czz290 ?qzz290 ?yzz290 ?szz290 ?rzz290
  case hzz290 => simp only [List.getElem?_toArray, List.getElem?_cons_zero, List.getElem?_cons_succ]; rfl
  case azz290 => kernel_rfl
  case bzz290 => kernel_rfl
  case czz290 => kernel_rfl
  case yzz290 =>
    refine Or.inl ⟨by rfl, ?_⟩
    intro w hSw
    skip
    go_simp
    try with_reducible rfl
  case qzz290 => exact fun _ _ _ h => h
  case szz290 => first | assumption | trivial
  case' rzz290 => simp only [Act.put, List.setIfInBounds_toArray, List.set_cons_zero, List.set_cons_succ]
  refine wpAnyH_take (i := 15) (oi := ?ozz291) (v := ?vzz291) ?hzz291 ?azz291 ?bzz291 ?czz291 ?qzz291 ?yzz291 ?szz291 ?rzz291
  case hzz291 => simp only [List.getElem?_toArray, List.getElem?_cons_zero, List.getElem?_cons_succ]; rfl
  case azz291 => kernel_rfl
  case bzz291 => kernel_rfl
  case czz291 => kernel_rfl
  case yzz291 =>
    refine Or.inl ⟨by rfl, ?_⟩
    intro w hSw
    skip
    go_simp
    try with_reducible rfl
  case qzz291 => exact fun _ _ _ h => h
  case szz291 => first | assumption | trivial
  case' rzz291 => simp only [Act.put, List.setIfInBounds_toArray, List.set_cons_zero, List.set_cons_succ]
  refine wpAnyH_take (i := 16) (oi := ?ozz292) (v := ?vzz292) ?hzz292 ?azz292 ?bzz292 ?czz292 ?qzz292 ?yzz292 ?szz292 ?rzz292
  case hzz292 => simp only [List.getElem?_toArray, List.getElem?_cons_zero, List.getElem?_cons_succ]; rfl
  case azz292 => kernel_rfl
  case bzz292 => kernel_rfl
  case czz292 => kernel_rfl
  case yzz292 =>
    refine Or.inl ⟨by rfl, ?_⟩
    intro w hSw
    skip
    go_simp
    try with_reducible rfl
  case qzz292 => exact fun _ _ _ h => h
  case szz292 => first | assumption | trivial
  case' rzz292 => simp only [Act.put, List.setIfInBounds_toArray, List.set_cons_zero, List.set_cons_succ]
  refine wpAnyH_take (i := 17) (oi := ?ozz293) (v := ?vzz293) ?hzz293 ?azz293 ?bzz293 ?czz293 ?qzz293 ?yzz293 ?szz293 ?rzz293
  case hzz293 => simp only [List.getElem?_toArray, List.getElem?_cons_zero, List.getElem?_cons_succ]; rfl
  case azz293 => kernel_rfl
  case bzz293 => kernel_rfl
  case czz293 => kernel_rfl
  case yzz293 =>
    refine Or.inl ⟨by rfl, ?_⟩
    intro w hSw
    skip
    go_simp
    try with_reducible rfl
  case qzz293 => exact fun _ _ _ h => h
  case szz293 => first | assumption | trivial
  case' rzz293 => simp only [Act.put, List.setIfInBounds_toArray, List.set_cons_zero, List.set_cons_succ]
  refine wpAnyH_take (i := 18) (oi := ?ozz294) (v := ?vzz294) ?hzz294 ?azz294 ?bzz294 ?czz294 ?qzz294 ?yzz294 ?szz294 ?rzz294
  case hzz294 => simp only [List.getElem?_toArray, List.getElem?_cons_zero, List.getElem?_cons_succ]; rfl
  case azz294 => kernel_rfl
  case bzz294 => kernel_rfl
  case czz294 => kernel_rfl
  case yzz294 =>
    refine Or.inl ⟨by rfl, ?_⟩
    intro w hSw
    skip
    go_simp
    try with_reducible rfl
  case qzz294 => exact fun _ _ _ h => h
  case szz294 => first | assumption | trivial
  case' rzz294 => simp only [Act.put, List.setIfInBounds_toArray, List.set_cons_zero, List.set_cons_succ]
  refine wpAnyH_take (i := 19) (oi := ?ozz295) (v := ?vzz295) ?hzz295 ?azz295 ?bzz295 ?czz295 ?qzz295 ?yzz295 ?szz295 ?rzz295
  case hzz295 => simp only [List.getElem?_toArray, List.getElem?_cons_zero, List.getElem?_cons_succ]; rfl
  case azz295 => kernel_rfl
  case bzz295 => kernel_rfl
  case czz295 => kernel_rfl
  case yzz295 =>
    refine Or.inl ⟨by rfl, ?_⟩
    intro w hSw
    have z0 := box_ hSw x0; have z1 := box_ hSw x1; have z2 := box_ hSw y0; have z3 := box_ hSw y1; have z4 := box_ hSw y2; have z5 := box_ hSw k0; have z6 := box_ hSw k1; have z7 := box_ hSw k2; have z8 := box_ hSw k3; clear hSw
    go_simp
    try with_reducible rfl
  case qzz295 => exact fun _ _ _ h => h
  case szz295 => first | assumption | trivial
  case' rzz295 => simp only [Act.put, List.setIfInBounds_toArray, List.set_cons_zero, List.set_cons_succ]
  refine wpAnyH_take (i := 20) (oi := ?ozz296) (v := ?vzz296) ?hzz296 ?azz296 ?bzz296 ?czz296 ?qzz296 ?yzz296 ?szz296 ?rzz296
  case hzz296 => simp only [List.getElem?_toArray, List.getElem?_cons_zero, List.getElem?_cons_succ]; rfl
  case azz296 => kernel_rfl
  case bzz296 => kernel_rfl
  case czz296 => kernel_rfl
  case yzz296 =>
    refine Or.inl ⟨by rfl, ?_⟩
    intro w hSw
    skip
    go_simp
    try with_reducible rfl
  case qzz296 => exact fun _ _ _ h => h
  case szz296 => first | assumption | trivial
  case' rzz296 => simp only [Act.put, List.setIfInBounds_toArray, List.set_cons_zero, List.set_cons_succ]
  refine wpAnyH_take (i := 21) (oi := ?ozz297) (v := ?vzz297) ?hzz297 ?azz297 ?bzz297 ?czz297 ?qzz297 ?yzz297 ?szz297 ?rzz297
  case hzz297 => simp only [List.getElem?_toArray, List.getElem?_cons_zero, List.getElem?_cons_succ]; rfl
  case azz297 => kernel_rfl
  case bzz297 => kernel_rfl
  case czz297 => kernel_rfl
  case yzz297 =>
    refine Or.inl ⟨by rfl, ?_⟩
    intro w hSw
    have z0 := box_ hSw x0; have z1 := box_ hSw x1; have z2 := box_ hSw y0; have z3 := box_ hSw y1; have z4 := box_ hSw y2; have z5 := box_ hSw k0; have z6 := box_ hSw k1; have z7 := box_ hSw k2; have z8 := box_ hSw k3; clear hSw
    go_simp
    try with_reducible rfl
  case qzz297 => exact fun _ _ _ h => h
  case szz297 => first | assumption | trivial
  case' rzz297 => simp only [Act.put, List.setIfInBounds_toArray, List.set_cons_zero, List.set_cons_succ]
  refine wpAnyH_take (i := 22) (oi := ?ozz298) (v := ?vzz298) ?hzz298 ?azz298 ?bzz298 ?czz298 ?qzz298 ?yzz298 ?szz298 ?rzz298
  case hzz298 => simp only [List.getElem?_toArray, List.getElem?_cons_zero, List.getElem?_cons_succ]; rfl
  case azz298 => kernel_rfl
  case bzz298 => kernel_rfl
  case czz298 => kernel_rfl
  case yzz298 =>
    refine Or.inl ⟨by rfl, ?_⟩
    intro w hSw
    skip
    go_simp
    try with_reducible rfl
  case qzz298 => exact fun _ _ _ h => h
  case szz298 => first | assumption | trivial
  case' rzz298 => simp only [Act.put, List.setIfInBounds_toArray, List.set_cons_zero, List.set_cons_succ]
  refine wpAnyH_take (i := 23) (oi := ?ozz299) (v := ?vzz299) ?hzz299 ?azz299 ?bzz299 ?czz299 ?qzz299 ?yzz299 ?szz299 ?rzz299
  case hzz299 => simp only [List.getElem?_toArray, List.getElem?_cons_zero, List.getElem?_cons_succ]; rfl
  case azz299 => kernel_rfl
  case bzz299 => kernel_rfl
  case czz299 => kernel_rfl
  case yzz299 =>
    refine Or.inl ⟨by rfl, ?_⟩
    intro w hSw
    have z0 := box_ hSw x0; have z1 := box_ hSw x1; have z2 := box_ hSw y0; have z3 := box_ hSw y1; have z4 := box_ hSw y2; have z5 := box_ hSw k0; have z6 := box_ hSw k1; have z7 := box_ hSw k2; have z8 := box_ hSw k3; clear hSw
    go_simp
    try with_reducible rfl
  case qzz299 => exact fun _ _ _ h => h
  case szz299 => first | assumption | trivial
  case' rzz299 => simp only [Act.put, List.setIfInBounds_toArray, List.set_cons_zero, List.set_cons_succ]
  refine wpAnyH_take (i := 24) (oi := ?ozz300) (v := ?vzz300) ?hzz300 ?azz300 ?bzz300 ?czz300 ?qzz300 ?yzz300 ?szz300 ?rzz300
  case hzz300 => simp only [List.getElem?_toArray, List.getElem?_cons_zero, List.getElem?_cons_succ]; rfl
  case azz300 => kernel_rfl
  case bzz300 => kernel_rfl
  case czz300 => kernel_rfl
  case yzz300 =>
    refine Or.inl ⟨by rfl, ?_⟩
    intro w hSw
    skip
    go_simp
    try with_reducible rfl
  case qzz300 => exact fun _ _ _ h => h
  case szz300 => first | assumption | trivial
  case' rzz300 => simp only [Act.put, List.setIfInBounds_toArray, List.set_cons_zero, List.set_cons_succ]
  refine wpAnyH_take (i := 25) (oi := ?ozz301) (v := ?vzz301) ?hzz301 ?azz301 ?bzz301 ?czz301 ?qzz301 ?yzz301 ?szz301 ?rzz301
  case hzz301 => simp only [List.getElem?_toArray, List.getElem?_cons_zero, List.getElem?_cons_succ]; rfl
  case azz301 => kernel_rfl
  case bzz301 => kernel_rfl
  case czz301 => kernel_rfl
  case yzz301 =>
    refine Or.inl ⟨by rfl, ?_⟩
    intro w hSw
    skip
    go_simp
    try with_reducible rfl
  case qzz301 => exact fun _ _ _ h => h
  case szz301 => first | assumption | trivial
  case' rzz301 => simp only [Act.put, List.setIfInBounds_toArray, List.set_cons_zero, List.set_cons_succ]
  refine wpAnyH_take (i := 26) (oi := ?ozz302) (v := ?vzz302) ?hzz302 ?azz302 ?bzz302 ?czz302 ?qzz302 ?yzz302 ?szz302 ?rzz302
  case hzz302 => simp only [List.getElem?_toArray, List.getElem?_cons_zero, List.getElem?_cons_succ]; rfl
  case azz302 => kernel_rfl
  case bzz302 => kernel_rfl
  case czz302 => kernel_rfl
  case yzz302 =>
    refine Or.inl ⟨by rfl, ?_⟩
    intro w hSw
    skip
    go_simp
    try with_reducible rfl
  case qzz302 => exact fun _ _ _ h => h
  case szz302 => first | assumption | trivial
  case' rzz302 => simp only [Act.put, List.setIfInBounds_toArray, List.set_cons_zero, List.set_cons_succ]
  refine wpAnyH_take (i := 27) (oi := ?ozz303) (v := ?vzz303) ?hzz303 ?azz303 ?bzz303 ?czz303 ?qzz303 ?yzz303 ?szz303 ?rzz303
  case hzz303 => simp only [List.getElem?_toArray, List.getElem?_cons_zero, List.getElem?_cons_succ]; rfl
  case azz303 => kernel_rfl
  case bzz303 => kernel_rfl
  case czz303 => kernel_rfl
  case yzz303 =>
    refine Or.inl ⟨by rfl, ?_⟩
    intro w hSw
    have z0 := box_ hSw x0; have z1 := box_ hSw x1; have z2 := box_ hSw y0; have z3 := box_ hSw y1; have z4 := box_ hSw y2; have z5 := box_ hSw k0; have z6 := box_ hSw k1; have z7 := box_ hSw k2; have z8 := box_ hSw k3; clear hSw
    go_simp
    try with_reducible rfl
  case qzz303 => exact fun _ _ _ h => h
  case szz303 => first | assumption | trivial
  case' rzz303 => simp only [Act.put, List.setIfInBounds_toArray, List.set_cons_zero, List.set_cons_succ]
  refine wpAnyH_take (i := 28) (oi := ?ozz304) (v := ?vzz304) ?hzz304 ?azz304 ?bzz304 ?czz304 ?qzz304 ?yzz304 ?szz304 ?rzz304
  case hzz304 => simp only [List.getElem?_toArray, List.getElem?_cons_zero, List.getElem?_cons_succ]; rfl
  case azz304 => kernel_rfl
  case bzz304 => kernel_rfl
  case czz304 => kernel_rfl
  case yzz304 =>
    refine Or.inl ⟨by rfl, ?_⟩
    intro w hSw
    skip
    go_simp
    try with_reducible rfl
  case qzz304 => exact fun _ _ _ h => h
  case szz304 => first | assumption | trivial
  case' rzz304 => simp only [Act.put, List.setIfInBounds_toArray, List.set_cons_zero, List.set_cons_succ]
  refine wpAnyH_take (i := 29) (oi := ?ozz305) (v := ?vzz305) ?hzz305 ?azz305 ?bzz305 ?czz305 ?qzz305 ?yzz305 ?szz305 ?rzz305
  case hzz305 => simp only [List.getElem?_toArray, List.getElem?_cons_zero, List.getElem?_cons_succ]; rfl
  case azz305 => kernel_rfl
  case bzz305 => kernel_rfl
  case czz305 => kernel_rfl
  case yzz305 =>
    refine Or.inl ⟨by rfl, ?_⟩
    intro w hSw
    have z0 := box_ hSw x0; have z1 := box_ hSw x1; have z2 := box_ hSw y0; have z3 := box_ hSw y1; have z4 := box_ hSw y2; have z5 := box_ hSw k0; have z6 := box_ hSw k1; have z7 := box_ hSw k2; have z8 := box_ hSw k3; clear hSw
    go_simp
    try with_reducible rfl
  case qzz305 => exact fun _ _ _ h => h
  case szz305 => first | assumption | trivial
  case' rzz305 => simp only [Act.put, List.setIfInBounds_toArray, List.set_cons_zero, List.set_cons_succ]
  refine wpAnyH_take (i := 30) (oi := ?ozz306) (v := ?vzz306) ?hzz306 ?azz306 ?bzz306 ?czz306 ?qzz306 ?yzz306 ?szz306 ?rzz306
  case hzz306 => simp only [List.getElem?_toArray, List.getElem?_cons_zero, List.getElem?_cons_succ]; rfl
  case azz306 => kernel_rfl
  case bzz306 => kernel_rfl
  case czz306 => kernel_rfl
  case yzz306 =>
    refine Or.inl ⟨by rfl, ?_⟩
    intro w hSw
    skip
    go_simp
    try with_reducible rfl
  case qzz306 => exact fun _ _ _ h => h
  case szz306 => first | assumption | trivial
  case' rzz306 => simp only [Act.put, List.setIfInBounds_toArray, List.set_cons_zero, List.set_cons_succ]
  refine wpAnyH_take (i := 31) (oi := ?ozz307) (v := ?vzz307) ?hzz307 ?azz307 ?bzz307 ?czz307 ?qzz307 ?yzz307 ?szz307 ?rzz307
  case hzz307 => simp only [List.getElem?_toArray, List.getElem?_cons_zero, List.getElem?_cons_succ]; rfl
  case azz307 => kernel_rfl
  case bzz307 => kernel_rfl
  case czz307 => kernel_rfl
  case yzz307 =>
    refine Or.inl ⟨by rfl, ?_⟩
    intro w hSw
    have z0 := box_ hSw x0; have z1 := box_ hSw x1; have z2 := box_ hSw y0; have z3 := box_ hSw y1; have z4 := box_ hSw y2; have z5 := box_ hSw k0; have z6 := box_ hSw k1; have z7 := box_ hSw k2; have z8 := box_ hSw k3; clear hSw
    go_simp
    try with_reducible rfl
  case qzz307 => exact fun _ _ _ h => h
  case szz307 => first | assumption | trivial
  case' rzz307 => simp only [Act.put, List.setIfInBounds_toArray, List.set_cons_zero, List.set_cons_succ]
  refine wpAnyH_take (i := 32) (oi := ?ozz308) (v := ?vzz308) ?hzz308 ?azz308 ?bzz308 ?czz308 ?qzz308 ?yzz308 ?szz308 ?rzz308
  case hzz308 => simp only [List.getElem?_toArray, List.getElem?_cons_zero, List.getElem?_cons_succ]; rfl
  case azz308 => kernel_rfl
  case bzz308 => kernel_rfl
  case czz308 => kernel_rfl
  case yzz308 =>
    refine Or.inl ⟨by rfl, ?_⟩
    intro w hSw
    skip
    go_simp
    try with_reducible rfl
  case qzz308 => exact fun _ _ _ h => h
  case szz308 => first | assumption | trivial
  case' rzz308 => simp only [Act.put, List.setIfInBounds_toArray, List.set_cons_zero, List.set_cons_succ]
  refine wpAnyH_take (i := 33) (oi := ?ozz309) (v := ?vzz309) ?hzz309 ?azz309 ?bzz309 ?czz309 ?qzz309 ?yzz309 ?szz309 ?rzz309
  case hzz309 => simp only [List.getElem?_toArray, List.getElem?_cons_zero, List.getElem?_cons_succ]; rfl
  case azz309 => kernel_rfl
  case bzz309 => kernel_rfl
  case czz309 => kernel_rfl
  case yzz309 =>
    refine Or.inl ⟨by rfl, ?_⟩
    intro w hSw
    have z0 := box_ hSw x0; have z1 := box_ hSw x1; have z2 := box_ hSw y0; have z3 := box_ hSw y1; have z4 := box_ hSw y2; have z5 := box_ hSw k0; have z6 := box_ hSw k1; have z7 := box_ hSw k2; have z8 := box_ hSw k3; clear hSw
    go_simp
    try with_reducible rfl
  case qzz309 => exact fun _ _ _ h => h
  case szz309 => first | assumption | trivial
  case' rzz309 => simp only [Act.put, List.setIfInBounds_toArray, List.set_cons_zero, List.set_cons_succ]
  refine wpAnyH_ready (rs := [34]) (by kernel_rfl) (by simp) ?_
  refine AllReadyH.cons (o := ?ozz311) ?hzz311 (fun K hK => ?kzz311) ?mzz311
  case hzz311 => simp only [List.getElem?_toArray, List.getElem?_cons_zero, List.getElem?_cons_succ]; rfl
  case kzz311 =>
    go_simp
    refine (KW.out _ (HQ.out.trans hHeld)).mono ?_
    rintro e u1 ⟨rfl, qx⟩
    go_wp2_with fail
    refine hK.out _ _ ?Szz311 (fun hHeld => ?Rzz311)
    case Szz311 =>
      exact hHeld.trans qx
    case Rzz311 =>
      clear hK K
      try simp only [Act.put, List.setIfInBounds_toArray, List.set_cons_zero, List.set_cons_succ]
      refine wpAnyH_take (i := 35) (oi := ?ozz310) (v := ?vzz310) ?hzz310 ?azz310 ?bzz310 ?czz310 ?qzz310 ?yzz310 ?szz310 ?rzz310
      case hzz310 => simp only [List.getElem?_toArray, List.getElem?_cons_zero, List.getElem?_cons_succ]; rfl
      case azz310 => kernel_rfl
      case bzz310 => kernel_rfl
      case czz310 => kernel_rfl
      case yzz310 =>
        refine Or.inl ⟨by rfl, ?_⟩
        intro w hSw
        skip
        go_simp
        try with_reducible rfl
      case qzz310 => exact fun _ _ _ h => h
      case szz310 => first | assumption | trivial
      case' rzz310 => simp only [Act.put, List.setIfInBounds_toArray, List.set_cons_zero, List.set_cons_succ]
      refine wpAnyH_done (by kernel_rfl) ?_ _
      have XL := Lib.hid (XL.out.q hHeld)
      have XW := Lib.hid (XW.out.q hHeld)
      have HQ := Lib.hid (HQ.out.trans hHeld)
      clear hHeld k0 k1 k2 k3
      clear x0 x1 x2 x3
      clear y0 y1 y2 y3 y4 y5
      obtain ⟨⟨x0, x1⟩, x2, x3⟩ := XL.out.get2
      obtain ⟨⟨y0, y1, y2⟩, y3, y4, y5⟩ := XW.out.get3
      obtain ⟨ad2, had, hab2, k0, k1, k2, k3⟩ := LC.out _ HQ.out
      cases had
      go_wp2
      refine wp_region_held_drew (S := Q u1) (by kernel_rfl) ?szz265 (fun hHeld => ?rzz265)
      case szz265 =>
        exact (Q.refl u1).drew
      case' rzz265 => skip
      refine wpAnyH_take (i := 0) (oi := ?ozz266) (v := ?vzz266) ?hzz266 ?azz266 ?bzz266 ?czz266 ?qzz266 ?yzz266 ?szz266 ?rzz266
      case hzz266 => simp only [List.getElem?_toArray, List.getElem?_cons_zero]; rfl
      case azz266 => kernel_rfl
      case bzz266 => kernel_rfl
      case czz266 => kernel_rfl
      case yzz266 =>
        refine Or.inl ⟨by rfl, ?_⟩
        intro w hSw
        skip
        go_simp
        try with_reducible rfl
      case qzz266 => exact fun _ _ _ h => h
      case szz266 => first | assumption | trivial
      case' rzz266 => simp only [Act.put, List.setIfInBounds_toArray, List.set_cons_zero, List.set_cons_succ]
      refine wpAnyH_take (i := 1) (oi := ?ozz267) (v := ?vzz267) ?hzz267 ?azz267 ?bzz267 ?czz267 ?qzz267 ?yzz267 ?szz267 ?rzz267
      case hzz267 => simp only [List.getElem?_toArray, List.getElem?_cons_zero, List.getElem?_cons_succ]; rfl
      case azz267 => kernel_rfl
      case bzz267 => kernel_rfl
      case czz267 => kernel_rfl
      case yzz267 =>
        refine Or.inl ⟨by rfl, ?_⟩
        intro w hSw
        have z0 := box_ hSw x0; have z1 := box_ hSw x1; have z2 := box_ hSw y0; have z3 := box_ hSw y1; have z4 := box_ hSw y2; have z5 := box_ hSw k0; have z6 := box_ hSw k1; have z7 := box_ hSw k2; have z8 := box_ hSw k3; clear hSw
        go_simp
        try with_reducible rfl
      case qzz267 => exact fun _ _ _ h => h
      case szz267 => first | assumption | trivial
      case' rzz267 => simp only [Act.put, List.setIfInBounds_toArray, List.set_cons_zero, List.set_cons_succ]
      refine wpAnyH_take (i := 2) (oi := ?ozz268) (v := ?vzz268) ?hzz268 ?azz268 ?bzz268 ?czz268 ?qzz268 ?yzz268 ?szz268 ?rzz268
      case hzz268 => simp only [List.getElem?_toArray, List.getElem?_cons_zero, List.getElem?_cons_succ]; rfl
      case azz268 => kernel_rfl
      case bzz268 => kernel_rfl
      case czz268 => kernel_rfl
      case yzz268 =>
        refine Or.inl ⟨by rfl, ?_⟩
        intro w hSw
        skip
        go_simp
        try with_reducible rfl
      case qzz268 => exact fun _ _ _ h => h
      case szz268 => first | assumption | trivial
      case' rzz268 => simp only [Act.put, List.setIfInBounds_toArray, List.set_cons_zero, List.set_cons_succ]
      refine wpAnyH_take (i := 3) (oi := ?ozz269) (v := ?vzz269) ?hzz269 ?azz269 ?bzz269 ?czz269 ?qzz269 ?yzz269 ?szz269 ?rzz269
      case hzz269 => simp only [List.getElem?_toArray, List.getElem?_cons_zero, List.getElem?_cons_succ]; rfl
      case azz269 => kernel_rfl
      case bzz269 => kernel_rfl
      case czz269 => kernel_rfl
      case yzz269 =>
        refine Or.inl ⟨by rfl, ?_⟩
        intro w hSw
        have z0 := box_ hSw x0; have z1 := box_ hSw x1; have z2 := box_ hSw y0; have z3 := box_ hSw y1; have z4 := box_ hSw y2; have z5 := box_ hSw k0; have z6 := box_ hSw k1; have z7 := box_ hSw k2; have z8 := box_ hSw k3; clear hSw
        go_simp
        try with_reducible rfl
      case qzz269 => exact fun _ _ _ h => h
      case szz269 => first | assumption | trivial
      case' rzz269 => simp only [Act.put, List.setIfInBounds_toArray, List.set_cons_zero, List.set_cons_succ]
      refine wpAnyH_take (i := 4) (oi := ?ozz270) (v := ?vzz270) ?hzz270 ?azz270 ?bzz270 ?czz270 ?qzz270 ?yzz270 ?szz270 ?rzz270
      case hzz270 => simp only [List.getElem?_toArray, List.getElem?_cons_zero, List.getElem?_cons_succ]; rfl
      case azz270 => kernel_rfl
      case bzz270 => kernel_rfl
      case czz270 => kernel_rfl
      case yzz270 =>
        refine Or.inl ⟨by rfl, ?_⟩
        intro w hSw
        skip
        go_simp
        try with_reducible rfl
      case qzz270 => exact fun _ _ _ h => h
      case szz270 => first | assumption | trivial
      case' rzz270 => simp only [Act.put, List.setIfInBounds_toArray, List.set_cons_zero, List.set_cons_succ]
      refine wpAnyH_take (i := 5) (oi := ?ozz271) (v := ?vzz271) ?hzz271 ?azz271 ?bzz271 ?czz271 ?qzz271 ?yzz271 ?szz271 ?rzz271
      case hzz271 => simp only [List.getElem?_toArray, List.getElem?_cons_zero, List.getElem?_cons_succ]; rfl
      case azz271 => kernel_rfl
      case bzz271 => kernel_rfl
      case czz271 => kernel_rfl
      case yzz271 =>
        refine Or.inl ⟨by rfl, ?_⟩
        intro w hSw
        have z0 := box_ hSw x0; have z1 := box_ hSw x1; have z2 := box_ hSw y0; have z3 := box_ hSw y1; have z4 := box_ hSw y2; have z5 := box_ hSw k0; have z6 := box_ hSw k1; have z7 := box_ hSw k2; have z8 := box_ hSw k3; clear hSw
        go_simp
        try with_reducible rfl
      case qzz271 => exact fun _ _ _ h => h
      case szz271 => first | assumption | trivial
      case' rzz271 => simp only [Act.put, List.setIfInBounds_toArray, List.set_cons_zero, List.set_cons_succ]
      refine wpAnyH_take (i := 6) (oi := ?ozz272) (v := ?vzz272) ?hzz272 ?azz272 ?bzz272 ?czz272 ?qzz272 ?yzz272 ?szz272 ?rzz272
      case hzz272 => simp only [List.getElem?_toArray, List.getElem?_cons_zero, List.getElem?_cons_succ]; rfl
      case azz272 => kernel_rfl
      case bzz272 => kernel_rfl
      case czz272 => kernel_rfl
      case yzz272 =>
        refine Or.inl ⟨by rfl, ?_⟩
        intro w hSw
        have z0 := box_ hSw x0; have z1 := box_ hSw x1; have z2 := box_ hSw y0; have z3 := box_ hSw y1; have z4 := box_ hSw y2; have z5 := box_ hSw k0; have z6 := box_ hSw k1; have z7 := box_ hSw k2; have z8 := box_ hSw k3; clear hSw
        go_simp
        try with_reducible rfl
      case qzz272 => exact fun _ _ _ h => h
      case szz272 => first | assumption | trivial
      case' rzz272 => simp only [Act.put, List.setIfInBounds_toArray, List.set_cons_zero, List.set_cons_succ]
      refine wpAnyH_ready (rs := [7]) (by kernel_rfl) (by simp) ?_
      refine AllReadyH.cons (o := ?ozz274) ?hzz274 (fun K hK => ?kzz274) ?mzz274
      case hzz274 => simp only [List.getElem?_toArray, List.getElem?_cons_zero, List.getElem?_cons_succ]; rfl
      case kzz274 =>
        go_simp
        refine (K2.out _).mono ?_
        rintro e u2 ⟨rfl, qy⟩
        go_wp2_with fail
        refine hK.out _ _ ?Szz274 (fun hHeld => ?Rzz274)
        case Szz274 =>
          exact hHeld.trans qy
        case Rzz274 =>
          clear hK K
          try simp only [Act.put, List.setIfInBounds_toArray, List.set_cons_zero, List.set_cons_succ]
          refine wpAnyH_take (i := 8) (oi := ?ozz273) (v := ?vzz273) ?hzz273 ?azz273 ?bzz273 ?czz273 ?qzz273 ?yzz273 ?szz273 ?rzz273
          case hzz273 => simp only [List.getElem?_toArray, List.getElem?_cons_zero, List.getElem?_cons_succ]; rfl
          case azz273 => kernel_rfl
          case bzz273 => kernel_rfl
          case czz273 => kernel_rfl
          case yzz273 =>
            refine Or.inl ⟨by rfl, ?_⟩
            intro w hSw
            skip
            go_simp
            try with_reducible rfl
          case qzz273 => exact fun _ _ _ h => h
          case szz273 => first | assumption | trivial
          case' rzz273 => simp only [Act.put, List.setIfInBounds_toArray, List.set_cons_zero, List.set_cons_succ]
          refine wpAnyH_done (by kernel_rfl) ?_ _
          have XL := Lib.hid (XL.out.q hHeld)
          have XW := Lib.hid (XW.out.q hHeld)
          have HQ := Lib.hid (HQ.out.trans hHeld)
          clear hHeld k0 k1 k2 k3
          clear x0 x1 x2 x3
          clear y0 y1 y2 y3 y4 y5
          obtain ⟨⟨x0, x1⟩, x2, x3⟩ := XL.out.get2
          obtain ⟨⟨y0, y1, y2⟩, y3, y4, y5⟩ := XW.out.get3
          obtain ⟨ad2, had, hab2, k0, k1, k2, k3⟩ := LC.out _ HQ.out
          cases had
          go_wp2
          refine wp_region_heldL 13 (Q u2) (by kernel_rfl) ?szz232 (fun hHeld => ?rzz232)
          case szz232 =>
            exact (Q.refl u2).drew
          case' rzz232 => skip
          generalize hgen : u2.drew = D0 at hHeld ⊢
          clear hgen
          refine wpAnyL_take (i := 0) (oi := ?ozz233) (v := ?vzz233) ?hzz233 ?azz233 ?bzz233 ?czz233 ?kzz233 ?qzz233 ?yzz233 ?szz233 ?rzz233
          case hzz233 => simp only [List.getElem?_toArray, List.getElem?_cons_zero]; rfl
          case azz233 => kernel_rfl
          case bzz233 => kernel_rfl
          case czz233 => kernel_rfl
          case kzz233 => kernel_rfl
          case yzz233 =>
            refine Or.inl ⟨by rfl, ?_⟩
            intro w hSw
            have z0 := box_ hSw x0; have z1 := box_ hSw x1; have z2 := box_ hSw y0; have z3 := box_ hSw y1; have z4 := box_ hSw y2; have z5 := box_ hSw k0; have z6 := box_ hSw k1; have z7 := box_ hSw k2; have z8 := box_ hSw k3; clear hSw
            go_simp
            try with_reducible rfl
          case qzz233 => exact fun _ _ _ h => h
          case szz233 => first | assumption | trivial
          case' rzz233 => simp only [Act.put, List.setIfInBounds_toArray, List.set_cons_zero, List.set_cons_succ]
          refine wpAnyL_take (i := 1) (oi := ?ozz234) (v := ?vzz234) ?hzz234 ?azz234 ?bzz234 ?czz234 ?kzz234 ?qzz234 ?yzz234 ?szz234 ?rzz234
          case hzz234 => simp only [List.getElem?_toArray, List.getElem?_cons_zero, List.getElem?_cons_succ]; rfl
          case azz234 => kernel_rfl
          case bzz234 => kernel_rfl
          case czz234 => kernel_rfl
          case kzz234 => kernel_rfl
          case yzz234 =>
            refine Or.inl ⟨by rfl, ?_⟩
            intro w hSw
            skip
            go_simp
            try with_reducible rfl
          case qzz234 => exact fun _ _ _ h => h
          case szz234 => first | assumption | trivial
          case' rzz234 => simp only [Act.put, List.setIfInBounds_toArray, List.set_cons_zero, List.set_cons_succ]
          refine wpAnyL_take (i := 2) (oi := ?ozz235) (v := ?vzz235) ?hzz235 ?azz235 ?bzz235 ?czz235 ?kzz235 ?qzz235 ?yzz235 ?szz235 ?rzz235
          case hzz235 => simp only [List.getElem?_toArray, List.getElem?_cons_zero, List.getElem?_cons_succ]; rfl
          case azz235 => kernel_rfl
          case bzz235 => kernel_rfl
          case czz235 => kernel_rfl
          case kzz235 => kernel_rfl
          case yzz235 =>
            refine Or.inl ⟨by rfl, ?_⟩
            intro w hSw
            have z0 := box_ hSw x0; have z1 := box_ hSw x1; have z2 := box_ hSw y0; have z3 := box_ hSw y1; have z4 := box_ hSw y2; have z5 := box_ hSw k0; have z6 := box_ hSw k1; have z7 := box_ hSw k2; have z8 := box_ hSw k3; clear hSw
            go_simp
            try with_reducible rfl
          case qzz235 => exact fun _ _ _ h => h
          case szz235 => first | assumption | trivial
          case' rzz235 => simp only [Act.put, List.setIfInBounds_toArray, List.set_cons_zero, List.set_cons_succ]
          refine wpAnyL_take (i := 3) (oi := ?ozz236) (v := ?vzz236) ?hzz236 ?azz236 ?bzz236 ?czz236 ?kzz236 ?qzz236 ?yzz236 ?szz236 ?rzz236
          case hzz236 => simp only [List.getElem?_toArray, List.getElem?_cons_zero, List.getElem?_cons_succ]; rfl
          case azz236 => kernel_rfl
          case bzz236 => kernel_rfl
          case czz236 => kernel_rfl
          case kzz236 => kernel_rfl
          case yzz236 =>
            refine Or.inl ⟨by rfl, ?_⟩
            intro w hSw
            skip
            go_simp
            try with_reducible rfl
          case qzz236 => exact fun _ _ _ h => h
          case szz236 => first | assumption | trivial
          case' rzz236 => simp only [Act.put, List.setIfInBounds_toArray, List.set_cons_zero, List.set_cons_succ]
          refine wpAnyL_take (i := 4) (oi := ?ozz237) (v := ?vzz237) ?hzz237 ?azz237 ?bzz237 ?czz237 ?kzz237 ?qzz237 ?yzz237 ?szz237 ?rzz237
          case hzz237 => simp only [List.getElem?_toArray, List.getElem?_cons_zero, List.getElem?_cons_succ]; rfl
          case azz237 => kernel_rfl
          case bzz237 => kernel_rfl
          case czz237 => kernel_rfl
          case kzz237 => kernel_rfl
          case yzz237 =>
            refine Or.inl ⟨by rfl, ?_⟩
            intro w hSw
            have z0 := box_ hSw x0; have z1 := box_ hSw x1; have z2 := box_ hSw y0; have z3 := box_ hSw y1; have z4 := box_ hSw y2; have z5 := box_ hSw k0; have z6 := box_ hSw k1; have z7 := box_ hSw k2; have z8 := box_ hSw k3; clear hSw
            go_simp
            try with_reducible rfl
          case qzz237 => exact fun _ _ _ h => h
          case szz237 => first | assumption | trivial
          case' rzz237 => simp only [Act.put, List.setIfInBounds_toArray, List.set_cons_zero, List.set_cons_succ]
          refine wpAnyL_take (i := 5) (oi := ?ozz238) (v := ?vzz238) ?hzz238 ?azz238 ?bzz238 ?czz238 ?kzz238 ?qzz238 ?yzz238 ?szz238 ?rzz238
          case hzz238 => simp only [List.getElem?_toArray, List.getElem?_cons_zero, List.getElem?_cons_succ]; rfl
          case azz238 => kernel_rfl
          case bzz238 => kernel_rfl
          case czz238 => kernel_rfl
          case kzz238 => kernel_rfl
          case yzz238 =>
            refine Or.inl ⟨by rfl, ?_⟩
            intro w hSw
            skip
            go_simp
            try with_reducible rfl
          case qzz238 => exact fun _ _ _ h => h
          case szz238 => first | assumption | trivial
          case' rzz238 => simp only [Act.put, List.setIfInBounds_toArray, List.set_cons_zero, List.set_cons_succ]
          refine wpAnyL_take (i := 6) (oi := ?ozz239) (v := ?vzz239) ?hzz239 ?azz239 ?bzz239 ?czz239 ?kzz239 ?qzz239 ?yzz239 ?szz239 ?rzz239
          case hzz239 => simp only [List.getElem?_toArray, List.getElem?_cons_zero, List.getElem?_cons_succ]; rfl
          case azz239 => kernel_rfl
          case bzz239 => kernel_rfl
          case czz239 => kernel_rfl
          case kzz239 => kernel_rfl
          case yzz239 =>
            refine Or.inl ⟨by rfl, ?_⟩
            intro w hSw
            have z0 := box_ hSw x0; have z1 := box_ hSw x1; have z2 := box_ hSw y0; have z3 := box_ hSw y1; have z4 := box_ hSw y2; have z5 := box_ hSw k0; have z6 := box_ hSw k1; have z7 := box_ hSw k2; have z8 := box_ hSw k3; clear hSw
            go_simp
            try with_reducible rfl
          case qzz239 => exact fun _ _ _ h => h
          case szz239 => first | assumption | trivial
          case' rzz239 => simp only [Act.put, List.setIfInBounds_toArray, List.set_cons_zero, List.set_cons_succ]
          refine wpAnyL_take (i := 7) (oi := ?ozz240) (v := ?vzz240) ?hzz240 ?azz240 ?bzz240 ?czz240 ?kzz240 ?qzz240 ?yzz240 ?szz240 ?rzz240
          case hzz240 => simp only [List.getElem?_toArray, List.getElem?_cons_zero, List.getElem?_cons_succ]; rfl
          case azz240 => kernel_rfl
          case bzz240 => kernel_rfl
          case czz240 => kernel_rfl
          case kzz240 => kernel_rfl
          case yzz240 =>
            refine Or.inl ⟨by rfl, ?_⟩
            intro w hSw
            have z0 := box_ hSw x0; have z1 := box_ hSw x1; have z2 := box_ hSw y0; have z3 := box_ hSw y1; have z4 := box_ hSw y2; have z5 := box_ hSw k0; have z6 := box_ hSw k1; have z7 := box_ hSw k2; have z8 := box_ hSw k3; clear hSw
            go_simp
            try with_reducible rfl
          case qzz240 => exact fun _ _ _ h => h
          case szz240 => first | assumption | trivial
          case' rzz240 => simp only [Act.put, List.setIfInBounds_toArray, List.set_cons_zero, List.set_cons_succ]
          refine wpAnyL_ready (rs := [8, 12]) (by kernel_rfl) (by simp) ?_
          refine AllReadyL.cons (o := ?ozz263) ?hzz263 (fun K hK => ?kzz263) ?mzz263
          case hzz263 => simp only [List.getElem?_toArray, List.getElem?_cons_zero, List.getElem?_cons_succ]; rfl
          case kzz263 =>
            go_simp
            refine (K1.out _ (HQ.out.trans hHeld)).mono ?_
            rintro e v1 ⟨A4, n4, c4, B4, m4, d4, rfl, o4, v4, qz⟩
            try have hlt := BX.out.lt
            go_wp2_with fail
            refine hK.out _ _ ?Szz263 (fun hHeld => ?Rzz263)
            case Szz263 =>
              exact hHeld.trans qz
            case Rzz263 =>
              clear hK K
              try simp only [Act.put, List.setIfInBounds_toArray, List.set_cons_zero, List.set_cons_succ]
              refine wpAnyL_take (i := 9) (oi := ?ozz241) (v := ?vzz241) ?hzz241 ?azz241 ?bzz241 ?czz241 ?kzz241 ?qzz241 ?yzz241 ?szz241 ?rzz241
              case hzz241 => simp only [List.getElem?_toArray, List.getElem?_cons_zero, List.getElem?_cons_succ]; rfl
              case azz241 => kernel_rfl
              case bzz241 => kernel_rfl
              case czz241 => kernel_rfl
              case kzz241 => kernel_rfl
              case yzz241 =>
                refine Or.inl ⟨by rfl, ?_⟩
                intro w hSw
                skip
                go_simp
                try with_reducible rfl
              case qzz241 => exact fun _ _ _ h => h
              case szz241 => first | assumption | trivial
              case' rzz241 => simp only [Act.put, List.setIfInBounds_toArray, List.set_cons_zero, List.set_cons_succ]
              refine wpAnyL_take (i := 10) (oi := ?ozz242) (v := ?vzz242) ?hzz242 ?azz242 ?bzz242 ?czz242 ?kzz242 ?qzz242 ?yzz242 ?szz242 ?rzz242
              case hzz242 => simp only [List.getElem?_toArray, List.getElem?_cons_zero, List.getElem?_cons_succ]; rfl
              case azz242 => kernel_rfl
              case bzz242 => kernel_rfl
              case czz242 => kernel_rfl
              case kzz242 => kernel_rfl
              case yzz242 =>
                refine Or.inl ⟨by rfl, ?_⟩
                intro w hSw
                skip
                go_simp
                try with_reducible rfl
              case qzz242 => exact fun _ _ _ h => h
              case szz242 => first | assumption | trivial
              case' rzz242 => simp only [Act.put, List.setIfInBounds_toArray, List.set_cons_zero, List.set_cons_succ]
              refine wpAnyL_ready (rs := [11, 12]) (by kernel_rfl) (by simp) ?_
              refine AllReadyL.cons (o := ?ozz252) ?hzz252 (fun K hK => ?kzz252) ?mzz252
              case hzz252 => simp only [List.getElem?_toArray, List.getElem?_cons_zero, List.getElem?_cons_succ]; rfl
              case kzz252 =>
                go_simp
                refine hK.out _ _ ?Szz252 (fun hHeld => ?Rzz252)
                case Szz252 =>
                  exact hHeld
                case Rzz252 =>
                  clear hK K
                  try simp only [Act.put, List.setIfInBounds_toArray, List.set_cons_zero, List.set_cons_succ]
                  refine wpAnyL_ready (rs := [12]) (by kernel_rfl) (by simp) ?_
                  refine AllReadyL.cons (o := ?ozz245) ?hzz245 (fun K hK => ?kzz245) ?mzz245
                  case hzz245 => simp only [List.getElem?_toArray, List.getElem?_cons_zero, List.getElem?_cons_succ]; rfl
                  case kzz245 =>
                    go_simp
                    have BX := Lib.hid (Bx.new v1 [.slice none 0 0, .slice none 0 0] 25)
                    have hnb : u2.heap.size ≤ v1.heap.size := hHeld.size
                    have qa := (Q.refl v1).alloc (.cells #[.slice none 0 0, .slice none 0 0] 25)
                    have BX : Hid (Bx (v1.alloc (.cells #[.slice none 0 0, .slice none 0 0] 25)) v1.heap.size [.slice none 0 0, .slice none 0 0]) := Lib.hid BX.out
                    generalize v1.alloc (.cells #[.slice none 0 0, .slice none 0 0] 25) = Y0 at BX qa ⊢
                    generalize hnbe : v1.heap.size = nb at BX hnb ⊢
                    have hnw := Lib.hid (Nat.le_of_eq hnbe)
                    clear hnbe
                    refine hK.out _ _ ?Szz245 (fun hHeld => ?Rzz245)
                    case Szz245 =>
                      exact hHeld.trans qa
                    case Rzz245 =>
                      clear hK K
                      try simp only [Act.put, List.setIfInBounds_toArray, List.set_cons_zero, List.set_cons_succ]
                      refine wpAnyL_ready (rs := [13]) (by kernel_rfl) (by simp) ?_
                      refine AllReadyL.consK (o := ?ozz244) ?hzz244 ?lzz244 (fun K hK => ?kzz244) ?mzz244
                      case hzz244 => simp only [List.getElem?_toArray, List.getElem?_cons_zero, List.getElem?_cons_succ]; rfl
                      case lzz244 => kernel_rfl
                      case kzz244 =>
                        have HZ := Lib.hid hHeld
                        have F4 : Hid (Lst holdK ((Y0.setCell ⟨nb, 0, none⟩ (.slice A4 n4 c4)).setCell ⟨nb, 1, none⟩ (.slice B4 m4 d4)) A4 n4 l.held ∧ Lst claimK ((Y0.setCell ⟨nb, 0, none⟩ (.slice A4 n4 c4)).setCell ⟨nb, 1, none⟩ (.slice B4 m4 d4)) B4 m4 l.queue) := Lib.hid (by first | exact ⟨(o4.set2 (b := nb) hlt (.slice A4 n4 c4) (.slice B4 m4 d4)).lst, (v4.set2 (b := nb) hlt (.slice A4 n4 c4) (.slice B4 m4 d4)).lst⟩ | exact ⟨(o4.q (qa.set2 (b := nb) hnw.out (.slice A4 n4 c4) (.slice B4 m4 d4))).lst, (v4.q (qa.set2 (b := nb) hnw.out (.slice A4 n4 c4) (.slice B4 m4 d4))).lst⟩)
                        have M4 := Lib.hid (And.intro (Nat.le_trans o4.le o4.cap) (Nat.le_trans v4.le v4.cap))
                        have XS := Lib.hid (BX.out.set2 (.slice A4 n4 c4) (.slice B4 m4 d4))
                        have XL8 := Lib.hid ((XL.out.q hHeld).far2 (c := nb) (by have := XL.out.lt; omega) (.slice A4 n4 c4) (.slice B4 m4 d4))
                        have HQ8 := Lib.hid ((HQ.out.trans hHeld).set2 (b := nb) (Nat.le_trans HQ.out.size hnb) (.slice A4 n4 c4) (.slice B4 m4 d4))
                        obtain ⟨⟨p0, p1⟩, p2, p3⟩ := BX.out.get2
                        have hgv := BX.out.lt
                        go_simp
                        refine hK.out _ _ ?Rzz244
                        case Rzz244 =>
                          clear hK K
                          try simp only [Act.put, List.setIfInBounds_toArray, List.set_cons_zero, List.set_cons_succ]
                          refine wpAnyH_take (i := 14) (oi := ?ozz243) (v := ?vzz243) ?hzz243 ?azz243 ?bzz243 ?czz243 ?qzz243 ?yzz243 ?szz243 ?rzz243
                          case hzz243 => simp only [List.getElem?_toArray, List.getElem?_cons_zero, List.getElem?_cons_succ]; rfl
                          case azz243 => kernel_rfl
                          case bzz243 => kernel_rfl
                          case czz243 => kernel_rfl
                          case yzz243 =>
                            refine Or.inl ⟨by rfl, ?_⟩
                            intro w hSw
                            skip
                            go_simp
                            try with_reducible rfl
                          case qzz243 => exact fun _ _ _ h => h
                          case szz243 => first | assumption | trivial
                          case' rzz243 => simp only [Act.put, List.setIfInBounds_toArray, List.set_cons_zero, List.set_cons_succ]
                          refine wpAnyH_done (by kernel_rfl) ?_ _
                          clear p0 p1 p2 p3 hgv x0 x1 x2 x3 y0 y1 y2 y3 y4 y5 k0 k1 k2 k3 o4 v4 qz HZ BX
                          go_upto_region 9 with (fail)
                          generalize (Y0.setCell ⟨nb, 0, none⟩ (.slice A4 n4 c4)).setCell ⟨nb, 1, none⟩ (.slice B4 m4 d4) = W8 at F4 XS XL8 HQ8 ⊢
                          obtain ⟨⟨x0, x1⟩, x2, x3⟩ := XL8.out.get2
                          obtain ⟨⟨a0, a1⟩, a2, a3⟩ := XS.out.get2
                          go_wp2_with fail
                          refine (lsame_same _ _ _ _ _ _ _ _ _ _ _ _ l _ F4.out.1 F4.out.2 (HI.out.held.lst.q HQ8.out) (HI.out.queue.lst.q HQ8.out) M4.out.1 M4.out.2).mono ?_
                          rintro e w5 ⟨rfl, q1⟩
                          have HQ := Lib.hid (HQ8.out.trans q1)
                          clear q1
                          go_wp2
                          go_ret
                          exact ⟨rfl, HQ.out⟩
                      case' mzz244 => skip
                      exact AllReadyL.nil
                  case' mzz245 => skip
                  exact AllReadyL.nil
              case' mzz252 => skip
              refine AllReadyL.cons (o := ?ozz253) ?hzz253 (fun K hK => ?kzz253) ?mzz253
              case hzz253 => simp only [List.getElem?_toArray, List.getElem?_cons_zero, List.getElem?_cons_succ]; rfl
              case kzz253 =>
                go_simp
                have BX := Lib.hid (Bx.new v1 [.slice none 0 0, .slice none 0 0] 25)
                have hnb : u2.heap.size ≤ v1.heap.size := hHeld.size
                have qa := (Q.refl v1).alloc (.cells #[.slice none 0 0, .slice none 0 0] 25)
                have BX : Hid (Bx (v1.alloc (.cells #[.slice none 0 0, .slice none 0 0] 25)) v1.heap.size [.slice none 0 0, .slice none 0 0]) := Lib.hid BX.out
                generalize v1.alloc (.cells #[.slice none 0 0, .slice none 0 0] 25) = Y1 at BX qa ⊢
                generalize hnbe : v1.heap.size = nb at BX hnb ⊢
                have hnw := Lib.hid (Nat.le_of_eq hnbe)
                clear hnbe
                refine hK.out _ _ ?Szz253 (fun hHeld => ?Rzz253)
                case Szz253 =>
                  exact hHeld.trans qa
                case Rzz253 =>
                  clear hK K
                  try simp only [Act.put, List.setIfInBounds_toArray, List.set_cons_zero, List.set_cons_succ]
                  refine wpAnyL_ready (rs := [11, 13]) (by kernel_rfl) (by simp) ?_
                  refine AllReadyL.cons (o := ?ozz250) ?hzz250 (fun K hK => ?kzz250) ?mzz250
                  case hzz250 => simp only [List.getElem?_toArray, List.getElem?_cons_zero, List.getElem?_cons_succ]; rfl
                  case kzz250 =>
                    go_simp
                    refine hK.out _ _ ?Szz250 (fun hHeld => ?Rzz250)
                    case Szz250 =>
                      exact hHeld
                    case Rzz250 =>
                      clear hK K
                      try simp only [Act.put, List.setIfInBounds_toArray, List.set_cons_zero, List.set_cons_succ]
                      refine wpAnyL_ready (rs := [13]) (by kernel_rfl) (by simp) ?_
                      refine AllReadyL.consK (o := ?ozz247) ?hzz247 ?lzz247 (fun K hK => ?kzz247) ?mzz247
                      case hzz247 => simp only [List.getElem?_toArray, List.getElem?_cons_zero, List.getElem?_cons_succ]; rfl
                      case lzz247 => kernel_rfl
                      case kzz247 =>
                        have HZ := Lib.hid hHeld
                        have F4 : Hid (Lst holdK ((Y1.setCell ⟨nb, 0, none⟩ (.slice A4 n4 c4)).setCell ⟨nb, 1, none⟩ (.slice B4 m4 d4)) A4 n4 l.held ∧ Lst claimK ((Y1.setCell ⟨nb, 0, none⟩ (.slice A4 n4 c4)).setCell ⟨nb, 1, none⟩ (.slice B4 m4 d4)) B4 m4 l.queue) := Lib.hid (by first | exact ⟨(o4.set2 (b := nb) hlt (.slice A4 n4 c4) (.slice B4 m4 d4)).lst, (v4.set2 (b := nb) hlt (.slice A4 n4 c4) (.slice B4 m4 d4)).lst⟩ | exact ⟨(o4.q (qa.set2 (b := nb) hnw.out (.slice A4 n4 c4) (.slice B4 m4 d4))).lst, (v4.q (qa.set2 (b := nb) hnw.out (.slice A4 n4 c4) (.slice B4 m4 d4))).lst⟩)
                        have M4 := Lib.hid (And.intro (Nat.le_trans o4.le o4.cap) (Nat.le_trans v4.le v4.cap))
                        have XS := Lib.hid (BX.out.set2 (.slice A4 n4 c4) (.slice B4 m4 d4))
                        have XL8 := Lib.hid ((XL.out.q hHeld).far2 (c := nb) (by have := XL.out.lt; omega) (.slice A4 n4 c4) (.slice B4 m4 d4))
                        have HQ8 := Lib.hid ((HQ.out.trans hHeld).set2 (b := nb) (Nat.le_trans HQ.out.size hnb) (.slice A4 n4 c4) (.slice B4 m4 d4))
                        obtain ⟨⟨p0, p1⟩, p2, p3⟩ := BX.out.get2
                        have hgv := BX.out.lt
                        go_simp
                        refine hK.out _ _ ?Rzz247
                        case Rzz247 =>
                          clear hK K
                          try simp only [Act.put, List.setIfInBounds_toArray, List.set_cons_zero, List.set_cons_succ]
                          refine wpAnyH_take (i := 14) (oi := ?ozz246) (v := ?vzz246) ?hzz246 ?azz246 ?bzz246 ?czz246 ?qzz246 ?yzz246 ?szz246 ?rzz246
                          case hzz246 => simp only [List.getElem?_toArray, List.getElem?_cons_zero, List.getElem?_cons_succ]; rfl
                          case azz246 => kernel_rfl
                          case bzz246 => kernel_rfl
                          case czz246 => kernel_rfl
                          case yzz246 =>
                            refine Or.inl ⟨by rfl, ?_⟩
                            intro w hSw
                            skip
                            go_simp
                            try with_reducible rfl
                          case qzz246 => exact fun _ _ _ h => h
                          case szz246 => first | assumption | trivial
                          case' rzz246 => simp only [Act.put, List.setIfInBounds_toArray, List.set_cons_zero, List.set_cons_succ]
                          refine wpAnyH_done (by kernel_rfl) ?_ _
                          clear p0 p1 p2 p3 hgv x0 x1 x2 x3 y0 y1 y2 y3 y4 y5 k0 k1 k2 k3 o4 v4 qz HZ BX
                          go_upto_region 9 with (fail)
                          generalize (Y1.setCell ⟨nb, 0, none⟩ (.slice A4 n4 c4)).setCell ⟨nb, 1, none⟩ (.slice B4 m4 d4) = W8 at F4 XS XL8 HQ8 ⊢
                          obtain ⟨⟨x0, x1⟩, x2, x3⟩ := XL8.out.get2
                          obtain ⟨⟨a0, a1⟩, a2, a3⟩ := XS.out.get2
                          go_wp2_with fail
                          refine (lsame_same _ _ _ _ _ _ _ _ _ _ _ _ l _ F4.out.1 F4.out.2 (HI.out.held.lst.q HQ8.out) (HI.out.queue.lst.q HQ8.out) M4.out.1 M4.out.2).mono ?_
                          rintro e w5 ⟨rfl, q1⟩
                          have HQ := Lib.hid (HQ8.out.trans q1)
                          clear q1
                          go_wp2
                          go_ret
                          exact ⟨rfl, HQ.out⟩
                      case' mzz247 => skip
                      exact AllReadyL.nil
                  case' mzz250 => skip
                  refine AllReadyL.consK (o := ?ozz251) ?hzz251 ?lzz251 (fun K hK => ?kzz251) ?mzz251
                  case hzz251 => simp only [List.getElem?_toArray, List.getElem?_cons_zero, List.getElem?_cons_succ]; rfl
                  case lzz251 => kernel_rfl
                  case kzz251 =>
                    have HZ := Lib.hid hHeld
                    have F4 : Hid (Lst holdK ((Y1.setCell ⟨nb, 0, none⟩ (.slice A4 n4 c4)).setCell ⟨nb, 1, none⟩ (.slice B4 m4 d4)) A4 n4 l.held ∧ Lst claimK ((Y1.setCell ⟨nb, 0, none⟩ (.slice A4 n4 c4)).setCell ⟨nb, 1, none⟩ (.slice B4 m4 d4)) B4 m4 l.queue) := Lib.hid (by first | exact ⟨(o4.set2 (b := nb) hlt (.slice A4 n4 c4) (.slice B4 m4 d4)).lst, (v4.set2 (b := nb) hlt (.slice A4 n4 c4) (.slice B4 m4 d4)).lst⟩ | exact ⟨(o4.q (qa.set2 (b := nb) hnw.out (.slice A4 n4 c4) (.slice B4 m4 d4))).lst, (v4.q (qa.set2 (b := nb) hnw.out (.slice A4 n4 c4) (.slice B4 m4 d4))).lst⟩)
                    have M4 := Lib.hid (And.intro (Nat.le_trans o4.le o4.cap) (Nat.le_trans v4.le v4.cap))
                    have XS := Lib.hid (BX.out.set2 (.slice A4 n4 c4) (.slice B4 m4 d4))
                    have XL8 := Lib.hid ((XL.out.q hHeld).far2 (c := nb) (by have := XL.out.lt; omega) (.slice A4 n4 c4) (.slice B4 m4 d4))
                    have HQ8 := Lib.hid ((HQ.out.trans hHeld).set2 (b := nb) (Nat.le_trans HQ.out.size hnb) (.slice A4 n4 c4) (.slice B4 m4 d4))
                    obtain ⟨⟨p0, p1⟩, p2, p3⟩ := BX.out.get2
                    have hgv := BX.out.lt
                    go_simp
                    refine hK.out _ _ ?Rzz251
                    case Rzz251 =>
                      clear hK K
                      try simp only [Act.put, List.setIfInBounds_toArray, List.set_cons_zero, List.set_cons_succ]
                      refine wpAnyH_take (i := 11) (oi := ?ozz248) (v := ?vzz248) ?hzz248 ?azz248 ?bzz248 ?czz248 ?qzz248 ?yzz248 ?szz248 ?rzz248
                      case hzz248 => simp only [List.getElem?_toArray, List.getElem?_cons_zero, List.getElem?_cons_succ]; rfl
                      case azz248 => kernel_rfl
                      case bzz248 => kernel_rfl
                      case czz248 => kernel_rfl
                      case yzz248 =>
                        refine Or.inl ⟨by rfl, ?_⟩
                        intro w hSw
                        skip
                        go_simp
                        try with_reducible rfl
                      case qzz248 => exact fun _ _ _ h => h
                      case szz248 => first | assumption | trivial
                      case' rzz248 => simp only [Act.put, List.setIfInBounds_toArray, List.set_cons_zero, List.set_cons_succ]
                      refine wpAnyH_take (i := 14) (oi := ?ozz249) (v := ?vzz249) ?hzz249 ?azz249 ?bzz249 ?czz249 ?qzz249 ?yzz249 ?szz249 ?rzz249
                      case hzz249 => simp only [List.getElem?_toArray, List.getElem?_cons_zero, List.getElem?_cons_succ]; rfl
                      case azz249 => kernel_rfl
                      case bzz249 => kernel_rfl
                      case czz249 => kernel_rfl
                      case yzz249 =>
                        refine Or.inl ⟨by rfl, ?_⟩
                        intro w hSw
                        skip
                        go_simp
                        try with_reducible rfl
                      case qzz249 => exact fun _ _ _ h => h
                      case szz249 => first | assumption | trivial
                      case' rzz249 => simp only [Act.put, List.setIfInBounds_toArray, List.set_cons_zero, List.set_cons_succ]
                      refine wpAnyH_done (by kernel_rfl) ?_ _
                      clear p0 p1 p2 p3 hgv x0 x1 x2 x3 y0 y1 y2 y3 y4 y5 k0 k1 k2 k3 o4 v4 qz HZ BX
                      go_upto_region 9 with (fail)
                      generalize (Y1.setCell ⟨nb, 0, none⟩ (.slice A4 n4 c4)).setCell ⟨nb, 1, none⟩ (.slice B4 m4 d4) = W8 at F4 XS XL8 HQ8 ⊢
                      obtain ⟨⟨x0, x1⟩, x2, x3⟩ := XL8.out.get2
                      obtain ⟨⟨a0, a1⟩, a2, a3⟩ := XS.out.get2
                      go_wp2_with fail
                      refine (lsame_same _ _ _ _ _ _ _ _ _ _ _ _ l _ F4.out.1 F4.out.2 (HI.out.held.lst.q HQ8.out) (HI.out.queue.lst.q HQ8.out) M4.out.1 M4.out.2).mono ?_
                      rintro e w5 ⟨rfl, q1⟩
                      have HQ := Lib.hid (HQ8.out.trans q1)
                      clear q1
                      go_wp2
                      go_ret
                      exact ⟨rfl, HQ.out⟩
                  case' mzz251 => skip
                  exact AllReadyL.nil
              case' mzz253 => skip
              exact AllReadyL.nil
          case' mzz263 => skip
          refine AllReadyL.cons (o := ?ozz264) ?hzz264 (fun K hK => ?kzz264) ?mzz264
          case hzz264 => simp only [List.getElem?_toArray, List.getElem?_cons_zero, List.getElem?_cons_succ]; rfl
          case kzz264 =>
            go_simp
            have BX := Lib.hid (Bx.new D0 [.slice none 0 0, .slice none 0 0] 25)
            have hnb : u2.heap.size ≤ D0.heap.size := hHeld.size
            have qa := (Q.refl D0).alloc (.cells #[.slice none 0 0, .slice none 0 0] 25)
            have BX : Hid (Bx (D0.alloc (.cells #[.slice none 0 0, .slice none 0 0] 25)) D0.heap.size [.slice none 0 0, .slice none 0 0]) := Lib.hid BX.out
            generalize D0.alloc (.cells #[.slice none 0 0, .slice none 0 0] 25) = Y2 at BX qa ⊢
            generalize hnbe : D0.heap.size = nb at BX hnb ⊢
            have hnw := Lib.hid (Nat.le_of_eq hnbe)
            clear hnbe
            refine hK.out _ _ ?Szz264 (fun hHeld => ?Rzz264)
            case Szz264 =>
              exact hHeld.trans qa
            case Rzz264 =>
              clear hK K
              try simp only [Act.put, List.setIfInBounds_toArray, List.set_cons_zero, List.set_cons_succ]
              refine wpAnyL_ready (rs := [8]) (by kernel_rfl) (by simp) ?_
              refine AllReadyL.cons (o := ?ozz262) ?hzz262 (fun K hK => ?kzz262) ?mzz262
              case hzz262 => simp only [List.getElem?_toArray, List.getElem?_cons_zero, List.getElem?_cons_succ]; rfl
              case kzz262 =>
                go_simp
                refine (K1.out _ (HQ.out.trans hHeld)).mono ?_
                rintro e v1 ⟨A4, n4, c4, B4, m4, d4, rfl, o4, v4, qz⟩
                try have hlt := BX.out.lt
                have BX := Lib.hid (BX.out.q qz)
                go_wp2_with fail
                refine hK.out _ _ ?Szz262 (fun hHeld => ?Rzz262)
                case Szz262 =>
                  exact hHeld.trans qz
                case Rzz262 =>
                  clear hK K
                  try simp only [Act.put, List.setIfInBounds_toArray, List.set_cons_zero, List.set_cons_succ]
                  refine wpAnyL_take (i := 9) (oi := ?ozz254) (v := ?vzz254) ?hzz254 ?azz254 ?bzz254 ?czz254 ?kzz254 ?qzz254 ?yzz254 ?szz254 ?rzz254
                  case hzz254 => simp only [List.getElem?_toArray, List.getElem?_cons_zero, List.getElem?_cons_succ]; rfl
                  case azz254 => kernel_rfl
                  case bzz254 => kernel_rfl
                  case czz254 => kernel_rfl
                  case kzz254 => kernel_rfl
                  case yzz254 =>
                    refine Or.inl ⟨by rfl, ?_⟩
                    intro w hSw
                    skip
                    go_simp
                    try with_reducible rfl
                  case qzz254 => exact fun _ _ _ h => h
                  case szz254 => first | assumption | trivial
                  case' rzz254 => simp only [Act.put, List.setIfInBounds_toArray, List.set_cons_zero, List.set_cons_succ]
                  refine wpAnyL_take (i := 10) (oi := ?ozz255) (v := ?vzz255) ?hzz255 ?azz255 ?bzz255 ?czz255 ?kzz255 ?qzz255 ?yzz255 ?szz255 ?rzz255
                  case hzz255 => simp only [List.getElem?_toArray, List.getElem?_cons_zero, List.getElem?_cons_succ]; rfl
                  case azz255 => kernel_rfl
                  case bzz255 => kernel_rfl
                  case czz255 => kernel_rfl
                  case kzz255 => kernel_rfl
                  case yzz255 =>
                    refine Or.inl ⟨by rfl, ?_⟩
                    intro w hSw
                    skip
                    go_simp
                    try with_reducible rfl
                  case qzz255 => exact fun _ _ _ h => h
                  case szz255 => first | assumption | trivial
                  case' rzz255 => simp only [Act.put, List.setIfInBounds_toArray, List.set_cons_zero, List.set_cons_succ]
                  refine wpAnyL_ready (rs := [11, 13]) (by kernel_rfl) (by simp) ?_
                  refine AllReadyL.cons (o := ?ozz260) ?hzz260 (fun K hK => ?kzz260) ?mzz260
                  case hzz260 => simp only [List.getElem?_toArray, List.getElem?_cons_zero, List.getElem?_cons_succ]; rfl
                  case kzz260 =>
                    go_simp
                    refine hK.out _ _ ?Szz260 (fun hHeld => ?Rzz260)
                    case Szz260 =>
                      exact hHeld
                    case Rzz260 =>
                      clear hK K
                      try simp only [Act.put, List.setIfInBounds_toArray, List.set_cons_zero, List.set_cons_succ]
                      refine wpAnyL_ready (rs := [13]) (by kernel_rfl) (by simp) ?_
                      refine AllReadyL.consK (o := ?ozz257) ?hzz257 ?lzz257 (fun K hK => ?kzz257) ?mzz257
                      case hzz257 => simp only [List.getElem?_toArray, List.getElem?_cons_zero, List.getElem?_cons_succ]; rfl
                      case lzz257 => kernel_rfl
                      case kzz257 =>
                        have HZ := Lib.hid hHeld
                        have F4 : Hid (Lst holdK ((v1.setCell ⟨nb, 0, none⟩ (.slice A4 n4 c4)).setCell ⟨nb, 1, none⟩ (.slice B4 m4 d4)) A4 n4 l.held ∧ Lst claimK ((v1.setCell ⟨nb, 0, none⟩ (.slice A4 n4 c4)).setCell ⟨nb, 1, none⟩ (.slice B4 m4 d4)) B4 m4 l.queue) := Lib.hid (by first | exact ⟨(o4.set2 (b := nb) hlt (.slice A4 n4 c4) (.slice B4 m4 d4)).lst, (v4.set2 (b := nb) hlt (.slice A4 n4 c4) (.slice B4 m4 d4)).lst⟩ | exact ⟨(o4.q (qa.set2 (b := nb) hnw.out (.slice A4 n4 c4) (.slice B4 m4 d4))).lst, (v4.q (qa.set2 (b := nb) hnw.out (.slice A4 n4 c4) (.slice B4 m4 d4))).lst⟩)
                        have M4 := Lib.hid (And.intro (Nat.le_trans o4.le o4.cap) (Nat.le_trans v4.le v4.cap))
                        have XS := Lib.hid (BX.out.set2 (.slice A4 n4 c4) (.slice B4 m4 d4))
                        have XL8 := Lib.hid ((XL.out.q hHeld).far2 (c := nb) (by have := XL.out.lt; omega) (.slice A4 n4 c4) (.slice B4 m4 d4))
                        have HQ8 := Lib.hid ((HQ.out.trans hHeld).set2 (b := nb) (Nat.le_trans HQ.out.size hnb) (.slice A4 n4 c4) (.slice B4 m4 d4))
                        obtain ⟨⟨p0, p1⟩, p2, p3⟩ := BX.out.get2
                        have hgv := BX.out.lt
                        go_simp
                        refine hK.out _ _ ?Rzz257
                        case Rzz257 =>
                          clear hK K
                          try simp only [Act.put, List.setIfInBounds_toArray, List.set_cons_zero, List.set_cons_succ]
                          refine wpAnyH_take (i := 14) (oi := ?ozz256) (v := ?vzz256) ?hzz256 ?azz256 ?bzz256 ?czz256 ?qzz256 ?yzz256 ?szz256 ?rzz256
                          case hzz256 => simp only [List.getElem?_toArray, List.getElem?_cons_zero, List.getElem?_cons_succ]; rfl
                          case azz256 => kernel_rfl
                          case bzz256 => kernel_rfl
                          case czz256 => kernel_rfl
                          case yzz256 =>
                            refine Or.inl ⟨by rfl, ?_⟩
                            intro w hSw
                            skip
                            go_simp
                            try with_reducible rfl
                          case qzz256 => exact fun _ _ _ h => h
                          case szz256 => first | assumption | trivial
                          case' rzz256 => simp only [Act.put, List.setIfInBounds_toArray, List.set_cons_zero, List.set_cons_succ]
                          refine wpAnyH_done (by kernel_rfl) ?_ _
                          clear p0 p1 p2 p3 hgv x0 x1 x2 x3 y0 y1 y2 y3 y4 y5 k0 k1 k2 k3 o4 v4 qz HZ BX
                          go_upto_region 9 with (fail)
                          generalize (v1.setCell ⟨nb, 0, none⟩ (.slice A4 n4 c4)).setCell ⟨nb, 1, none⟩ (.slice B4 m4 d4) = W8 at F4 XS XL8 HQ8 ⊢
                          obtain ⟨⟨x0, x1⟩, x2, x3⟩ := XL8.out.get2
                          obtain ⟨⟨a0, a1⟩, a2, a3⟩ := XS.out.get2
                          go_wp2_with fail
                          refine (lsame_same _ _ _ _ _ _ _ _ _ _ _ _ l _ F4.out.1 F4.out.2 (HI.out.held.lst.q HQ8.out) (HI.out.queue.lst.q HQ8.out) M4.out.1 M4.out.2).mono ?_
                          rintro e w5 ⟨rfl, q1⟩
                          have HQ := Lib.hid (HQ8.out.trans q1)
                          clear q1
                          go_wp2
                          go_ret
                          exact ⟨rfl, HQ.out⟩
                      case' mzz257 => skip
                      exact AllReadyL.nil
                  case' mzz260 => skip
                  refine AllReadyL.consK (o := ?ozz261) ?hzz261 ?lzz261 (fun K hK => ?kzz261) ?mzz261
                  case hzz261 => simp only [List.getElem?_toArray, List.getElem?_cons_zero, List.getElem?_cons_succ]; rfl
                  case lzz261 => kernel_rfl
                  case kzz261 =>
                    have HZ := Lib.hid hHeld
                    have F4 : Hid (Lst holdK ((v1.setCell ⟨nb, 0, none⟩ (.slice A4 n4 c4)).setCell ⟨nb, 1, none⟩ (.slice B4 m4 d4)) A4 n4 l.held ∧ Lst claimK ((v1.setCell ⟨nb, 0, none⟩ (.slice A4 n4 c4)).setCell ⟨nb, 1, none⟩ (.slice B4 m4 d4)) B4 m4 l.queue) := Lib.hid (by first | exact ⟨(o4.set2 (b := nb) hlt (.slice A4 n4 c4) (.slice B4 m4 d4)).lst, (v4.set2 (b := nb) hlt (.slice A4 n4 c4) (.slice B4 m4 d4)).lst⟩ | exact ⟨(o4.q (qa.set2 (b := nb) hnw.out (.slice A4 n4 c4) (.slice B4 m4 d4))).lst, (v4.q (qa.set2 (b := nb) hnw.out (.slice A4 n4 c4) (.slice B4 m4 d4))).lst⟩)
                    have M4 := Lib.hid (And.intro (Nat.le_trans o4.le o4.cap) (Nat.le_trans v4.le v4.cap))
                    have XS := Lib.hid (BX.out.set2 (.slice A4 n4 c4) (.slice B4 m4 d4))
                    have XL8 := Lib.hid ((XL.out.q hHeld).far2 (c := nb) (by have := XL.out.lt; omega) (.slice A4 n4 c4) (.slice B4 m4 d4))
                    have HQ8 := Lib.hid ((HQ.out.trans hHeld).set2 (b := nb) (Nat.le_trans HQ.out.size hnb) (.slice A4 n4 c4) (.slice B4 m4 d4))
                    obtain ⟨⟨p0, p1⟩, p2, p3⟩ := BX.out.get2
                    have hgv := BX.out.lt
                    go_simp
                    refine hK.out _ _ ?Rzz261
                    case Rzz261 =>
                      clear hK K
                      try simp only [Act.put, List.setIfInBounds_toArray, List.set_cons_zero, List.set_cons_succ]
                      refine wpAnyH_take (i := 11) (oi := ?ozz258) (v := ?vzz258) ?hzz258 ?azz258 ?bzz258 ?czz258 ?qzz258 ?yzz258 ?szz258 ?rzz258
                      case hzz258 => simp only [List.getElem?_toArray, List.getElem?_cons_zero, List.getElem?_cons_succ]; rfl
                      case azz258 => kernel_rfl
                      case bzz258 => kernel_rfl
                      case czz258 => kernel_rfl
                      case yzz258 =>
                        refine Or.inl ⟨by rfl, ?_⟩
                        intro w hSw
                        skip
                        go_simp
                        try with_reducible rfl
                      case qzz258 => exact fun _ _ _ h => h
                      case szz258 => first | assumption | trivial
                      case' rzz258 => simp only [Act.put, List.setIfInBounds_toArray, List.set_cons_zero, List.set_cons_succ]
                      refine wpAnyH_take (i := 14) (oi := ?ozz259) (v := ?vzz259) ?hzz259 ?azz259 ?bzz259 ?czz259 ?qzz259 ?yzz259 ?szz259 ?rzz259
                      case hzz259 => simp only [List.getElem?_toArray, List.getElem?_cons_zero, List.getElem?_cons_succ]; rfl
                      case azz259 => kernel_rfl
                      case bzz259 => kernel_rfl
                      case czz259 => kernel_rfl
                      case yzz259 =>
                        refine Or.inl ⟨by rfl, ?_⟩
                        intro w hSw
                        skip
                        go_simp
                        try with_reducible rfl
                      case qzz259 => exact fun _ _ _ h => h
                      case szz259 => first | assumption | trivial
                      case' rzz259 => simp only [Act.put, List.setIfInBounds_toArray, List.set_cons_zero, List.set_cons_succ]
                      refine wpAnyH_done (by kernel_rfl) ?_ _
                      clear p0 p1 p2 p3 hgv x0 x1 x2 x3 y0 y1 y2 y3 y4 y5 k0 k1 k2 k3 o4 v4 qz HZ BX
                      go_upto_region 9 with (fail)
                      generalize (v1.setCell ⟨nb, 0, none⟩ (.slice A4 n4 c4)).setCell ⟨nb, 1, none⟩ (.slice B4 m4 d4) = W8 at F4 XS XL8 HQ8 ⊢
                      obtain ⟨⟨x0, x1⟩, x2, x3⟩ := XL8.out.get2
                      obtain ⟨⟨a0, a1⟩, a2, a3⟩ := XS.out.get2
                      go_wp2_with fail
                      refine (lsame_same _ _ _ _ _ _ _ _ _ _ _ _ l _ F4.out.1 F4.out.2 (HI.out.held.lst.q HQ8.out) (HI.out.queue.lst.q HQ8.out) M4.out.1 M4.out.2).mono ?_
                      rintro e w5 ⟨rfl, q1⟩
                      have HQ := Lib.hid (HQ8.out.trans q1)
                      clear q1
                      go_wp2
                      go_ret
                      exact ⟨rfl, HQ.out⟩
                  case' mzz261 => skip
                  exact AllReadyL.nil
              case' mzz262 => skip
              exact AllReadyL.nil
          case' mzz264 => skip
          exact AllReadyL.nil
      case' mzz274 => skip
      exact AllReadyH.nil
  case' mzz311 => skip
  exact AllReadyH.nil
theorem walk (A B : Option Addr) (n c m d : Nat) (l : Lo) (i : Int) (x : Wn) (w : World) (h : LIn w A n c B m d l) (hx : WnS x) :
    Calls Try.prog 8 #[locV A n c B m d, .int .i64 i, wnV x] w fun e w' => e = .returned (.bool true) ∧ Q w w' := by
  by_cases hs : n ≤ 200 ∧ m ≤ 40
  · by_cases hi : i < 0
    · exact walk_neg A B n c m d l i x w h hx hs hi
    by_cases him : i < n
    · have hk : i.toNat < l.held.length := by have := h.held.len; omega
      by_cases ho : l.held[i.toNat].txn < 1
      · exact walk_low A B n c m d l i x w h hx hs (by omega) him (fun _ => ho)
      cases hw : waits l l.held[i.toNat].txn with
      | true => exact walk_waits A B n c m d l i x w h hx hs (by omega) him (fun _ => by omega) (fun _ => hw)
      | false =>
        cases hc : covers l.held[i.toNat].w x with
        | false => exact walk_not A B n c m d l i x w h hx hs (by omega) him (fun _ => by omega) (fun _ => hw) (fun _ => hc)
        | true => exact walk_yes A B n c m d l i x w h hx hs (by omega) him (fun _ => by omega) (fun _ => hw) (fun _ => hc)
    · exact walk_far A B n c m d l i x w h hx hs (by omega)
  · exact walk_many A B n c m d l i x w h hx hs

theorem opened (W : World) (args : Array Value) (hn : args.size = 3) (h : ∀ (j : Nat) t v, Try.f8.params[j]? = some t → args[j]? = some v → RdV W t v) :
    Calls Try.prog 8 args W fun e W' => e = .returned (.bool true) ∧ Q W W' := by
  obtain ⟨v0, v1, v2, rfl⟩ := args3 hn
  rw [Try.params8] at h
  obtain ⟨cs, rfl, hr⟩ := (h 0 25 v0 rfl rfl).struct Try.underlying25
  obtain ⟨A, n, c, B, m, d, l, rfl, hl⟩ := open_locks hr
  obtain ⟨i, rfl, i0⟩ := (h 1 3 v1 rfl rfl).int Try.underlying3
  obtain ⟨cs2, rfl, hr2⟩ := (h 2 27 v2 rfl rfl).struct Try.underlying27
  obtain ⟨x, rfl, z0, z1, z2, z3⟩ := open_want hr2
  exact walk A B n c m d l i x W hl (wns z0 z1)

set_option maxRecDepth 100000 in
theorem lifted (os : Os) (started : os.Started) (H : Type) (enc : TypeId × Value → H) :
    ReturnsInHanded {} Try.checked os 8 .any (Rows.lockCoveredSpec.pre6 enc Try.prog Try.f8 Rows.lockCoveredRow.domain false) (Rows.lockCoveredSpec.post enc Try.prog Try.f8 false true false false) :=
  framed 3 Try.func8 (by rw [Try.params8]; rfl) rfl (by kernel_rfl) (by kernel_rfl) (by kernel_rfl)
    (fun H ds h => by match ds, h with | [d0, d1, d2], _ => exact ⟨rfl, rfl, rfl⟩)
    opened os started H enc
    (ChangeSpec.witness6 (enc := enc) (C := Try.checked) false ⟨#[], #[.agg #[.slice none 0 0, .slice none 0 0], .int .i64 0, .agg #[.int .i64 0, .string ByteArray.empty, .string ByteArray.empty]], []⟩ 8 (by kernel_rfl) (by kernel_rfl) (by kernel_rfl) (by kernel_rfl))

theorem over : Rows.lockCoveredRow.holds Try.pinned (OpenSpec.ofChange Rows.lockCoveredSpec) :=
  OpenClaim.holds_of_wide 8 Try.f8 rfl rfl rfl rfl rfl rfl rfl ⟨rfl, rfl, rfl, rfl, rfl⟩ rfl rfl rfl rfl rfl (by kernel_rfl) Try.func8 (by kernel_rfl)
    (of_decide_eq_true (by kernel_rfl)) (by unfold Func.isWrapper; first | (rw [if_pos (by decide +kernel)]; kernel_rfl) | (rw [if_neg (by decide +kernel)]; exact ⟨rfl, rfl⟩))
    (fun os started H enc _ => lifted os started H enc)

theorem proved : Rows.LockCoveredSaid := over
end Go.Proofs.Ytenemdpjhoebpaa.lockCovered
