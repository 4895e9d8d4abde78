/- For every locks, ask and claim: nobody who asks anew passes over a claim of another one that clashes with what it wants, unless it has that already. No condition. -/
import Derived.Test.YtenemdpjhoebpaaLockLaw
namespace Go.Proofs.Ytenemdpjhoebpaa.lockFair
set_option maxRecDepth 100000
open Go.ChangeShapes Go.WideShapes Go.ChangeAt Go.RowKit Prm Lm Sm
set_option linter.unusedVariables false
set_option linter.unusedSimpArgs false

set_option maxHeartbeats 4000000 in
theorem walk_out (A B : Option Addr) (n c m d : Nat) (l : Lo) (txn : Int) (x : Wn) (i : Int) (w : World) (h : LIn w A n c B m d l) (hx : WnS x) (hs : ¬ (n ≤ 200 ∧ m ≤ 40) ∨ (n ≤ 200 ∧ m ≤ 40) ∧ (i < 0 ∨ (m : Int) ≤ i)) :
    Calls Try.prog 9 #[.agg #[.slice A n c, .slice B m d, .int .i64 txn, .int .i64 x.mode, .string x.lo, .string x.hi, .int .i64 i]] w fun e w' => e = .returned (.bool true) ∧ Q w w' := by
  have KS := Lib.hid (fun W => lsmall_any A B n c m d W)
  rcases hs with hs | ⟨hs, hi | hi⟩
  · rw [many hs] at KS
    clear h hx hs
    have HQ := Lib.hid (Q.refl w)
    go_enter Try.func9, Try.ntmps9
    go_upto_region 1 with (fail)
    have XI : Hid (Bx (w.alloc (.cells #[.slice A n c, .slice B m d, .int .i64 txn, .int .i64 x.mode, .string x.lo, .string x.hi, .int .i64 i] 58)) w.heap.size [.slice A n c, .slice B m d, .int .i64 txn, .int .i64 x.mode, .string x.lo, .string x.hi, .int .i64 i]) := Lib.hid (Bx.new w [.slice A n c, .slice B m d, .int .i64 txn, .int .i64 x.mode, .string x.lo, .string x.hi, .int .i64 i] 58)
    have HQ := Lib.hid (HQ.out.alloc (.cells #[.slice A n c, .slice B m d, .int .i64 txn, .int .i64 x.mode, .string x.lo, .string x.hi, .int .i64 i] 58))
    generalize w.alloc (.cells #[.slice A n c, .slice B m d, .int .i64 txn, .int .i64 x.mode, .string x.lo, .string x.hi, .int .i64 i] 58) = W0 at XI HQ ⊢
    generalize w.heap.size = gI at XI ⊢
    have i0 := (XI.out 0 _ rfl).1
    have i1 := (XI.out 1 _ rfl).1
    have i2 := (XI.out 2 _ rfl).1
    have i3 := (XI.out 3 _ rfl).1
    have i4 := (XI.out 4 _ rfl).1
    have i5 := (XI.out 5 _ rfl).1
    have i6 := (XI.out 6 _ rfl).1
    go_upto_region 2 with (fail)
    clear i0 i1 i2 i3 i4 i5 i6
    have qa := (Q.refl W0).alloc (.cells #[.slice A n c, .slice B m d] 25)
    have XI := Lib.hid (XI.out.q qa)
    have XL : Hid (Bx (W0.alloc (.cells #[.slice A n c, .slice B m d] 25)) W0.heap.size [.slice A n c, .slice B m d]) := Lib.hid (Bx.new W0 [.slice A n c, .slice B m d] 25)
    have HQ := Lib.hid (HQ.out.trans qa)
    clear qa
    generalize W0.alloc (.cells #[.slice A n c, .slice B m d] 25) = W1 at *
    generalize W0.heap.size = gXL at *
    have i0 := (XI.out 0 _ rfl).1
    have i1 := (XI.out 1 _ rfl).1
    have i2 := (XI.out 2 _ rfl).1
    have i3 := (XI.out 3 _ rfl).1
    have i4 := (XI.out 4 _ rfl).1
    have i5 := (XI.out 5 _ rfl).1
    have i6 := (XI.out 6 _ rfl).1
    go_upto_region 4 with (fail)
    clear i0 i1 i2 i3 i4 i5 i6
    have qa := (Q.refl W1).alloc (.cells #[.int .i64 x.mode, .string x.lo, .string x.hi] 27)
    have XI := Lib.hid (XI.out.q qa)
    have XL := Lib.hid (XL.out.q qa)
    have XW : Hid (Bx (W1.alloc (.cells #[.int .i64 x.mode, .string x.lo, .string x.hi] 27)) W1.heap.size [.int .i64 x.mode, .string x.lo, .string x.hi]) := Lib.hid (Bx.new W1 [.int .i64 x.mode, .string x.lo, .string x.hi] 27)
    have HQ := Lib.hid (HQ.out.trans qa)
    clear qa
    generalize W1.alloc (.cells #[.int .i64 x.mode, .string x.lo, .string x.hi] 27) = W3 at *
    generalize W1.heap.size = gXW at *
    have i0 := (XI.out 0 _ rfl).1
    have i1 := (XI.out 1 _ rfl).1
    have i2 := (XI.out 2 _ rfl).1
    have i3 := (XI.out 3 _ rfl).1
    have i4 := (XI.out 4 _ rfl).1
    have i5 := (XI.out 5 _ rfl).1
    have i6 := (XI.out 6 _ rfl).1
    go_wp2_with fail
    clear i0 i1 i2 i3 i4 i5 i6
    clear XI
    refine (lshown_any _).mono ?_
    rintro e w1 ⟨rfl, q1⟩
    have XL := Lib.hid (XL.out.q q1)
    have XW := Lib.hid (XW.out.q q1)
    have HQ := Lib.hid (HQ.out.trans q1)
    clear q1
    obtain ⟨⟨x0, x1⟩, x2, x3⟩ := XL.out.get2
    go_wp2_with fail
    refine (KS.out _).mono ?_
    rintro e w2 ⟨rfl, q1⟩
    have XL := Lib.hid (XL.out.q q1)
    have XW := Lib.hid (XW.out.q q1)
    have HQ := Lib.hid (HQ.out.trans q1)
    clear q1
    clear x0 x1 x2 x3
    obtain ⟨⟨x0, x1⟩, x2, x3⟩ := XL.out.get2
    obtain ⟨⟨y0, y1, y2⟩, y3, y4, y5⟩ := XW.out.get3
    go_wp2
    go_ret
    exact ⟨rfl, HQ.out⟩
  · rw [Go.Proofs.Ytenemdpjhoebpaa.few hs] at KS
    clear h hx hs
    have HQ := Lib.hid (Q.refl w)
    go_enter Try.func9, Try.ntmps9
    go_upto_region 1 with (fail)
    have XI : Hid (Bx (w.alloc (.cells #[.slice A n c, .slice B m d, .int .i64 txn, .int .i64 x.mode, .string x.lo, .string x.hi, .int .i64 i] 58)) w.heap.size [.slice A n c, .slice B m d, .int .i64 txn, .int .i64 x.mode, .string x.lo, .string x.hi, .int .i64 i]) := Lib.hid (Bx.new w [.slice A n c, .slice B m d, .int .i64 txn, .int .i64 x.mode, .string x.lo, .string x.hi, .int .i64 i] 58)
    have HQ := Lib.hid (HQ.out.alloc (.cells #[.slice A n c, .slice B m d, .int .i64 txn, .int .i64 x.mode, .string x.lo, .string x.hi, .int .i64 i] 58))
    generalize w.alloc (.cells #[.slice A n c, .slice B m d, .int .i64 txn, .int .i64 x.mode, .string x.lo, .string x.hi, .int .i64 i] 58) = W0 at XI HQ ⊢
    generalize w.heap.size = gI at XI ⊢
    have i0 := (XI.out 0 _ rfl).1
    have i1 := (XI.out 1 _ rfl).1
    have i2 := (XI.out 2 _ rfl).1
    have i3 := (XI.out 3 _ rfl).1
    have i4 := (XI.out 4 _ rfl).1
    have i5 := (XI.out 5 _ rfl).1
    have i6 := (XI.out 6 _ rfl).1
    go_upto_region 2 with (fail)
    clear i0 i1 i2 i3 i4 i5 i6
    have qa := (Q.refl W0).alloc (.cells #[.slice A n c, .slice B m d] 25)
    have XI := Lib.hid (XI.out.q qa)
    have XL : Hid (Bx (W0.alloc (.cells #[.slice A n c, .slice B m d] 25)) W0.heap.size [.slice A n c, .slice B m d]) := Lib.hid (Bx.new W0 [.slice A n c, .slice B m d] 25)
    have HQ := Lib.hid (HQ.out.trans qa)
    clear qa
    generalize W0.alloc (.cells #[.slice A n c, .slice B m d] 25) = W1 at *
    generalize W0.heap.size = gXL at *
    have i0 := (XI.out 0 _ rfl).1
    have i1 := (XI.out 1 _ rfl).1
    have i2 := (XI.out 2 _ rfl).1
    have i3 := (XI.out 3 _ rfl).1
    have i4 := (XI.out 4 _ rfl).1
    have i5 := (XI.out 5 _ rfl).1
    have i6 := (XI.out 6 _ rfl).1
    go_upto_region 4 with (fail)
    clear i0 i1 i2 i3 i4 i5 i6
    have qa := (Q.refl W1).alloc (.cells #[.int .i64 x.mode, .string x.lo, .string x.hi] 27)
    have XI := Lib.hid (XI.out.q qa)
    have XL := Lib.hid (XL.out.q qa)
    have XW : Hid (Bx (W1.alloc (.cells #[.int .i64 x.mode, .string x.lo, .string x.hi] 27)) W1.heap.size [.int .i64 x.mode, .string x.lo, .string x.hi]) := Lib.hid (Bx.new W1 [.int .i64 x.mode, .string x.lo, .string x.hi] 27)
    have HQ := Lib.hid (HQ.out.trans qa)
    clear qa
    generalize W1.alloc (.cells #[.int .i64 x.mode, .string x.lo, .string x.hi] 27) = W3 at *
    generalize W1.heap.size = gXW at *
    have i0 := (XI.out 0 _ rfl).1
    have i1 := (XI.out 1 _ rfl).1
    have i2 := (XI.out 2 _ rfl).1
    have i3 := (XI.out 3 _ rfl).1
    have i4 := (XI.out 4 _ rfl).1
    have i5 := (XI.out 5 _ rfl).1
    have i6 := (XI.out 6 _ rfl).1
    go_wp2_with fail
    clear i0 i1 i2 i3 i4 i5 i6
    clear XI
    refine (lshown_any _).mono ?_
    rintro e w1 ⟨rfl, q1⟩
    have XL := Lib.hid (XL.out.q q1)
    have XW := Lib.hid (XW.out.q q1)
    have HQ := Lib.hid (HQ.out.trans q1)
    clear q1
    obtain ⟨⟨x0, x1⟩, x2, x3⟩ := XL.out.get2
    go_wp2_with fail
    refine (KS.out _).mono ?_
    rintro e w2 ⟨rfl, q1⟩
    have XL := Lib.hid (XL.out.q q1)
    have XW := Lib.hid (XW.out.q q1)
    have HQ := Lib.hid (HQ.out.trans q1)
    clear q1
    clear x0 x1 x2 x3
    obtain ⟨⟨x0, x1⟩, x2, x3⟩ := XL.out.get2
    obtain ⟨⟨y0, y1, y2⟩, y3, y4, y5⟩ := XW.out.get3
    go_wp2
    go_ret
    exact ⟨rfl, HQ.out⟩
  · rw [Go.Proofs.Ytenemdpjhoebpaa.few hs] at KS
    have hi0 : ¬ i < 0 := by omega
    clear h hx hs
    have HQ := Lib.hid (Q.refl w)
    go_enter Try.func9, Try.ntmps9
    go_upto_region 1 with (fail)
    have XI : Hid (Bx (w.alloc (.cells #[.slice A n c, .slice B m d, .int .i64 txn, .int .i64 x.mode, .string x.lo, .string x.hi, .int .i64 i] 58)) w.heap.size [.slice A n c, .slice B m d, .int .i64 txn, .int .i64 x.mode, .string x.lo, .string x.hi, .int .i64 i]) := Lib.hid (Bx.new w [.slice A n c, .slice B m d, .int .i64 txn, .int .i64 x.mode, .string x.lo, .string x.hi, .int .i64 i] 58)
    have HQ := Lib.hid (HQ.out.alloc (.cells #[.slice A n c, .slice B m d, .int .i64 txn, .int .i64 x.mode, .string x.lo, .string x.hi, .int .i64 i] 58))
    generalize w.alloc (.cells #[.slice A n c, .slice B m d, .int .i64 txn, .int .i64 x.mode, .string x.lo, .string x.hi, .int .i64 i] 58) = W0 at XI HQ ⊢
    generalize w.heap.size = gI at XI ⊢
    have i0 := (XI.out 0 _ rfl).1
    have i1 := (XI.out 1 _ rfl).1
    have i2 := (XI.out 2 _ rfl).1
    have i3 := (XI.out 3 _ rfl).1
    have i4 := (XI.out 4 _ rfl).1
    have i5 := (XI.out 5 _ rfl).1
    have i6 := (XI.out 6 _ rfl).1
    go_upto_region 2 with (fail)
    clear i0 i1 i2 i3 i4 i5 i6
    have qa := (Q.refl W0).alloc (.cells #[.slice A n c, .slice B m d] 25)
    have XI := Lib.hid (XI.out.q qa)
    have XL : Hid (Bx (W0.alloc (.cells #[.slice A n c, .slice B m d] 25)) W0.heap.size [.slice A n c, .slice B m d]) := Lib.hid (Bx.new W0 [.slice A n c, .slice B m d] 25)
    have HQ := Lib.hid (HQ.out.trans qa)
    clear qa
    generalize W0.alloc (.cells #[.slice A n c, .slice B m d] 25) = W1 at *
    generalize W0.heap.size = gXL at *
    have i0 := (XI.out 0 _ rfl).1
    have i1 := (XI.out 1 _ rfl).1
    have i2 := (XI.out 2 _ rfl).1
    have i3 := (XI.out 3 _ rfl).1
    have i4 := (XI.out 4 _ rfl).1
    have i5 := (XI.out 5 _ rfl).1
    have i6 := (XI.out 6 _ rfl).1
    go_upto_region 4 with (fail)
    clear i0 i1 i2 i3 i4 i5 i6
    have qa := (Q.refl W1).alloc (.cells #[.int .i64 x.mode, .string x.lo, .string x.hi] 27)
    have XI := Lib.hid (XI.out.q qa)
    have XL := Lib.hid (XL.out.q qa)
    have XW : Hid (Bx (W1.alloc (.cells #[.int .i64 x.mode, .string x.lo, .string x.hi] 27)) W1.heap.size [.int .i64 x.mode, .string x.lo, .string x.hi]) := Lib.hid (Bx.new W1 [.int .i64 x.mode, .string x.lo, .string x.hi] 27)
    have HQ := Lib.hid (HQ.out.trans qa)
    clear qa
    generalize W1.alloc (.cells #[.int .i64 x.mode, .string x.lo, .string x.hi] 27) = W3 at *
    generalize W1.heap.size = gXW at *
    have i0 := (XI.out 0 _ rfl).1
    have i1 := (XI.out 1 _ rfl).1
    have i2 := (XI.out 2 _ rfl).1
    have i3 := (XI.out 3 _ rfl).1
    have i4 := (XI.out 4 _ rfl).1
    have i5 := (XI.out 5 _ rfl).1
    have i6 := (XI.out 6 _ rfl).1
    go_wp2_with fail
    clear i0 i1 i2 i3 i4 i5 i6
    clear XI
    refine (lshown_any _).mono ?_
    rintro e w1 ⟨rfl, q1⟩
    have XL := Lib.hid (XL.out.q q1)
    have XW := Lib.hid (XW.out.q q1)
    have HQ := Lib.hid (HQ.out.trans q1)
    clear q1
    obtain ⟨⟨x0, x1⟩, x2, x3⟩ := XL.out.get2
    go_wp2_with fail
    refine (KS.out _).mono ?_
    rintro e w2 ⟨rfl, q1⟩
    have XL := Lib.hid (XL.out.q q1)
    have XW := Lib.hid (XW.out.q q1)
    have HQ := Lib.hid (HQ.out.trans q1)
    clear q1
    clear x0 x1 x2 x3
    obtain ⟨⟨x0, x1⟩, x2, x3⟩ := XL.out.get2
    obtain ⟨⟨y0, y1, y2⟩, y3, y4, y5⟩ := XW.out.get3
    go_wp2
    go_ret
    exact ⟨rfl, HQ.out⟩
set_option maxHeartbeats 4000000 in
theorem walk_own (A B : Option Addr) (n c m d : Nat) (l : Lo) (txn : Int) (x : Wn) (i : Int) (w : World) (h : LIn w A n c B m d l) (hx : WnS x) (hs : n ≤ 200 ∧ m ≤ 40) (hi : 0 ≤ i) (him : i < m) (ho : ∀ hk : i.toNat < l.queue.length, l.queue[i.toNat].txn = txn) :
    Calls Try.prog 9 #[.agg #[.slice A n c, .slice B m d, .int .i64 txn, .int .i64 x.mode, .string x.lo, .string x.hi, .int .i64 i]] w fun e w' => e = .returned (.bool true) ∧ Q w w' := by
  have KS := Lib.hid (fun W => lsmall_any A B n c m d W)
  rw [Go.Proofs.Ytenemdpjhoebpaa.few hs] at KS
  obtain ⟨k, rfl⟩ : ∃ k : Nat, i = k := ⟨i.toNat, by omega⟩
  have hkm : k < m := by omega
  have hkl : k < l.queue.length := by have := h.queue.len; omega
  have hkn : (k : Int) < (m : Int) := by omega
  have hk0 : ¬ (k : Int) < 0 := by omega
  have hkm2 : ¬ (m : Int) ≤ (k : Int) := by omega
  have HI := Lib.hid h
  have LC := Lib.hid (fun W (q : Q w W) => load_claim (h.queue.lst.q q) hkm hkl)
  have ho := ho (by simpa using hkl)
  simp only [Int.toNat_natCast] at ho
  generalize l.queue[k] = z at LC ho
  have hz : (z.txn == txn) = true := by simpa using ho
  clear h hx hs hi him hkl ho
  have HQ := Lib.hid (Q.refl w)
  go_enter Try.func9, Try.ntmps9
  go_upto_region 1 with (fail)
  have XI : Hid (Bx (w.alloc (.cells #[.slice A n c, .slice B m d, .int .i64 txn, .int .i64 x.mode, .string x.lo, .string x.hi, .int .i64 (k : Int)] 58)) w.heap.size [.slice A n c, .slice B m d, .int .i64 txn, .int .i64 x.mode, .string x.lo, .string x.hi, .int .i64 (k : Int)]) := Lib.hid (Bx.new w [.slice A n c, .slice B m d, .int .i64 txn, .int .i64 x.mode, .string x.lo, .string x.hi, .int .i64 (k : Int)] 58)
  have HQ := Lib.hid (HQ.out.alloc (.cells #[.slice A n c, .slice B m d, .int .i64 txn, .int .i64 x.mode, .string x.lo, .string x.hi, .int .i64 (k : Int)] 58))
  generalize w.alloc (.cells #[.slice A n c, .slice B m d, .int .i64 txn, .int .i64 x.mode, .string x.lo, .string x.hi, .int .i64 (k : Int)] 58) = W0 at XI HQ ⊢
  generalize w.heap.size = gI at XI ⊢
  have i0 := (XI.out 0 _ rfl).1
  have i1 := (XI.out 1 _ rfl).1
  have i2 := (XI.out 2 _ rfl).1
  have i3 := (XI.out 3 _ rfl).1
  have i4 := (XI.out 4 _ rfl).1
  have i5 := (XI.out 5 _ rfl).1
  have i6 := (XI.out 6 _ rfl).1
  go_upto_region 2 with (fail)
  clear i0 i1 i2 i3 i4 i5 i6
  have qa := (Q.refl W0).alloc (.cells #[.slice A n c, .slice B m d] 25)
  have XI := Lib.hid (XI.out.q qa)
  have XL : Hid (Bx (W0.alloc (.cells #[.slice A n c, .slice B m d] 25)) W0.heap.size [.slice A n c, .slice B m d]) := Lib.hid (Bx.new W0 [.slice A n c, .slice B m d] 25)
  have HQ := Lib.hid (HQ.out.trans qa)
  clear qa
  generalize W0.alloc (.cells #[.slice A n c, .slice B m d] 25) = W1 at *
  generalize W0.heap.size = gXL at *
  have i0 := (XI.out 0 _ rfl).1
  have i1 := (XI.out 1 _ rfl).1
  have i2 := (XI.out 2 _ rfl).1
  have i3 := (XI.out 3 _ rfl).1
  have i4 := (XI.out 4 _ rfl).1
  have i5 := (XI.out 5 _ rfl).1
  have i6 := (XI.out 6 _ rfl).1
  go_upto_region 4 with (fail)
  clear i0 i1 i2 i3 i4 i5 i6
  have qa := (Q.refl W1).alloc (.cells #[.int .i64 x.mode, .string x.lo, .string x.hi] 27)
  have XI := Lib.hid (XI.out.q qa)
  have XL := Lib.hid (XL.out.q qa)
  have XW : Hid (Bx (W1.alloc (.cells #[.int .i64 x.mode, .string x.lo, .string x.hi] 27)) W1.heap.size [.int .i64 x.mode, .string x.lo, .string x.hi]) := Lib.hid (Bx.new W1 [.int .i64 x.mode, .string x.lo, .string x.hi] 27)
  have HQ := Lib.hid (HQ.out.trans qa)
  clear qa
  generalize W1.alloc (.cells #[.int .i64 x.mode, .string x.lo, .string x.hi] 27) = W3 at *
  generalize W1.heap.size = gXW at *
  have i0 := (XI.out 0 _ rfl).1
  have i1 := (XI.out 1 _ rfl).1
  have i2 := (XI.out 2 _ rfl).1
  have i3 := (XI.out 3 _ rfl).1
  have i4 := (XI.out 4 _ rfl).1
  have i5 := (XI.out 5 _ rfl).1
  have i6 := (XI.out 6 _ rfl).1
  go_wp2_with fail
  clear i0 i1 i2 i3 i4 i5 i6
  clear XI
  refine (lshown_any _).mono ?_
  rintro e w1 ⟨rfl, q1⟩
  have XL := Lib.hid (XL.out.q q1)
  have XW := Lib.hid (XW.out.q q1)
  have HQ := Lib.hid (HQ.out.trans q1)
  clear q1
  obtain ⟨⟨x0, x1⟩, x2, x3⟩ := XL.out.get2
  go_wp2_with fail
  refine (KS.out _).mono ?_
  rintro e w2 ⟨rfl, q1⟩
  have XL := Lib.hid (XL.out.q q1)
  have XW := Lib.hid (XW.out.q q1)
  have HQ := Lib.hid (HQ.out.trans q1)
  clear q1
  clear x0 x1 x2 x3
  obtain ⟨⟨x0, x1⟩, x2, x3⟩ := XL.out.get2
  obtain ⟨⟨y0, y1, y2⟩, y3, y4, y5⟩ := XW.out.get3
  obtain ⟨ad, rfl, hab, k0, k1, k2, k3, k4⟩ := LC.out _ HQ.out
  go_wp2
  go_ret
  exact ⟨rfl, HQ.out⟩
set_option maxHeartbeats 4000000 in
theorem walk_no (A B : Option Addr) (n c m d : Nat) (l : Lo) (txn : Int) (x : Wn) (i : Int) (w : World) (h : LIn w A n c B m d l) (hx : WnS x) (hs : n ≤ 200 ∧ m ≤ 40) (hi : 0 ≤ i) (him : i < m) (ho : ∀ hk : i.toNat < l.queue.length, l.queue[i.toNat].txn ≠ txn) (hc : ∀ hk : i.toNat < l.queue.length, clash l.queue[i.toNat].w x = false) :
    Calls Try.prog 9 #[.agg #[.slice A n c, .slice B m d, .int .i64 txn, .int .i64 x.mode, .string x.lo, .string x.hi, .int .i64 i]] w fun e w' => e = .returned (.bool true) ∧ Q w w' := by
  have KS := Lib.hid (fun W => lsmall_any A B n c m d W)
  rw [Go.Proofs.Ytenemdpjhoebpaa.few hs] at KS
  obtain ⟨k, rfl⟩ : ∃ k : Nat, i = k := ⟨i.toNat, by omega⟩
  have hkm : k < m := by omega
  have hkl : k < l.queue.length := by have := h.queue.len; omega
  have hkn : (k : Int) < (m : Int) := by omega
  have hk0 : ¬ (k : Int) < 0 := by omega
  have hkm2 : ¬ (m : Int) ≤ (k : Int) := by omega
  have HI := Lib.hid h
  have LC := Lib.hid (fun W (q : Q w W) => load_claim (h.queue.lst.q q) hkm hkl)
  have ho := ho (by simpa using hkl)
  have hc := hc (by simpa using hkl)
  simp only [Int.toNat_natCast] at ho hc
  have hwz : WnS l.queue[k].w := h.loW.2 _ (List.getElem_mem hkl)
  have K1 := Lib.hid (fun W q => lask_any A B n c m d l txn x 5 W (h.held.q q) (h.queue.q q) (h.few hs.1 hs.2))
  have K2 := Lib.hid (fun W => rclash_any l.queue[k].w x W hwz hx)
  generalize l.queue[k] = z at LC ho hc hwz K2
  rw [hc] at K2
  have hz : (z.txn == txn) = false := by simpa using ho
  generalize Lm.ask l txn x 5 = S at K1
  clear h hx hs hi him hkl ho hc hwz
  unfold wnV at *
  have HQ := Lib.hid (Q.refl w)
  go_enter Try.func9, Try.ntmps9
  go_upto_region 1 with (fail)
  have XI : Hid (Bx (w.alloc (.cells #[.slice A n c, .slice B m d, .int .i64 txn, .int .i64 x.mode, .string x.lo, .string x.hi, .int .i64 (k : Int)] 58)) w.heap.size [.slice A n c, .slice B m d, .int .i64 txn, .int .i64 x.mode, .string x.lo, .string x.hi, .int .i64 (k : Int)]) := Lib.hid (Bx.new w [.slice A n c, .slice B m d, .int .i64 txn, .int .i64 x.mode, .string x.lo, .string x.hi, .int .i64 (k : Int)] 58)
  have HQ := Lib.hid (HQ.out.alloc (.cells #[.slice A n c, .slice B m d, .int .i64 txn, .int .i64 x.mode, .string x.lo, .string x.hi, .int .i64 (k : Int)] 58))
  generalize w.alloc (.cells #[.slice A n c, .slice B m d, .int .i64 txn, .int .i64 x.mode, .string x.lo, .string x.hi, .int .i64 (k : Int)] 58) = W0 at XI HQ ⊢
  generalize w.heap.size = gI at XI ⊢
  have i0 := (XI.out 0 _ rfl).1
  have i1 := (XI.out 1 _ rfl).1
  have i2 := (XI.out 2 _ rfl).1
  have i3 := (XI.out 3 _ rfl).1
  have i4 := (XI.out 4 _ rfl).1
  have i5 := (XI.out 5 _ rfl).1
  have i6 := (XI.out 6 _ rfl).1
  go_upto_region 2 with (fail)
  clear i0 i1 i2 i3 i4 i5 i6
  have qa := (Q.refl W0).alloc (.cells #[.slice A n c, .slice B m d] 25)
  have XI := Lib.hid (XI.out.q qa)
  have XL : Hid (Bx (W0.alloc (.cells #[.slice A n c, .slice B m d] 25)) W0.heap.size [.slice A n c, .slice B m d]) := Lib.hid (Bx.new W0 [.slice A n c, .slice B m d] 25)
  have HQ := Lib.hid (HQ.out.trans qa)
  clear qa
  generalize W0.alloc (.cells #[.slice A n c, .slice B m d] 25) = W1 at *
  generalize W0.heap.size = gXL at *
  have i0 := (XI.out 0 _ rfl).1
  have i1 := (XI.out 1 _ rfl).1
  have i2 := (XI.out 2 _ rfl).1
  have i3 := (XI.out 3 _ rfl).1
  have i4 := (XI.out 4 _ rfl).1
  have i5 := (XI.out 5 _ rfl).1
  have i6 := (XI.out 6 _ rfl).1
  go_upto_region 4 with (fail)
  clear i0 i1 i2 i3 i4 i5 i6
  have qa := (Q.refl W1).alloc (.cells #[.int .i64 x.mode, .string x.lo, .string x.hi] 27)
  have XI := Lib.hid (XI.out.q qa)
  have XL := Lib.hid (XL.out.q qa)
  have XW : Hid (Bx (W1.alloc (.cells #[.int .i64 x.mode, .string x.lo, .string x.hi] 27)) W1.heap.size [.int .i64 x.mode, .string x.lo, .string x.hi]) := Lib.hid (Bx.new W1 [.int .i64 x.mode, .string x.lo, .string x.hi] 27)
  have HQ := Lib.hid (HQ.out.trans qa)
  clear qa
  generalize W1.alloc (.cells #[.int .i64 x.mode, .string x.lo, .string x.hi] 27) = W3 at *
  generalize W1.heap.size = gXW at *
  have i0 := (XI.out 0 _ rfl).1
  have i1 := (XI.out 1 _ rfl).1
  have i2 := (XI.out 2 _ rfl).1
  have i3 := (XI.out 3 _ rfl).1
  have i4 := (XI.out 4 _ rfl).1
  have i5 := (XI.out 5 _ rfl).1
  have i6 := (XI.out 6 _ rfl).1
  go_wp2_with fail
  clear i0 i1 i2 i3 i4 i5 i6
  clear XI
  refine (lshown_any _).mono ?_
  rintro e w1 ⟨rfl, q1⟩
  have XL := Lib.hid (XL.out.q q1)
  have XW := Lib.hid (XW.out.q q1)
  have HQ := Lib.hid (HQ.out.trans q1)
  clear q1
  obtain ⟨⟨x0, x1⟩, x2, x3⟩ := XL.out.get2
  go_wp2_with fail
  refine (KS.out _).mono ?_
  rintro e w2 ⟨rfl, q1⟩
  have XL := Lib.hid (XL.out.q q1)
  have XW := Lib.hid (XW.out.q q1)
  have HQ := Lib.hid (HQ.out.trans q1)
  clear q1
  clear x0 x1 x2 x3
  obtain ⟨⟨x0, x1⟩, x2, x3⟩ := XL.out.get2
  obtain ⟨⟨y0, y1, y2⟩, y3, y4, y5⟩ := XW.out.get3
  obtain ⟨ad, rfl, hab, k0, k1, k2, k3, k4⟩ := LC.out _ HQ.out
  go_wp2
  refine wp_region_held_drew (S := Q w2) (by kernel_rfl) ?szz0 (fun hHeld => ?rzz0)
  case szz0 =>
    exact (Q.refl w2).drew
  case' rzz0 => skip
  refine wpAnyH_take (i := 0) (oi := ?ozz1) (v := ?vzz1) ?hzz1 ?azz1 ?bzz1 ?czz1 ?qzz1 ?yzz1 ?szz1 ?rzz1
  case hzz1 => simp only [List.getElem?_toArray, List.getElem?_cons_zero]; rfl
  case azz1 => kernel_rfl
  case bzz1 => kernel_rfl
  case czz1 => kernel_rfl
  case yzz1 =>
    refine Or.inl ⟨by rfl, ?_⟩
    intro w hSw
    skip
    go_simp
    try with_reducible rfl
  case qzz1 => exact fun _ _ _ h => h
  case szz1 => first | assumption | trivial
  case' rzz1 => simp only [Act.put, List.setIfInBounds_toArray, List.set_cons_zero, List.set_cons_succ]
  refine wpAnyH_take (i := 1) (oi := ?ozz2) (v := ?vzz2) ?hzz2 ?azz2 ?bzz2 ?czz2 ?qzz2 ?yzz2 ?szz2 ?rzz2
  case hzz2 => simp only [List.getElem?_toArray, List.getElem?_cons_zero, List.getElem?_cons_succ]; rfl
  case azz2 => kernel_rfl
  case bzz2 => kernel_rfl
  case czz2 => kernel_rfl
  case yzz2 =>
    refine Or.inl ⟨by rfl, ?_⟩
    intro w hSw
    have z0 := box_ hSw x0; have z1 := box_ hSw x1; have z2 := box_ hSw y0; have z3 := box_ hSw y1; have z4 := box_ hSw y2; have z5 := box_ hSw k0; have z6 := box_ hSw k1; have z7 := box_ hSw k2; have z8 := box_ hSw k3; clear hSw
    go_simp
    try with_reducible rfl
  case qzz2 => exact fun _ _ _ h => h
  case szz2 => first | assumption | trivial
  case' rzz2 => simp only [Act.put, List.setIfInBounds_toArray, List.set_cons_zero, List.set_cons_succ]
  refine wpAnyH_take (i := 2) (oi := ?ozz3) (v := ?vzz3) ?hzz3 ?azz3 ?bzz3 ?czz3 ?qzz3 ?yzz3 ?szz3 ?rzz3
  case hzz3 => simp only [List.getElem?_toArray, List.getElem?_cons_zero, List.getElem?_cons_succ]; rfl
  case azz3 => kernel_rfl
  case bzz3 => kernel_rfl
  case czz3 => kernel_rfl
  case yzz3 =>
    refine Or.inl ⟨by rfl, ?_⟩
    intro w hSw
    skip
    go_simp
    try with_reducible rfl
  case qzz3 => exact fun _ _ _ h => h
  case szz3 => first | assumption | trivial
  case' rzz3 => simp only [Act.put, List.setIfInBounds_toArray, List.set_cons_zero, List.set_cons_succ]
  refine wpAnyH_take (i := 3) (oi := ?ozz4) (v := ?vzz4) ?hzz4 ?azz4 ?bzz4 ?czz4 ?qzz4 ?yzz4 ?szz4 ?rzz4
  case hzz4 => simp only [List.getElem?_toArray, List.getElem?_cons_zero, List.getElem?_cons_succ]; rfl
  case azz4 => kernel_rfl
  case bzz4 => kernel_rfl
  case czz4 => kernel_rfl
  case yzz4 =>
    refine Or.inl ⟨by rfl, ?_⟩
    intro w hSw
    have z0 := box_ hSw x0; have z1 := box_ hSw x1; have z2 := box_ hSw y0; have z3 := box_ hSw y1; have z4 := box_ hSw y2; have z5 := box_ hSw k0; have z6 := box_ hSw k1; have z7 := box_ hSw k2; have z8 := box_ hSw k3; clear hSw
    go_simp
    try with_reducible rfl
  case qzz4 => exact fun _ _ _ h => h
  case szz4 => first | assumption | trivial
  case' rzz4 => simp only [Act.put, List.setIfInBounds_toArray, List.set_cons_zero, List.set_cons_succ]
  refine wpAnyH_take (i := 4) (oi := ?ozz5) (v := ?vzz5) ?hzz5 ?azz5 ?bzz5 ?czz5 ?qzz5 ?yzz5 ?szz5 ?rzz5
  case hzz5 => simp only [List.getElem?_toArray, List.getElem?_cons_zero, List.getElem?_cons_succ]; rfl
  case azz5 => kernel_rfl
  case bzz5 => kernel_rfl
  case czz5 => kernel_rfl
  case yzz5 =>
    refine Or.inl ⟨by rfl, ?_⟩
    intro w hSw
    skip
    go_simp
    try with_reducible rfl
  case qzz5 => exact fun _ _ _ h => h
  case szz5 => first | assumption | trivial
  case' rzz5 => simp only [Act.put, List.setIfInBounds_toArray, List.set_cons_zero, List.set_cons_succ]
  refine wpAnyH_take (i := 5) (oi := ?ozz6) (v := ?vzz6) ?hzz6 ?azz6 ?bzz6 ?czz6 ?qzz6 ?yzz6 ?szz6 ?rzz6
  case hzz6 => simp only [List.getElem?_toArray, List.getElem?_cons_zero, List.getElem?_cons_succ]; rfl
  case azz6 => kernel_rfl
  case bzz6 => kernel_rfl
  case czz6 => kernel_rfl
  case yzz6 =>
    refine Or.inl ⟨by rfl, ?_⟩
    intro w hSw
    have z0 := box_ hSw x0; have z1 := box_ hSw x1; have z2 := box_ hSw y0; have z3 := box_ hSw y1; have z4 := box_ hSw y2; have z5 := box_ hSw k0; have z6 := box_ hSw k1; have z7 := box_ hSw k2; have z8 := box_ hSw k3; clear hSw
    go_simp
    try with_reducible rfl
  case qzz6 => exact fun _ _ _ h => h
  case szz6 => first | assumption | trivial
  case' rzz6 => simp only [Act.put, List.setIfInBounds_toArray, List.set_cons_zero, List.set_cons_succ]
  refine wpAnyH_take (i := 6) (oi := ?ozz7) (v := ?vzz7) ?hzz7 ?azz7 ?bzz7 ?czz7 ?qzz7 ?yzz7 ?szz7 ?rzz7
  case hzz7 => simp only [List.getElem?_toArray, List.getElem?_cons_zero, List.getElem?_cons_succ]; rfl
  case azz7 => kernel_rfl
  case bzz7 => kernel_rfl
  case czz7 => kernel_rfl
  case yzz7 =>
    refine Or.inl ⟨by rfl, ?_⟩
    intro w hSw
    have z0 := box_ hSw x0; have z1 := box_ hSw x1; have z2 := box_ hSw y0; have z3 := box_ hSw y1; have z4 := box_ hSw y2; have z5 := box_ hSw k0; have z6 := box_ hSw k1; have z7 := box_ hSw k2; have z8 := box_ hSw k3; clear hSw
    go_simp
    try with_reducible rfl
  case qzz7 => exact fun _ _ _ h => h
  case szz7 => first | assumption | trivial
  case' rzz7 => simp only [Act.put, List.setIfInBounds_toArray, List.set_cons_zero, List.set_cons_succ]
  refine wpAnyH_ready (rs := [7]) (by kernel_rfl) (by simp) ?_
  refine AllReadyH.cons (o := ?ozz9) ?hzz9 (fun K hK => ?kzz9) ?mzz9
  case hzz9 => simp only [List.getElem?_toArray, List.getElem?_cons_zero, List.getElem?_cons_succ]; rfl
  case kzz9 =>
    go_simp
    refine (K2.out _).mono ?_
    rintro e u1 ⟨rfl, qx⟩
    go_wp2_with fail
    refine hK.out _ _ ?Szz9 (fun hHeld => ?Rzz9)
    case Szz9 =>
      exact hHeld.trans qx
    case Rzz9 =>
      clear hK K
      try simp only [Act.put, List.setIfInBounds_toArray, List.set_cons_zero, List.set_cons_succ]
      refine wpAnyH_take (i := 8) (oi := ?ozz8) (v := ?vzz8) ?hzz8 ?azz8 ?bzz8 ?czz8 ?qzz8 ?yzz8 ?szz8 ?rzz8
      case hzz8 => simp only [List.getElem?_toArray, List.getElem?_cons_zero, List.getElem?_cons_succ]; rfl
      case azz8 => kernel_rfl
      case bzz8 => kernel_rfl
      case czz8 => kernel_rfl
      case yzz8 =>
        refine Or.inl ⟨by rfl, ?_⟩
        intro w hSw
        skip
        go_simp
        try with_reducible rfl
      case qzz8 => exact fun _ _ _ h => h
      case szz8 => first | assumption | trivial
      case' rzz8 => simp only [Act.put, List.setIfInBounds_toArray, List.set_cons_zero, List.set_cons_succ]
      refine wpAnyH_done (by kernel_rfl) ?_ _
      have XL := Lib.hid (XL.out.q hHeld)
      have XW := Lib.hid (XW.out.q hHeld)
      have HQ := Lib.hid (HQ.out.trans hHeld)
      clear hHeld k0 k1 k2 k3
      clear x0 x1 x2 x3
      clear y0 y1 y2 y3 y4 y5
      obtain ⟨⟨x0, x1⟩, x2, x3⟩ := XL.out.get2
      obtain ⟨⟨y0, y1, y2⟩, y3, y4, y5⟩ := XW.out.get3
      go_wp2_with fail
      refine (K1.out _ HQ.out).mono ?_
      rintro e w4 ⟨A4, n4, c4, B4, m4, d4, rfl, o4, u4, z4⟩
      clear x0 x1 x2 x3
      clear y0 y1 y2 y3 y4 y5
      go_upto_region 11 with (fail)
      have za := z4.trans ((Q.refl w4).alloc (.cells #[.slice A4 n4 c4, .slice B4 m4 d4] 25))
      have zb := (Q.refl w4).alloc (.cells #[.slice A4 n4 c4, .slice B4 m4 d4] 25)
      have XL := Lib.hid (XL.out.q za)
      have HQ := Lib.hid (HQ.out.trans za)
      have O4 := Lib.hid (And.intro (o4.q zb) (u4.q zb))
      have X4 : Hid (Bx (w4.alloc (.cells #[.slice A4 n4 c4, .slice B4 m4 d4] 25)) w4.heap.size [.slice A4 n4 c4, .slice B4 m4 d4]) := Lib.hid (Bx.new w4 [.slice A4 n4 c4, .slice B4 m4 d4] 25)
      clear za zb z4 o4 u4
      generalize w4.alloc (.cells #[.slice A4 n4 c4, .slice B4 m4 d4] 25) = W4 at *
      generalize w4.heap.size = g4 at *
      obtain ⟨⟨x0, x1⟩, x2, x3⟩ := XL.out.get2
      obtain ⟨⟨a0, a1⟩, a2, a3⟩ := X4.out.get2
      go_wp2
      go_ret
      exact ⟨rfl, HQ.out⟩
  case' mzz9 => skip
  exact AllReadyH.nil
set_option maxHeartbeats 4000000 in
theorem walk_err (A B : Option Addr) (n c m d : Nat) (l : Lo) (txn : Int) (x : Wn) (i : Int) (w : World) (h : LIn w A n c B m d l) (hx : WnS x) (hs : n ≤ 200 ∧ m ≤ 40) (hi : 0 ≤ i) (him : i < m) (ho : ∀ hk : i.toNat < l.queue.length, l.queue[i.toNat].txn ≠ txn) (hc : ∀ hk : i.toNat < l.queue.length, clash l.queue[i.toNat].w x = true) (he : (Lm.ask l txn x 5).2 ≠ 0) :
    Calls Try.prog 9 #[.agg #[.slice A n c, .slice B m d, .int .i64 txn, .int .i64 x.mode, .string x.lo, .string x.hi, .int .i64 i]] w fun e w' => e = .returned (.bool true) ∧ Q w w' := by
  have KS := Lib.hid (fun W => lsmall_any A B n c m d W)
  rw [Go.Proofs.Ytenemdpjhoebpaa.few hs] at KS
  obtain ⟨k, rfl⟩ : ∃ k : Nat, i = k := ⟨i.toNat, by omega⟩
  have hkm : k < m := by omega
  have hkl : k < l.queue.length := by have := h.queue.len; omega
  have hkn : (k : Int) < (m : Int) := by omega
  have hk0 : ¬ (k : Int) < 0 := by omega
  have hkm2 : ¬ (m : Int) ≤ (k : Int) := by omega
  have HI := Lib.hid h
  have LC := Lib.hid (fun W (q : Q w W) => load_claim (h.queue.lst.q q) hkm hkl)
  have ho := ho (by simpa using hkl)
  have hc := hc (by simpa using hkl)
  simp only [Int.toNat_natCast] at ho hc
  have hwz : WnS l.queue[k].w := h.loW.2 _ (List.getElem_mem hkl)
  have K1 := Lib.hid (fun W q => lask_any A B n c m d l txn x 5 W (h.held.q q) (h.queue.q q) (h.few hs.1 hs.2))
  have K2 := Lib.hid (fun W => rclash_any l.queue[k].w x W hwz hx)
  generalize l.queue[k] = z at LC ho hc hwz K2
  rw [hc] at K2
  have hz : (z.txn == txn) = false := by simpa using ho
  have he0 : ((Lm.ask l txn x 5).2 == 0) = false := by simpa using he
  generalize Lm.ask l txn x 5 = S at K1 he0 he
  clear he
  clear h hx hs hi him hkl ho hc hwz
  unfold wnV at *
  have HQ := Lib.hid (Q.refl w)
  go_enter Try.func9, Try.ntmps9
  go_upto_region 1 with (fail)
  have XI : Hid (Bx (w.alloc (.cells #[.slice A n c, .slice B m d, .int .i64 txn, .int .i64 x.mode, .string x.lo, .string x.hi, .int .i64 (k : Int)] 58)) w.heap.size [.slice A n c, .slice B m d, .int .i64 txn, .int .i64 x.mode, .string x.lo, .string x.hi, .int .i64 (k : Int)]) := Lib.hid (Bx.new w [.slice A n c, .slice B m d, .int .i64 txn, .int .i64 x.mode, .string x.lo, .string x.hi, .int .i64 (k : Int)] 58)
  have HQ := Lib.hid (HQ.out.alloc (.cells #[.slice A n c, .slice B m d, .int .i64 txn, .int .i64 x.mode, .string x.lo, .string x.hi, .int .i64 (k : Int)] 58))
  generalize w.alloc (.cells #[.slice A n c, .slice B m d, .int .i64 txn, .int .i64 x.mode, .string x.lo, .string x.hi, .int .i64 (k : Int)] 58) = W0 at XI HQ ⊢
  generalize w.heap.size = gI at XI ⊢
  have i0 := (XI.out 0 _ rfl).1
  have i1 := (XI.out 1 _ rfl).1
  have i2 := (XI.out 2 _ rfl).1
  have i3 := (XI.out 3 _ rfl).1
  have i4 := (XI.out 4 _ rfl).1
  have i5 := (XI.out 5 _ rfl).1
  have i6 := (XI.out 6 _ rfl).1
  go_upto_region 2 with (fail)
  clear i0 i1 i2 i3 i4 i5 i6
  have qa := (Q.refl W0).alloc (.cells #[.slice A n c, .slice B m d] 25)
  have XI := Lib.hid (XI.out.q qa)
  have XL : Hid (Bx (W0.alloc (.cells #[.slice A n c, .slice B m d] 25)) W0.heap.size [.slice A n c, .slice B m d]) := Lib.hid (Bx.new W0 [.slice A n c, .slice B m d] 25)
  have HQ := Lib.hid (HQ.out.trans qa)
  clear qa
  generalize W0.alloc (.cells #[.slice A n c, .slice B m d] 25) = W1 at *
  generalize W0.heap.size = gXL at *
  have i0 := (XI.out 0 _ rfl).1
  have i1 := (XI.out 1 _ rfl).1
  have i2 := (XI.out 2 _ rfl).1
  have i3 := (XI.out 3 _ rfl).1
  have i4 := (XI.out 4 _ rfl).1
  have i5 := (XI.out 5 _ rfl).1
  have i6 := (XI.out 6 _ rfl).1
  go_upto_region 4 with (fail)
  clear i0 i1 i2 i3 i4 i5 i6
  have qa := (Q.refl W1).alloc (.cells #[.int .i64 x.mode, .string x.lo, .string x.hi] 27)
  have XI := Lib.hid (XI.out.q qa)
  have XL := Lib.hid (XL.out.q qa)
  have XW : Hid (Bx (W1.alloc (.cells #[.int .i64 x.mode, .string x.lo, .string x.hi] 27)) W1.heap.size [.int .i64 x.mode, .string x.lo, .string x.hi]) := Lib.hid (Bx.new W1 [.int .i64 x.mode, .string x.lo, .string x.hi] 27)
  have HQ := Lib.hid (HQ.out.trans qa)
  clear qa
  generalize W1.alloc (.cells #[.int .i64 x.mode, .string x.lo, .string x.hi] 27) = W3 at *
  generalize W1.heap.size = gXW at *
  have i0 := (XI.out 0 _ rfl).1
  have i1 := (XI.out 1 _ rfl).1
  have i2 := (XI.out 2 _ rfl).1
  have i3 := (XI.out 3 _ rfl).1
  have i4 := (XI.out 4 _ rfl).1
  have i5 := (XI.out 5 _ rfl).1
  have i6 := (XI.out 6 _ rfl).1
  go_wp2_with fail
  clear i0 i1 i2 i3 i4 i5 i6
  clear XI
  refine (lshown_any _).mono ?_
  rintro e w1 ⟨rfl, q1⟩
  have XL := Lib.hid (XL.out.q q1)
  have XW := Lib.hid (XW.out.q q1)
  have HQ := Lib.hid (HQ.out.trans q1)
  clear q1
  obtain ⟨⟨x0, x1⟩, x2, x3⟩ := XL.out.get2
  go_wp2_with fail
  refine (KS.out _).mono ?_
  rintro e w2 ⟨rfl, q1⟩
  have XL := Lib.hid (XL.out.q q1)
  have XW := Lib.hid (XW.out.q q1)
  have HQ := Lib.hid (HQ.out.trans q1)
  clear q1
  clear x0 x1 x2 x3
  obtain ⟨⟨x0, x1⟩, x2, x3⟩ := XL.out.get2
  obtain ⟨⟨y0, y1, y2⟩, y3, y4, y5⟩ := XW.out.get3
  obtain ⟨ad, rfl, hab, k0, k1, k2, k3, k4⟩ := LC.out _ HQ.out
  go_wp2
  refine wp_region_held_drew (S := Q w2) (by kernel_rfl) ?szz10 (fun hHeld => ?rzz10)
  case szz10 =>
    exact (Q.refl w2).drew
  case' rzz10 => skip
  refine wpAnyH_take (i := 0) (oi := ?ozz11) (v := ?vzz11) ?hzz11 ?azz11 ?bzz11 ?czz11 ?qzz11 ?yzz11 ?szz11 ?rzz11
  case hzz11 => simp only [List.getElem?_toArray, List.getElem?_cons_zero]; rfl
  case azz11 => kernel_rfl
  case bzz11 => kernel_rfl
  case czz11 => kernel_rfl
  case yzz11 =>
    refine Or.inl ⟨by rfl, ?_⟩
    intro w hSw
    skip
    go_simp
    try with_reducible rfl
  case qzz11 => exact fun _ _ _ h => h
  case szz11 => first | assumption | trivial
  case' rzz11 => simp only [Act.put, List.setIfInBounds_toArray, List.set_cons_zero, List.set_cons_succ]
  refine wpAnyH_take (i := 1) (oi := ?ozz12) (v := ?vzz12) ?hzz12 ?azz12 ?bzz12 ?czz12 ?qzz12 ?yzz12 ?szz12 ?rzz12
  case hzz12 => simp only [List.getElem?_toArray, List.getElem?_cons_zero, List.getElem?_cons_succ]; rfl
  case azz12 => kernel_rfl
  case bzz12 => kernel_rfl
  case czz12 => kernel_rfl
  case yzz12 =>
    refine Or.inl ⟨by rfl, ?_⟩
    intro w hSw
    have z0 := box_ hSw x0; have z1 := box_ hSw x1; have z2 := box_ hSw y0; have z3 := box_ hSw y1; have z4 := box_ hSw y2; have z5 := box_ hSw k0; have z6 := box_ hSw k1; have z7 := box_ hSw k2; have z8 := box_ hSw k3; clear hSw
    go_simp
    try with_reducible rfl
  case qzz12 => exact fun _ _ _ h => h
  case szz12 => first | assumption | trivial
  case' rzz12 => simp only [Act.put, List.setIfInBounds_toArray, List.set_cons_zero, List.set_cons_succ]
  refine wpAnyH_take (i := 2) (oi := ?ozz13) (v := ?vzz13) ?hzz13 ?azz13 ?bzz13 ?czz13 ?qzz13 ?yzz13 ?szz13 ?rzz13
  case hzz13 => simp only [List.getElem?_toArray, List.getElem?_cons_zero, List.getElem?_cons_succ]; rfl
  case azz13 => kernel_rfl
  case bzz13 => kernel_rfl
  case czz13 => kernel_rfl
  case yzz13 =>
    refine Or.inl ⟨by rfl, ?_⟩
    intro w hSw
    skip
    go_simp
    try with_reducible rfl
  case qzz13 => exact fun _ _ _ h => h
  case szz13 => first | assumption | trivial
  case' rzz13 => simp only [Act.put, List.setIfInBounds_toArray, List.set_cons_zero, List.set_cons_succ]
  refine wpAnyH_take (i := 3) (oi := ?ozz14) (v := ?vzz14) ?hzz14 ?azz14 ?bzz14 ?czz14 ?qzz14 ?yzz14 ?szz14 ?rzz14
  case hzz14 => simp only [List.getElem?_toArray, List.getElem?_cons_zero, List.getElem?_cons_succ]; rfl
  case azz14 => kernel_rfl
  case bzz14 => kernel_rfl
  case czz14 => kernel_rfl
  case yzz14 =>
    refine Or.inl ⟨by rfl, ?_⟩
    intro w hSw
    have z0 := box_ hSw x0; have z1 := box_ hSw x1; have z2 := box_ hSw y0; have z3 := box_ hSw y1; have z4 := box_ hSw y2; have z5 := box_ hSw k0; have z6 := box_ hSw k1; have z7 := box_ hSw k2; have z8 := box_ hSw k3; clear hSw
    go_simp
    try with_reducible rfl
  case qzz14 => exact fun _ _ _ h => h
  case szz14 => first | assumption | trivial
  case' rzz14 => simp only [Act.put, List.setIfInBounds_toArray, List.set_cons_zero, List.set_cons_succ]
  refine wpAnyH_take (i := 4) (oi := ?ozz15) (v := ?vzz15) ?hzz15 ?azz15 ?bzz15 ?czz15 ?qzz15 ?yzz15 ?szz15 ?rzz15
  case hzz15 => simp only [List.getElem?_toArray, List.getElem?_cons_zero, List.getElem?_cons_succ]; rfl
  case azz15 => kernel_rfl
  case bzz15 => kernel_rfl
  case czz15 => kernel_rfl
  case yzz15 =>
    refine Or.inl ⟨by rfl, ?_⟩
    intro w hSw
    skip
    go_simp
    try with_reducible rfl
  case qzz15 => exact fun _ _ _ h => h
  case szz15 => first | assumption | trivial
  case' rzz15 => simp only [Act.put, List.setIfInBounds_toArray, List.set_cons_zero, List.set_cons_succ]
  refine wpAnyH_take (i := 5) (oi := ?ozz16) (v := ?vzz16) ?hzz16 ?azz16 ?bzz16 ?czz16 ?qzz16 ?yzz16 ?szz16 ?rzz16
  case hzz16 => simp only [List.getElem?_toArray, List.getElem?_cons_zero, List.getElem?_cons_succ]; rfl
  case azz16 => kernel_rfl
  case bzz16 => kernel_rfl
  case czz16 => kernel_rfl
  case yzz16 =>
    refine Or.inl ⟨by rfl, ?_⟩
    intro w hSw
    have z0 := box_ hSw x0; have z1 := box_ hSw x1; have z2 := box_ hSw y0; have z3 := box_ hSw y1; have z4 := box_ hSw y2; have z5 := box_ hSw k0; have z6 := box_ hSw k1; have z7 := box_ hSw k2; have z8 := box_ hSw k3; clear hSw
    go_simp
    try with_reducible rfl
  case qzz16 => exact fun _ _ _ h => h
  case szz16 => first | assumption | trivial
  case' rzz16 => simp only [Act.put, List.setIfInBounds_toArray, List.set_cons_zero, List.set_cons_succ]
  refine wpAnyH_take (i := 6) (oi := ?ozz17) (v := ?vzz17) ?hzz17 ?azz17 ?bzz17 ?czz17 ?qzz17 ?yzz17 ?szz17 ?rzz17
  case hzz17 => simp only [List.getElem?_toArray, List.getElem?_cons_zero, List.getElem?_cons_succ]; rfl
  case azz17 => kernel_rfl
  case bzz17 => kernel_rfl
  case czz17 => kernel_rfl
  case yzz17 =>
    refine Or.inl ⟨by rfl, ?_⟩
    intro w hSw
    have z0 := box_ hSw x0; have z1 := box_ hSw x1; have z2 := box_ hSw y0; have z3 := box_ hSw y1; have z4 := box_ hSw y2; have z5 := box_ hSw k0; have z6 := box_ hSw k1; have z7 := box_ hSw k2; have z8 := box_ hSw k3; clear hSw
    go_simp
    try with_reducible rfl
  case qzz17 => exact fun _ _ _ h => h
  case szz17 => first | assumption | trivial
  case' rzz17 => simp only [Act.put, List.setIfInBounds_toArray, List.set_cons_zero, List.set_cons_succ]
  refine wpAnyH_ready (rs := [7]) (by kernel_rfl) (by simp) ?_
  refine AllReadyH.cons (o := ?ozz19) ?hzz19 (fun K hK => ?kzz19) ?mzz19
  case hzz19 => simp only [List.getElem?_toArray, List.getElem?_cons_zero, List.getElem?_cons_succ]; rfl
  case kzz19 =>
    go_simp
    refine (K2.out _).mono ?_
    rintro e u1 ⟨rfl, qx⟩
    go_wp2_with fail
    refine hK.out _ _ ?Szz19 (fun hHeld => ?Rzz19)
    case Szz19 =>
      exact hHeld.trans qx
    case Rzz19 =>
      clear hK K
      try simp only [Act.put, List.setIfInBounds_toArray, List.set_cons_zero, List.set_cons_succ]
      refine wpAnyH_take (i := 8) (oi := ?ozz18) (v := ?vzz18) ?hzz18 ?azz18 ?bzz18 ?czz18 ?qzz18 ?yzz18 ?szz18 ?rzz18
      case hzz18 => simp only [List.getElem?_toArray, List.getElem?_cons_zero, List.getElem?_cons_succ]; rfl
      case azz18 => kernel_rfl
      case bzz18 => kernel_rfl
      case czz18 => kernel_rfl
      case yzz18 =>
        refine Or.inl ⟨by rfl, ?_⟩
        intro w hSw
        skip
        go_simp
        try with_reducible rfl
      case qzz18 => exact fun _ _ _ h => h
      case szz18 => first | assumption | trivial
      case' rzz18 => simp only [Act.put, List.setIfInBounds_toArray, List.set_cons_zero, List.set_cons_succ]
      refine wpAnyH_done (by kernel_rfl) ?_ _
      have XL := Lib.hid (XL.out.q hHeld)
      have XW := Lib.hid (XW.out.q hHeld)
      have HQ := Lib.hid (HQ.out.trans hHeld)
      clear hHeld k0 k1 k2 k3
      clear x0 x1 x2 x3
      clear y0 y1 y2 y3 y4 y5
      obtain ⟨⟨x0, x1⟩, x2, x3⟩ := XL.out.get2
      obtain ⟨⟨y0, y1, y2⟩, y3, y4, y5⟩ := XW.out.get3
      go_wp2_with fail
      refine (K1.out _ HQ.out).mono ?_
      rintro e w4 ⟨A4, n4, c4, B4, m4, d4, rfl, o4, u4, z4⟩
      clear x0 x1 x2 x3
      clear y0 y1 y2 y3 y4 y5
      go_upto_region 11 with (fail)
      have za := z4.trans ((Q.refl w4).alloc (.cells #[.slice A4 n4 c4, .slice B4 m4 d4] 25))
      have zb := (Q.refl w4).alloc (.cells #[.slice A4 n4 c4, .slice B4 m4 d4] 25)
      have XL := Lib.hid (XL.out.q za)
      have HQ := Lib.hid (HQ.out.trans za)
      have O4 := Lib.hid (And.intro (o4.q zb) (u4.q zb))
      have X4 : Hid (Bx (w4.alloc (.cells #[.slice A4 n4 c4, .slice B4 m4 d4] 25)) w4.heap.size [.slice A4 n4 c4, .slice B4 m4 d4]) := Lib.hid (Bx.new w4 [.slice A4 n4 c4, .slice B4 m4 d4] 25)
      clear za zb z4 o4 u4
      generalize w4.alloc (.cells #[.slice A4 n4 c4, .slice B4 m4 d4] 25) = W4 at *
      generalize w4.heap.size = g4 at *
      obtain ⟨⟨x0, x1⟩, x2, x3⟩ := XL.out.get2
      obtain ⟨⟨a0, a1⟩, a2, a3⟩ := X4.out.get2
      go_wp2
      go_ret
      exact ⟨rfl, HQ.out⟩
  case' mzz19 => skip
  exact AllReadyH.nil
set_option maxHeartbeats 4000000 in
theorem walk_same (A B : Option Addr) (n c m d : Nat) (l : Lo) (txn : Int) (x : Wn) (i : Int) (w : World) (h : LIn w A n c B m d l) (hx : WnS x) (hs : n ≤ 200 ∧ m ≤ 40) (hi : 0 ≤ i) (him : i < m) (ho : ∀ hk : i.toNat < l.queue.length, l.queue[i.toNat].txn ≠ txn) (hc : ∀ hk : i.toNat < l.queue.length, clash l.queue[i.toNat].w x = true) (he : (Lm.ask l txn x 5).2 = 0) (hl : (Lm.ask l txn x 5).1 = l) :
    Calls Try.prog 9 #[.agg #[.slice A n c, .slice B m d, .int .i64 txn, .int .i64 x.mode, .string x.lo, .string x.hi, .int .i64 i]] w fun e w' => e = .returned (.bool true) ∧ Q w w' := by
  have KS := Lib.hid (fun W => lsmall_any A B n c m d W)
  rw [Go.Proofs.Ytenemdpjhoebpaa.few hs] at KS
  obtain ⟨k, rfl⟩ : ∃ k : Nat, i = k := ⟨i.toNat, by omega⟩
  have hkm : k < m := by omega
  have hkl : k < l.queue.length := by have := h.queue.len; omega
  have hkn : (k : Int) < (m : Int) := by omega
  have hk0 : ¬ (k : Int) < 0 := by omega
  have hkm2 : ¬ (m : Int) ≤ (k : Int) := by omega
  have HI := Lib.hid h
  have LC := Lib.hid (fun W (q : Q w W) => load_claim (h.queue.lst.q q) hkm hkl)
  have ho := ho (by simpa using hkl)
  have hc := hc (by simpa using hkl)
  simp only [Int.toNat_natCast] at ho hc
  have hwz : WnS l.queue[k].w := h.loW.2 _ (List.getElem_mem hkl)
  have K1 := Lib.hid (fun W q => lask_any A B n c m d l txn x 5 W (h.held.q q) (h.queue.q q) (h.few hs.1 hs.2))
  have K2 := Lib.hid (fun W => rclash_any l.queue[k].w x W hwz hx)
  generalize l.queue[k] = z at LC ho hc hwz K2
  rw [hc] at K2
  have hz : (z.txn == txn) = false := by simpa using ho
  have hS : Lm.ask l txn x 5 = (l, 0) := Prod.ext hl he
  rw [hS] at K1
  clear he hl hS
  clear h hx hs hi him hkl ho hc hwz
  unfold wnV at *
  have HQ := Lib.hid (Q.refl w)
  go_enter Try.func9, Try.ntmps9
  go_upto_region 1 with (fail)
  have XI : Hid (Bx (w.alloc (.cells #[.slice A n c, .slice B m d, .int .i64 txn, .int .i64 x.mode, .string x.lo, .string x.hi, .int .i64 (k : Int)] 58)) w.heap.size [.slice A n c, .slice B m d, .int .i64 txn, .int .i64 x.mode, .string x.lo, .string x.hi, .int .i64 (k : Int)]) := Lib.hid (Bx.new w [.slice A n c, .slice B m d, .int .i64 txn, .int .i64 x.mode, .string x.lo, .string x.hi, .int .i64 (k : Int)] 58)
  have HQ := Lib.hid (HQ.out.alloc (.cells #[.slice A n c, .slice B m d, .int .i64 txn, .int .i64 x.mode, .string x.lo, .string x.hi, .int .i64 (k : Int)] 58))
  generalize w.alloc (.cells #[.slice A n c, .slice B m d, .int .i64 txn, .int .i64 x.mode, .string x.lo, .string x.hi, .int .i64 (k : Int)] 58) = W0 at XI HQ ⊢
  generalize w.heap.size = gI at XI ⊢
  have i0 := (XI.out 0 _ rfl).1
  have i1 := (XI.out 1 _ rfl).1
  have i2 := (XI.out 2 _ rfl).1
  have i3 := (XI.out 3 _ rfl).1
  have i4 := (XI.out 4 _ rfl).1
  have i5 := (XI.out 5 _ rfl).1
  have i6 := (XI.out 6 _ rfl).1
  go_upto_region 2 with (fail)
  clear i0 i1 i2 i3 i4 i5 i6
  have qa := (Q.refl W0).alloc (.cells #[.slice A n c, .slice B m d] 25)
  have XI := Lib.hid (XI.out.q qa)
  have XL : Hid (Bx (W0.alloc (.cells #[.slice A n c, .slice B m d] 25)) W0.heap.size [.slice A n c, .slice B m d]) := Lib.hid (Bx.new W0 [.slice A n c, .slice B m d] 25)
  have HQ := Lib.hid (HQ.out.trans qa)
  clear qa
  generalize W0.alloc (.cells #[.slice A n c, .slice B m d] 25) = W1 at *
  generalize W0.heap.size = gXL at *
  have i0 := (XI.out 0 _ rfl).1
  have i1 := (XI.out 1 _ rfl).1
  have i2 := (XI.out 2 _ rfl).1
  have i3 := (XI.out 3 _ rfl).1
  have i4 := (XI.out 4 _ rfl).1
  have i5 := (XI.out 5 _ rfl).1
  have i6 := (XI.out 6 _ rfl).1
  go_upto_region 4 with (fail)
  clear i0 i1 i2 i3 i4 i5 i6
  have qa := (Q.refl W1).alloc (.cells #[.int .i64 x.mode, .string x.lo, .string x.hi] 27)
  have XI := Lib.hid (XI.out.q qa)
  have XL := Lib.hid (XL.out.q qa)
  have XW : Hid (Bx (W1.alloc (.cells #[.int .i64 x.mode, .string x.lo, .string x.hi] 27)) W1.heap.size [.int .i64 x.mode, .string x.lo, .string x.hi]) := Lib.hid (Bx.new W1 [.int .i64 x.mode, .string x.lo, .string x.hi] 27)
  have HQ := Lib.hid (HQ.out.trans qa)
  clear qa
  generalize W1.alloc (.cells #[.int .i64 x.mode, .string x.lo, .string x.hi] 27) = W3 at *
  generalize W1.heap.size = gXW at *
  have i0 := (XI.out 0 _ rfl).1
  have i1 := (XI.out 1 _ rfl).1
  have i2 := (XI.out 2 _ rfl).1
  have i3 := (XI.out 3 _ rfl).1
  have i4 := (XI.out 4 _ rfl).1
  have i5 := (XI.out 5 _ rfl).1
  have i6 := (XI.out 6 _ rfl).1
  go_wp2_with fail
  clear i0 i1 i2 i3 i4 i5 i6
  clear XI
  refine (lshown_any _).mono ?_
  rintro e w1 ⟨rfl, q1⟩
  have XL := Lib.hid (XL.out.q q1)
  have XW := Lib.hid (XW.out.q q1)
  have HQ := Lib.hid (HQ.out.trans q1)
  clear q1
  obtain ⟨⟨x0, x1⟩, x2, x3⟩ := XL.out.get2
  go_wp2_with fail
  refine (KS.out _).mono ?_
  rintro e w2 ⟨rfl, q1⟩
  have XL := Lib.hid (XL.out.q q1)
  have XW := Lib.hid (XW.out.q q1)
  have HQ := Lib.hid (HQ.out.trans q1)
  clear q1
  clear x0 x1 x2 x3
  obtain ⟨⟨x0, x1⟩, x2, x3⟩ := XL.out.get2
  obtain ⟨⟨y0, y1, y2⟩, y3, y4, y5⟩ := XW.out.get3
  obtain ⟨ad, rfl, hab, k0, k1, k2, k3, k4⟩ := LC.out _ HQ.out
  go_wp2
  refine wp_region_held_drew (S := Q w2) (by kernel_rfl) ?szz20 (fun hHeld => ?rzz20)
  case szz20 =>
    exact (Q.refl w2).drew
  case' rzz20 => skip
  refine wpAnyH_take (i := 0) (oi := ?ozz21) (v := ?vzz21) ?hzz21 ?azz21 ?bzz21 ?czz21 ?qzz21 ?yzz21 ?szz21 ?rzz21
  case hzz21 => simp only [List.getElem?_toArray, List.getElem?_cons_zero]; rfl
  case azz21 => kernel_rfl
  case bzz21 => kernel_rfl
  case czz21 => kernel_rfl
  case yzz21 =>
    refine Or.inl ⟨by rfl, ?_⟩
    intro w hSw
    skip
    go_simp
    try with_reducible rfl
  case qzz21 => exact fun _ _ _ h => h
  case szz21 => first | assumption | trivial
  case' rzz21 => simp only [Act.put, List.setIfInBounds_toArray, List.set_cons_zero, List.set_cons_succ]
  refine wpAnyH_take (i := 1) (oi := ?ozz22) (v := ?vzz22) ?hzz22 ?azz22 ?bzz22 ?czz22 ?qzz22 ?yzz22 ?szz22 ?rzz22
  case hzz22 => simp only [List.getElem?_toArray, List.getElem?_cons_zero, List.getElem?_cons_succ]; rfl
  case azz22 => kernel_rfl
  case bzz22 => kernel_rfl
  case czz22 => kernel_rfl
  case yzz22 =>
    refine Or.inl ⟨by rfl, ?_⟩
    intro w hSw
    have z0 := box_ hSw x0; have z1 := box_ hSw x1; have z2 := box_ hSw y0; have z3 := box_ hSw y1; have z4 := box_ hSw y2; have z5 := box_ hSw k0; have z6 := box_ hSw k1; have z7 := box_ hSw k2; have z8 := box_ hSw k3; clear hSw
    go_simp
    try with_reducible rfl
  case qzz22 => exact fun _ _ _ h => h
  case szz22 => first | assumption | trivial
  case' rzz22 => simp only [Act.put, List.setIfInBounds_toArray, List.set_cons_zero, List.set_cons_succ]
  refine wpAnyH_take (i := 2) (oi := ?ozz23) (v := ?vzz23) ?hzz23 ?azz23 ?bzz23 ?czz23 ?qzz23 ?yzz23 ?szz23 ?rzz23
  case hzz23 => simp only [List.getElem?_toArray, List.getElem?_cons_zero, List.getElem?_cons_succ]; rfl
  case azz23 => kernel_rfl
  case bzz23 => kernel_rfl
  case czz23 => kernel_rfl
  case yzz23 =>
    refine Or.inl ⟨by rfl, ?_⟩
    intro w hSw
    skip
    go_simp
    try with_reducible rfl
  case qzz23 => exact fun _ _ _ h => h
  case szz23 => first | assumption | trivial
  case' rzz23 => simp only [Act.put, List.setIfInBounds_toArray, List.set_cons_zero, List.set_cons_succ]
  refine wpAnyH_take (i := 3) (oi := ?ozz24) (v := ?vzz24) ?hzz24 ?azz24 ?bzz24 ?czz24 ?qzz24 ?yzz24 ?szz24 ?rzz24
  case hzz24 => simp only [List.getElem?_toArray, List.getElem?_cons_zero, List.getElem?_cons_succ]; rfl
  case azz24 => kernel_rfl
  case bzz24 => kernel_rfl
  case czz24 => kernel_rfl
  case yzz24 =>
    refine Or.inl ⟨by rfl, ?_⟩
    intro w hSw
    have z0 := box_ hSw x0; have z1 := box_ hSw x1; have z2 := box_ hSw y0; have z3 := box_ hSw y1; have z4 := box_ hSw y2; have z5 := box_ hSw k0; have z6 := box_ hSw k1; have z7 := box_ hSw k2; have z8 := box_ hSw k3; clear hSw
    go_simp
    try with_reducible rfl
  case qzz24 => exact fun _ _ _ h => h
  case szz24 => first | assumption | trivial
  case' rzz24 => simp only [Act.put, List.setIfInBounds_toArray, List.set_cons_zero, List.set_cons_succ]
  refine wpAnyH_take (i := 4) (oi := ?ozz25) (v := ?vzz25) ?hzz25 ?azz25 ?bzz25 ?czz25 ?qzz25 ?yzz25 ?szz25 ?rzz25
  case hzz25 => simp only [List.getElem?_toArray, List.getElem?_cons_zero, List.getElem?_cons_succ]; rfl
  case azz25 => kernel_rfl
  case bzz25 => kernel_rfl
  case czz25 => kernel_rfl
  case yzz25 =>
    refine Or.inl ⟨by rfl, ?_⟩
    intro w hSw
    skip
    go_simp
    try with_reducible rfl
  case qzz25 => exact fun _ _ _ h => h
  case szz25 => first | assumption | trivial
  case' rzz25 => simp only [Act.put, List.setIfInBounds_toArray, List.set_cons_zero, List.set_cons_succ]
  refine wpAnyH_take (i := 5) (oi := ?ozz26) (v := ?vzz26) ?hzz26 ?azz26 ?bzz26 ?czz26 ?qzz26 ?yzz26 ?szz26 ?rzz26
  case hzz26 => simp only [List.getElem?_toArray, List.getElem?_cons_zero, List.getElem?_cons_succ]; rfl
  case azz26 => kernel_rfl
  case bzz26 => kernel_rfl
  case czz26 => kernel_rfl
  case yzz26 =>
    refine Or.inl ⟨by rfl, ?_⟩
    intro w hSw
    have z0 := box_ hSw x0; have z1 := box_ hSw x1; have z2 := box_ hSw y0; have z3 := box_ hSw y1; have z4 := box_ hSw y2; have z5 := box_ hSw k0; have z6 := box_ hSw k1; have z7 := box_ hSw k2; have z8 := box_ hSw k3; clear hSw
    go_simp
    try with_reducible rfl
  case qzz26 => exact fun _ _ _ h => h
  case szz26 => first | assumption | trivial
  case' rzz26 => simp only [Act.put, List.setIfInBounds_toArray, List.set_cons_zero, List.set_cons_succ]
  refine wpAnyH_take (i := 6) (oi := ?ozz27) (v := ?vzz27) ?hzz27 ?azz27 ?bzz27 ?czz27 ?qzz27 ?yzz27 ?szz27 ?rzz27
  case hzz27 => simp only [List.getElem?_toArray, List.getElem?_cons_zero, List.getElem?_cons_succ]; rfl
  case azz27 => kernel_rfl
  case bzz27 => kernel_rfl
  case czz27 => kernel_rfl
  case yzz27 =>
    refine Or.inl ⟨by rfl, ?_⟩
    intro w hSw
    have z0 := box_ hSw x0; have z1 := box_ hSw x1; have z2 := box_ hSw y0; have z3 := box_ hSw y1; have z4 := box_ hSw y2; have z5 := box_ hSw k0; have z6 := box_ hSw k1; have z7 := box_ hSw k2; have z8 := box_ hSw k3; clear hSw
    go_simp
    try with_reducible rfl
  case qzz27 => exact fun _ _ _ h => h
  case szz27 => first | assumption | trivial
  case' rzz27 => simp only [Act.put, List.setIfInBounds_toArray, List.set_cons_zero, List.set_cons_succ]
  refine wpAnyH_ready (rs := [7]) (by kernel_rfl) (by simp) ?_
  refine AllReadyH.cons (o := ?ozz29) ?hzz29 (fun K hK => ?kzz29) ?mzz29
  case hzz29 => simp only [List.getElem?_toArray, List.getElem?_cons_zero, List.getElem?_cons_succ]; rfl
  case kzz29 =>
    go_simp
    refine (K2.out _).mono ?_
    rintro e u1 ⟨rfl, qx⟩
    go_wp2_with fail
    refine hK.out _ _ ?Szz29 (fun hHeld => ?Rzz29)
    case Szz29 =>
      exact hHeld.trans qx
    case Rzz29 =>
      clear hK K
      try simp only [Act.put, List.setIfInBounds_toArray, List.set_cons_zero, List.set_cons_succ]
      refine wpAnyH_take (i := 8) (oi := ?ozz28) (v := ?vzz28) ?hzz28 ?azz28 ?bzz28 ?czz28 ?qzz28 ?yzz28 ?szz28 ?rzz28
      case hzz28 => simp only [List.getElem?_toArray, List.getElem?_cons_zero, List.getElem?_cons_succ]; rfl
      case azz28 => kernel_rfl
      case bzz28 => kernel_rfl
      case czz28 => kernel_rfl
      case yzz28 =>
        refine Or.inl ⟨by rfl, ?_⟩
        intro w hSw
        skip
        go_simp
        try with_reducible rfl
      case qzz28 => exact fun _ _ _ h => h
      case szz28 => first | assumption | trivial
      case' rzz28 => simp only [Act.put, List.setIfInBounds_toArray, List.set_cons_zero, List.set_cons_succ]
      refine wpAnyH_done (by kernel_rfl) ?_ _
      have XL := Lib.hid (XL.out.q hHeld)
      have XW := Lib.hid (XW.out.q hHeld)
      have HQ := Lib.hid (HQ.out.trans hHeld)
      clear hHeld k0 k1 k2 k3
      clear x0 x1 x2 x3
      clear y0 y1 y2 y3 y4 y5
      obtain ⟨⟨x0, x1⟩, x2, x3⟩ := XL.out.get2
      obtain ⟨⟨y0, y1, y2⟩, y3, y4, y5⟩ := XW.out.get3
      go_wp2_with fail
      refine (K1.out _ HQ.out).mono ?_
      rintro e w4 ⟨A4, n4, c4, B4, m4, d4, rfl, o4, u4, z4⟩
      clear x0 x1 x2 x3
      clear y0 y1 y2 y3 y4 y5
      go_upto_region 11 with (fail)
      have za := z4.trans ((Q.refl w4).alloc (.cells #[.slice A4 n4 c4, .slice B4 m4 d4] 25))
      have zb := (Q.refl w4).alloc (.cells #[.slice A4 n4 c4, .slice B4 m4 d4] 25)
      have XL := Lib.hid (XL.out.q za)
      have HQ := Lib.hid (HQ.out.trans za)
      have O4 := Lib.hid (And.intro (o4.q zb) (u4.q zb))
      have X4 : Hid (Bx (w4.alloc (.cells #[.slice A4 n4 c4, .slice B4 m4 d4] 25)) w4.heap.size [.slice A4 n4 c4, .slice B4 m4 d4]) := Lib.hid (Bx.new w4 [.slice A4 n4 c4, .slice B4 m4 d4] 25)
      clear za zb z4 o4 u4
      generalize w4.alloc (.cells #[.slice A4 n4 c4, .slice B4 m4 d4] 25) = W4 at *
      generalize w4.heap.size = g4 at *
      obtain ⟨⟨x0, x1⟩, x2, x3⟩ := XL.out.get2
      obtain ⟨⟨a0, a1⟩, a2, a3⟩ := X4.out.get2
      go_wp2_with fail
      refine (lsame_same _ _ _ _ _ _ _ _ _ _ _ _ l _ O4.out.1.lst O4.out.2.lst (HI.out.held.lst.q HQ.out) (HI.out.queue.lst.q HQ.out) (Nat.le_trans O4.out.1.le O4.out.1.cap) (Nat.le_trans O4.out.2.le O4.out.2.cap)).mono ?_
      rintro e w5 ⟨rfl, q1⟩
      have HQ := Lib.hid (HQ.out.trans q1)
      clear q1
      go_wp2
      go_ret
      exact ⟨rfl, HQ.out⟩
  case' mzz29 => skip
  exact AllReadyH.nil
theorem walk (A B : Option Addr) (n c m d : Nat) (l : Lo) (txn : Int) (x : Wn) (i : Int) (w : World) (h : LIn w A n c B m d l) (hx : WnS x) :
    Calls Try.prog 9 #[.agg #[.slice A n c, .slice B m d, .int .i64 txn, .int .i64 x.mode, .string x.lo, .string x.hi, .int .i64 i]] w fun e w' => e = .returned (.bool true) ∧ Q w w' := by
  by_cases hs : n ≤ 200 ∧ m ≤ 40
  · by_cases hi : i < 0
    · exact walk_out A B n c m d l txn x i w h hx (.inr ⟨hs, .inl hi⟩)
    by_cases him : i < m
    · have hk : i.toNat < l.queue.length := by have := h.queue.len; omega
      by_cases ho : l.queue[i.toNat].txn = txn
      · exact walk_own A B n c m d l txn x i w h hx hs (by omega) him (fun _ => ho)
      · cases hc : clash l.queue[i.toNat].w x with
        | false => exact walk_no A B n c m d l txn x i w h hx hs (by omega) him (fun _ => ho) (fun _ => hc)
        | true =>
          by_cases he : (Lm.ask l txn x 5).2 = 0
          · rcases ask_fair (List.getElem_mem hk) ho hc 5 with hf | hf
            · exact absurd he hf
            · exact walk_same A B n c m d l txn x i w h hx hs (by omega) him (fun _ => ho) (fun _ => hc) he hf
          · exact walk_err A B n c m d l txn x i w h hx hs (by omega) him (fun _ => ho) (fun _ => hc) he
    · exact walk_out A B n c m d l txn x i w h hx (.inr ⟨hs, .inr (by omega)⟩)
  · exact walk_out A B n c m d l txn x i w h hx (.inl hs)

theorem opened (W : World) (args : Array Value) (hn : args.size = 1) (h : ∀ (j : Nat) t v, Try.f9.params[j]? = some t → args[j]? = some v → RdV W t v) :
    Calls Try.prog 9 args W fun e W' => e = .returned (.bool true) ∧ Q W W' := by
  obtain ⟨v, rfl⟩ := args1 hn
  rw [Try.params9] at h
  obtain ⟨cs, rfl, hr⟩ := (h 0 58 v rfl rfl).struct Try.underlying58
  obtain ⟨hl, _⟩ := hr.struct Try.underlying58
  rw [show Try.prog.cellsOf 58 = 7 by kernel_rfl] at hl
  match cs, hl with
  | [x0, x1, x2, x3, x4, x5, x6], _ =>
    obtain ⟨A, n, c, B, m, d, l, e0, h0⟩ := open_locks (hr.field Try.underlying58 0 (ty := 25) 0 2 rfl (by kernel_rfl))
    obtain ⟨t, e1, r1⟩ := (hr.field Try.underlying58 1 (ty := 3) 2 1 rfl (by kernel_rfl)).int Try.underlying3
    obtain ⟨x, e2, z0, z1, z2, z3⟩ := open_want (hr.field Try.underlying58 2 (ty := 27) 3 3 rfl (by kernel_rfl))
    obtain ⟨i, e4, r4⟩ := (hr.field Try.underlying58 3 (ty := 3) 6 1 rfl (by kernel_rfl)).int Try.underlying3
    simp at e0 e1 e2 e4
    obtain ⟨rfl, rfl⟩ := e0
    obtain ⟨rfl, rfl, rfl⟩ := e2
    subst e1 e4
    exact walk A B n c m d l t x i W h0 (wns z0 z1)

set_option maxRecDepth 100000 in
theorem lifted (os : Os) (started : os.Started) (H : Type) (enc : TypeId × Value → H) :
    ReturnsInHanded {} Try.checked os 9 .any (Rows.lockFairSpec.pre6 enc Try.prog Try.f9 Rows.lockFairRow.domain false) (Rows.lockFairSpec.post enc Try.prog Try.f9 false true false false) :=
  framed 1 Try.func9 (by rw [Try.params9]; rfl) rfl (by kernel_rfl) (by kernel_rfl) (by kernel_rfl)
    (fun H ds h => by match ds, h with | [d0], _ => exact ⟨rfl, rfl, rfl⟩)
    opened os started H enc
    (ChangeSpec.witness6 (enc := enc) (C := Try.checked) false ⟨#[], #[.agg #[.slice none 0 0, .slice none 0 0, .int .i64 0, .int .i64 0, .string ByteArray.empty, .string ByteArray.empty, .int .i64 0]], []⟩ 8 (by kernel_rfl) (by kernel_rfl) (by kernel_rfl) (by kernel_rfl))

theorem over : Rows.lockFairRow.holds Try.pinned (OpenSpec.ofChange Rows.lockFairSpec) :=
  OpenClaim.holds_of_wide 9 Try.f9 rfl rfl rfl rfl rfl rfl rfl ⟨rfl, rfl, rfl, rfl, rfl⟩ rfl rfl rfl rfl rfl (by kernel_rfl) Try.func9 (by kernel_rfl)
    (of_decide_eq_true (by kernel_rfl)) (by unfold Func.isWrapper; first | (rw [if_pos (by decide +kernel)]; kernel_rfl) | (rw [if_neg (by decide +kernel)]; exact ⟨rfl, rfl⟩))
    (fun os started H enc _ => lifted os started H enc)

theorem proved : Rows.LockFairSaid := over
end Go.Proofs.Ytenemdpjhoebpaa.lockFair
