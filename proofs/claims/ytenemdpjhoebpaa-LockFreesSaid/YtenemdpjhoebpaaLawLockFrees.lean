/- For every locks and transaction: what is given and what is freed is as the document says. No condition. -/
import Derived.Test.YtenemdpjhoebpaaLockLaw
namespace Go.Proofs.Ytenemdpjhoebpaa.lockFrees
set_option maxRecDepth 100000
open Go.ChangeShapes Go.WideShapes Go.ChangeAt Go.RowKit Prm Lm Sm
set_option linter.unusedVariables false
set_option linter.unusedSimpArgs false

set_option maxHeartbeats 8000000 in
theorem walk (A B : Option Addr) (n c m d : Nat) (l : Lo) (txn : Int) (w : World) (h : LIn w A n c B m d l) :
    Calls Try.prog 4 #[locV A n c B m d, .int .i64 txn] w fun e w' => e = .returned (.bool true) ∧ Q w w' := by
  have KS := Lib.hid (fun W => lsmall_any A B n c m d W)
  by_cases hs : n ≤ 200 ∧ m ≤ 40
  · rw [Go.Proofs.Ytenemdpjhoebpaa.few hs] at KS
    have K1 := Lib.hid (fun W q => lsettle_any A B n c m d l W (h.held.q q) (h.queue.q q) h.loI (by omega))
    have K2 := Lib.hid (fun W q => rsettle_any A B n c m d l W (h.held.q q) (h.queue.q q) h.loW (by omega))
    have K3 := Lib.hid (fun W q => lfree_any A B n c m d l txn W (h.held.q q) (h.queue.q q) h.loI (by omega))
    have K4 := Lib.hid (fun W q => rfree_any A B n c m d l txn W (h.held.q q) (h.queue.q q) h.loW (by omega))
    generalize Lm.settle l = S at K1 K2
    generalize Lm.free l txn = F at K3 K4
    clear h hs
    go_enter Try.func4, Try.ntmps4
    go_wp2_with fail
    refine (lshown_any _).mono ?_
    rintro e w1 ⟨rfl, q1⟩
    have X := Lib.hid ((Bx.new w [.slice A n c, .slice B m d] 25).q q1)
    have HQ := Lib.hid (((Q.refl w).alloc (.cells #[.slice A n c, .slice B m d] 25)).trans q1)
    clear q1
    obtain ⟨⟨x0, x1⟩, x2, x3⟩ := X.out.get2
    go_wp2_with fail
    refine (KS.out _).mono ?_
    rintro e w2 ⟨rfl, q2⟩
    have X := Lib.hid (X.out.q q2)
    have HQ := Lib.hid (HQ.out.trans q2)
    clear q2 x0 x1 x2 x3
    obtain ⟨⟨x0, x1⟩, x2, x3⟩ := X.out.get2
    go_wp2_with fail
    refine (K1.out _ HQ.out).mono ?_
    rintro e w3 ⟨A3, n3, c3, B3, m3, d3, C3, p3, q3, rfl, o3, u3, v3, z3⟩
    go_upto_region 6 with (fail)
    have za := z3.trans ((Q.refl w3).alloc (.cells #[.slice A3 n3 c3, .slice B3 m3 d3] 25))
    have O3 := Lib.hid (And.intro (o3.q ((Q.refl w3).alloc (.cells #[.slice A3 n3 c3, .slice B3 m3 d3] 25))) (And.intro (u3.q ((Q.refl w3).alloc (.cells #[.slice A3 n3 c3, .slice B3 m3 d3] 25))) (v3.q ((Q.refl w3).alloc (.cells #[.slice A3 n3 c3, .slice B3 m3 d3] 25)))))
    have X := Lib.hid (X.out.q za)
    have B3x : Hid (Bx (w3.alloc (.cells #[.slice A3 n3 c3, .slice B3 m3 d3] 25)) w3.heap.size [.slice A3 n3 c3, .slice B3 m3 d3]) := Lib.hid (Bx.new w3 [.slice A3 n3 c3, .slice B3 m3 d3] 25)
    have HQ := Lib.hid (HQ.out.trans za)
    clear za z3 o3 u3 v3 x0 x1 x2 x3
    generalize w3.alloc (.cells #[.slice A3 n3 c3, .slice B3 m3 d3] 25) = W3 at *
    generalize w3.heap.size = g3 at *
    obtain ⟨⟨x0, x1⟩, x2, x3⟩ := X.out.get2
    go_wp2_with fail
    refine (K2.out _ HQ.out).mono ?_
    rintro e w4 ⟨A4, n4, c4, B4, m4, d4, C4, p4, q4, rfl, o4, u4, v4, z4⟩
    go_upto_region 7 with (fail)
    have za := z4.trans ((Q.refl w4).alloc (.cells #[.slice A4 n4 c4, .slice B4 m4 d4] 25))
    have O4 := Lib.hid (And.intro (o4.q ((Q.refl w4).alloc (.cells #[.slice A4 n4 c4, .slice B4 m4 d4] 25))) (And.intro (u4.q ((Q.refl w4).alloc (.cells #[.slice A4 n4 c4, .slice B4 m4 d4] 25))) (v4.q ((Q.refl w4).alloc (.cells #[.slice A4 n4 c4, .slice B4 m4 d4] 25)))))
    have X := Lib.hid (X.out.q za)
    have B3x := Lib.hid (B3x.out.q za)
    have O3 := Lib.hid (And.intro (O3.out.1.q za) (And.intro (O3.out.2.1.q za) (O3.out.2.2.q za)))
    have B4x : Hid (Bx (w4.alloc (.cells #[.slice A4 n4 c4, .slice B4 m4 d4] 25)) w4.heap.size [.slice A4 n4 c4, .slice B4 m4 d4]) := Lib.hid (Bx.new w4 [.slice A4 n4 c4, .slice B4 m4 d4] 25)
    have HQ := Lib.hid (HQ.out.trans za)
    clear za z4 o4 u4 v4 x0 x1 x2 x3
    generalize w4.alloc (.cells #[.slice A4 n4 c4, .slice B4 m4 d4] 25) = W4 at *
    generalize w4.heap.size = g4 at *
    obtain ⟨⟨x0, x1⟩, x2, x3⟩ := X.out.get2
    go_wp2_with fail
    refine (K3.out _ HQ.out).mono ?_
    rintro e w5 ⟨A5, n5, c5, B5, m5, d5, C5, p5, q5, rfl, o5, u5, v5, z5⟩
    go_upto_region 8 with (fail)
    have za := z5.trans ((Q.refl w5).alloc (.cells #[.slice A5 n5 c5, .slice B5 m5 d5] 25))
    have O5 := Lib.hid (And.intro (o5.q ((Q.refl w5).alloc (.cells #[.slice A5 n5 c5, .slice B5 m5 d5] 25))) (And.intro (u5.q ((Q.refl w5).alloc (.cells #[.slice A5 n5 c5, .slice B5 m5 d5] 25))) (v5.q ((Q.refl w5).alloc (.cells #[.slice A5 n5 c5, .slice B5 m5 d5] 25)))))
    have X := Lib.hid (X.out.q za)
    have B3x := Lib.hid (B3x.out.q za)
    have B4x := Lib.hid (B4x.out.q za)
    have O3 := Lib.hid (And.intro (O3.out.1.q za) (And.intro (O3.out.2.1.q za) (O3.out.2.2.q za)))
    have O4 := Lib.hid (And.intro (O4.out.1.q za) (And.intro (O4.out.2.1.q za) (O4.out.2.2.q za)))
    have B5x : Hid (Bx (w5.alloc (.cells #[.slice A5 n5 c5, .slice B5 m5 d5] 25)) w5.heap.size [.slice A5 n5 c5, .slice B5 m5 d5]) := Lib.hid (Bx.new w5 [.slice A5 n5 c5, .slice B5 m5 d5] 25)
    have HQ := Lib.hid (HQ.out.trans za)
    clear za z5 o5 u5 v5 x0 x1 x2 x3
    generalize w5.alloc (.cells #[.slice A5 n5 c5, .slice B5 m5 d5] 25) = W5 at *
    generalize w5.heap.size = g5 at *
    obtain ⟨⟨x0, x1⟩, x2, x3⟩ := X.out.get2
    go_wp2_with fail
    refine (K4.out _ HQ.out).mono ?_
    rintro e w6 ⟨A6, n6, c6, B6, m6, d6, C6, p6, q6, rfl, o6, u6, v6, z6⟩
    go_upto_region 9 with (fail)
    have za := z6.trans ((Q.refl w6).alloc (.cells #[.slice A6 n6 c6, .slice B6 m6 d6] 25))
    have O6 := Lib.hid (And.intro (o6.q ((Q.refl w6).alloc (.cells #[.slice A6 n6 c6, .slice B6 m6 d6] 25))) (And.intro (u6.q ((Q.refl w6).alloc (.cells #[.slice A6 n6 c6, .slice B6 m6 d6] 25))) (v6.q ((Q.refl w6).alloc (.cells #[.slice A6 n6 c6, .slice B6 m6 d6] 25)))))
    have X := Lib.hid (X.out.q za)
    have B3x := Lib.hid (B3x.out.q za)
    have B4x := Lib.hid (B4x.out.q za)
    have B5x := Lib.hid (B5x.out.q za)
    have O3 := Lib.hid (And.intro (O3.out.1.q za) (And.intro (O3.out.2.1.q za) (O3.out.2.2.q za)))
    have O4 := Lib.hid (And.intro (O4.out.1.q za) (And.intro (O4.out.2.1.q za) (O4.out.2.2.q za)))
    have O5 := Lib.hid (And.intro (O5.out.1.q za) (And.intro (O5.out.2.1.q za) (O5.out.2.2.q za)))
    have B6x : Hid (Bx (w6.alloc (.cells #[.slice A6 n6 c6, .slice B6 m6 d6] 25)) w6.heap.size [.slice A6 n6 c6, .slice B6 m6 d6]) := Lib.hid (Bx.new w6 [.slice A6 n6 c6, .slice B6 m6 d6] 25)
    have HQ := Lib.hid (HQ.out.trans za)
    clear za z6 o6 u6 v6 x0 x1 x2 x3
    generalize w6.alloc (.cells #[.slice A6 n6 c6, .slice B6 m6 d6] 25) = W6 at *
    generalize w6.heap.size = g6 at *
    obtain ⟨⟨x0, x1⟩, x2, x3⟩ := X.out.get2
    obtain ⟨⟨a0, a1⟩, a2, a3⟩ := B3x.out.get2
    obtain ⟨⟨b0, b1⟩, b2, b3⟩ := B4x.out.get2
    go_wp2_with fail
    refine (rsame_any A3 B3 A4 B4 n3 c3 m3 d3 n4 c4 m4 d4 S.1 S.1 _ O3.out.1.lst O3.out.2.1.lst O4.out.1 O4.out.2.1 (Nat.le_trans O3.out.1.le O3.out.1.cap) (Nat.le_trans O3.out.2.1.le O3.out.2.1.cap) (by rw [← O4.out.1.len, O3.out.1.len]; exact Nat.le_trans O3.out.1.le O3.out.1.cap) (by rw [← O4.out.2.1.len, O3.out.2.1.len]; exact Nat.le_trans O3.out.2.1.le O3.out.2.1.cap)).mono ?_
    rintro e w7 ⟨rfl, z7⟩
    rw [decide_eq_true rfl]
    have HQ := Lib.hid (HQ.out.trans z7)
    clear a0 a1 a2 a3 b0 b1 b2 b3 x0 x1 x2 x3
    obtain ⟨⟨a0, a1⟩, a2, a3⟩ := (B5x.out.q z7).get2
    obtain ⟨⟨b0, b1⟩, b2, b3⟩ := (B6x.out.q z7).get2
    go_wp2_with fail
    refine (rsame_any A5 B5 A6 B6 n5 c5 m5 d5 n6 c6 m6 d6 F.1 F.1 _ (O5.out.1.lst.q z7) (O5.out.2.1.lst.q z7) (O6.out.1.q z7) (O6.out.2.1.q z7) (Nat.le_trans O5.out.1.le O5.out.1.cap) (Nat.le_trans O5.out.2.1.le O5.out.2.1.cap) (by rw [← O6.out.1.len, O5.out.1.len]; exact Nat.le_trans O5.out.1.le O5.out.1.cap) (by rw [← O6.out.2.1.len, O5.out.2.1.len]; exact Nat.le_trans O5.out.2.1.le O5.out.2.1.cap)).mono ?_
    rintro e w8 ⟨rfl, z8⟩
    rw [decide_eq_true rfl]
    have HQ := Lib.hid (HQ.out.trans z8)
    have Z8 := Lib.hid (z7.trans z8)
    clear a0 a1 a2 a3 b0 b1 b2 b3 z7 z8
    go_wp2_with fail
    refine (rints_any C3 C4 p3 q3 p4 q4 S.2 S.2 _ (O3.out.2.2.lst.q Z8.out) (O4.out.2.2.q Z8.out) (Nat.le_trans O3.out.2.2.le O3.out.2.2.cap) (by rw [← O4.out.2.2.len, O3.out.2.2.len]; exact Nat.le_trans O3.out.2.2.le O3.out.2.2.cap)).mono ?_
    rintro e w9 ⟨rfl, z9⟩
    rw [decide_eq_true rfl]
    have HQ := Lib.hid (HQ.out.trans z9)
    have Z9 := Lib.hid (Z8.out.trans z9)
    clear z9
    go_wp2_with fail
    refine (rints_any C5 C6 p5 q5 p6 q6 F.2 F.2 _ (O5.out.2.2.lst.q Z9.out) (O6.out.2.2.q Z9.out) (Nat.le_trans O5.out.2.2.le O5.out.2.2.cap) (by rw [← O6.out.2.2.len, O5.out.2.2.len]; exact Nat.le_trans O5.out.2.2.le O5.out.2.2.cap)).mono ?_
    rintro e wa ⟨rfl, za⟩
    rw [decide_eq_true rfl]
    have HQ := Lib.hid (HQ.out.trans za)
    clear za
    go_wp2
    go_ret
    exact ⟨by first | rfl | simp, HQ.out⟩
  · rw [many hs] at KS
    clear h hs
    go_enter Try.func4, Try.ntmps4
    go_wp2_with fail
    refine (lshown_any _).mono ?_
    rintro e w1 ⟨rfl, q1⟩
    have X := Lib.hid ((Bx.new w [.slice A n c, .slice B m d] 25).q q1)
    have HQ := Lib.hid (((Q.refl w).alloc (.cells #[.slice A n c, .slice B m d] 25)).trans q1)
    clear q1
    obtain ⟨⟨x0, x1⟩, x2, x3⟩ := X.out.get2
    go_wp2_with fail
    refine (KS.out _).mono ?_
    rintro e w2 ⟨rfl, q2⟩
    have X := Lib.hid (X.out.q q2)
    have HQ := Lib.hid (HQ.out.trans q2)
    clear q2 x0 x1 x2 x3
    obtain ⟨⟨x0, x1⟩, x2, x3⟩ := X.out.get2
    go_wp2
    go_ret
    exact ⟨rfl, HQ.out⟩

theorem opened (W : World) (args : Array Value) (hn : args.size = 2) (h : ∀ (j : Nat) t v, Try.f4.params[j]? = some t → args[j]? = some v → RdV W t v) :
    Calls Try.prog 4 args W fun e W' => e = .returned (.bool true) ∧ Q W W' := by
  obtain ⟨v0, v1, rfl⟩ := args2 hn
  rw [Try.params4] at h
  obtain ⟨cs, rfl, hr⟩ := (h 0 25 v0 rfl rfl).struct Try.underlying25
  obtain ⟨A, n, c, B, m, d, l, rfl, hl⟩ := open_locks hr
  obtain ⟨x, rfl, x0⟩ := (h 1 3 v1 rfl rfl).int Try.underlying3
  exact walk A B n c m d l x W hl

set_option maxRecDepth 100000 in
theorem lifted (os : Os) (started : os.Started) (H : Type) (enc : TypeId × Value → H) :
    ReturnsInHanded {} Try.checked os 4 .any (Rows.lockFreesSpec.pre6 enc Try.prog Try.f4 Rows.lockFreesRow.domain false) (Rows.lockFreesSpec.post enc Try.prog Try.f4 false true false false) :=
  framed 2 Try.func4 (by rw [Try.params4]; rfl) rfl (by kernel_rfl) (by kernel_rfl) (by kernel_rfl)
    (fun H ds h => by match ds, h with | [d0, d1], _ => exact ⟨rfl, rfl, rfl⟩)
    opened os started H enc
    (ChangeSpec.witness6 (enc := enc) (C := Try.checked) false ⟨#[], #[.agg #[.slice none 0 0, .slice none 0 0], .int .i64 0], []⟩ 8 (by kernel_rfl) (by kernel_rfl) (by kernel_rfl) (by kernel_rfl))

theorem over : Rows.lockFreesRow.holds Try.pinned (OpenSpec.ofChange Rows.lockFreesSpec) :=
  OpenClaim.holds_of_wide 4 Try.f4 rfl rfl rfl rfl rfl rfl rfl ⟨rfl, rfl, rfl, rfl, rfl⟩ rfl rfl rfl rfl rfl (by kernel_rfl) Try.func4 (by kernel_rfl)
    (of_decide_eq_true (by kernel_rfl)) (by unfold Func.isWrapper; first | (rw [if_pos (by decide +kernel)]; kernel_rfl) | (rw [if_neg (by decide +kernel)]; exact ⟨rfl, rfl⟩))
    (fun os started H enc _ => lifted os started H enc)

theorem proved : Rows.LockFreesSaid := over
end Go.Proofs.Ytenemdpjhoebpaa.lockFrees
