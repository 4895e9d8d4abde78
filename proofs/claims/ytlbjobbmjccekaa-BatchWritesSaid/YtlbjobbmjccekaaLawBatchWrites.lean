/- For every state, batch and number: a batch that is done leaves each key that it writes with its value, or without one. No condition. -/
import Derived.Test.YtlbjobbmjccekaaBatchIn
import Derived.Test.YtlbjobbmjccekaaBatchShown
import Derived.Test.YtlbjobbmjccekaaTableRef5
import Derived.Test.YtlbjobbmjccekaaTableMath
namespace Go.Proofs.Ytlbjobbmjccekaa.batchWrites
set_option maxRecDepth 100000
open Go.ChangeShapes Go.WideShapes Go.ChangeAt Go.RowKit Prm
set_option linter.unusedVariables false
set_option linter.unusedSimpArgs false

/-- the law's boxes. -/
structure Dz (w : World) (A : Option Addr) (n c : Nat) (B : Option Addr) (m d : Nat) (k : Int) (tok : ByteArray) (C : Option Addr) (p q : Nat) (wi : World) : Prop where
  b1 : Bx wi w.heap.size [.slice A n c, .slice B m d]
  b2 : Bx wi (w.heap.size + 1) [.int .i64 k, .string tok, .slice C p q]
  q : Q w wi
theorem Dz.step {w wi wj : World} {A B C : Option Addr} {n c m d p q : Nat} {k : Int} {tok : ByteArray} (h : Dz w A n c B m d k tok C p q wi) (y : Q wi wj) : Dz w A n c B m d k tok C p q wj := ⟨h.b1.q y, h.b2.q y, h.q.trans y⟩
theorem Dz.new (w : World) (A : Option Addr) (n c : Nat) (B : Option Addr) (m d : Nat) (k : Int) (tok : ByteArray) (C : Option Addr) (p q : Nat) : Dz w A n c B m d k tok C p q ((w.alloc (.cells #[.slice A n c, .slice B m d] 40)).alloc (.cells #[.int .i64 k, .string tok, .slice C p q] 24)) := by
  refine ⟨(Bx.new w [.slice A n c, .slice B m d] 40).alloc _, ?_, ((Q.refl w).alloc _).alloc _⟩
  have := Bx.new (w.alloc (.cells #[.slice A n c, .slice B m d] 40)) [.int .i64 k, .string tok, .slice C p q] 24
  simpa using this

set_option maxHeartbeats 8000000 in
theorem walk (A B C : Option Addr) (n c m d p q : Nat) (k i : Int) (tok : ByteArray) (l t : List Pr) (ws : List Wr) (w : World) (hA : In_ pairK w A n c l) (hB : In_ pairK w B m d t) (hC : In_ writeK w C p q ws)
    (b1 : n * 32 ≤ 140737488351232) (b2 : m * 32 ≤ 140737488351232) (k1 : KeysIn l) (hi0 : -9223372036854775808 ≤ i) (hi1 : i ≤ 9223372036854775807) :
    Calls Try.prog 10 #[staV A n c B m d, batV k tok C p q, .int .i64 i] w fun e w' => e = .returned (.bool true) ∧ Q w w' := by
  have HC := Lib.hid hC
  have KD := Lib.hid (fun W y => bdo_any k tok A B C n c m d p q l t ws W (hA.q y) (hB.q y) (hC.lst.q y) hC.max (by omega) (by omega))
  have KR := Lib.hid (fun W y => refRight_any A n c l W (hA.lst.q y) hA.max k1)
  have hlen : (Bm.doo ⟨l, t⟩ ⟨k, tok, ws⟩).1.data.length ≤ maxLen := by
    have h1 := Bm.doo_len ⟨l, t⟩ ⟨k, tok, ws⟩
    have h2 := hA.len
    simp only at h1
    unfold maxLen; omega
  have hfw := fun h j (hj : j < ws.length) => Bm.find_written (s := ⟨l, t⟩) (b := ⟨k, tok, ws⟩) h hj
  have hpl := hC.len
  have hpm := hC.max
  generalize Bm.doo ⟨l, t⟩ ⟨k, tok, ws⟩ = T at KD hlen hfw
  obtain ⟨T, er⟩ := T
  simp only at hlen hfw
  have HTl := Lib.hid hlen
  generalize right l = rr at KR
  clear hA hB hC b1 b2 k1 hlen
  by_cases he : er = 0
  rotate_left
  · have he1 : ((er : Int) != 0) = true := by simp; omega
    clear he hfw hpl hpm
    go_enter Try.func10, Try.ntmps10
    go_upto_region 1 with (fail)
    have X := Lib.hid (Dz.new w A n c B m d k tok C p q)
    generalize ((w.alloc (.cells #[.slice A n c, .slice B m d] 40)).alloc (.cells #[.int .i64 k, .string tok, .slice C p q] 24)) = w0 at X ⊢
    go_wp2_with fail
    refine (bshown_any _).mono ?_
    rintro e w1 ⟨rfl, q1⟩
    have X1 := Lib.hid (X.out.step q1)
    clear q1 X
    obtain ⟨c0, c1⟩ := X1.out.b1.get2.1
    obtain ⟨d0, d1, d2'⟩ := X1.out.b2.get3.1
    go_wp2_with fail
    refine (KD.out _ X1.out.q).mono ?_
    rintro e w2 ⟨A5, c5, B5, d5, rfl, o5, t5, q5⟩
    simp only at o5 t5
    have X2 := Lib.hid (X1.out.step (q5.alloc (.cells #[.slice A5 T.data.length c5, .slice B5 T.toks.length d5] 40)))
    have Y2 := Lib.hid (Bx.new w2 [.slice A5 T.data.length c5, .slice B5 T.toks.length d5] 40)
    have O2 := Lib.hid (o5.lst.q ((Q.refl _).alloc (.cells #[.slice A5 T.data.length c5, .slice B5 T.toks.length d5] 40)))
    clear o5 t5 q5 c0 c1 d0 d1 d2' X1
    obtain ⟨c0, c1⟩ := X2.out.b1.get2.1
    go_wp2_with fail
    refine (KR.out _ X2.out.q).mono ?_
    rintro e w3 ⟨rfl, q3⟩
    have X3 := Lib.hid (X2.out.step q3)
    have Y3 := Lib.hid (Y2.out.q q3)
    have O3 := Lib.hid (O2.out.q q3)
    clear q3 c0 c1 X2 Y2 O2
    obtain ⟨d0, d1, d2'⟩ := X3.out.b2.get3.1
    go_wp2
    go_ret
    exact ⟨by first | rfl | simp, X3.out.q⟩
  subst he
  have z0 : ((0 : Int) != 0) = false := by decide
  cases rr with
  | false =>
    clear hfw hpl hpm
    go_enter Try.func10, Try.ntmps10
    go_upto_region 1 with (fail)
    have X := Lib.hid (Dz.new w A n c B m d k tok C p q)
    generalize ((w.alloc (.cells #[.slice A n c, .slice B m d] 40)).alloc (.cells #[.int .i64 k, .string tok, .slice C p q] 24)) = w0 at X ⊢
    go_wp2_with fail
    refine (bshown_any _).mono ?_
    rintro e w1 ⟨rfl, q1⟩
    have X1 := Lib.hid (X.out.step q1)
    clear q1 X
    obtain ⟨c0, c1⟩ := X1.out.b1.get2.1
    obtain ⟨d0, d1, d2'⟩ := X1.out.b2.get3.1
    go_wp2_with fail
    refine (KD.out _ X1.out.q).mono ?_
    rintro e w2 ⟨A5, c5, B5, d5, rfl, o5, t5, q5⟩
    simp only at o5 t5
    have X2 := Lib.hid (X1.out.step (q5.alloc (.cells #[.slice A5 T.data.length c5, .slice B5 T.toks.length d5] 40)))
    have Y2 := Lib.hid (Bx.new w2 [.slice A5 T.data.length c5, .slice B5 T.toks.length d5] 40)
    have O2 := Lib.hid (o5.lst.q ((Q.refl _).alloc (.cells #[.slice A5 T.data.length c5, .slice B5 T.toks.length d5] 40)))
    clear o5 t5 q5 c0 c1 d0 d1 d2' X1
    obtain ⟨c0, c1⟩ := X2.out.b1.get2.1
    go_wp2_with fail
    refine (KR.out _ X2.out.q).mono ?_
    rintro e w3 ⟨rfl, q3⟩
    have X3 := Lib.hid (X2.out.step q3)
    have Y3 := Lib.hid (Y2.out.q q3)
    have O3 := Lib.hid (O2.out.q q3)
    clear q3 c0 c1 X2 Y2 O2
    obtain ⟨d0, d1, d2'⟩ := X3.out.b2.get3.1
    go_wp2
    go_ret
    exact ⟨by first | rfl | simp, X3.out.q⟩
  | true =>
    by_cases hi : i < 0
    · have hid : decide (i < 0) = true := decide_eq_true hi
      clear hfw hpl hpm
      go_enter Try.func10, Try.ntmps10
      go_upto_region 1 with (fail)
      have X := Lib.hid (Dz.new w A n c B m d k tok C p q)
      generalize ((w.alloc (.cells #[.slice A n c, .slice B m d] 40)).alloc (.cells #[.int .i64 k, .string tok, .slice C p q] 24)) = w0 at X ⊢
      go_wp2_with fail
      refine (bshown_any _).mono ?_
      rintro e w1 ⟨rfl, q1⟩
      have X1 := Lib.hid (X.out.step q1)
      clear q1 X
      obtain ⟨c0, c1⟩ := X1.out.b1.get2.1
      obtain ⟨d0, d1, d2'⟩ := X1.out.b2.get3.1
      go_wp2_with fail
      refine (KD.out _ X1.out.q).mono ?_
      rintro e w2 ⟨A5, c5, B5, d5, rfl, o5, t5, q5⟩
      simp only at o5 t5
      have X2 := Lib.hid (X1.out.step (q5.alloc (.cells #[.slice A5 T.data.length c5, .slice B5 T.toks.length d5] 40)))
      have Y2 := Lib.hid (Bx.new w2 [.slice A5 T.data.length c5, .slice B5 T.toks.length d5] 40)
      have O2 := Lib.hid (o5.lst.q ((Q.refl _).alloc (.cells #[.slice A5 T.data.length c5, .slice B5 T.toks.length d5] 40)))
      clear o5 t5 q5 c0 c1 d0 d1 d2' X1
      obtain ⟨c0, c1⟩ := X2.out.b1.get2.1
      go_wp2_with fail
      refine (KR.out _ X2.out.q).mono ?_
      rintro e w3 ⟨rfl, q3⟩
      have X3 := Lib.hid (X2.out.step q3)
      have Y3 := Lib.hid (Y2.out.q q3)
      have O3 := Lib.hid (O2.out.q q3)
      clear q3 c0 c1 X2 Y2 O2
      obtain ⟨d0, d1, d2'⟩ := X3.out.b2.get3.1
      go_wp2
      go_ret
      exact ⟨by first | rfl | simp, X3.out.q⟩
    have hid : decide (i < 0) = false := decide_eq_false hi
    by_cases hj : (p : Int) ≤ i
    · have hjd : decide ((p : Int) ≤ i) = true := decide_eq_true hj
      clear hfw hpl hpm
      go_enter Try.func10, Try.ntmps10
      go_upto_region 1 with (fail)
      have X := Lib.hid (Dz.new w A n c B m d k tok C p q)
      generalize ((w.alloc (.cells #[.slice A n c, .slice B m d] 40)).alloc (.cells #[.int .i64 k, .string tok, .slice C p q] 24)) = w0 at X ⊢
      go_wp2_with fail
      refine (bshown_any _).mono ?_
      rintro e w1 ⟨rfl, q1⟩
      have X1 := Lib.hid (X.out.step q1)
      clear q1 X
      obtain ⟨c0, c1⟩ := X1.out.b1.get2.1
      obtain ⟨d0, d1, d2'⟩ := X1.out.b2.get3.1
      go_wp2_with fail
      refine (KD.out _ X1.out.q).mono ?_
      rintro e w2 ⟨A5, c5, B5, d5, rfl, o5, t5, q5⟩
      simp only at o5 t5
      have X2 := Lib.hid (X1.out.step (q5.alloc (.cells #[.slice A5 T.data.length c5, .slice B5 T.toks.length d5] 40)))
      have Y2 := Lib.hid (Bx.new w2 [.slice A5 T.data.length c5, .slice B5 T.toks.length d5] 40)
      have O2 := Lib.hid (o5.lst.q ((Q.refl _).alloc (.cells #[.slice A5 T.data.length c5, .slice B5 T.toks.length d5] 40)))
      clear o5 t5 q5 c0 c1 d0 d1 d2' X1
      obtain ⟨c0, c1⟩ := X2.out.b1.get2.1
      go_wp2_with fail
      refine (KR.out _ X2.out.q).mono ?_
      rintro e w3 ⟨rfl, q3⟩
      have X3 := Lib.hid (X2.out.step q3)
      have Y3 := Lib.hid (Y2.out.q q3)
      have O3 := Lib.hid (O2.out.q q3)
      clear q3 c0 c1 X2 Y2 O2
      obtain ⟨d0, d1, d2'⟩ := X3.out.b2.get3.1
      go_wp2
      go_ret
      exact ⟨by first | rfl | simp, X3.out.q⟩
    have hjd : decide ((p : Int) ≤ i) = false := decide_eq_false hj
    obtain ⟨j, rfl⟩ : ∃ j : Nat, i = (j : Int) := ⟨i.toNat, by omega⟩
    have hjl : j < ws.length := by omega
    have hjp : j < p := by omega
    have hjpi : (j : Int) < (p : Int) := by omega
    have hj0 : (0 : Int) ≤ (j : Int) := by omega
    have HFW := Lib.hid (hfw rfl j hjl)
    obtain ⟨ad, rfl, hab0, y0, y1, y2⟩ := load_write HC.out.lst hjp hjl
    generalize ws[j] = x at y0 y1 y2 HFW
    obtain ⟨xk, xv, xd⟩ := x
    simp only at y0 y1 y2 HFW
    clear hfw hpl hpm hi hj
    go_enter Try.func10, Try.ntmps10
    go_upto_region 1 with (fail)
    have X := Lib.hid (Dz.new w A n c B m d k tok (some ad) p q)
    generalize ((w.alloc (.cells #[.slice A n c, .slice B m d] 40)).alloc (.cells #[.int .i64 k, .string tok, .slice (some ad) p q] 24)) = w0 at X ⊢
    go_wp2_with fail
    refine (bshown_any _).mono ?_
    rintro e w1 ⟨rfl, q1⟩
    have X1 := Lib.hid (X.out.step q1)
    clear q1 X
    obtain ⟨c0, c1⟩ := X1.out.b1.get2.1
    obtain ⟨d0, d1, d2'⟩ := X1.out.b2.get3.1
    go_wp2_with fail
    refine (KD.out _ X1.out.q).mono ?_
    rintro e w2 ⟨A5, c5, B5, d5, rfl, o5, t5, q5⟩
    simp only at o5 t5
    have X2 := Lib.hid (X1.out.step (q5.alloc (.cells #[.slice A5 T.data.length c5, .slice B5 T.toks.length d5] 40)))
    have Y2 := Lib.hid (Bx.new w2 [.slice A5 T.data.length c5, .slice B5 T.toks.length d5] 40)
    have O2 := Lib.hid (o5.lst.q ((Q.refl _).alloc (.cells #[.slice A5 T.data.length c5, .slice B5 T.toks.length d5] 40)))
    clear o5 t5 q5 c0 c1 d0 d1 d2' X1
    obtain ⟨c0, c1⟩ := X2.out.b1.get2.1
    go_wp2_with fail
    refine (KR.out _ X2.out.q).mono ?_
    rintro e w3 ⟨rfl, q3⟩
    have X3 := Lib.hid (X2.out.step q3)
    have Y3 := Lib.hid (Y2.out.q q3)
    have O3 := Lib.hid (O2.out.q q3)
    clear q3 c0 c1 X2 Y2 O2
    obtain ⟨d0, d1, d2'⟩ := X3.out.b2.get3.1
    have y0 := box_ X3.out.q y0
    have y1 := box_ X3.out.q y1
    have y2 := box_ X3.out.q y2
    obtain ⟨a0, a1⟩ := Y3.out.get2.1
    have KF := Lib.hid (fun N => (refFind_any xk A5 T.data.length c5 T.data (w3.drewN N) (O3.out.q ((Q.refl _).drewN N)) HTl.out).mono (fun e w' h => (⟨h.1, h.2.symm⟩ : e = .returned (.tuple #[.string (find xk T.data).1, .bool (find xk T.data).2]) ∧ w' = w3.drewN N)))
    rw [HFW.out] at KF
    have hsz : w.heap.size + 1 < w3.heap.size := X3.out.b2.lt
    have hs2 : w2.heap.size < w3.heap.size := Y3.out.lt
    cases xd with
    | true =>
      simp only [if_true, Bool.not_true] at KF
      go_wp2
      go_quiet ((go_at_call 31; exact Calls.quiet_of_same (KF.out _)))
      all_goals
        go_wp2
        go_ret
        exact ⟨by first | rfl | simp, X3.out.q.drewN _⟩
    | false =>
      simp only [Bool.false_eq_true, if_false, Bool.not_false] at KF
      go_wp2
      go_quiet ((go_at_call 31; exact Calls.quiet_of_same (KF.out _)))
      all_goals
        go_wp2
        go_ret
        exact ⟨by first | rfl | simp, X3.out.q.drewN _⟩
theorem opened (W : World) (args : Array Value) (hn : args.size = 3) (h : ∀ (j : Nat) t v, Try.f10.params[j]? = some t → args[j]? = some v → RdV W t v) :
    Calls Try.prog 10 args W fun e W' => e = .returned (.bool true) ∧ Q W W' := by
  obtain ⟨v0, v1, v2, rfl⟩ := args3 hn
  rw [Try.params10] at h
  obtain ⟨cs, rfl, hr⟩ := (h 0 40 v0 rfl rfl).struct Try.underlying40
  obtain ⟨cs2, rfl, hr2⟩ := (h 1 24 v1 rfl rfl).struct Try.underlying24
  obtain ⟨i, rfl, s2⟩ := (h 2 3 v2 rfl rfl).int Try.underlying3
  obtain ⟨A, n, c, l, B, m, d, t, rfl, iA, bA, pA, iB, bB, pB⟩ := open_state hr
  obtain ⟨k, tok, C, p, q, ws, rfl, st, iC, bC, pC, _⟩ := open_batch hr2
  exact walk A B C n c m d p q k i tok l t ws W iA iB iC bA bB (keys_in pA) (wf_i64 s2).1 (wf_i64 s2).2

set_option maxRecDepth 100000 in
theorem lifted (os : Os) (started : os.Started) (H : Type) (enc : TypeId × Value → H) :
    ReturnsInHanded {} Try.checked os 10 .any (Rows.batchWritesSpec.pre6 enc Try.prog Try.f10 Rows.batchWritesRow.domain false) (Rows.batchWritesSpec.post enc Try.prog Try.f10 false true false false) :=
  framed 3 Try.func10 (by rw [Try.params10]; rfl) rfl (by kernel_rfl) (by kernel_rfl) (by kernel_rfl)
    (fun H ds h => by match ds, h with | [d0, d1, d2], _ => exact ⟨rfl, rfl, rfl⟩)
    opened os started H enc
    (ChangeSpec.witness6 (enc := enc) (C := Try.checked) false ⟨#[], #[.agg #[.slice none 0 0, .slice none 0 0], .agg #[.int .i64 0, .string ⟨#[]⟩, .slice none 0 0], .int .i64 0], []⟩ 8 (by kernel_rfl) (by kernel_rfl) (by kernel_rfl) (by kernel_rfl))

theorem over : Rows.batchWritesRow.holds Try.pinned (OpenSpec.ofChange Rows.batchWritesSpec) :=
  OpenClaim.holds_of_wide 10 Try.f10 rfl rfl rfl rfl rfl rfl rfl ⟨rfl, rfl, rfl, rfl, rfl⟩ rfl rfl rfl rfl rfl (by kernel_rfl) Try.func10 (by kernel_rfl)
    (of_decide_eq_true (by kernel_rfl)) (by unfold Func.isWrapper; first | (rw [if_pos (by decide +kernel)]; kernel_rfl) | (rw [if_neg (by decide +kernel)]; exact ⟨rfl, rfl⟩))
    (fun os started H enc _ => lifted os started H enc)

theorem proved : Rows.BatchWritesSaid := over
end Go.Proofs.Ytlbjobbmjccekaa.batchWrites
