/- For all locks, few, and every two transactions: the first one freed, it is in no ring; and if the other one was in none, it is in none then. No condition. -/
import Derived.Test.YtncnfblnelkmbaaA9
import Derived.Test.YtncnfblnelkmbaaA10
namespace Go.Proofs.Ytncnfblnelkmbaa.ringBreaks
set_option maxRecDepth 100000
open Go.ChangeShapes Go.WideShapes Go.ChangeAt Go.RowKit Lm Sm
set_option linter.unusedVariables false
set_option linter.unusedSimpArgs false

set_option maxHeartbeats 16000000 in
set_option maxRecDepth 100000 in
theorem walk (A B : Option Addr) (n c m d : Nat) (l : Lo) (txn other : Int) (w : World) (h : LIn w A n c B m d l) :
    Calls Try.prog 5 #[locV A n c B m d, .int .i64 txn, .int .i64 other] w fun e w' => e = .returned (.bool true) ∧ Q w w' := by
  have KS := Lib.hid (fun W => rgsmall_any A B n c m d W)
  by_cases hs : n ≤ 30 ∧ m ≤ 12
  · rw [rgfew hs] at KS
    have h1 := h.held.lst
    have h2 := h.queue
    have hi := h.loI
    have hw := h.loW
    have hnd := nodes_few h.held.len h.queue.len (show n + m ≤ 4000 by omega)
    have hf := free_len l txn
    have hal : AllL (fun t x => I64 t ∧ WnS x) (Lm.free l txn).1 := all_free ⟨fun a ha => ⟨hi.1 a ha, hw.1 a ha⟩, fun a ha => ⟨hi.2 a ha, hw.2 a ha⟩⟩ txn
    have hlh := h.held.len
    have hlq := h.queue.len
    have K1 := Lib.hid (fun W q => lring_any A B n c m d l other W (h1.q q) (h2.q q) hi.1 hi.2 (by omega))
    have KF := Lib.hid (fun W q => rfree_in A B n c m d l txn W (h.held.q q) (h2.q q) hw (by omega))
    have E1 := Lib.hid (ring_freed l txn)
    have E2 := Lib.hid (fun e => ring_stays (l := l) (txn := txn) (other := other) e)
    have N1 := Lib.hid (show (ring l other).length ≤ 4000 by have := ring_len l other; omega)
    generalize hk : (Lm.free l txn).1 = k at hf hal E1 E2
    have hF : Lm.free l txn = (k, (Lm.free l txn).2) := by rw [← hk]
    rw [hF] at KF
    generalize (Lm.free l txn).2 = fr at KF
    have KK := Lib.hid (fun x A n c B m d W (g1 : In_ holdK W A n c k.held) (g2 : In_ claimK W B m d k.queue) => lring_any A B n c m d k x W g1.lst g2 (fun a ha => (hal.1 a ha).1) (fun a ha => (hal.2 a ha).1) (by have := g1.len; have := g2.len; omega))
    have N2 := Lib.hid (show (ring k other).length ≤ 4000 by have := ring_len k other; have := nodes_len k; omega)
    generalize ring l other = ra at K1 E2 N1
    clear h h1 h2 hi hw hs hnd hf hal hk hF hlh hlq
    go_enter Try.func5, Try.ntmps5
    go_wp2_with fail
    refine (rgshown_any _).mono ?_
    rintro e w1 ⟨rfl, q1⟩
    have X := Lib.hid ((Bx.new w [.slice A n c, .slice B m d] 25).q q1)
    have HQ := Lib.hid (((Q.refl w).alloc (.cells #[.slice A n c, .slice B m d] 25)).trans q1)
    clear q1
    obtain ⟨⟨x0, x1⟩, x2, x3⟩ := X.out.get2
    go_wp2_with fail
    refine (KS.out _).mono ?_
    rintro e w2 ⟨rfl, q2⟩
    have X := Lib.hid (X.out.q q2)
    have HQ := Lib.hid (HQ.out.trans q2)
    clear q2 x0 x1 x2 x3
    obtain ⟨⟨x0, x1⟩, x2, x3⟩ := X.out.get2
    go_wp2_with fail
    refine (K1.out _ HQ.out).mono ?_
    rintro e w3 ⟨A1, c1, rfl, o1, q3⟩
    clear o1
    have X := Lib.hid (X.out.q q3)
    have HQ := Lib.hid (HQ.out.trans q3)
    clear q3 x0 x1 x2 x3
    obtain ⟨⟨x0, x1⟩, x2, x3⟩ := X.out.get2
    go_wp2_with fail
    refine (KF.out _ HQ.out).mono ?_
    rintro e w4 ⟨A2, n2, c2, B2, m2, d2, C2, p2, r2, rfl, o2, u2, v2, q4⟩
    clear v2
    go_upto_region 7 with (fail)
    have qa := (Q.refl w4).alloc (.cells #[.slice A2 n2 c2, .slice B2 m2 d2] 25)
    have HQ := Lib.hid ((HQ.out.trans q4).trans qa)
    have O2 := Lib.hid (And.intro (o2.q qa) (u2.q qa))
    have Y : Hid (Bx (w4.alloc (.cells #[.slice A2 n2 c2, .slice B2 m2 d2] 25)) w4.heap.size [.slice A2 n2 c2, .slice B2 m2 d2]) := Lib.hid (Bx.new w4 [.slice A2 n2 c2, .slice B2 m2 d2] 25)
    clear qa q4 o2 u2 x0 x1 x2 x3
    generalize w4.alloc (.cells #[.slice A2 n2 c2, .slice B2 m2 d2] 25) = W4 at *
    generalize w4.heap.size = g4 at *
    obtain ⟨⟨x0, x1⟩, x2, x3⟩ := Y.out.get2
    go_wp2_with fail
    refine (KK.out txn _ _ _ _ _ _ _ O2.out.1 O2.out.2).mono ?_
    rintro e w5 ⟨A5, c5, rfl, o5, q5⟩
    have HQ := Lib.hid (HQ.out.trans q5)
    have O2 := Lib.hid (And.intro (O2.out.1.q q5) (O2.out.2.q q5))
    have Y := Lib.hid (Y.out.q q5)
    clear q5 o5 x0 x1 x2 x3
    obtain ⟨⟨x0, x1⟩, x2, x3⟩ := Y.out.get2
    go_wp2_with fail
    refine (KK.out other _ _ _ _ _ _ _ O2.out.1 O2.out.2).mono ?_
    rintro e w6 ⟨A6, c6, rfl, o6, q6⟩
    have HQ := Lib.hid (HQ.out.trans q6)
    clear q6 o6 x0 x1 x2 x3
    have hg : (ring k txn).length = 0 := by rw [E1.out]; rfl
    have hn1 := N1.out
    have hn2 := N2.out
    rw [hg]
    by_cases h0 : ra.length = 0
    · have hb : (ring k other).length = 0 := by rw [E2.out (List.eq_nil_of_length_eq_zero h0)]; rfl
      rw [h0, hb]
      go_wp2
      go_ret
      exact ⟨by first | rfl | (simp; done), HQ.out⟩
    · have hp : 0 < ra.length := by omega
      have hpi : (0 : Int) < (ra.length : Int) := by omega
      go_wp2
      go_ret
      exact ⟨by first | rfl | (simp; done), HQ.out⟩
  · rw [rgmany hs] at KS
    clear h hs
    go_enter Try.func5, Try.ntmps5
    go_wp2_with fail
    refine (rgshown_any _).mono ?_
    rintro e w1 ⟨rfl, q1⟩
    have X := Lib.hid ((Bx.new w [.slice A n c, .slice B m d] 25).q q1)
    have HQ := Lib.hid (((Q.refl w).alloc (.cells #[.slice A n c, .slice B m d] 25)).trans q1)
    clear q1
    obtain ⟨⟨x0, x1⟩, x2, x3⟩ := X.out.get2
    go_wp2_with fail
    refine (KS.out _).mono ?_
    rintro e w2 ⟨rfl, q2⟩
    have X := Lib.hid (X.out.q q2)
    have HQ := Lib.hid (HQ.out.trans q2)
    clear q2 x0 x1 x2 x3
    obtain ⟨⟨x0, x1⟩, x2, x3⟩ := X.out.get2
    go_wp2
    go_ret
    exact ⟨by first | rfl | (simp; done), HQ.out⟩

theorem opened (W : World) (args : Array Value) (hn : args.size = 3) (h : ∀ (j : Nat) t v, Try.f5.params[j]? = some t → args[j]? = some v → RdV W t v) :
    Calls Try.prog 5 args W fun e W' => e = .returned (.bool true) ∧ Q W W' := by
  obtain ⟨v0, v1, v2, rfl⟩ := args3 hn
  rw [Try.params5] at h
  obtain ⟨cs, rfl, hr⟩ := (h 0 25 v0 rfl rfl).struct Try.underlying25
  obtain ⟨A, n, c, B, m, d, l, rfl, hl⟩ := open_locks hr
  obtain ⟨x1, rfl, _⟩ := (h 1 3 v1 rfl rfl).int Try.underlying3
  obtain ⟨x2, rfl, _⟩ := (h 2 3 v2 rfl rfl).int Try.underlying3
  exact walk A B n c m d l x1 x2 W hl

set_option maxRecDepth 100000 in
theorem lifted (os : Os) (started : os.Started) (H : Type) (enc : TypeId × Value → H) :
    ReturnsInHanded {} Try.checked os 5 .any (Rows.ringBreaksSpec.pre6 enc Try.prog Try.f5 Rows.ringBreaksRow.domain false) (Rows.ringBreaksSpec.post enc Try.prog Try.f5 false true false false) :=
  framed 3 Try.func5 (by rw [Try.params5]; rfl) rfl (by kernel_rfl) (by kernel_rfl) (by kernel_rfl)
    (fun H ds h => by match ds, h with | [d0, d1, d2], _ => exact ⟨rfl, rfl, rfl⟩)
    opened os started H enc
    (ChangeSpec.witness6 (enc := enc) (C := Try.checked) false ⟨#[], #[.agg #[.slice none 0 0, .slice none 0 0], .int .i64 0, .int .i64 0], []⟩ 8 (by kernel_rfl) (by kernel_rfl) (by kernel_rfl) (by kernel_rfl))

theorem over : Rows.ringBreaksRow.holds Try.pinned (OpenSpec.ofChange Rows.ringBreaksSpec) :=
  OpenClaim.holds_of_wide 5 Try.f5 rfl rfl rfl rfl rfl rfl rfl ⟨rfl, rfl, rfl, rfl, rfl⟩ rfl rfl rfl rfl rfl (by kernel_rfl) Try.func5 (by kernel_rfl)
    (of_decide_eq_true (by kernel_rfl)) (by unfold Func.isWrapper; first | (rw [if_pos (by decide +kernel)]; kernel_rfl) | (rw [if_neg (by decide +kernel)]; exact ⟨rfl, rfl⟩))
    (fun os started H enc _ => lifted os started H enc)

theorem proved : Rows.RingBreaksSaid := over
end Go.Proofs.Ytncnfblnelkmbaa.ringBreaks
