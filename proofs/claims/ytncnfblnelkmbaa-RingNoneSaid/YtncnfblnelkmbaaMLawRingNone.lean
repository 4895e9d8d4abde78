/- For all locks, few, and every transaction: who waits for nobody reaches nobody, and is in no ring; else all whom it waits for are reached, and it is in a ring just if it reaches itself. No condition. -/
import Derived.Test.YtncnfblnelkmbaaA9
import Derived.Test.YtncnfblnelkmbaaA10
namespace Go.Proofs.Ytncnfblnelkmbaa.ringNone
set_option maxRecDepth 100000
open Go.ChangeShapes Go.WideShapes Go.ChangeAt Go.RowKit Lm Sm
set_option linter.unusedVariables false
set_option linter.unusedSimpArgs false

set_option maxHeartbeats 16000000 in
set_option maxRecDepth 100000 in
theorem walk (A B : Option Addr) (n c m d : Nat) (l : Lo) (txn : Int) (w : World) (h : LIn w A n c B m d l) :
    Calls Try.prog 6 #[locV A n c B m d, .int .i64 txn] w fun e w' => e = .returned (.bool true) ∧ Q w w' := by
  have KS := Lib.hid (fun W => rgsmall_any A B n c m d W)
  by_cases hs : n ≤ 30 ∧ m ≤ 12
  · rw [rgfew hs] at KS
    have h1 := h.held.lst
    have h2 := h.queue
    have hi := h.loI
    have hw := h.loW
    have hnd := nodes_few h.held.len h.queue.len (show n + m ≤ 4000 by omega)
    have K1 := Lib.hid (fun W q => lafter_any A B n c m d l txn W (h1.q q) (h2.q q) hi.1 hi.2 (by omega))
    have K3 := Lib.hid (fun W q => lreach_any A B n c m d l txn W (h1.q q) (h2.q q) hi.1 hi.2 (by omega))
    have K5 := Lib.hid (fun W q => lring_any A B n c m d l txn W (h1.q q) (h2.q q) hi.1 hi.2 (by omega))
    have N1 := Lib.hid (show (aft l txn).length ≤ 4000 by have := aft_len l txn; omega)
    have N2 := Lib.hid (show (reach l txn).length ≤ 4000 by have := reach_len l txn; omega)
    have N3 := Lib.hid (show (ring l txn).length ≤ 4000 by have := ring_len l txn; omega)
    have E1 := Lib.hid (show aft l txn = [] → reach l txn = [] ∧ ring l txn = [] from fun e => ⟨none_reach e, none_ring e⟩)
    have E2 := Lib.hid (show ∀ x ∈ aft l txn, x ∈ reach l txn from fun x hx => mem_reach.2 (.one (mem_aft.1 hx)))
    have E3 := Lib.hid (show decide (txn ∈ reach l txn) = decide (0 < (ring l txn).length) from by
      rw [Bool.eq_iff_iff, decide_eq_true_eq, decide_eq_true_eq, mem_reach]
      constructor
      · intro hr
        exact List.length_pos_iff.2 fun e => ring_nil.1 e hr
      · intro hp
        exact Classical.byContradiction fun hr => by rw [ring_nil.2 hr] at hp; simp at hp)
    generalize aft l txn = ra at K1 N1 E1 E2
    generalize reach l txn = rb at K3 N2 E1 E2 E3
    generalize ring l txn = rc at K5 N3 E1 E3
    clear h h1 h2 hi hw hs hnd
    go_enter Try.func6, Try.ntmps6
    go_wp2_with fail
    refine (rgshown_any _).mono ?_
    rintro e w1 ⟨rfl, q1⟩
    have X := Lib.hid ((Bx.new w [.slice A n c, .slice B m d] 25).q q1)
    have HQ := Lib.hid (((Q.refl w).alloc (.cells #[.slice A n c, .slice B m d] 25)).trans q1)
    clear q1
    obtain ⟨⟨x0, x1⟩, x2, x3⟩ := X.out.get2
    go_wp2_with fail
    refine (KS.out _).mono ?_
    rintro e w2 ⟨rfl, q2⟩
    have X := Lib.hid (X.out.q q2)
    have HQ := Lib.hid (HQ.out.trans q2)
    clear q2 x0 x1 x2 x3
    obtain ⟨⟨x0, x1⟩, x2, x3⟩ := X.out.get2
    go_wp2_with fail
    refine (K1.out _ HQ.out).mono ?_
    rintro e w3 ⟨A1, c1, rfl, o1, q3⟩
    have L1 := Lib.hid o1.lst
    clear o1
    have X := Lib.hid (X.out.q q3)
    have HQ := Lib.hid (HQ.out.trans q3)
    clear q3 x0 x1 x2 x3
    obtain ⟨⟨x0, x1⟩, x2, x3⟩ := X.out.get2
    go_wp2_with fail
    refine (K3.out _ HQ.out).mono ?_
    rintro e w4 ⟨A2, c2, rfl, o2, q3⟩
    have L1 := Lib.hid (L1.out.q q3)
    have L2 := Lib.hid o2.lst
    clear o2
    have X := Lib.hid (X.out.q q3)
    have HQ := Lib.hid (HQ.out.trans q3)
    clear q3 x0 x1 x2 x3
    obtain ⟨⟨x0, x1⟩, x2, x3⟩ := X.out.get2
    go_wp2_with fail
    refine (K5.out _ HQ.out).mono ?_
    rintro e w5 ⟨A3, c3, rfl, o3, q3⟩
    have L1 := Lib.hid (L1.out.q q3)
    have L2 := Lib.hid (L2.out.q q3)
    have L3 := Lib.hid o3.lst
    clear o3
    have X := Lib.hid (X.out.q q3)
    have HQ := Lib.hid (HQ.out.trans q3)
    clear q3 x0 x1 x2 x3
    obtain ⟨⟨x0, x1⟩, x2, x3⟩ := X.out.get2
    have hn1 := N1.out
    have hn3 := N3.out
    by_cases h0 : ra.length = 0
    · have he := E1.out (List.eq_nil_of_length_eq_zero h0)
      have hb : rb.length = 0 := by rw [he.1]; rfl
      have hc : rc.length = 0 := by rw [he.2]; rfl
      rw [h0, hb, hc] at *
      go_wp2
      go_ret
      exact ⟨by first | rfl | (simp; done), HQ.out⟩
    · have hp : 0 < ra.length := by omega
      have hpi : ((ra.length : Int) == 0) = false := beq_eq_false_iff_ne.2 (by omega)
      go_wp2
      clear x0 x1 x2 x3
      go_loopw [10] (fun i wr => ∃ k : Nat, k ≤ ra.length ∧ i = .int .i64 k ∧ Q w5 wr) (fun i _ => ra.length - (intOf i).toNat)
      case atStart => exact ⟨0, Nat.zero_le _, rfl, Q.refl _⟩
      case round =>
        obtain ⟨k, hk, rfl, q4⟩ := hrel
        have HQ4 := Lib.hid q4
        clear q4
        by_cases hlt : k < ra.length
        · have hki : (k : Int) < (ra.length : Int) := by omega
          obtain ⟨ad, hae, hab, y0⟩ := load_num (L1.out.q HQ4.out) hlt hlt
          subst hae
          have hin := E2.out _ (List.getElem_mem hlt)
          generalize ra[k] = u at y0 hin
          have hd : decide (u ∈ rb) = true := by simp [hin]
          have KH := Lib.hid (hd ▸ whas_any u A2 rb.length c2 rb wr (L2.out.q HQ4.out) (by have := N2.out; omega))
          clear hin hd
          go_wp2_with fail
          refine KH.out.mono ?_
          rintro e w6 ⟨rfl, q6⟩
          have HQ6 := Lib.hid (HQ4.out.trans q6)
          clear q6 y0 KH
          go_wp2
          go_roundw
          case rel => exact ⟨k + 1, by omega, by go_num, HQ6.out⟩
          case measure => simp [intOf]; omega
        · have KH := Lib.hid (E3.out ▸ whas_any txn A2 rb.length c2 rb wr (L2.out.q HQ4.out) (by have := N2.out; omega))
          by_cases hr : 0 < rc.length
          · have hri : (0 : Int) < (rc.length : Int) := by omega
            have hd : decide (0 < rc.length) = true := by simp [hr]
            rw [hd] at KH
            go_wp2_with fail
            refine KH.out.mono ?_
            rintro e w6 ⟨rfl, q6⟩
            have HQ6 := Lib.hid (HQ.out.trans (HQ4.out.trans q6))
            clear q6 KH
            go_wp2
            go_ret
            exact ⟨by first | rfl | (simp; done), HQ6.out⟩
          · have h0c : rc.length = 0 := by omega
            have hd : decide (0 < rc.length) = false := by simp [hr]
            rw [hd] at KH
            rw [h0c] at *
            go_wp2_with fail
            refine KH.out.mono ?_
            rintro e w6 ⟨rfl, q6⟩
            have HQ6 := Lib.hid (HQ.out.trans (HQ4.out.trans q6))
            clear q6 KH
            go_wp2
            go_ret
            exact ⟨by first | rfl | (simp; done), HQ6.out⟩
  · rw [rgmany hs] at KS
    clear h hs
    go_enter Try.func6, Try.ntmps6
    go_wp2_with fail
    refine (rgshown_any _).mono ?_
    rintro e w1 ⟨rfl, q1⟩
    have X := Lib.hid ((Bx.new w [.slice A n c, .slice B m d] 25).q q1)
    have HQ := Lib.hid (((Q.refl w).alloc (.cells #[.slice A n c, .slice B m d] 25)).trans q1)
    clear q1
    obtain ⟨⟨x0, x1⟩, x2, x3⟩ := X.out.get2
    go_wp2_with fail
    refine (KS.out _).mono ?_
    rintro e w2 ⟨rfl, q2⟩
    have X := Lib.hid (X.out.q q2)
    have HQ := Lib.hid (HQ.out.trans q2)
    clear q2 x0 x1 x2 x3
    obtain ⟨⟨x0, x1⟩, x2, x3⟩ := X.out.get2
    go_wp2
    go_ret
    exact ⟨by first | rfl | (simp; done), HQ.out⟩

theorem opened (W : World) (args : Array Value) (hn : args.size = 2) (h : ∀ (j : Nat) t v, Try.f6.params[j]? = some t → args[j]? = some v → RdV W t v) :
    Calls Try.prog 6 args W fun e W' => e = .returned (.bool true) ∧ Q W W' := by
  obtain ⟨v0, v1, rfl⟩ := args2 hn
  rw [Try.params6] at h
  obtain ⟨cs, rfl, hr⟩ := (h 0 25 v0 rfl rfl).struct Try.underlying25
  obtain ⟨A, n, c, B, m, d, l, rfl, hl⟩ := open_locks hr
  obtain ⟨x1, rfl, _⟩ := (h 1 3 v1 rfl rfl).int Try.underlying3
  exact walk A B n c m d l x1 W hl

set_option maxRecDepth 100000 in
theorem lifted (os : Os) (started : os.Started) (H : Type) (enc : TypeId × Value → H) :
    ReturnsInHanded {} Try.checked os 6 .any (Rows.ringNoneSpec.pre6 enc Try.prog Try.f6 Rows.ringNoneRow.domain false) (Rows.ringNoneSpec.post enc Try.prog Try.f6 false true false false) :=
  framed 2 Try.func6 (by rw [Try.params6]; rfl) rfl (by kernel_rfl) (by kernel_rfl) (by kernel_rfl)
    (fun H ds h => by match ds, h with | [d0, d1], _ => exact ⟨rfl, rfl, rfl⟩)
    opened os started H enc
    (ChangeSpec.witness6 (enc := enc) (C := Try.checked) false ⟨#[], #[.agg #[.slice none 0 0, .slice none 0 0], .int .i64 0], []⟩ 8 (by kernel_rfl) (by kernel_rfl) (by kernel_rfl) (by kernel_rfl))

theorem over : Rows.ringNoneRow.holds Try.pinned (OpenSpec.ofChange Rows.ringNoneSpec) :=
  OpenClaim.holds_of_wide 6 Try.f6 rfl rfl rfl rfl rfl rfl rfl ⟨rfl, rfl, rfl, rfl, rfl⟩ rfl rfl rfl rfl rfl (by kernel_rfl) Try.func6 (by kernel_rfl)
    (of_decide_eq_true (by kernel_rfl)) (by unfold Func.isWrapper; first | (rw [if_pos (by decide +kernel)]; kernel_rfl) | (rw [if_neg (by decide +kernel)]; exact ⟨rfl, rfl⟩))
    (fun os started H enc _ => lifted os started H enc)

theorem proved : Rows.RingNoneSaid := over
end Go.Proofs.Ytncnfblnelkmbaa.ringNone
