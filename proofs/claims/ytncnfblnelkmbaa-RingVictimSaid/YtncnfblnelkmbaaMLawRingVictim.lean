/- For all locks, few, and every transaction: where the victim of its ring is freed, and then the next one, as often as the ring had transactions, it has no victim any more. No condition. -/
import Derived.Test.YtncnfblnelkmbaaA9
import Derived.Test.YtncnfblnelkmbaaA10
namespace Go.Proofs.Ytncnfblnelkmbaa.ringVictim
set_option maxRecDepth 100000
open Go.ChangeShapes Go.WideShapes Go.ChangeAt Go.RowKit Lm Sm
set_option linter.unusedVariables false
set_option linter.unusedSimpArgs false

set_option maxHeartbeats 16000000 in
set_option maxRecDepth 100000 in
theorem walk (A B : Option Addr) (n c m d : Nat) (l : Lo) (txn : Int) (w : World) (h : LIn w A n c B m d l) :
    Calls Try.prog 7 #[locV A n c B m d, .int .i64 txn] w fun e w' => e = .returned (.bool true) ∧ Q w w' := by
  have KS := Lib.hid (fun W => rgsmall_any A B n c m d W)
  by_cases hs : n ≤ 30 ∧ m ≤ 12
  · rw [rgfew hs] at KS
    have h1 := h.held.lst
    have h2 := h.queue
    have hi := h.loI
    have hw := h.loW
    have hnd := nodes_few h.held.len h.queue.len (show n + m ≤ 4000 by omega)
    have hlh := h.held.len
    have hlq := h.queue.len
    have KV := Lib.hid (fun k A n c B m d W (g1 : In_ holdK W A n c k.held) (g2 : In_ claimK W B m d k.queue) (g3 : AllL (fun t x => I64 t ∧ WnS x) k) (g4 : n + m ≤ 42) => lvictim_any A B n c m d k txn W g1.lst g2 (fun a ha => (g3.1 a ha).1) (fun a ha => (g3.2 a ha).1) (by omega))
    have KF := Lib.hid (fun k v A n c B m d W (g1 : In_ holdK W A n c k.held) (g2 : In_ claimK W B m d k.queue) (g3 : AllL (fun t x => I64 t ∧ WnS x) k) (g4 : n + m ≤ 42) => rfree_in A B n c m d k v W g1 g2 ⟨fun a ha => (g3.1 a ha).2, fun a ha => (g3.2 a ha).2⟩ (by omega))
    have K1 := Lib.hid (fun W q => lring_any A B n c m d l txn W (h1.q q) (h2.q q) hi.1 hi.2 (by omega))
    have HI0 := Lib.hid (fun W (q : Q w W) => And.intro (h.held.q q) (h2.q q))
    have HA0 := Lib.hid (show AllL (fun t x => I64 t ∧ WnS x) l from ⟨fun a ha => ⟨hi.1 a ha, hw.1 a ha⟩, fun a ha => ⟨hi.2 a ha, hw.2 a ha⟩⟩)
    have N1 := Lib.hid (show (ring l txn).length ≤ 4000 by have := ring_len l txn; omega)
    have H42 := Lib.hid (show n + m ≤ 42 by omega)
    clear h h1 h2 hi hw hs hnd hlh hlq
    go_enter Try.func7, Try.ntmps7
    go_wp2_with fail
    refine (rgshown_any _).mono ?_
    rintro e w1 ⟨rfl, q1⟩
    have X := Lib.hid ((Bx.new w [.slice A n c, .slice B m d] 25).q q1)
    have HG := Lib.hid (Nat.le_refl w.heap.size)
    have HQ := Lib.hid (((Q.refl w).alloc (.cells #[.slice A n c, .slice B m d] 25)).trans q1)
    clear q1
    obtain ⟨⟨x0, x1⟩, x2, x3⟩ := X.out.get2
    go_wp2_with fail
    refine (KS.out _).mono ?_
    rintro e w2 ⟨rfl, q2⟩
    have X := Lib.hid (X.out.q q2)
    have HQ := Lib.hid (HQ.out.trans q2)
    clear q2 x0 x1 x2 x3
    obtain ⟨⟨x0, x1⟩, x2, x3⟩ := X.out.get2
    obtain ⟨N, hN⟩ : ∃ N, (ring l txn).length = N := ⟨_, rfl⟩
    have HN := Lib.hid hN
    rw [hN] at K1 N1
    clear hN
    go_wp2_with fail
    refine (K1.out _ HQ.out).mono ?_
    rintro e w3 ⟨A1, c1, rfl, o1, q3⟩
    clear o1
    have X := Lib.hid (X.out.q q3)
    have HQ := Lib.hid (HQ.out.trans q3)
    clear q3 x0 x1 x2 x3
    obtain ⟨⟨x0, x1⟩, x2, x3⟩ := X.out.get2
    have hn1 := N1.out
    go_wp2
    clear x0 x1 x2 x3
    go_loopw [8] (fun i wr => ∃ (k : Nat) (A : Option Addr) (n c : Nat) (B : Option Addr) (m d : Nat) (t : Lo), k ≤ N ∧ i = .int .i64 k ∧ Q w wr ∧ Bx wr w.heap.size [.slice A n c, .slice B m d] ∧ In_ holdK wr A n c t.held ∧ In_ claimK wr B m d t.queue ∧ AllL (fun t x => I64 t ∧ WnS x) t ∧ n + m ≤ 42 ∧ (ring t txn).length + k ≤ N) (fun i _ => N - (intOf i).toNat)
    case atStart => exact ⟨0, A, n, c, B, m, d, l, Nat.zero_le _, rfl, HQ.out, X.out, (HI0.out _ HQ.out).1, (HI0.out _ HQ.out).2, HA0.out, H42.out, by rw [HN.out]; omega⟩
    case round =>
      clear X HQ HI0 HA0 H42
      obtain ⟨k, A, n, c, B, m, d, t, hk, rfl, q4, xb, i1, i2, ha, h42, hlen⟩ := hrel
      have X := Lib.hid xb
      have HQ := Lib.hid q4
      have I1 := Lib.hid i1
      have I2 := Lib.hid i2
      have HA := Lib.hid ha
      clear xb q4 i1 i2 ha
      obtain ⟨⟨x0, x1⟩, x2, x3⟩ := X.out.get2
      have KT := Lib.hid (KV.out t A n c B m d _ I1.out I2.out HA.out h42)
      by_cases hlt : k < N
      · have hki : (k : Int) < (N : Int) := by omega
        by_cases hr : ring t txn = []
        · rw [hr] at KT
          go_wp2_with fail
          refine KT.out.mono ?_
          rintro e w5 ⟨rfl, q5⟩
          have HQ := Lib.hid (HQ.out.trans q5)
          clear q5
          go_wp2
          go_ret
          exact ⟨by first | rfl | (simp; done), HQ.out⟩
        · obtain ⟨v, hv⟩ : ∃ v, (ring t txn).getLast? = some v := by
            cases h : (ring t txn).getLast? with
            | none => exact absurd (List.getLast?_eq_none_iff.1 h) hr
            | some v => exact ⟨v, rfl⟩
          have hvm : v ∈ ring t txn := List.mem_of_getLast? hv
          have hd : decide (ring t txn ≠ []) = true := by simp [hr]
          rw [hv, hd, Option.getD_some] at KT
          have HL := Lib.hid (ring_less (l := t) (a := txn) hvm)
          have KG := Lib.hid (fun W q => KF.out t v A n c B m d W (I1.out.q q) (I2.out.q q) HA.out h42)
          have HA2 := Lib.hid (all_free HA.out v)
          have HFl := Lib.hid (free_len t v)
          have hth := I1.out.len
          have htq := I2.out.len
          have hF : Lm.free t v = ((Lm.free t v).1, (Lm.free t v).2) := rfl
          rw [hF] at KG
          generalize (Lm.free t v).1 = t2 at KG HL HA2 HFl
          generalize (Lm.free t v).2 = fr at KG
          clear hF hvm hd hv hr
          go_wp2_with fail
          refine KT.out.mono ?_
          rintro e w5 ⟨rfl, q5⟩
          have HQ := Lib.hid (HQ.out.trans q5)
          have X := Lib.hid (X.out.q q5)
          have Q5 := Lib.hid q5
          clear q5 x0 x1 x2 x3
          obtain ⟨⟨x0, x1⟩, x2, x3⟩ := X.out.get2
          go_wp2_with fail
          refine (KG.out _ Q5.out).mono ?_
          rintro e w6 ⟨A2, n2, c2, B2, m2, d2, C2, p2, r2, rfl, o2, u2, v2, q6⟩
          clear v2
          go_upto_region 13 with (fail)
          have qa := (Q.refl w6).alloc (.cells #[.slice A2 n2 c2, .slice B2 m2 d2] 25)
          have HQ := Lib.hid ((HQ.out.trans q6).trans qa)
          have X := Lib.hid ((X.out.q q6).q qa)
          have O2 := Lib.hid (And.intro (o2.q qa) (u2.q qa))
          have Y : Hid (Bx (w6.alloc (.cells #[.slice A2 n2 c2, .slice B2 m2 d2] 25)) w6.heap.size [.slice A2 n2 c2, .slice B2 m2 d2]) := Lib.hid (Bx.new w6 [.slice A2 n2 c2, .slice B2 m2 d2] 25)
          have hn2 := o2.len
          have hm2 := u2.len
          clear qa q6 o2 u2 x0 x1 x2 x3
          generalize w6.alloc (.cells #[.slice A2 n2 c2, .slice B2 m2 d2] 25) = W6 at *
          generalize w6.heap.size = g6 at *
          obtain ⟨⟨x0, x1⟩, x2, x3⟩ := X.out.get2
          obtain ⟨⟨y0, y1⟩, y2, y3⟩ := Y.out.get2
          have Y1 : Hid ((W6.setCell ⟨w.heap.size, 0, none⟩ (.slice A2 n2 c2)).cell? ⟨w.heap.size, 1, none⟩ = some (.slice B m d)) := Lib.hid ((X.out.set (k := 0) (by simp) (.slice A2 n2 c2)) 1 _ rfl).1
          have Z1 := Lib.hid ((O2.out.1.odd oddH x0 (.slice A2 n2 c2)).odd oddH Y1.out (.slice B2 m2 d2))
          have Z2 := Lib.hid ((O2.out.2.odd oddC x0 (.slice A2 n2 c2)).odd oddC Y1.out (.slice B2 m2 d2))
          have X5 := Lib.hid (X.out.set2 (.slice A2 n2 c2) (.slice B2 m2 d2))
          have Q6 := Lib.hid (HQ.out.set2 (b := w.heap.size) (Nat.le_refl _) (.slice A2 n2 c2) (.slice B2 m2 d2))
          have hl2 := HL.out
          have hf2 := HFl.out
          go_wp2
          go_roundw
          case rel => exact ⟨k + 1, A2, n2, c2, B2, m2, d2, t2, by omega, by go_num, Q6.out, X5.out, Z1.out, Z2.out, HA2.out, by omega, by omega⟩
          case measure => simp [intOf]; omega
      · have hr : ring t txn = [] := List.eq_nil_of_length_eq_zero (by omega)
        rw [hr] at KT
        go_wp2_with fail
        refine KT.out.mono ?_
        rintro e w5 ⟨rfl, q5⟩
        have HQ := Lib.hid (HQ.out.trans q5)
        clear q5
        go_wp2
        go_ret
        exact ⟨by first | rfl | (simp; done), HQ.out⟩
  · rw [rgmany hs] at KS
    clear h hs
    go_enter Try.func7, Try.ntmps7
    go_wp2_with fail
    refine (rgshown_any _).mono ?_
    rintro e w1 ⟨rfl, q1⟩
    have X := Lib.hid ((Bx.new w [.slice A n c, .slice B m d] 25).q q1)
    have HQ := Lib.hid (((Q.refl w).alloc (.cells #[.slice A n c, .slice B m d] 25)).trans q1)
    clear q1
    obtain ⟨⟨x0, x1⟩, x2, x3⟩ := X.out.get2
    go_wp2_with fail
    refine (KS.out _).mono ?_
    rintro e w2 ⟨rfl, q2⟩
    have X := Lib.hid (X.out.q q2)
    have HQ := Lib.hid (HQ.out.trans q2)
    clear q2 x0 x1 x2 x3
    obtain ⟨⟨x0, x1⟩, x2, x3⟩ := X.out.get2
    go_wp2
    go_ret
    exact ⟨by first | rfl | (simp; done), HQ.out⟩

theorem opened (W : World) (args : Array Value) (hn : args.size = 2) (h : ∀ (j : Nat) t v, Try.f7.params[j]? = some t → args[j]? = some v → RdV W t v) :
    Calls Try.prog 7 args W fun e W' => e = .returned (.bool true) ∧ Q W W' := by
  obtain ⟨v0, v1, rfl⟩ := args2 hn
  rw [Try.params7] at h
  obtain ⟨cs, rfl, hr⟩ := (h 0 25 v0 rfl rfl).struct Try.underlying25
  obtain ⟨A, n, c, B, m, d, l, rfl, hl⟩ := open_locks hr
  obtain ⟨x1, rfl, _⟩ := (h 1 3 v1 rfl rfl).int Try.underlying3
  exact walk A B n c m d l x1 W hl

set_option maxRecDepth 100000 in
theorem lifted (os : Os) (started : os.Started) (H : Type) (enc : TypeId × Value → H) :
    ReturnsInHanded {} Try.checked os 7 .any (Rows.ringVictimSpec.pre6 enc Try.prog Try.f7 Rows.ringVictimRow.domain false) (Rows.ringVictimSpec.post enc Try.prog Try.f7 false true false false) :=
  framed 2 Try.func7 (by rw [Try.params7]; rfl) rfl (by kernel_rfl) (by kernel_rfl) (by kernel_rfl)
    (fun H ds h => by match ds, h with | [d0, d1], _ => exact ⟨rfl, rfl, rfl⟩)
    opened os started H enc
    (ChangeSpec.witness6 (enc := enc) (C := Try.checked) false ⟨#[], #[.agg #[.slice none 0 0, .slice none 0 0], .int .i64 0], []⟩ 8 (by kernel_rfl) (by kernel_rfl) (by kernel_rfl) (by kernel_rfl))

theorem over : Rows.ringVictimRow.holds Try.pinned (OpenSpec.ofChange Rows.ringVictimSpec) :=
  OpenClaim.holds_of_wide 7 Try.f7 rfl rfl rfl rfl rfl rfl rfl ⟨rfl, rfl, rfl, rfl, rfl⟩ rfl rfl rfl rfl rfl (by kernel_rfl) Try.func7 (by kernel_rfl)
    (of_decide_eq_true (by kernel_rfl)) (by unfold Func.isWrapper; first | (rw [if_pos (by decide +kernel)]; kernel_rfl) | (rw [if_neg (by decide +kernel)]; exact ⟨rfl, rfl⟩))
    (fun os started H enc _ => lifted os started H enc)

theorem proved : Rows.RingVictimSaid := over
end Go.Proofs.Ytncnfblnelkmbaa.ringVictim
