/- For every state and every row of pairs whose data lie within the bound of the form: a state as pairs, and the state of pairs, are as the document says. -/
import Derived.Test.YtlbjobbmjccekaaA5
import Derived.Test.YtlbjobbmjccekaaA7
import Derived.Test.YtlbjobbmjccekaaA8
import Derived.Test.YtlbjobbmjccekaaA3
import Derived.Test.YtlbjobbmjccekaaA9
namespace Go.Proofs.Ytlbjobbmjccekaa.batchPairsUpto
set_option maxRecDepth 100000
open Go.ChangeShapes Go.WideShapes Go.ChangeAt Go.RowKit Prm
set_option linter.unusedVariables false
set_option linter.unusedSimpArgs false
theorem Bm.backL_len : ∀ (l : List Pr) (s t : Bm.Sta), Bm.backL l s = some t → t.data.length + t.toks.length = s.data.length + s.toks.length + l.length
  | [], s, t, h => by simp only [Bm.backL, Option.some.injEq] at h; subst h; simp
  | p :: l, s, t, h => by
    unfold Bm.backL at h
    cases hs : Bm.step s p with
    | none => rw [hs] at h; cases h
    | some u =>
      rw [hs] at h
      have h1 := Bm.step_len hs
      have h2 := Bm.backL_len l u t h
      simp only [List.length_cons]; omega
theorem Bm.back_len (l : List Pr) : (Bm.back l).1.data.length + (Bm.back l).1.toks.length ≤ l.length := by
  unfold Bm.back
  cases h : Bm.backL l ⟨[], []⟩ with
  | none => simp
  | some t => have := Bm.backL_len l ⟨[], []⟩ t h; simp at this; simp only; omega


set_option maxHeartbeats 8000000 in
theorem walk (A B C : Option Addr) (n c m d p q : Nat) (l t r : List Pr) (w : World) (hA : In_ pairK w A n c l) (hB : In_ pairK w B m d t) (hC : In_ pairK w C p q r) (hn : n ≤ 1048576) (hm : m ≤ 1048576) (hp : p ≤ 1048576) (k1 : KeysLow l) (k2 : KeysLow t) (k3 : KeysLow r) :
    Calls Try.prog 5 #[staV A n c B m d, .slice C p q] w fun e w' => e = .returned (.bool true) ∧ Q w w' := by
  have KP := Lib.hid (fun W y => bpairs_any A B n c m d ⟨l, t⟩ W (hA.lst.q y) (hB.lst.q y) (by omega) k1 k2)
  have KR := Lib.hid (fun W y => refPairs_any A B n c m d ⟨l, t⟩ W (hA.lst.q y) (hB.lst.q y) (by omega) k1 k2)
  have KB := Lib.hid (fun W y => bback_any C p q r W (hC.lst.q y) (by omega))
  have KC := Lib.hid (fun W y => refBack_any C p q r W (hC.lst.q y) (by omega) k3)
  have hln : (Bm.back r).1.data.length * 32 ≤ 140737488355328 ∧ (Bm.back r).1.toks.length * 32 ≤ 140737488355328 := by
    have := Bm.back_len r
    have := hC.len
    omega
  generalize Bm.pairs ⟨l, t⟩ = PP at KP KR
  generalize Bm.back r = T at KB KC hln
  obtain ⟨T, er⟩ := T
  simp only at hln
  have HTl := Lib.hid hln
  have hnm : n + m ≤ maxLen := by unfold maxLen; omega
  clear hA hB hC hn hm hp k1 k2 k3 hln
  go_enter Try.func5, Try.ntmps5
  go_wp2_with fail
  refine (bshown_any _).mono ?_
  rintro e w1 ⟨rfl, q1⟩
  have X1 := Lib.hid ((Bx.new w [.slice A n c, .slice B m d] 40).q q1)
  have Q1 := Lib.hid (((Q.refl w).alloc _).trans q1)
  clear q1
  obtain ⟨c0, c1⟩ := X1.out.get2.1
  go_wp2
  go_region_held3 (fun w' => w'.cell? ⟨w.heap.size, 0, none⟩ = some (.slice A n c) ∧ w'.cell? ⟨w.heap.size, 1, none⟩ = some (.slice B m d))
    (first
      | go_keep
      | (go_split_ands
         (repeat' apply And.intro) <;> exact box_ ‹Q _ _› (by assumption)))
    (first
      | (go_at_call 26
         refine (KP.out _ Q1.out.drew).mono ?_
         rintro e w2 ⟨A2, c2, rfl, o2, y2⟩)
      | (go_at_call 27
         refine (KR.out _ (Q1.out.drew.trans y2)).mono ?_
         rintro e w3 ⟨A3, c3, rfl, o3, y3⟩)
      | (go_at_call 25
         refine (refSame_any A2 A3 (n + m) c2 (n + m) c3 PP PP _ (o2.lst.q y3) o3.lst hnm hnm).mono ?_
         rw [decide_eq_true rfl]
         rintro e w4 ⟨rfl, y4⟩))
  have Q4 := Lib.hid (((Q1.out.drew.trans y2).trans y3).trans y4)
  clear y2 y3 y4 o2 o3 c0 c1
  go_wp2_with fail
  refine (KB.out _ Q4.out).mono ?_
  rintro e w5 ⟨A5, c5, B5, d5, rfl, o5, t5, q5⟩
  simp only at o5 t5
  have Q5 := Lib.hid ((Q4.out.trans q5).alloc (.cells #[.slice A5 T.data.length c5, .slice B5 T.toks.length d5] 40))
  have Y5 := Lib.hid (Bx.new w5 [.slice A5 T.data.length c5, .slice B5 T.toks.length d5] 40)
  have O5 := Lib.hid (And.intro ((o5.in_ HTl.out.1).q ((Q.refl _).alloc (.cells #[.slice A5 T.data.length c5, .slice B5 T.toks.length d5] 40))) ((t5.in_ HTl.out.2).q ((Q.refl _).alloc (.cells #[.slice A5 T.data.length c5, .slice B5 T.toks.length d5] 40))))
  clear o5 t5 q5 Q4
  go_wp2_with fail
  refine (KC.out _ Q5.out).mono ?_
  rintro e w6 ⟨A6, c6, B6, d6, rfl, o6, t6, q6⟩
  simp only at o6 t6
  have Q6 := Lib.hid ((Q5.out.trans q6).alloc (.cells #[.slice A6 T.data.length c6, .slice B6 T.toks.length d6] 40))
  have Y6 := Lib.hid (Bx.new w6 [.slice A6 T.data.length c6, .slice B6 T.toks.length d6] 40)
  have Z6 := Lib.hid ((Y5.out.q q6).alloc (.cells #[.slice A6 T.data.length c6, .slice B6 T.toks.length d6] 40))
  have P6 := Lib.hid (And.intro (O5.out.1.q (q6.alloc (.cells #[.slice A6 T.data.length c6, .slice B6 T.toks.length d6] 40))) (O5.out.2.q (q6.alloc (.cells #[.slice A6 T.data.length c6, .slice B6 T.toks.length d6] 40))))
  have O6 := Lib.hid (And.intro ((o6.in_ HTl.out.1).q ((Q.refl _).alloc (.cells #[.slice A6 T.data.length c6, .slice B6 T.toks.length d6] 40))) ((t6.in_ HTl.out.2).q ((Q.refl _).alloc (.cells #[.slice A6 T.data.length c6, .slice B6 T.toks.length d6] 40))))
  clear o6 t6 q6 Q5 Y5 O5
  obtain ⟨c0, c1⟩ := Z6.out.get2.1
  obtain ⟨d0, d1⟩ := Y6.out.get2.1
  go_wp2_with fail
  refine (refSameS_any A5 B5 A6 B6 T.data.length c5 T.toks.length d5 T.data.length c6 T.toks.length d6 T T _ P6.out.1 P6.out.2 O6.out.1 O6.out.2).mono ?_
  rw [decide_eq_true rfl]
  rintro e w7 ⟨rfl, q7⟩
  have Q7 := Lib.hid (Q6.out.trans q7)
  clear q7
  go_wp2
  go_ret
  exact ⟨by first | rfl | simp, Q7.out⟩
theorem keys_low {l : List Pr} (h : ∀ p ∈ l, PrIn p) : KeysLow l := fun p hp => by have := (h p hp).1; omega
theorem opened (W : World) (args : Array Value) (hn : args.size = 2) (h : ∀ (j : Nat) t v, Try.f5.params[j]? = some t → args[j]? = some v → RdV W t v ∧ (true = true → RdU W t v.cells.toList)) :
    Calls Try.prog 5 args W fun e W' => e = .returned (.bool true) ∧ Q W W' := by
  obtain ⟨v0, v1, rfl⟩ := args2 hn
  rw [Try.params5] at h
  obtain ⟨h1, h2⟩ := h 0 40 v0 rfl rfl
  obtain ⟨cs, rfl, hr⟩ := h1.struct Try.underlying40
  have hu := h2 rfl
  rw [show (Value.agg cs.toArray).cells.toList = cs by simp [Value.cells]] at hu
  obtain ⟨A, n, c, l, B, m, d, t, rfl, iA, bA, pA, iB, bB, pB⟩ := open_state hr
  obtain ⟨g1, g2⟩ := h 1 38 v1 rfl rfl
  obtain ⟨C0, p0, q0, rfl, hr2⟩ := g1.slice Try.underlying38
  have gu := g2 rfl
  obtain ⟨C, p, q, r, e2, iC, bC, pC⟩ := open_pairs hr2
  simp only [List.cons.injEq, Value.slice.injEq, and_true] at e2
  obtain ⟨rfl, rfl, rfl⟩ := e2
  have u0 := small_list iA (fun a ha => RdU.cap (w := W) (t := 38) (a := a) (len := n) (cap := c) (by subst ha; exact (hu.field Try.underlying40 0 (ty := 38) 0 1 rfl (by kernel_rfl))) Try.underlying38)
  have u1 := small_list iB (fun a ha => RdU.cap (w := W) (t := 38) (a := a) (len := m) (cap := d) (by subst ha; exact (hu.field Try.underlying40 1 (ty := 38) 1 1 rfl (by kernel_rfl))) Try.underlying38)
  have u2 := small_list iC (fun a ha => RdU.cap (w := W) (t := 38) (a := a) (len := p0) (cap := q0) (by subst ha; exact gu) Try.underlying38)
  exact walk A B C0 n c m d p0 q0 l t r W iA iB iC u0 u1 u2 (keys_low pA) (keys_low pB) (keys_low pC)

set_option maxRecDepth 100000 in
theorem lifted (os : Os) (started : os.Started) (H : Type) (enc : TypeId × Value → H) (F : Stop.Interp) :
    ReturnsInHanded {} Try.checked os 5 .any ((Rows.OpenSpec.upto Rows.batchPairsSpec).pre6 enc Try.prog Try.f5 Rows.batchPairsUptoRow.domain false) (((Rows.OpenSpec.upto Rows.batchPairsSpec).at F).post enc Try.prog Try.f5 false true false false) :=
  framedU (s := Rows.batchPairsSpec) 2 Try.func5 (by rw [Try.params5]; rfl) rfl (by kernel_rfl) (by kernel_rfl) (by kernel_rfl)
    (fun H ds h => by match ds, h with | [d0, d1], _ => exact ⟨rfl, rfl, rfl⟩)
    opened os started H enc F
    (OpenSpec.witness (enc := enc) (C := Try.checked) (s := Rows.OpenSpec.upto Rows.batchPairsSpec) (k := Rows.uptoSmall) rfl false ⟨#[], #[.agg #[.slice none 0 0, .slice none 0 0], .slice none 0 0], []⟩ 8 (by kernel_rfl) (by kernel_rfl) (by kernel_rfl)
      (x := ([.agg [.nil, .nil], .nil], [], [])) (by kernel_rfl) (by kernel_rfl) (by kernel_rfl))

theorem proved : Rows.BatchPairsUptoSaid :=
  OpenClaim.holds_of_cond 5 Try.f5 rfl rfl rfl rfl rfl rfl rfl ⟨rfl, rfl, rfl, rfl, rfl⟩ rfl rfl rfl rfl rfl (by kernel_rfl) Try.func5 (by kernel_rfl)
    (of_decide_eq_true (by kernel_rfl)) (by unfold Func.isWrapper; first | (rw [if_pos (by decide +kernel)]; kernel_rfl) | (rw [if_neg (by decide +kernel)]; exact ⟨rfl, rfl⟩))
    (fun os started H enc _ F => lifted os started H enc F)
end Go.Proofs.Ytlbjobbmjccekaa.batchPairsUpto
