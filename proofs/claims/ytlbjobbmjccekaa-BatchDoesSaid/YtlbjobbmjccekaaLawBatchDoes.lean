/- For every state, batch, token and other state: what a batch makes of a state, whether a token is decided, and which states are the same, are as the document says. No condition. -/
import Derived.Test.YtlbjobbmjccekaaBatchIn
import Derived.Test.YtlbjobbmjccekaaBatchShown
import Derived.Test.YtlbjobbmjccekaaBatchDoRef
import Derived.Test.YtlbjobbmjccekaaBatchSame
import Derived.Test.YtlbjobbmjccekaaTableMath
namespace Go.Proofs.Ytlbjobbmjccekaa.batchDoes
set_option maxRecDepth 100000
open Go.ChangeShapes Go.WideShapes Go.ChangeAt Go.RowKit Prm
set_option linter.unusedVariables false
set_option linter.unusedSimpArgs false

/-- the law's boxes. -/
structure Dz (w : World) (A : Option Addr) (n c : Nat) (B : Option Addr) (m d : Nat) (k : Int) (tok : ByteArray) (C : Option Addr) (p q : Nat) (A2 : Option Addr) (n2 c2 : Nat) (B2 : Option Addr) (m2 d2 : Nat) (wi : World) : Prop where
  b1 : Bx wi (w.heap.size + 1) [.slice A n c, .slice B m d]
  b2 : Bx wi (w.heap.size + 1 + 1) [.int .i64 k, .string tok, .slice C p q]
  b3 : Bx wi (w.heap.size + 1 + 1 + 1) [.slice A2 n2 c2, .slice B2 m2 d2]
  q : Q w wi
theorem Dz.step {w wi wj : World} {A B C A2 B2 : Option Addr} {n c m d p q n2 c2 m2 d2 : Nat} {k : Int} {tok : ByteArray} (h : Dz w A n c B m d k tok C p q A2 n2 c2 B2 m2 d2 wi) (y : Q wi wj) : Dz w A n c B m d k tok C p q A2 n2 c2 B2 m2 d2 wj :=
  ⟨h.b1.q y, h.b2.q y, h.b3.q y, h.q.trans y⟩
theorem Dz.new (w : World) (A : Option Addr) (n c : Nat) (B : Option Addr) (m d : Nat) (k : Int) (tok : ByteArray) (C : Option Addr) (p q : Nat) (token : ByteArray) (A2 : Option Addr) (n2 c2 : Nat) (B2 : Option Addr) (m2 d2 : Nat) :
    Dz w A n c B m d k tok C p q A2 n2 c2 B2 m2 d2 ((((w.alloc (.cells #[.slice A n c, .slice B m d, .int .i64 k, .string tok, .slice C p q, .string token, .slice A2 n2 c2, .slice B2 m2 d2] 42)).alloc (.cells #[.slice A n c, .slice B m d] 40)).alloc (.cells #[.int .i64 k, .string tok, .slice C p q] 24)).alloc (.cells #[.slice A2 n2 c2, .slice B2 m2 d2] 40)) := by
  refine ⟨?_, ?_, ?_, ((((Q.refl w).alloc _).alloc _).alloc _).alloc _⟩
  · have := ((Bx.new (w.alloc (.cells #[.slice A n c, .slice B m d, .int .i64 k, .string tok, .slice C p q, .string token, .slice A2 n2 c2, .slice B2 m2 d2] 42)) [.slice A n c, .slice B m d] 40).alloc (.cells #[.int .i64 k, .string tok, .slice C p q] 24)).alloc (.cells #[.slice A2 n2 c2, .slice B2 m2 d2] 40)
    simpa using this
  · have := (Bx.new ((w.alloc (.cells #[.slice A n c, .slice B m d, .int .i64 k, .string tok, .slice C p q, .string token, .slice A2 n2 c2, .slice B2 m2 d2] 42)).alloc (.cells #[.slice A n c, .slice B m d] 40)) [.int .i64 k, .string tok, .slice C p q] 24).alloc (.cells #[.slice A2 n2 c2, .slice B2 m2 d2] 40)
    simpa using this
  · have := Bx.new (((w.alloc (.cells #[.slice A n c, .slice B m d, .int .i64 k, .string tok, .slice C p q, .string token, .slice A2 n2 c2, .slice B2 m2 d2] 42)).alloc (.cells #[.slice A n c, .slice B m d] 40)).alloc (.cells #[.int .i64 k, .string tok, .slice C p q] 24)) [.slice A2 n2 c2, .slice B2 m2 d2] 40
    simpa using this

set_option maxHeartbeats 8000000 in
theorem walk (A B C A2 B2 : Option Addr) (n c m d p q n2 c2 m2 d2 : Nat) (k : Int) (tok token : ByteArray) (l t : List Pr) (ws : List Wr) (l2 t2 : List Pr) (w : World) (hA : In_ pairK w A n c l) (hB : In_ pairK w B m d t) (hC : In_ writeK w C p q ws) (hA2 : In_ pairK w A2 n2 c2 l2) (hB2 : In_ pairK w B2 m2 d2 t2)
    (b1 : n * 32 ≤ 140737488351232) (b2 : m * 32 ≤ 140737488351232) (k1 : KeysIn l) (k2 : KeysIn t) (k3 : WKeysIn ws) (k4 : tok.size ≤ maxLen) :
    Calls Try.prog 4 #[.agg #[.slice A n c, .slice B m d, .int .i64 k, .string tok, .slice C p q, .string token, .slice A2 n2 c2, .slice B2 m2 d2]] w fun e w' => e = .returned (.bool true) ∧ Q w w' := by
  have HA := Lib.hid hA
  have HB := Lib.hid hB
  have HA2 := Lib.hid hA2
  have HB2 := Lib.hid hB2
  have KD := Lib.hid (fun W y => bdo_any k tok A B C n c m d p q l t ws W (hA.q y) (hB.q y) (hC.lst.q y) hC.max (by omega) (by omega))
  have KR := Lib.hid (fun W y => refDo_any k tok A B C n c m d p q l t ws W (hA.q y) (hB.q y) (hC.lst.q y) hC.max (by omega) (by omega) k1 k2 k3 k4)
  have KT := Lib.hid (fun W y => decided_any token A B n c m d t W (hB.lst.q y) hB.max)
  have KU := Lib.hid (fun W y => refDecided_any token A B n c m d t W (hB.lst.q y) hB.max)
  have KS := Lib.hid (fun W y => bsame_any A B A2 B2 n c m d n2 c2 m2 d2 ⟨l, t⟩ ⟨l2, t2⟩ W (hA.q y) (hB.q y) (hA2.q y) (hB2.q y))
  have KV := Lib.hid (fun W y => refSameS_any A B A2 B2 n c m d n2 c2 m2 d2 ⟨l, t⟩ ⟨l2, t2⟩ W (hA.q y) (hB.q y) (hA2.q y) (hB2.q y))
  have KX := Lib.hid (fun W y => bsame_any A B A B n c m d n c m d ⟨l, t⟩ ⟨l, t⟩ W (hA.q y) (hB.q y) (hA.q y) (hB.q y))
  generalize decide ((⟨l, t⟩ : Bm.Sta) = ⟨l2, t2⟩) = r1 at KS KV
  rw [decide_eq_true rfl] at KX
  have hlen : (Bm.doo ⟨l, t⟩ ⟨k, tok, ws⟩).1.data.length * 32 ≤ 140737488355328 ∧ (Bm.doo ⟨l, t⟩ ⟨k, tok, ws⟩).1.toks.length * 32 ≤ 140737488355328 := by
    have h1 := Bm.doo_len ⟨l, t⟩ ⟨k, tok, ws⟩
    have h2 := hA.len
    have h3 := hB.len
    simp only at h1
    omega
  generalize Bm.doo ⟨l, t⟩ ⟨k, tok, ws⟩ = T at KD KR hlen
  obtain ⟨T, er⟩ := T
  simp only at hlen
  have HTl := Lib.hid hlen
  generalize find token t = fr at KT KU
  obtain ⟨fs, fb⟩ := fr
  clear hA hB hC hA2 hB2 b1 b2 k1 k2 k3 k4 hlen
  go_enter Try.func4, Try.ntmps4
  go_upto_region 5 with (fail)
  have X := Lib.hid (Dz.new w A n c B m d k tok C p q token A2 n2 c2 B2 m2 d2)
  generalize ((((w.alloc (.cells #[.slice A n c, .slice B m d, .int .i64 k, .string tok, .slice C p q, .string token, .slice A2 n2 c2, .slice B2 m2 d2] 42)).alloc (.cells #[.slice A n c, .slice B m d] 40)).alloc (.cells #[.int .i64 k, .string tok, .slice C p q] 24)).alloc (.cells #[.slice A2 n2 c2, .slice B2 m2 d2] 40)) = w0 at X ⊢
  go_wp2_with fail
  refine (bshown_any _).mono ?_
  rintro e w1 ⟨rfl, q1⟩
  have X1 := Lib.hid (X.out.step q1)
  clear q1 X
  obtain ⟨c0, c1⟩ := X1.out.b1.get2.1
  obtain ⟨d0, d1, d2'⟩ := X1.out.b2.get3.1
  go_wp2_with fail
  refine (KD.out _ X1.out.q).mono ?_
  rintro e w2 ⟨A5, c5, B5, d5, rfl, o5, t5, q5⟩
  simp only at o5 t5
  have X2 := Lib.hid (X1.out.step (q5.alloc (.cells #[.slice A5 T.data.length c5, .slice B5 T.toks.length d5] 40)))
  have Y2 := Lib.hid (Bx.new w2 [.slice A5 T.data.length c5, .slice B5 T.toks.length d5] 40)
  have O2 := Lib.hid (And.intro ((o5.in_ HTl.out.1).q ((Q.refl _).alloc (.cells #[.slice A5 T.data.length c5, .slice B5 T.toks.length d5] 40))) ((t5.in_ HTl.out.2).q ((Q.refl _).alloc (.cells #[.slice A5 T.data.length c5, .slice B5 T.toks.length d5] 40))))
  clear o5 t5 q5 c0 c1 d0 d1 d2' X1
  obtain ⟨c0, c1⟩ := X2.out.b1.get2.1
  obtain ⟨d0, d1, d2'⟩ := X2.out.b2.get3.1
  go_wp2_with fail
  refine (KR.out _ X2.out.q).mono ?_
  rintro e w3 ⟨A6, n6, c6, B6, m6, d6, rfl, o6, t6, q6⟩
  simp only at o6 t6
  have X3 := Lib.hid (X2.out.step (q6.alloc (.cells #[.slice A6 n6 c6, .slice B6 m6 d6] 40)))
  have Y3 := Lib.hid (Bx.new w3 [.slice A6 n6 c6, .slice B6 m6 d6] 40)
  have Z3 := Lib.hid ((Y2.out.q q6).alloc (.cells #[.slice A6 n6 c6, .slice B6 m6 d6] 40))
  have P3 := Lib.hid (And.intro (O2.out.1.q (q6.alloc (.cells #[.slice A6 n6 c6, .slice B6 m6 d6] 40))) (O2.out.2.q (q6.alloc (.cells #[.slice A6 n6 c6, .slice B6 m6 d6] 40))))
  have O3 := Lib.hid (And.intro (o6.q ((Q.refl _).alloc (.cells #[.slice A6 n6 c6, .slice B6 m6 d6] 40))) (t6.q ((Q.refl _).alloc (.cells #[.slice A6 n6 c6, .slice B6 m6 d6] 40))))
  clear o6 t6 q6 c0 c1 d0 d1 d2' X2 O2 Y2
  obtain ⟨c0, c1⟩ := Z3.out.get2.1
  obtain ⟨d0, d1⟩ := Y3.out.get2.1
  go_wp2_with fail
  refine (refSameS_any A5 B5 A6 B6 T.data.length c5 T.toks.length d5 n6 c6 m6 d6 T T _ P3.out.1 P3.out.2 O3.out.1 O3.out.2).mono ?_
  rw [decide_eq_true rfl]
  rintro e w4 ⟨rfl, q4⟩
  have X4 := Lib.hid (X3.out.step q4)
  clear q4 c0 c1 d0 d1 X3 Y3 Z3 P3 O3
  obtain ⟨c0, c1⟩ := X4.out.b1.get2.1
  go_wp2_with fail
  refine (KT.out _ X4.out.q).mono ?_
  rintro e w5 ⟨rfl, q5⟩
  have X5 := Lib.hid (X4.out.step q5)
  clear q5 c0 c1 X4
  obtain ⟨c0, c1⟩ := X5.out.b1.get2.1
  go_wp2_with fail
  refine (KU.out _ X5.out.q).mono ?_
  rintro e w6 ⟨rfl, q6⟩
  have X6 := Lib.hid (X5.out.step q6)
  clear q6 c0 c1 X5
  obtain ⟨c0, c1⟩ := X6.out.b1.get2.1
  obtain ⟨d0, d1⟩ := X6.out.b3.get2.1
  have hbb : (r1 == r1) = true := by cases r1 <;> rfl
  have hfb : (fb == fb) = true := by cases fb <;> rfl
  go_wp2
  go_region_held3 (fun w' => w'.cell? ⟨w.heap.size + 1, 0, none⟩ = some (.slice A n c) ∧ w'.cell? ⟨w.heap.size + 1, 1, none⟩ = some (.slice B m d) ∧ w'.cell? ⟨w.heap.size + 1 + 1 + 1, 0, none⟩ = some (.slice A2 n2 c2) ∧ w'.cell? ⟨w.heap.size + 1 + 1 + 1, 1, none⟩ = some (.slice B2 m2 d2))
    (first
      | go_keep
      | (go_split_ands
         (repeat' apply And.intro) <;> exact box_ ‹Q _ _› (by assumption)))
    (first
      | (go_at_call 24
         (with_reducible refine (KS.out _ X6.out.q.drew).mono ?_)
         rintro e w7 ⟨rfl, y7⟩)
      | (go_at_call 21
         (with_reducible refine (KV.out _ (X6.out.q.drew.trans y7)).mono ?_)
         rintro e w8 ⟨rfl, y8⟩)
      | (go_at_call 24
         (with_reducible refine (KX.out _ ((X6.out.q.drew.trans y7).trans y8)).mono ?_)
         rintro e w9 ⟨rfl, y9⟩))
  have Y := Lib.hid (((X6.out.q.drew.trans y7).trans y8).trans y9)
  clear y7 y8 y9
  go_wp2
  go_ret
  exact ⟨by first | rfl | simp, Y.out⟩
theorem opened (W : World) (args : Array Value) (hn : args.size = 1) (h : ∀ (j : Nat) t v, Try.f4.params[j]? = some t → args[j]? = some v → RdV W t v) :
    Calls Try.prog 4 args W fun e W' => e = .returned (.bool true) ∧ Q W W' := by
  obtain ⟨v, rfl⟩ := args1 hn
  rw [Try.params4] at h
  obtain ⟨cs, rfl, hr⟩ := (h 0 42 v rfl rfl).struct Try.underlying42
  obtain ⟨hl, _⟩ := hr.struct Try.underlying42
  rw [show Try.prog.cellsOf 42 = 8 by kernel_rfl] at hl
  match cs, hl with
  | [x0, x1, x2, x3, x4, x5, x6, x7], _ =>
    obtain ⟨A, n, c, l, B, m, d, t, e0, iA, bA, pA, iB, bB, pB⟩ := open_state (hr.field Try.underlying42 0 (ty := 40) 0 2 rfl (by kernel_rfl))
    obtain ⟨k, tok, C, p, q, ws, e1, st, iC, bC, pC, _⟩ := open_batch (hr.field Try.underlying42 1 (ty := 24) 2 3 rfl (by kernel_rfl))
    obtain ⟨token, e2, s2⟩ := (hr.field Try.underlying42 2 (ty := 9) 5 1 rfl (by kernel_rfl)).string Try.underlying9
    obtain ⟨A2, n2, c2, l2, B2, m2, d2, t2, e3, iA2, bA2, pA2, iB2, bB2, pB2⟩ := open_state (hr.field Try.underlying42 3 (ty := 40) 6 2 rfl (by kernel_rfl))
    simp at e0 e1 e2 e3
    obtain ⟨rfl, rfl⟩ := e0
    obtain ⟨rfl, rfl, rfl⟩ := e1
    subst e2
    obtain ⟨rfl, rfl⟩ := e3
    exact walk A B C A2 B2 n c m d p q n2 c2 m2 d2 k tok token l t ws l2 t2 W iA iB iC iA2 iB2 bA bB (keys_in pA) (keys_in pB) (wkeys_in pC) (by unfold maxLen; omega)

set_option maxRecDepth 100000 in
theorem lifted (os : Os) (started : os.Started) (H : Type) (enc : TypeId × Value → H) :
    ReturnsInHanded {} Try.checked os 4 .any (Rows.batchDoesSpec.pre6 enc Try.prog Try.f4 Rows.batchDoesRow.domain false) (Rows.batchDoesSpec.post enc Try.prog Try.f4 false true false false) :=
  framed 1 Try.func4 (by rw [Try.params4]; rfl) rfl (by kernel_rfl) (by kernel_rfl) (by kernel_rfl)
    (fun H ds h => by match ds, h with | [d0], _ => exact ⟨rfl, rfl, rfl⟩)
    opened os started H enc
    (ChangeSpec.witness6 (enc := enc) (C := Try.checked) false ⟨#[], #[.agg #[.slice none 0 0, .slice none 0 0, .int .i64 0, .string ⟨#[]⟩, .slice none 0 0, .string ⟨#[]⟩, .slice none 0 0, .slice none 0 0]], []⟩ 8 (by kernel_rfl) (by kernel_rfl) (by kernel_rfl) (by kernel_rfl))

theorem over : Rows.batchDoesRow.holds Try.pinned (OpenSpec.ofChange Rows.batchDoesSpec) :=
  OpenClaim.holds_of_wide 4 Try.f4 rfl rfl rfl rfl rfl rfl rfl ⟨rfl, rfl, rfl, rfl, rfl⟩ rfl rfl rfl rfl rfl (by kernel_rfl) Try.func4 (by kernel_rfl)
    (of_decide_eq_true (by kernel_rfl)) (by unfold Func.isWrapper; first | (rw [if_pos (by decide +kernel)]; kernel_rfl) | (rw [if_neg (by decide +kernel)]; exact ⟨rfl, rfl⟩))
    (fun os started H enc _ => lifted os started H enc)

theorem proved : Rows.BatchDoesSaid := over
end Go.Proofs.Ytlbjobbmjccekaa.batchDoes
