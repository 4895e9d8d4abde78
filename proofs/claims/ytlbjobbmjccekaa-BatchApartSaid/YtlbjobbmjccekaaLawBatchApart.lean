/- For every state, batch, key and token: a batch changes no key but those that it writes, and no token but its own. No condition. -/
import Derived.Test.YtlbjobbmjccekaaBatchIn
import Derived.Test.YtlbjobbmjccekaaBatchShown
import Derived.Test.YtlbjobbmjccekaaTableRef5
import Derived.Test.YtlbjobbmjccekaaTableMath
namespace Go.Proofs.Ytlbjobbmjccekaa.batchApart
set_option maxRecDepth 100000
open Go.ChangeShapes Go.WideShapes Go.ChangeAt Go.RowKit Prm
set_option linter.unusedVariables false
set_option linter.unusedSimpArgs false

/-- the law's boxes. -/
structure Dz (w : World) (A : Option Addr) (n c : Nat) (B : Option Addr) (m d : Nat) (k : Int) (tok : ByteArray) (C : Option Addr) (p q : Nat) (wi : World) : Prop where
  b1 : Bx wi (w.heap.size + 1) [.slice A n c, .slice B m d]
  b2 : Bx wi (w.heap.size + 1 + 1) [.int .i64 k, .string tok, .slice C p q]
  q : Q w wi
theorem Dz.step {w wi wj : World} {A B C : Option Addr} {n c m d p q : Nat} {k : Int} {tok : ByteArray} (h : Dz w A n c B m d k tok C p q wi) (y : Q wi wj) : Dz w A n c B m d k tok C p q wj := ⟨h.b1.q y, h.b2.q y, h.q.trans y⟩
theorem Dz.new (w : World) (A : Option Addr) (n c : Nat) (B : Option Addr) (m d : Nat) (k : Int) (tok : ByteArray) (C : Option Addr) (p q : Nat) (key token : ByteArray) : Dz w A n c B m d k tok C p q (((w.alloc (.cells #[.slice A n c, .slice B m d, .int .i64 k, .string tok, .slice C p q, .string key, .string token] 61)).alloc (.cells #[.slice A n c, .slice B m d] 40)).alloc (.cells #[.int .i64 k, .string tok, .slice C p q] 24)) := by
  refine ⟨?_, ?_, (((Q.refl w).alloc _).alloc _).alloc _⟩
  · have := (Bx.new (w.alloc (.cells #[.slice A n c, .slice B m d, .int .i64 k, .string tok, .slice C p q, .string key, .string token] 61)) [.slice A n c, .slice B m d] 40).alloc (.cells #[.int .i64 k, .string tok, .slice C p q] 24)
    simpa using this
  · have := Bx.new ((w.alloc (.cells #[.slice A n c, .slice B m d, .int .i64 k, .string tok, .slice C p q, .string key, .string token] 61)).alloc (.cells #[.slice A n c, .slice B m d] 40)) [.int .i64 k, .string tok, .slice C p q] 24
    simpa using this

set_option maxHeartbeats 8000000 in
theorem walk (A B C : Option Addr) (n c m d p q : Nat) (k : Int) (tok key token : ByteArray) (l t : List Pr) (ws : List Wr) (w : World) (hA : In_ pairK w A n c l) (hB : In_ pairK w B m d t) (hC : In_ writeK w C p q ws)
    (b1 : n * 32 ≤ 140737488351232) (b2 : m * 32 ≤ 140737488351232) :
    Calls Try.prog 9 #[.agg #[.slice A n c, .slice B m d, .int .i64 k, .string tok, .slice C p q, .string key, .string token]] w fun e w' => e = .returned (.bool true) ∧ Q w w' := by
  have HC := Lib.hid hC
  have HCl := Lib.hid hC.len
  have KD := Lib.hid (fun W y => bdo_any k tok A B C n c m d p q l t ws W (hA.q y) (hB.q y) (hC.lst.q y) hC.max (by omega) (by omega))
  have KF := Lib.hid (fun W y => refFind_any key A n c l W (hA.lst.q y) hA.max)
  have KT := Lib.hid (fun W y => decided_any token A B n c m d t W (hB.lst.q y) hB.max)
  have hp0 : p ≤ 9223372036854775807 := hC.max
  have hlen : (Bm.doo ⟨l, t⟩ ⟨k, tok, ws⟩).1.data.length ≤ maxLen ∧ (Bm.doo ⟨l, t⟩ ⟨k, tok, ws⟩).1.toks.length ≤ maxLen := by
    have h1 := Bm.doo_len ⟨l, t⟩ ⟨k, tok, ws⟩
    have h2 := hA.len
    have h3 := hB.len
    simp only at h1
    unfold maxLen; omega
  have hfa := fun h => Bm.find_apart (key := key) ⟨l, t⟩ ⟨k, tok, ws⟩ h
  have hfb := fun h => Bm.find_tok_apart (tok := token) ⟨l, t⟩ ⟨k, tok, ws⟩ h
  generalize Bm.doo ⟨l, t⟩ ⟨k, tok, ws⟩ = T at KD hlen hfa hfb
  obtain ⟨T, er⟩ := T
  simp only at hlen hfa hfb
  have HTl := Lib.hid hlen
  have HFA := Lib.hid hfa
  have HFB := Lib.hid hfb
  clear hA hB hC b1 b2 hlen hfa hfb
  go_enter Try.func9, Try.ntmps9
  go_upto_region 5 with (fail)
  have X := Lib.hid (Dz.new w A n c B m d k tok C p q key token)
  generalize (((w.alloc (.cells #[.slice A n c, .slice B m d, .int .i64 k, .string tok, .slice C p q, .string key, .string token] 61)).alloc (.cells #[.slice A n c, .slice B m d] 40)).alloc (.cells #[.int .i64 k, .string tok, .slice C p q] 24)) = w0 at X ⊢
  go_wp2_with fail
  refine (bshown_any _).mono ?_
  rintro e w1 ⟨rfl, q1⟩
  have X1 := Lib.hid (X.out.step q1)
  clear q1 X
  obtain ⟨c0, c1⟩ := X1.out.b1.get2.1
  obtain ⟨d0, d1, d2'⟩ := X1.out.b2.get3.1
  go_wp2_with fail
  refine (KD.out _ X1.out.q).mono ?_
  rintro e w2 ⟨A5, c5, B5, d5, rfl, o5, t5, q5⟩
  simp only at o5 t5
  have X2 := Lib.hid (X1.out.step (q5.alloc (.cells #[.slice A5 T.data.length c5, .slice B5 T.toks.length d5] 40)))
  have Y2 := Lib.hid (Bx.new w2 [.slice A5 T.data.length c5, .slice B5 T.toks.length d5] 40)
  have O2 := Lib.hid (And.intro (o5.lst.q ((Q.refl _).alloc (.cells #[.slice A5 T.data.length c5, .slice B5 T.toks.length d5] 40))) (t5.lst.q ((Q.refl _).alloc (.cells #[.slice A5 T.data.length c5, .slice B5 T.toks.length d5] 40))))
  clear o5 t5 q5 c0 c1 d0 d1 d2' X1
  obtain ⟨w3, hw3⟩ : ∃ w3, w3 = w2.alloc (.cells #[.slice A5 T.data.length c5, .slice B5 T.toks.length d5] 40) := ⟨_, rfl⟩
  rw [← hw3] at X2 Y2 O2
  have HW3 := Lib.hid hw3
  clear hw3
  go_wp2
  go_loopw [10] (fun i wr => w3 = wr ∧ ∃ j : Nat, j ≤ p ∧ i = .int .i64 j ∧ ∀ a, ∀ h : a < ws.length, a < j → ws[a].key ≠ key) (fun i _ => p - (intOf i).toNat)
  case atStart => exact ⟨HW3.out, 0, Nat.zero_le _, rfl, fun a h ha => by omega⟩
  case round =>
    obtain ⟨rfl, j, hj, rfl, hall⟩ := hrel
    have HAl := Lib.hid hall
    clear hall
    obtain ⟨d0, d1, d2'⟩ := X2.out.b2.get3.1
    by_cases hlt : j < p
    · have hjl : j < ws.length := by have := HCl.out; omega
      have hjp : (j : Int) < (p : Int) := by omega
      obtain ⟨ad, rfl, hab0, y0, y1, y2⟩ := load_write HC.out.lst hlt hjl
      have y0 := box_ X2.out.q y0
      by_cases hk : ws[j].key = key
      · rw [hk] at y0
        clear hk y1 y2
        go_wp2
        go_ret
        exact ⟨by first | rfl | simp, X2.out.q⟩
      · have HN := Lib.hid (fun (a : Nat) (h : a < ws.length) (ha : a < j + 1) => show ws[a].key ≠ key from by
          by_cases e : a < j
          · exact HAl.out a h e
          · have e : a = j := by omega
            subst e
            exact hk)
        have hkb : (ws[j].key.toList == key.toList) = false := by rw [same_str]; simpa using hk
        generalize ws[j].key = xk at y0 hkb
        clear hk y1 y2
        go_wp2
        go_roundw
        case rel => exact ⟨by trivial, j + 1, by omega, by go_num, HN.out⟩
        case measure => simp [intOf]; omega
    · have hjn : ¬((j : Int) < (p : Int)) := by omega
      have HE := Lib.hid (HFA.out (fun x hx => by
        obtain ⟨a, ha, rfl⟩ := List.getElem_of_mem hx
        exact HAl.out a ha (by have := HCl.out; omega)))
      have KF2 := Lib.hid (fun W (y : Q w3 W) => refFind_any key A5 T.data.length c5 T.data W (O2.out.1.q y) HTl.out.1)
      have KT2 := Lib.hid (fun W (y : Q w3 W) => decided_any token A5 B5 T.data.length c5 T.toks.length d5 T.toks W (O2.out.2.q y) HTl.out.2)
      rw [HE.out] at KF2
      generalize find key l = fr at KF KF2 HE
      obtain ⟨fs, fb⟩ := fr
      have hfb : (fb == fb) = true := by cases fb <;> rfl
      obtain ⟨c0, c1⟩ := X2.out.b1.get2.1
      obtain ⟨a0, a1⟩ := Y2.out.get2.1
      clear HE HFA HAl
      by_cases ht : tok = token
      · have ht2 : (token.toList == tok.toList) = true := by rw [same_str]; simpa using ht.symm
        generalize find token t = gr at KT
        generalize find token T.toks = gr2 at KT2
        obtain ⟨gs, gb⟩ := gr
        obtain ⟨gs2, gb2⟩ := gr2
        clear ht
        go_wp2_with fail
        refine (KF.out _ X2.out.q).mono ?_
        rintro e w5 ⟨rfl, rfl⟩
        go_wp2_with fail
        refine (KF2.out _ (Q.refl _)).mono ?_
        rintro e w6 ⟨rfl, rfl⟩
        go_wp2_with fail
        refine (KT.out _ X2.out.q).mono ?_
        rintro e w7 ⟨rfl, q7⟩
        have X3 := Lib.hid (X2.out.step q7)
        have Y3 := Lib.hid (Y2.out.q q7)
        have Q7 := Lib.hid q7
        clear q7 c0 c1 d0 d1 d2' a0 a1
        obtain ⟨a0, a1⟩ := Y3.out.get2.1
        go_wp2_with fail
        refine (KT2.out _ Q7.out).mono ?_
        rintro e w8 ⟨rfl, q8⟩
        have X4 := Lib.hid (X3.out.step q8)
        clear q8 a0 a1
        obtain ⟨d0, d1, d2'⟩ := X4.out.b2.get3.1
        go_wp2
        go_ret
        exact ⟨by first | rfl | simp, X4.out.q⟩
      · have ht2 : (token.toList == tok.toList) = false := by rw [same_str]; simp; exact fun e => ht e.symm
        have HE2 := Lib.hid (HFB.out ht)
        rw [HE2.out] at KT2
        generalize find token t = gr at KT KT2 HE2
        obtain ⟨gs, gb⟩ := gr
        have hgb : (gb == gb) = true := by cases gb <;> rfl
        clear ht HE2
        go_wp2_with fail
        refine (KF.out _ X2.out.q).mono ?_
        rintro e w5 ⟨rfl, rfl⟩
        go_wp2_with fail
        refine (KF2.out _ (Q.refl _)).mono ?_
        rintro e w6 ⟨rfl, rfl⟩
        go_wp2_with fail
        refine (KT.out _ X2.out.q).mono ?_
        rintro e w7 ⟨rfl, q7⟩
        have X3 := Lib.hid (X2.out.step q7)
        have Y3 := Lib.hid (Y2.out.q q7)
        have Q7 := Lib.hid q7
        clear q7 c0 c1 d0 d1 d2' a0 a1
        obtain ⟨a0, a1⟩ := Y3.out.get2.1
        go_wp2_with fail
        refine (KT2.out _ Q7.out).mono ?_
        rintro e w8 ⟨rfl, q8⟩
        have X4 := Lib.hid (X3.out.step q8)
        clear q8 a0 a1
        obtain ⟨d0, d1, d2'⟩ := X4.out.b2.get3.1
        go_wp2
        go_ret
        exact ⟨by first | rfl | simp, X4.out.q⟩
theorem opened (W : World) (args : Array Value) (hn : args.size = 1) (h : ∀ (j : Nat) t v, Try.f9.params[j]? = some t → args[j]? = some v → RdV W t v) :
    Calls Try.prog 9 args W fun e W' => e = .returned (.bool true) ∧ Q W W' := by
  obtain ⟨v, rfl⟩ := args1 hn
  rw [Try.params9] at h
  obtain ⟨cs, rfl, hr⟩ := (h 0 61 v rfl rfl).struct Try.underlying61
  obtain ⟨hl, _⟩ := hr.struct Try.underlying61
  rw [show Try.prog.cellsOf 61 = 7 by kernel_rfl] at hl
  match cs, hl with
  | [x0, x1, x2, x3, x4, x5, x6], _ =>
    obtain ⟨A, n, c, l, B, m, d, t, e0, iA, bA, pA, iB, bB, pB⟩ := open_state (hr.field Try.underlying61 0 (ty := 40) 0 2 rfl (by kernel_rfl))
    obtain ⟨k, tok, C, p, q, ws, e1, st, iC, bC, pC, _⟩ := open_batch (hr.field Try.underlying61 1 (ty := 24) 2 3 rfl (by kernel_rfl))
    obtain ⟨key, e2, s2⟩ := (hr.field Try.underlying61 2 (ty := 9) 5 1 rfl (by kernel_rfl)).string Try.underlying9
    obtain ⟨token, e3, s3⟩ := (hr.field Try.underlying61 3 (ty := 9) 6 1 rfl (by kernel_rfl)).string Try.underlying9
    simp at e0 e1 e2 e3
    obtain ⟨rfl, rfl⟩ := e0
    obtain ⟨rfl, rfl, rfl⟩ := e1
    subst e2 e3
    exact walk A B C n c m d p q k tok key token l t ws W iA iB iC bA bB

set_option maxRecDepth 100000 in
theorem lifted (os : Os) (started : os.Started) (H : Type) (enc : TypeId × Value → H) :
    ReturnsInHanded {} Try.checked os 9 .any (Rows.batchApartSpec.pre6 enc Try.prog Try.f9 Rows.batchApartRow.domain false) (Rows.batchApartSpec.post enc Try.prog Try.f9 false true false false) :=
  framed 1 Try.func9 (by rw [Try.params9]; rfl) rfl (by kernel_rfl) (by kernel_rfl) (by kernel_rfl)
    (fun H ds h => by match ds, h with | [d0], _ => exact ⟨rfl, rfl, rfl⟩)
    opened os started H enc
    (ChangeSpec.witness6 (enc := enc) (C := Try.checked) false ⟨#[], #[.agg #[.slice none 0 0, .slice none 0 0, .int .i64 0, .string ⟨#[]⟩, .slice none 0 0, .string ⟨#[]⟩, .string ⟨#[]⟩]], []⟩ 8 (by kernel_rfl) (by kernel_rfl) (by kernel_rfl) (by kernel_rfl))

theorem over : Rows.batchApartRow.holds Try.pinned (OpenSpec.ofChange Rows.batchApartSpec) :=
  OpenClaim.holds_of_wide 9 Try.f9 rfl rfl rfl rfl rfl rfl rfl ⟨rfl, rfl, rfl, rfl, rfl⟩ rfl rfl rfl rfl rfl (by kernel_rfl) Try.func9 (by kernel_rfl)
    (of_decide_eq_true (by kernel_rfl)) (by unfold Func.isWrapper; first | (rw [if_pos (by decide +kernel)]; kernel_rfl) | (rw [if_neg (by decide +kernel)]; exact ⟨rfl, rfl⟩))
    (fun os started H enc _ => lifted os started H enc)

theorem proved : Rows.BatchApartSaid := over
end Go.Proofs.Ytlbjobbmjccekaa.batchApart
