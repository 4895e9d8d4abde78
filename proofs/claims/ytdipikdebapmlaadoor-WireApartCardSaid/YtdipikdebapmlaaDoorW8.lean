/- WiTakeO, AppK, AppN, WiHandP: merged. -/
import Derived.Test.YtdipikdebapmlaaDoorW7
import Derived.Test.YtdipikdebapmlaaDoorW3
import Derived.Test.YtdipikdebapmlaaDoorW2
/- Contracts: the package's takeReq, TakeReq. -/
namespace Go.Proofs.YtdipikdebapmlaaDoor
set_option maxRecDepth 100000
open Go.RowKit Prm
set_option linter.unusedVariables false
set_option linter.unusedSimpArgs false
namespace Wi

/-- an error, and the number that it has. -/
def ErV (a c : Addr) (E : Value) (n : Int) : Prop := (E = .nilIface ∧ n = 0) ∨ (∃ f, E = fltV a f ∧ n = 3) ∨ (∃ f, E = fltV c f ∧ n = 4 ∧ c ≠ a)
/-- what a call of the package finds: the type of errors, the two errors. -/
structure Wk (w : World) (a c : Addr) : Prop where
  typ : ErrT w
  sen : Sen w a c
theorem Wk.q {w w' : World} {a c : Addr} (h : Wk w a c) (q : Q w w') : Wk w' a c := ⟨h.typ.q q, h.sen.q q⟩
theorem number_any (a c : Addr) (E : Value) (n : Int) (w : World) (h : ErV a c E n) (k : Wk w a c) : Calls Tryd.prog 26 #[E] w fun ev w' => ev = .returned (.int .i64 n) ∧ Q w w' := by
  rcases h with ⟨rfl, rfl⟩ | ⟨f, rfl, rfl⟩ | ⟨f, rfl, rfl, hne⟩
  · exact number_nil w
  · exact number_flt true a c f w k.typ k.sen (fun h => by cases h)
  · exact number_flt false a c f w k.typ k.sen (fun _ => hne)
theorem hd_new (a : Addr) (s : ByteArray) (w : World) (hs : s.size ≤ maxLen) : Hd a (w.alloc (.cells #[.string s, .nilIface] 89)) w.heap.size (p0 s.data.toList) :=
  ⟨s, .nilIface, Bx.new w [.string s, .nilIface] 89, hs, fun _ => ⟨(ba_of s).symm, rfl⟩, fun h => by cases h⟩

set_option maxRecDepth 100000 in
set_option maxHeartbeats 8000000 in
theorem takeReqO_any (a c : Addr) (s : ByteArray) (w : World) (hS : Sen w a c) (hne : c ≠ a) (hs : s.size ≤ maxLen) :
    Calls Tryd.prog 25 #[.string s] w fun e w' => ∃ E, e = .returned (.tuple #[rqV (takeH s.data.toList).1, E]) ∧ ErV a c E (takeH s.data.toList).2 ∧ Q w w' := by
  have X0 : Hid (Bx (w.alloc (.cells #[.int .i64 0, .int .i64 0, .int .i64 0, .int .i64 0, .string ⟨#[]⟩, .int .i64 0, .string ⟨#[]⟩, .string ⟨#[]⟩, .string ⟨#[]⟩, .string ⟨#[]⟩, .int .i64 0] 25)) w.heap.size [.int .i64 0, .int .i64 0, .int .i64 0, .int .i64 0, .string ⟨#[]⟩, .int .i64 0, .string ⟨#[]⟩, .string ⟨#[]⟩, .string ⟨#[]⟩, .string ⟨#[]⟩, .int .i64 0]) := Lib.hid (Bx.new w [.int .i64 0, .int .i64 0, .int .i64 0, .int .i64 0, .string ⟨#[]⟩, .int .i64 0, .string ⟨#[]⟩, .string ⟨#[]⟩, .string ⟨#[]⟩, .string ⟨#[]⟩, .int .i64 0] 25)
  have QF := Lib.hid ((Q.refl w).alloc (.cells #[.int .i64 0, .int .i64 0, .int .i64 0, .int .i64 0, .string ⟨#[]⟩, .int .i64 0, .string ⟨#[]⟩, .string ⟨#[]⟩, .string ⟨#[]⟩, .string ⟨#[]⟩, .int .i64 0] 25))
  have hsz : s.data.toList.length = s.size := Rn.size_data s
  have HS := Lib.hid hS
  have hb0 := Lib.hid (Nat.le_refl w.heap.size)
  by_cases hl : 2048 < s.size
  · have HV : Hid (takeH s.data.toList = (rq0, 4)) := Lib.hid (by unfold takeH; rw [if_pos (by omega)])
    have hli : (2048 : Int) < (s.size : Int) := by omega
    have HNE := Lib.hid hne
    have hg := ((hS.q QF.out).two hne).1
    clear hS hsz hl hne
    go_enter Tryd.func25, Tryd.ntmps25
    go_upto_region 2 with (fail)
    generalize w.alloc (.cells #[.int .i64 0, .int .i64 0, .int .i64 0, .int .i64 0, .string ⟨#[]⟩, .int .i64 0, .string ⟨#[]⟩, .string ⟨#[]⟩, .string ⟨#[]⟩, .string ⟨#[]⟩, .int .i64 0] 25) = W0 at X0 QF hg ⊢
    generalize hbb : w.heap.size = b0 at X0 hb0 ⊢
    have HB0 := Lib.hid hbb
    clear hbb
    have y0 := (X0.out 0 _ rfl).1
    have f0 := (X0.out 0 _ rfl).2
    have y1 := (X0.out 1 _ rfl).1
    have f1 := (X0.out 1 _ rfl).2
    have y2 := (X0.out 2 _ rfl).1
    have f2 := (X0.out 2 _ rfl).2
    have y3 := (X0.out 3 _ rfl).1
    have f3 := (X0.out 3 _ rfl).2
    have y4 := (X0.out 4 _ rfl).1
    have f4 := (X0.out 4 _ rfl).2
    have y5 := (X0.out 5 _ rfl).1
    have f5 := (X0.out 5 _ rfl).2
    have y6 := (X0.out 6 _ rfl).1
    have f6 := (X0.out 6 _ rfl).2
    have y7 := (X0.out 7 _ rfl).1
    have f7 := (X0.out 7 _ rfl).2
    have y8 := (X0.out 8 _ rfl).1
    have f8 := (X0.out 8 _ rfl).2
    have y9 := (X0.out 9 _ rfl).1
    have f9 := (X0.out 9 _ rfl).2
    have y10 := (X0.out 10 _ rfl).1
    have f10 := (X0.out 10 _ rfl).2
    have Z1 : Hid (Bx (((((((((((W0.setCell ⟨b0, 0, none⟩ (.int .i64 0)).setCell ⟨b0, 1, none⟩ (.int .i64 0)).setCell ⟨b0, 2, none⟩ (.int .i64 0)).setCell ⟨b0, 3, none⟩ (.int .i64 0)).setCell ⟨b0, 4, none⟩ (.string ⟨#[]⟩)).setCell ⟨b0, 5, none⟩ (.int .i64 0)).setCell ⟨b0, 6, none⟩ (.string ⟨#[]⟩)).setCell ⟨b0, 7, none⟩ (.string ⟨#[]⟩)).setCell ⟨b0, 8, none⟩ (.string ⟨#[]⟩)).setCell ⟨b0, 9, none⟩ (.string ⟨#[]⟩)).setCell ⟨b0, 10, none⟩ (.int .i64 0)) b0 [.int .i64 0, .int .i64 0, .int .i64 0, .int .i64 0, .string ⟨#[]⟩, .int .i64 0, .string ⟨#[]⟩, .string ⟨#[]⟩, .string ⟨#[]⟩, .string ⟨#[]⟩, .int .i64 0]) := Lib.hid (Bx.puts [.int .i64 0, .int .i64 0, .int .i64 0, .int .i64 0, .string ⟨#[]⟩, .int .i64 0, .string ⟨#[]⟩, .string ⟨#[]⟩, .string ⟨#[]⟩, .string ⟨#[]⟩, .int .i64 0] [.int .i64 0, .int .i64 0, .int .i64 0, .int .i64 0, .string ⟨#[]⟩, .int .i64 0, .string ⟨#[]⟩, .string ⟨#[]⟩, .string ⟨#[]⟩, .string ⟨#[]⟩, .int .i64 0] [] X0.out rfl)
    have ZQ : Hid (Q w (((((((((((W0.setCell ⟨b0, 0, none⟩ (.int .i64 0)).setCell ⟨b0, 1, none⟩ (.int .i64 0)).setCell ⟨b0, 2, none⟩ (.int .i64 0)).setCell ⟨b0, 3, none⟩ (.int .i64 0)).setCell ⟨b0, 4, none⟩ (.string ⟨#[]⟩)).setCell ⟨b0, 5, none⟩ (.int .i64 0)).setCell ⟨b0, 6, none⟩ (.string ⟨#[]⟩)).setCell ⟨b0, 7, none⟩ (.string ⟨#[]⟩)).setCell ⟨b0, 8, none⟩ (.string ⟨#[]⟩)).setCell ⟨b0, 9, none⟩ (.string ⟨#[]⟩)).setCell ⟨b0, 10, none⟩ (.int .i64 0))) := Lib.hid (Q.sets (Nat.le_of_eq HB0.out) [.int .i64 0, .int .i64 0, .int .i64 0, .int .i64 0, .string ⟨#[]⟩, .int .i64 0, .string ⟨#[]⟩, .string ⟨#[]⟩, .string ⟨#[]⟩, .string ⟨#[]⟩, .int .i64 0] 0 QF.out)
    have hg2 := ((HS.out.q ZQ.out).two HNE.out).1
    go_region
    generalize (((((((((((W0.setCell ⟨b0, 0, none⟩ (.int .i64 0)).setCell ⟨b0, 1, none⟩ (.int .i64 0)).setCell ⟨b0, 2, none⟩ (.int .i64 0)).setCell ⟨b0, 3, none⟩ (.int .i64 0)).setCell ⟨b0, 4, none⟩ (.string ⟨#[]⟩)).setCell ⟨b0, 5, none⟩ (.int .i64 0)).setCell ⟨b0, 6, none⟩ (.string ⟨#[]⟩)).setCell ⟨b0, 7, none⟩ (.string ⟨#[]⟩)).setCell ⟨b0, 8, none⟩ (.string ⟨#[]⟩)).setCell ⟨b0, 9, none⟩ (.string ⟨#[]⟩)).setCell ⟨b0, 10, none⟩ (.int .i64 0)) = W99 at Z1 ZQ ⊢
    go_wp2
    have r0 := (Z1.out 0 _ rfl).1
    have r1 := (Z1.out 1 _ rfl).1
    have r2 := (Z1.out 2 _ rfl).1
    have r3 := (Z1.out 3 _ rfl).1
    have r4 := (Z1.out 4 _ rfl).1
    have r5 := (Z1.out 5 _ rfl).1
    have r6 := (Z1.out 6 _ rfl).1
    have r7 := (Z1.out 7 _ rfl).1
    have r8 := (Z1.out 8 _ rfl).1
    have r9 := (Z1.out 9 _ rfl).1
    have r10 := (Z1.out 10 _ rfl).1
    refine bodyPost_ret (v := .tuple #[.agg #[.int .i64 0, .int .i64 0, .int .i64 0, .int .i64 0, .string ⟨#[]⟩, .int .i64 0, .string ⟨#[]⟩, .string ⟨#[]⟩, .string ⟨#[]⟩, .string ⟨#[]⟩, .int .i64 0], fltV c ⟨#[82, 101, 113]⟩]) (by simp [results, Tryd.results25, go_sem, r0, r1, r2, r3, r4, r5, r6, r7, r8, r9, r10]) rfl ?_
    exact ⟨_, by rw [HV.out]; rfl, by rw [HV.out]; exact .inr (.inr ⟨_, rfl, rfl, HNE.out⟩), ZQ.out.drew⟩
  · have HV : Hid (takeH s.data.toList = if (lastH s.data.toList).is = false ∨ (lastH s.data.toList).rest ≠ [] ∨ may (hOf s.data.toList) = false then (rq0, 3) else (hOf s.data.toList, 0)) := Lib.hid (by unfold takeH; rw [if_neg (by omega)])
    have hli : ¬ (2048 : Int) < (s.size : Int) := by omega
    have HN := Lib.hid (fun W => hd_new a s W hs)
    have KQ := Lib.hid (fun W b (q : Q w W) (hb : w.heap.size ≤ b) (h : Hd a W b (p0 s.data.toList)) => hreq_any a c b s.data.toList w W hS q hb h)
    generalize s.data.toList = l at HV HN KQ ⊢
    have KM := Lib.hid (fun W => pmay_any (hOf l) W)
    have KE := Lib.hid (fun W b (q : Q w W) (hb : w.heap.size ≤ b) (h : Hd a W b (lastH l)) => hend_any a c b ⟨#[82, 101, 113]⟩ (may (hOf l)) (lastH l) w W hS q hb h)
    have HOK : Hid ((lastH l).is = true ∧ (lastH l).rest = [] ∧ may (hOf l) = true → takeH l = (hOf l, 0)) := Lib.hid (fun h => by rw [HV.out, if_neg (by simp [h.1, h.2.1, h.2.2])])
    have HNO : Hid (¬ ((lastH l).is = true ∧ (lastH l).rest = [] ∧ may (hOf l) = true) → takeH l = (rq0, 3)) := Lib.hid (fun h => by
      rw [HV.out, if_pos]
      cases h1 : (lastH l).is with
      | false => exact .inl rfl
      | true =>
        by_cases h2 : (lastH l).rest = []
        · cases h3 : may (hOf l) with
          | false => exact .inr (.inr rfl)
          | true => exact absurd ⟨h1, h2, h3⟩ h
        · exact .inr (.inl h2))
    generalize hok : ((lastH l).is = true ∧ (lastH l).rest = [] ∧ may (hOf l) = true) = OK at HOK HNO KE
    generalize takeH l = res at HOK HNO ⊢
    generalize may (hOf l) = mb at KM KE
    generalize hOf l = Y at KQ KM HOK
    clear HV hS hs hsz hl hok
    change Hid (∀ W, Calls Tryd.prog 13 #[.agg #[.int .i64 Y.kind, .int .i64 Y.epoch, .int .i64 Y.sess, .int .i64 Y.seq, .string Y.tok, .int .i64 Y.op.kind, .string Y.op.key, .string Y.op.val, .string Y.op.lo, .string Y.op.hi, .int .i64 Y.op.most]] W fun e w' => e = .returned (.bool mb) ∧ Q W w') at KM
    change Hid (∀ W b, Q w W → w.heap.size ≤ b → Hd a W b (p0 l) → Calls Tryd.prog 46 #[.pointer (some ⟨b, 0, none⟩)] W fun e w' => e = .returned (.agg #[.int .i64 Y.kind, .int .i64 Y.epoch, .int .i64 Y.sess, .int .i64 Y.seq, .string Y.tok, .int .i64 Y.op.kind, .string Y.op.key, .string Y.op.val, .string Y.op.lo, .string Y.op.hi, .int .i64 Y.op.most]) ∧ Hd a w' b (lastH l) ∧ W.grownBy w' (some b)) at KQ
    generalize lastH l = LL at KQ KE
    go_enter Tryd.func25, Tryd.ntmps25
    go_upto_region 1 with (fail)
    generalize w.alloc (.cells #[.int .i64 0, .int .i64 0, .int .i64 0, .int .i64 0, .string ⟨#[]⟩, .int .i64 0, .string ⟨#[]⟩, .string ⟨#[]⟩, .string ⟨#[]⟩, .string ⟨#[]⟩, .int .i64 0] 25) = W0 at X0 QF ⊢
    generalize hbb : w.heap.size = b0 at X0 hb0 ⊢
    have HB0 := Lib.hid hbb
    clear hbb
    have H1 := Lib.hid (HN.out W0)
    have L00 := Lib.hid X0.out.lt
    have q0 := (Q.refl W0).alloc (.cells #[.string s, .nilIface] 89)
    replace X0 := Lib.hid (X0.out.q q0)
    clear q0
    have q1 := (Q.refl W0).alloc (.cells #[.string s, .nilIface] 89)
    have L0 := Lib.hid (show b0 < W0.heap.size by have := QF.out.size; have := HB0.out; have := L00.out; omega)
    have L2 := Lib.hid (show w.heap.size ≤ W0.heap.size from QF.out.size)
    replace QF := Lib.hid (QF.out.trans q1)
    clear q1 L00
    go_upto_region 4 with (fail)
    generalize W0.alloc (.cells #[.string s, .nilIface] 89) = W1 at X0 QF H1 ⊢
    generalize W0.heap.size = b1 at L0 L2 H1 ⊢
    go_wp2_with fail
    refine (KQ.out W1 b1 QF.out L2.out H1.out).mono ?_
    rintro e1 v1 ⟨rfl, hd, g⟩
    replace X0 := Lib.hid (bx_only X0.out g (Nat.ne_of_lt L0.out))
    replace QF := Lib.hid (q_only QF.out g L2.out)
    have H2 := Lib.hid hd
    clear hd g H1
    have qa := (Q.refl v1).alloc (.cells #[.int .i64 Y.kind, .int .i64 Y.epoch, .int .i64 Y.sess, .int .i64 Y.seq, .string Y.tok, .int .i64 Y.op.kind, .string Y.op.key, .string Y.op.val, .string Y.op.lo, .string Y.op.hi, .int .i64 Y.op.most] 25)
    have L3 := Lib.hid (Nat.ne_of_gt H2.out.lt)
    replace X0 := Lib.hid (X0.out.q qa)
    replace QF := Lib.hid (QF.out.trans qa)
    replace H2 := Lib.hid (H2.out.q qa)
    have X2 : Hid (Bx (v1.alloc (.cells #[.int .i64 Y.kind, .int .i64 Y.epoch, .int .i64 Y.sess, .int .i64 Y.seq, .string Y.tok, .int .i64 Y.op.kind, .string Y.op.key, .string Y.op.val, .string Y.op.lo, .string Y.op.hi, .int .i64 Y.op.most] 25)) v1.heap.size [.int .i64 Y.kind, .int .i64 Y.epoch, .int .i64 Y.sess, .int .i64 Y.seq, .string Y.tok, .int .i64 Y.op.kind, .string Y.op.key, .string Y.op.val, .string Y.op.lo, .string Y.op.hi, .int .i64 Y.op.most]) := Lib.hid (Bx.new v1 [.int .i64 Y.kind, .int .i64 Y.epoch, .int .i64 Y.sess, .int .i64 Y.seq, .string Y.tok, .int .i64 Y.op.kind, .string Y.op.key, .string Y.op.val, .string Y.op.lo, .string Y.op.hi, .int .i64 Y.op.most] 25)
    clear qa
    go_upto_region 5 with (fail)
    generalize v1.alloc (.cells #[.int .i64 Y.kind, .int .i64 Y.epoch, .int .i64 Y.sess, .int .i64 Y.seq, .string Y.tok, .int .i64 Y.op.kind, .string Y.op.key, .string Y.op.val, .string Y.op.lo, .string Y.op.hi, .int .i64 Y.op.most] 25) = W2 at X0 X2 QF H2 ⊢
    generalize v1.heap.size = b2 at X2 L3 ⊢
    have x0 := (X2.out 0 _ rfl).1
    have x1 := (X2.out 1 _ rfl).1
    have x2 := (X2.out 2 _ rfl).1
    have x3 := (X2.out 3 _ rfl).1
    have x4 := (X2.out 4 _ rfl).1
    have x5 := (X2.out 5 _ rfl).1
    have x6 := (X2.out 6 _ rfl).1
    have x7 := (X2.out 7 _ rfl).1
    have x8 := (X2.out 8 _ rfl).1
    have x9 := (X2.out 9 _ rfl).1
    have x10 := (X2.out 10 _ rfl).1
    go_wp2_with fail
    refine (KM.out W2).mono ?_
    rintro e3 v3 ⟨rfl, q3⟩
    replace X0 := Lib.hid (X0.out.q q3)
    replace X2 := Lib.hid (X2.out.q q3)
    replace H2 := Lib.hid (H2.out.q q3)
    replace QF := Lib.hid (QF.out.trans q3)
    clear q3 x0 x1 x2 x3 x4 x5 x6 x7 x8 x9 x10
    go_wp2_with fail
    refine (KE.out v3 b1 QF.out L2.out H2.out).mono ?_
    rintro e4 v4 ⟨⟨E, rfl, e1, e2⟩, g⟩
    replace X0 := Lib.hid (bx_only X0.out g (Nat.ne_of_lt L0.out))
    replace X2 := Lib.hid (bx_only X2.out g L3.out)
    replace QF := Lib.hid (q_only QF.out g L2.out)
    clear g H2
    by_cases hok : OK
    · obtain rfl := e1 hok
      have HR := Lib.hid (HOK.out hok)
      clear e1 e2 hok
      have x0 := (X2.out 0 _ rfl).1
      have x1 := (X2.out 1 _ rfl).1
      have x2 := (X2.out 2 _ rfl).1
      have x3 := (X2.out 3 _ rfl).1
      have x4 := (X2.out 4 _ rfl).1
      have x5 := (X2.out 5 _ rfl).1
      have x6 := (X2.out 6 _ rfl).1
      have x7 := (X2.out 7 _ rfl).1
      have x8 := (X2.out 8 _ rfl).1
      have x9 := (X2.out 9 _ rfl).1
      have x10 := (X2.out 10 _ rfl).1
      have y0 := (X0.out 0 _ rfl).1
      have f0 := (X0.out 0 _ rfl).2
      have y1 := (X0.out 1 _ rfl).1
      have f1 := (X0.out 1 _ rfl).2
      have y2 := (X0.out 2 _ rfl).1
      have f2 := (X0.out 2 _ rfl).2
      have y3 := (X0.out 3 _ rfl).1
      have f3 := (X0.out 3 _ rfl).2
      have y4 := (X0.out 4 _ rfl).1
      have f4 := (X0.out 4 _ rfl).2
      have y5 := (X0.out 5 _ rfl).1
      have f5 := (X0.out 5 _ rfl).2
      have y6 := (X0.out 6 _ rfl).1
      have f6 := (X0.out 6 _ rfl).2
      have y7 := (X0.out 7 _ rfl).1
      have f7 := (X0.out 7 _ rfl).2
      have y8 := (X0.out 8 _ rfl).1
      have f8 := (X0.out 8 _ rfl).2
      have y9 := (X0.out 9 _ rfl).1
      have f9 := (X0.out 9 _ rfl).2
      have y10 := (X0.out 10 _ rfl).1
      have f10 := (X0.out 10 _ rfl).2
      have Z1 : Hid (Bx (((((((((((v4.setCell ⟨b0, 0, none⟩ (.int .i64 Y.kind)).setCell ⟨b0, 1, none⟩ (.int .i64 Y.epoch)).setCell ⟨b0, 2, none⟩ (.int .i64 Y.sess)).setCell ⟨b0, 3, none⟩ (.int .i64 Y.seq)).setCell ⟨b0, 4, none⟩ (.string Y.tok)).setCell ⟨b0, 5, none⟩ (.int .i64 Y.op.kind)).setCell ⟨b0, 6, none⟩ (.string Y.op.key)).setCell ⟨b0, 7, none⟩ (.string Y.op.val)).setCell ⟨b0, 8, none⟩ (.string Y.op.lo)).setCell ⟨b0, 9, none⟩ (.string Y.op.hi)).setCell ⟨b0, 10, none⟩ (.int .i64 Y.op.most)) b0 [.int .i64 Y.kind, .int .i64 Y.epoch, .int .i64 Y.sess, .int .i64 Y.seq, .string Y.tok, .int .i64 Y.op.kind, .string Y.op.key, .string Y.op.val, .string Y.op.lo, .string Y.op.hi, .int .i64 Y.op.most]) := Lib.hid (Bx.puts [.int .i64 Y.kind, .int .i64 Y.epoch, .int .i64 Y.sess, .int .i64 Y.seq, .string Y.tok, .int .i64 Y.op.kind, .string Y.op.key, .string Y.op.val, .string Y.op.lo, .string Y.op.hi, .int .i64 Y.op.most] [.int .i64 0, .int .i64 0, .int .i64 0, .int .i64 0, .string ⟨#[]⟩, .int .i64 0, .string ⟨#[]⟩, .string ⟨#[]⟩, .string ⟨#[]⟩, .string ⟨#[]⟩, .int .i64 0] [] X0.out rfl)
      have ZQ : Hid (Q w (((((((((((v4.setCell ⟨b0, 0, none⟩ (.int .i64 Y.kind)).setCell ⟨b0, 1, none⟩ (.int .i64 Y.epoch)).setCell ⟨b0, 2, none⟩ (.int .i64 Y.sess)).setCell ⟨b0, 3, none⟩ (.int .i64 Y.seq)).setCell ⟨b0, 4, none⟩ (.string Y.tok)).setCell ⟨b0, 5, none⟩ (.int .i64 Y.op.kind)).setCell ⟨b0, 6, none⟩ (.string Y.op.key)).setCell ⟨b0, 7, none⟩ (.string Y.op.val)).setCell ⟨b0, 8, none⟩ (.string Y.op.lo)).setCell ⟨b0, 9, none⟩ (.string Y.op.hi)).setCell ⟨b0, 10, none⟩ (.int .i64 Y.op.most))) := Lib.hid (Q.sets (Nat.le_of_eq HB0.out) [.int .i64 Y.kind, .int .i64 Y.epoch, .int .i64 Y.sess, .int .i64 Y.seq, .string Y.tok, .int .i64 Y.op.kind, .string Y.op.key, .string Y.op.val, .string Y.op.lo, .string Y.op.hi, .int .i64 Y.op.most] 0 QF.out)
      go_wp2
      generalize (((((((((((v4.setCell ⟨b0, 0, none⟩ (.int .i64 Y.kind)).setCell ⟨b0, 1, none⟩ (.int .i64 Y.epoch)).setCell ⟨b0, 2, none⟩ (.int .i64 Y.sess)).setCell ⟨b0, 3, none⟩ (.int .i64 Y.seq)).setCell ⟨b0, 4, none⟩ (.string Y.tok)).setCell ⟨b0, 5, none⟩ (.int .i64 Y.op.kind)).setCell ⟨b0, 6, none⟩ (.string Y.op.key)).setCell ⟨b0, 7, none⟩ (.string Y.op.val)).setCell ⟨b0, 8, none⟩ (.string Y.op.lo)).setCell ⟨b0, 9, none⟩ (.string Y.op.hi)).setCell ⟨b0, 10, none⟩ (.int .i64 Y.op.most)) = W99 at Z1 ZQ ⊢
      have r0 := (Z1.out 0 _ rfl).1
      have r1 := (Z1.out 1 _ rfl).1
      have r2 := (Z1.out 2 _ rfl).1
      have r3 := (Z1.out 3 _ rfl).1
      have r4 := (Z1.out 4 _ rfl).1
      have r5 := (Z1.out 5 _ rfl).1
      have r6 := (Z1.out 6 _ rfl).1
      have r7 := (Z1.out 7 _ rfl).1
      have r8 := (Z1.out 8 _ rfl).1
      have r9 := (Z1.out 9 _ rfl).1
      have r10 := (Z1.out 10 _ rfl).1
      refine bodyPost_ret (v := .tuple #[.agg #[.int .i64 Y.kind, .int .i64 Y.epoch, .int .i64 Y.sess, .int .i64 Y.seq, .string Y.tok, .int .i64 Y.op.kind, .string Y.op.key, .string Y.op.val, .string Y.op.lo, .string Y.op.hi, .int .i64 Y.op.most], .nilIface]) (by simp [results, Tryd.results25, go_sem, r0, r1, r2, r3, r4, r5, r6, r7, r8, r9, r10]) rfl ?_
      exact ⟨_, by rw [HR.out] <;> rfl, by rw [HR.out]; exact .inl ⟨rfl, rfl⟩, ZQ.out⟩
    · obtain ⟨f, rfl⟩ := e2 hok
      have HR := Lib.hid (HNO.out hok)
      clear e1 e2 hok
      have y0 := (X0.out 0 _ rfl).1
      have f0 := (X0.out 0 _ rfl).2
      have y1 := (X0.out 1 _ rfl).1
      have f1 := (X0.out 1 _ rfl).2
      have y2 := (X0.out 2 _ rfl).1
      have f2 := (X0.out 2 _ rfl).2
      have y3 := (X0.out 3 _ rfl).1
      have f3 := (X0.out 3 _ rfl).2
      have y4 := (X0.out 4 _ rfl).1
      have f4 := (X0.out 4 _ rfl).2
      have y5 := (X0.out 5 _ rfl).1
      have f5 := (X0.out 5 _ rfl).2
      have y6 := (X0.out 6 _ rfl).1
      have f6 := (X0.out 6 _ rfl).2
      have y7 := (X0.out 7 _ rfl).1
      have f7 := (X0.out 7 _ rfl).2
      have y8 := (X0.out 8 _ rfl).1
      have f8 := (X0.out 8 _ rfl).2
      have y9 := (X0.out 9 _ rfl).1
      have f9 := (X0.out 9 _ rfl).2
      have y10 := (X0.out 10 _ rfl).1
      have f10 := (X0.out 10 _ rfl).2
      have Z1 : Hid (Bx (((((((((((v4.setCell ⟨b0, 0, none⟩ (.int .i64 0)).setCell ⟨b0, 1, none⟩ (.int .i64 0)).setCell ⟨b0, 2, none⟩ (.int .i64 0)).setCell ⟨b0, 3, none⟩ (.int .i64 0)).setCell ⟨b0, 4, none⟩ (.string ⟨#[]⟩)).setCell ⟨b0, 5, none⟩ (.int .i64 0)).setCell ⟨b0, 6, none⟩ (.string ⟨#[]⟩)).setCell ⟨b0, 7, none⟩ (.string ⟨#[]⟩)).setCell ⟨b0, 8, none⟩ (.string ⟨#[]⟩)).setCell ⟨b0, 9, none⟩ (.string ⟨#[]⟩)).setCell ⟨b0, 10, none⟩ (.int .i64 0)) b0 [.int .i64 0, .int .i64 0, .int .i64 0, .int .i64 0, .string ⟨#[]⟩, .int .i64 0, .string ⟨#[]⟩, .string ⟨#[]⟩, .string ⟨#[]⟩, .string ⟨#[]⟩, .int .i64 0]) := Lib.hid (Bx.puts [.int .i64 0, .int .i64 0, .int .i64 0, .int .i64 0, .string ⟨#[]⟩, .int .i64 0, .string ⟨#[]⟩, .string ⟨#[]⟩, .string ⟨#[]⟩, .string ⟨#[]⟩, .int .i64 0] [.int .i64 0, .int .i64 0, .int .i64 0, .int .i64 0, .string ⟨#[]⟩, .int .i64 0, .string ⟨#[]⟩, .string ⟨#[]⟩, .string ⟨#[]⟩, .string ⟨#[]⟩, .int .i64 0] [] X0.out rfl)
      have ZQ : Hid (Q w (((((((((((v4.setCell ⟨b0, 0, none⟩ (.int .i64 0)).setCell ⟨b0, 1, none⟩ (.int .i64 0)).setCell ⟨b0, 2, none⟩ (.int .i64 0)).setCell ⟨b0, 3, none⟩ (.int .i64 0)).setCell ⟨b0, 4, none⟩ (.string ⟨#[]⟩)).setCell ⟨b0, 5, none⟩ (.int .i64 0)).setCell ⟨b0, 6, none⟩ (.string ⟨#[]⟩)).setCell ⟨b0, 7, none⟩ (.string ⟨#[]⟩)).setCell ⟨b0, 8, none⟩ (.string ⟨#[]⟩)).setCell ⟨b0, 9, none⟩ (.string ⟨#[]⟩)).setCell ⟨b0, 10, none⟩ (.int .i64 0))) := Lib.hid (Q.sets (Nat.le_of_eq HB0.out) [.int .i64 0, .int .i64 0, .int .i64 0, .int .i64 0, .string ⟨#[]⟩, .int .i64 0, .string ⟨#[]⟩, .string ⟨#[]⟩, .string ⟨#[]⟩, .string ⟨#[]⟩, .int .i64 0] 0 QF.out)
      go_wp2
      generalize (((((((((((v4.setCell ⟨b0, 0, none⟩ (.int .i64 0)).setCell ⟨b0, 1, none⟩ (.int .i64 0)).setCell ⟨b0, 2, none⟩ (.int .i64 0)).setCell ⟨b0, 3, none⟩ (.int .i64 0)).setCell ⟨b0, 4, none⟩ (.string ⟨#[]⟩)).setCell ⟨b0, 5, none⟩ (.int .i64 0)).setCell ⟨b0, 6, none⟩ (.string ⟨#[]⟩)).setCell ⟨b0, 7, none⟩ (.string ⟨#[]⟩)).setCell ⟨b0, 8, none⟩ (.string ⟨#[]⟩)).setCell ⟨b0, 9, none⟩ (.string ⟨#[]⟩)).setCell ⟨b0, 10, none⟩ (.int .i64 0)) = W99 at Z1 ZQ ⊢
      have r0 := (Z1.out 0 _ rfl).1
      have r1 := (Z1.out 1 _ rfl).1
      have r2 := (Z1.out 2 _ rfl).1
      have r3 := (Z1.out 3 _ rfl).1
      have r4 := (Z1.out 4 _ rfl).1
      have r5 := (Z1.out 5 _ rfl).1
      have r6 := (Z1.out 6 _ rfl).1
      have r7 := (Z1.out 7 _ rfl).1
      have r8 := (Z1.out 8 _ rfl).1
      have r9 := (Z1.out 9 _ rfl).1
      have r10 := (Z1.out 10 _ rfl).1
      refine bodyPost_ret (v := .tuple #[.agg #[.int .i64 0, .int .i64 0, .int .i64 0, .int .i64 0, .string ⟨#[]⟩, .int .i64 0, .string ⟨#[]⟩, .string ⟨#[]⟩, .string ⟨#[]⟩, .string ⟨#[]⟩, .int .i64 0], fltV a f]) (by simp [results, Tryd.results25, go_sem, r0, r1, r2, r3, r4, r5, r6, r7, r8, r9, r10]) rfl ?_
      exact ⟨_, by rw [HR.out]; rfl, by rw [HR.out]; exact .inr (.inl ⟨f, rfl, rfl⟩), ZQ.out⟩

set_option maxRecDepth 100000 in
set_option maxHeartbeats 8000000 in
theorem ptakeQ_any (a c : Addr) (s : ByteArray) (w : World) (hW : Wk w a c) (hne : c ≠ a) (hs : s.size ≤ 140737488355328) :
    Calls Tryd.prog 11 #[.string s] w fun e w' => e = .returned (.tuple #[rqV (takeQ s.data.toList).1, .int .i64 (takeQ s.data.toList).2]) ∧ Q w w' := by
  have K1 := Lib.hid (fun W (q : Q w W) => takeReqO_any a c s W (hW.sen.q q) hne (by unfold maxLen; omega))
  rw [takeH_eq] at K1
  generalize takeQ s.data.toList = x at K1 ⊢
  obtain ⟨Y, er⟩ := x
  change Hid (∀ W, Q w W → Calls Tryd.prog 25 #[.string s] W fun e w' => ∃ E, e = .returned (.tuple #[.agg #[.int .i64 Y.kind, .int .i64 Y.epoch, .int .i64 Y.sess, .int .i64 Y.seq, .string Y.tok, .int .i64 Y.op.kind, .string Y.op.key, .string Y.op.val, .string Y.op.lo, .string Y.op.hi, .int .i64 Y.op.most], E]) ∧ ErV a c E er ∧ Q W w') at K1
  have KU := Lib.hid (fun W (q : Q w W) E h => number_any a c E er W h (hW.q q))
  show Calls _ _ _ _ fun e w' => e = .returned (.tuple #[.agg #[.int .i64 Y.kind, .int .i64 Y.epoch, .int .i64 Y.sess, .int .i64 Y.seq, .string Y.tok, .int .i64 Y.op.kind, .string Y.op.key, .string Y.op.val, .string Y.op.lo, .string Y.op.hi, .int .i64 Y.op.most], .int .i64 er]) ∧ Q w w'
  have X0 : Hid (Bx (w.alloc (.cells #[.int .i64 0, .int .i64 0, .int .i64 0, .int .i64 0, .string ⟨#[]⟩, .int .i64 0, .string ⟨#[]⟩, .string ⟨#[]⟩, .string ⟨#[]⟩, .string ⟨#[]⟩, .int .i64 0] 25)) w.heap.size [.int .i64 0, .int .i64 0, .int .i64 0, .int .i64 0, .string ⟨#[]⟩, .int .i64 0, .string ⟨#[]⟩, .string ⟨#[]⟩, .string ⟨#[]⟩, .string ⟨#[]⟩, .int .i64 0]) := Lib.hid (Bx.new w [.int .i64 0, .int .i64 0, .int .i64 0, .int .i64 0, .string ⟨#[]⟩, .int .i64 0, .string ⟨#[]⟩, .string ⟨#[]⟩, .string ⟨#[]⟩, .string ⟨#[]⟩, .int .i64 0] 25)
  have QF := Lib.hid ((Q.refl w).alloc (.cells #[.int .i64 0, .int .i64 0, .int .i64 0, .int .i64 0, .string ⟨#[]⟩, .int .i64 0, .string ⟨#[]⟩, .string ⟨#[]⟩, .string ⟨#[]⟩, .string ⟨#[]⟩, .int .i64 0] 25))
  clear hW
  go_enter Tryd.func11, Tryd.ntmps11
  go_upto_region 1 with (fail)
  generalize w.alloc (.cells #[.int .i64 0, .int .i64 0, .int .i64 0, .int .i64 0, .string ⟨#[]⟩, .int .i64 0, .string ⟨#[]⟩, .string ⟨#[]⟩, .string ⟨#[]⟩, .string ⟨#[]⟩, .int .i64 0] 25) = W0 at X0 QF ⊢
  generalize hb0 : w.heap.size = b0 at X0 ⊢
  have HB0 := Lib.hid hb0
  clear hb0
  go_wp2_with fail
  refine (K1.out W0 QF.out).mono ?_
  rintro e1 v1 ⟨E, rfl, hE, q1⟩
  have HE := Lib.hid hE
  have qa := (Q.refl v1).alloc (.cells #[.int .i64 Y.kind, .int .i64 Y.epoch, .int .i64 Y.sess, .int .i64 Y.seq, .string Y.tok, .int .i64 Y.op.kind, .string Y.op.key, .string Y.op.val, .string Y.op.lo, .string Y.op.hi, .int .i64 Y.op.most] 25)
  replace X0 := Lib.hid ((X0.out.q q1).q qa)
  replace QF := Lib.hid ((QF.out.trans q1).trans qa)
  have X1 : Hid (Bx (v1.alloc (.cells #[.int .i64 Y.kind, .int .i64 Y.epoch, .int .i64 Y.sess, .int .i64 Y.seq, .string Y.tok, .int .i64 Y.op.kind, .string Y.op.key, .string Y.op.val, .string Y.op.lo, .string Y.op.hi, .int .i64 Y.op.most] 25)) v1.heap.size [.int .i64 Y.kind, .int .i64 Y.epoch, .int .i64 Y.sess, .int .i64 Y.seq, .string Y.tok, .int .i64 Y.op.kind, .string Y.op.key, .string Y.op.val, .string Y.op.lo, .string Y.op.hi, .int .i64 Y.op.most]) := Lib.hid (Bx.new v1 [.int .i64 Y.kind, .int .i64 Y.epoch, .int .i64 Y.sess, .int .i64 Y.seq, .string Y.tok, .int .i64 Y.op.kind, .string Y.op.key, .string Y.op.val, .string Y.op.lo, .string Y.op.hi, .int .i64 Y.op.most] 25)
  clear qa q1 hE
  go_upto_region 2 with (fail)
  generalize v1.alloc (.cells #[.int .i64 Y.kind, .int .i64 Y.epoch, .int .i64 Y.sess, .int .i64 Y.seq, .string Y.tok, .int .i64 Y.op.kind, .string Y.op.key, .string Y.op.val, .string Y.op.lo, .string Y.op.hi, .int .i64 Y.op.most] 25) = W1 at X0 X1 QF ⊢
  generalize v1.heap.size = b1 at X1 ⊢
  have x0 := (X1.out 0 _ rfl).1
  have x1 := (X1.out 1 _ rfl).1
  have x2 := (X1.out 2 _ rfl).1
  have x3 := (X1.out 3 _ rfl).1
  have x4 := (X1.out 4 _ rfl).1
  have x5 := (X1.out 5 _ rfl).1
  have x6 := (X1.out 6 _ rfl).1
  have x7 := (X1.out 7 _ rfl).1
  have x8 := (X1.out 8 _ rfl).1
  have x9 := (X1.out 9 _ rfl).1
  have x10 := (X1.out 10 _ rfl).1
  refine wp_region_heldL 3 (Q W1) (by kernel_rfl) ?szz0 (fun hHeld => ?rzz0)
  case szz0 =>
    exact (Q.refl W1).drew
  case' rzz0 => skip
  generalize hgen : W1.drew = D0 at hHeld ⊢
  clear hgen
  refine wpAnyL_take (i := 0) (oi := ?ozz1) (v := ?vzz1) ?hzz1 ?azz1 ?bzz1 ?czz1 ?kzz1 ?qzz1 ?yzz1 ?szz1 ?rzz1
  case hzz1 => simp only [List.getElem?_toArray, List.getElem?_cons_zero]; rfl
  case azz1 => kernel_rfl
  case bzz1 => kernel_rfl
  case czz1 => kernel_rfl
  case kzz1 => kernel_rfl
  case yzz1 =>
    refine Or.inl ⟨by rfl, ?_⟩
    intro w hSw
    have a0 := box_ hSw x0; have a1 := box_ hSw x1; have a2 := box_ hSw x2; have a3 := box_ hSw x3; have a4 := box_ hSw x4; have a5 := box_ hSw x5; have a6 := box_ hSw x6; have a7 := box_ hSw x7; have a8 := box_ hSw x8; have a9 := box_ hSw x9; have a10 := box_ hSw x10; clear hSw
    go_simp
    try with_reducible rfl
  case qzz1 => exact fun _ _ _ h => h
  case szz1 => first | assumption | trivial
  case' rzz1 => simp only [Act.put, List.setIfInBounds_toArray, List.set_cons_zero, List.set_cons_succ]
  refine wpAnyL_ready (rs := [1]) (by kernel_rfl) (by simp) ?_
  refine AllReadyL.cons (o := ?ozz5) ?hzz5 (fun K hK => ?kzz5) ?mzz5
  case hzz5 => simp only [List.getElem?_toArray, List.getElem?_cons_zero, List.getElem?_cons_succ]; rfl
  case kzz5 =>
    go_simp
    refine hK.out _ _ ?Szz5 (fun hHeld => ?Rzz5)
    case Szz5 =>
      first | exact hHeld | trivial
    case Rzz5 =>
      clear hK K
      try simp only [Act.put, List.setIfInBounds_toArray, List.set_cons_zero, List.set_cons_succ]
      refine wpAnyL_ready (rs := [2]) (by kernel_rfl) (by simp) ?_
      refine AllReadyL.cons (o := ?ozz4) ?hzz4 (fun K hK => ?kzz4) ?mzz4
      case hzz4 => simp only [List.getElem?_toArray, List.getElem?_cons_zero, List.getElem?_cons_succ]; rfl
      case kzz4 =>
        go_simp
        refine (KU.out _ (QF.out.trans hHeld) E HE.out).mono ?_
        rintro e3 v3 ⟨rfl, q3⟩
        go_wp2_with fail
        refine hK.out _ _ ?Szz4 (fun hHeld => ?Rzz4)
        case Szz4 =>
          exact hHeld.trans q3
        case Rzz4 =>
          clear hK K
          try simp only [Act.put, List.setIfInBounds_toArray, List.set_cons_zero, List.set_cons_succ]
          refine wpAnyL_ready (rs := [3]) (by kernel_rfl) (by simp) ?_
          refine AllReadyL.consK (o := ?ozz3) ?hzz3 ?lzz3 (fun K hK => ?kzz3) ?mzz3
          case hzz3 => simp only [List.getElem?_toArray, List.getElem?_cons_zero, List.getElem?_cons_succ]; rfl
          case lzz3 => kernel_rfl
          case kzz3 =>
            have HZ := Lib.hid hHeld
            have BX0 := Lib.hid (X0.out.q HZ.out)
            have y0 := (BX0.out 0 _ rfl).1
            have f0 := (BX0.out 0 _ rfl).2
            have y1 := (BX0.out 1 _ rfl).1
            have f1 := (BX0.out 1 _ rfl).2
            have y2 := (BX0.out 2 _ rfl).1
            have f2 := (BX0.out 2 _ rfl).2
            have y3 := (BX0.out 3 _ rfl).1
            have f3 := (BX0.out 3 _ rfl).2
            have y4 := (BX0.out 4 _ rfl).1
            have f4 := (BX0.out 4 _ rfl).2
            have y5 := (BX0.out 5 _ rfl).1
            have f5 := (BX0.out 5 _ rfl).2
            have y6 := (BX0.out 6 _ rfl).1
            have f6 := (BX0.out 6 _ rfl).2
            have y7 := (BX0.out 7 _ rfl).1
            have f7 := (BX0.out 7 _ rfl).2
            have y8 := (BX0.out 8 _ rfl).1
            have f8 := (BX0.out 8 _ rfl).2
            have y9 := (BX0.out 9 _ rfl).1
            have f9 := (BX0.out 9 _ rfl).2
            have y10 := (BX0.out 10 _ rfl).1
            have f10 := (BX0.out 10 _ rfl).2
            have Z1 : Hid (Bx (((((((((((v3.setCell ⟨b0, 0, none⟩ (.int .i64 Y.kind)).setCell ⟨b0, 1, none⟩ (.int .i64 Y.epoch)).setCell ⟨b0, 2, none⟩ (.int .i64 Y.sess)).setCell ⟨b0, 3, none⟩ (.int .i64 Y.seq)).setCell ⟨b0, 4, none⟩ (.string Y.tok)).setCell ⟨b0, 5, none⟩ (.int .i64 Y.op.kind)).setCell ⟨b0, 6, none⟩ (.string Y.op.key)).setCell ⟨b0, 7, none⟩ (.string Y.op.val)).setCell ⟨b0, 8, none⟩ (.string Y.op.lo)).setCell ⟨b0, 9, none⟩ (.string Y.op.hi)).setCell ⟨b0, 10, none⟩ (.int .i64 Y.op.most)) b0 [.int .i64 Y.kind, .int .i64 Y.epoch, .int .i64 Y.sess, .int .i64 Y.seq, .string Y.tok, .int .i64 Y.op.kind, .string Y.op.key, .string Y.op.val, .string Y.op.lo, .string Y.op.hi, .int .i64 Y.op.most]) := Lib.hid (Bx.puts [.int .i64 Y.kind, .int .i64 Y.epoch, .int .i64 Y.sess, .int .i64 Y.seq, .string Y.tok, .int .i64 Y.op.kind, .string Y.op.key, .string Y.op.val, .string Y.op.lo, .string Y.op.hi, .int .i64 Y.op.most] [.int .i64 0, .int .i64 0, .int .i64 0, .int .i64 0, .string ⟨#[]⟩, .int .i64 0, .string ⟨#[]⟩, .string ⟨#[]⟩, .string ⟨#[]⟩, .string ⟨#[]⟩, .int .i64 0] [] BX0.out rfl)
            have ZQ : Hid (Q w (((((((((((v3.setCell ⟨b0, 0, none⟩ (.int .i64 Y.kind)).setCell ⟨b0, 1, none⟩ (.int .i64 Y.epoch)).setCell ⟨b0, 2, none⟩ (.int .i64 Y.sess)).setCell ⟨b0, 3, none⟩ (.int .i64 Y.seq)).setCell ⟨b0, 4, none⟩ (.string Y.tok)).setCell ⟨b0, 5, none⟩ (.int .i64 Y.op.kind)).setCell ⟨b0, 6, none⟩ (.string Y.op.key)).setCell ⟨b0, 7, none⟩ (.string Y.op.val)).setCell ⟨b0, 8, none⟩ (.string Y.op.lo)).setCell ⟨b0, 9, none⟩ (.string Y.op.hi)).setCell ⟨b0, 10, none⟩ (.int .i64 Y.op.most))) := Lib.hid (Q.sets (Nat.le_of_eq HB0.out) [.int .i64 Y.kind, .int .i64 Y.epoch, .int .i64 Y.sess, .int .i64 Y.seq, .string Y.tok, .int .i64 Y.op.kind, .string Y.op.key, .string Y.op.val, .string Y.op.lo, .string Y.op.hi, .int .i64 Y.op.most] 0 (QF.out.trans HZ.out))
            go_simp
            refine hK.out _ _ ?Rzz3
            case Rzz3 =>
              clear hK K
              try simp only [Act.put, List.setIfInBounds_toArray, List.set_cons_zero, List.set_cons_succ]
              refine wpAnyH_take (i := 4) (oi := ?ozz2) (v := ?vzz2) ?hzz2 ?azz2 ?bzz2 ?czz2 ?qzz2 ?yzz2 ?szz2 ?rzz2
              case hzz2 => simp only [List.getElem?_toArray, List.getElem?_cons_zero, List.getElem?_cons_succ]; rfl
              case azz2 => kernel_rfl
              case bzz2 => kernel_rfl
              case czz2 => kernel_rfl
              case yzz2 =>
                refine Or.inl ⟨by rfl, ?_⟩
                intro w hSw
                skip
                go_simp
                try with_reducible rfl
              case qzz2 => exact fun _ _ _ h => h
              case szz2 => first | assumption | trivial
              case' rzz2 => simp only [Act.put, List.setIfInBounds_toArray, List.set_cons_zero, List.set_cons_succ]
              refine wpAnyH_done (by kernel_rfl) ?_ _
              go_wp2
              generalize (((((((((((v3.setCell ⟨b0, 0, none⟩ (.int .i64 Y.kind)).setCell ⟨b0, 1, none⟩ (.int .i64 Y.epoch)).setCell ⟨b0, 2, none⟩ (.int .i64 Y.sess)).setCell ⟨b0, 3, none⟩ (.int .i64 Y.seq)).setCell ⟨b0, 4, none⟩ (.string Y.tok)).setCell ⟨b0, 5, none⟩ (.int .i64 Y.op.kind)).setCell ⟨b0, 6, none⟩ (.string Y.op.key)).setCell ⟨b0, 7, none⟩ (.string Y.op.val)).setCell ⟨b0, 8, none⟩ (.string Y.op.lo)).setCell ⟨b0, 9, none⟩ (.string Y.op.hi)).setCell ⟨b0, 10, none⟩ (.int .i64 Y.op.most)) = W99 at Z1 ZQ ⊢
              have r0 := (Z1.out 0 _ rfl).1
              have r1 := (Z1.out 1 _ rfl).1
              have r2 := (Z1.out 2 _ rfl).1
              have r3 := (Z1.out 3 _ rfl).1
              have r4 := (Z1.out 4 _ rfl).1
              have r5 := (Z1.out 5 _ rfl).1
              have r6 := (Z1.out 6 _ rfl).1
              have r7 := (Z1.out 7 _ rfl).1
              have r8 := (Z1.out 8 _ rfl).1
              have r9 := (Z1.out 9 _ rfl).1
              have r10 := (Z1.out 10 _ rfl).1
              refine bodyPost_ret (v := .tuple #[.agg #[.int .i64 Y.kind, .int .i64 Y.epoch, .int .i64 Y.sess, .int .i64 Y.seq, .string Y.tok, .int .i64 Y.op.kind, .string Y.op.key, .string Y.op.val, .string Y.op.lo, .string Y.op.hi, .int .i64 Y.op.most], .int .i64 er]) (by simp [results, Tryd.results11, go_sem, r0, r1, r2, r3, r4, r5, r6, r7, r8, r9, r10]) rfl ?_
              exact ⟨rfl, ZQ.out⟩
          case' mzz3 => skip
          exact AllReadyL.nil
      case' mzz4 => skip
      exact AllReadyL.nil
  case' mzz5 => skip
  exact AllReadyL.nil
end Wi
end Go.Proofs.YtdipikdebapmlaaDoor

/- 'append(own, more...)' for a kind of elements; only the own block has turned. -/
namespace Go.Proofs.YtdipikdebapmlaaDoor
set_option maxRecDepth 100000
open Go.RowKit
set_option linter.unusedVariables false
variable {α : Type}

theorem run_appKG (K : Kind α) (w : World) (base : Nat) (A : Option Addr) (n c : Nat) (l : List α) (h : OwnK K w base A n c l) (A2 : Option Addr) (m c2 : Nat) (l2 : List α) (h2 : Lst K w A2 m l2) (hnil : A2 = none → m = 0 ∧ c2 = 0)
    (hb : (n + m) * K.bs ≤ 140737488355328) (hbase : base ≤ w.heap.size) (ty : TypeId) :
    ∃ A' c' w', (Builtin.append_ #[K.S, K.S] ty #[.slice A n c, .slice A2 m c2]).run Tryd.prog w = .ok (.slice A' (n + m) c') w' ∧ OwnK K w' base A' (n + m) c' (l ++ l2) ∧ w.grownBy w' (Value.slice A n c).ownBlock ∧
      ((Value.slice A' (n + m) c').ownBlock = (Value.slice A n c).ownBlock ∨ (Value.slice A' (n + m) c').ownBlock = some w.heap.size) := by
  have hmax : n + m ≤ maxLen := by
    have : (n + m) * 1 ≤ (n + m) * K.bs := Nat.mul_le_mul_left _ K.bpos
    unfold maxLen; omega
  obtain ⟨A', c', w', h1, h3, h4, h5⟩ := run_appG (P := Tryd.prog) (w := w) base K.S ty K.T K.z K.k K.bs K.und K.info K.zc K.pos A n c (K.rows l) h A2 m c2 (K.rows l2) h2.1
    (fun j u hu => by obtain ⟨a, e, _, hc⟩ := h2.2 j u hu; exact ⟨a, e, hc⟩) (K.rows_one l2) hnil hmax hb hbase
  rw [← K.rows_app] at h3
  exact ⟨A', c', w', h1, h3, h4, h5⟩
theorem grown_below {K : Kind α} {w w' : World} {base : Nat} {A : Option Addr} {n c : Nat} {l : List α} (h : OwnK K w base A n c l) (hg : w.grownBy w' (Value.slice A n c).ownBlock) (hbase : base ≤ w.heap.size) : Below base w w' :=
  below_grown hg hbase fun k hk => by
    rcases h.parts with ⟨rfl, _⟩ | ⟨g, cur, rfl, hb, _⟩
    · cases hk
    · simp only [Value.ownBlock, Option.some.injEq] at hk; omega

theorem step_appKG (K : Kind α) {ops : Array Oper} {o : Oper} {a : Act} {w : World} {X : Act → World → Prop} {R : Exit → Act → World → Prop} {E : Prop} (hgd : o.guard = none) (s x : Operand) (t : TypeId) (ht : t = K.S)
    (ho : o.op = .call { callee := .builtin .append, args := #[s, x], argTypes := #[t, t] }) (base : Nat) (A : Option Addr) (n c : Nat) (l : List α) (hs : a.eval s = .slice A n c) (h : OwnK K w base A n c l) (A2 : Option Addr) (m c2 : Nat) (l2 : List α) (hx : a.eval x = .slice A2 m c2) (h2 : Lst K w A2 m l2) (hnil : A2 = none → m = 0 ∧ c2 = 0)
    (hb : (n + m) * K.bs ≤ 140737488355328) (hbase : base ≤ w.heap.size)
    (hk : ∀ A' c' w', OwnK K w' base A' (n + m) c' (l ++ l2) → w.grownBy w' (Value.slice A n c).ownBlock →
      ((Value.slice A' (n + m) c').ownBlock = (Value.slice A n c).ownBlock ∨ (Value.slice A' (n + m) c').ownBlock = some w.heap.size) → X (a.put o.dst (.slice A' (n + m) c')) w') : if Region.wanted o (yielded ops a.tmps) = true then Oper.wp Tryd.prog o a w X R else E := by
  subst ht
  rw [if_pos (wanted_plain hgd)]
  obtain ⟨A', c', w', hr, h3, h4, h5⟩ := run_appKG K w base A n c l h A2 m c2 l2 h2 hnil hb hbase o.type
  unfold Oper.wp execOp
  simp only [ho, resolve, invoke, builtin, Sem.run_bind, Sem.run_pure, Result.andThen_ok, List.map_toArray, List.map_cons, List.map_nil, hs, hx, hr]
  exact hk A' c' w' h3 h4 h5

end Go.Proofs.YtdipikdebapmlaaDoor

/- 'append(own, more...)' as one step of a region that draws; how many, and what, named anew. -/
namespace Go.Proofs.YtdipikdebapmlaaDoor
set_option maxRecDepth 100000
open Go.RowKit
set_option linter.unusedVariables false
theorem step_appKM {α : Type} (K : Kind α) {ops : Array Oper} {o : Oper} {a : Act} {w : World} {X : Act → World → Prop} {R : Exit → Act → World → Prop} {E : Prop} (hgd : o.guard = none) (s x : Operand) (t : TypeId) (ht : t = K.S)
    (ho : o.op = .call { callee := .builtin .append, args := #[s, x], argTypes := #[t, t] }) (base : Nat) (A : Option Addr) (n c : Nat) (l : List α) (hs : a.eval s = .slice A n c) (h : OwnK K w base A n c l) (A2 : Option Addr) (m c2 : Nat) (l2 : List α) (hx : a.eval x = .slice A2 m c2) (h2 : Lst K w A2 m l2) (hnil : A2 = none → m = 0 ∧ c2 = 0)
    (N : Nat) (hN : n + m = N) (l3 : List α) (hl : l ++ l2 = l3) (hb : N * K.bs ≤ 140737488355328) (hbase : base ≤ w.heap.size)
    (hk : ∀ A' c' w', OwnK K w' base A' N c' l3 → Below base w w' → w.grownBy w' (Value.slice A n c).ownBlock → X (a.put o.dst (.slice A' N c')) w') : if Region.wanted o (yielded ops a.tmps) = true then Oper.wp Tryd.prog o a w X R else E := by
  subst hN hl
  exact step_appKG K hgd s x t ht ho base A n c l hs h A2 m c2 l2 hx h2 hnil hb hbase fun A' c' w' h3 h4 _ => hk A' c' w' h3 (grown_below h h4 hbase) h4
end Go.Proofs.YtdipikdebapmlaaDoor

/- The contract of the hand's reply. -/
namespace Go.Proofs.YtdipikdebapmlaaDoor
set_option maxRecDepth 100000
open Go.RowKit Prm
set_option linter.unusedVariables false
set_option linter.unusedSimpArgs false
namespace Wi

theorem own_only {α : Type} {K : Kind α} {w w2 : World} {B n c g : Nat} {A : Option Addr} {l : List α} (h : OwnK K w B A n c l) (gr : w.grownBy w2 (some g)) (hg : g < B) : OwnK K w2 B A n c l :=
  World.ownsRow.kept h gr (by
    rcases h.parts with ⟨rfl, _⟩ | ⟨k, cur, rfl, hk, _⟩
    · exact .inl rfl
    · exact .inr (fun e => by simp only [Value.ownBlock, Option.some.injEq] at e; omega))
theorem only_low {w W W' : World} {b BB : Nat} (g : w.grownBy W (some b)) (h : Below BB W W') (hb : w.heap.size ≤ BB) : w.grownBy W' (some b) :=
  ⟨h.os.trans g.os, h.tape.trans g.tape, h.output.trans g.output, Nat.le_trans g.size h.size, fun i hi hne => (h.block i (by omega)).trans (g.block i hi hne)⟩
theorem Hd.low {a : Addr} {w w' : World} {b BB : Nat} {P : Pt} (h : Hd a w b P) (hb : Below BB w w') (hB : b < BB) : Hd a w' b P := by
  obtain ⟨r, E, hx, h1, h2, h3⟩ := h
  exact ⟨r, E, hx.below hb hB, h1, h2, h3⟩
theorem Hw.low {a : Addr} {w0 w W W' : World} {b bo br BB : Nat} {P : Pt} {cs zs : List Value} (H : Hw a w0 w W b bo br P cs zs) (h : Below BB W W') (hB : bo < BB) : Hw a w0 w W' b bo br P cs zs := by
  have e := H.e
  exact ⟨H.h.low h (by omega), H.x.below h hB, H.r.below h (by omega), Below.trans H.q (Below.mono h (by omega)), only_low H.g h (by omega), e⟩
theorem Hw.q2 {a : Addr} {w0 w W W' : World} {b bo br : Nat} {P : Pt} {cs zs : List Value} (H : Hw a w0 w W b bo br P cs zs) (q : Q W W') : Hw a w0 w W' b bo br P cs zs :=
  ⟨H.h.q q, H.x.q q, H.r.q q, H.q.trans q, H.g.trans (only_q q), H.e⟩
theorem dec1 (n : Nat) : decide ((n : Int) = 1) = decide (n = 1) := by
  by_cases h : n = 1
  · subst h; rfl
  · rw [decide_eq_false h, decide_eq_false (by omega)]

set_option maxRecDepth 100000 in
set_option maxHeartbeats 8000000 in
theorem hreply_any (a c : Addr) (b : Nat) (s : List UInt8) (w0 w : World) (hS : Sen w0 a c) (q0 : Q w0 w) (hb : w0.heap.size ≤ b) (hH : Hd a w b (p0 s)) :
    Calls Tryd.prog 57 #[.pointer (some ⟨b, 0, none⟩)] w fun e w' => ∃ A cp, e = .returned (rpV (sOf s) A (sOf s).rows.length cp) ∧ In_ pairK w' A (sOf s).rows.length cp (sOf s).rows ∧ (∀ ad, A = some ad → w.heap.size ≤ ad.block) ∧ Hd a w' b (lastS s) ∧ w.grownBy w' (some b) := by
  have KNM : Hid (∀ W, Q w0 W → ∀ P P', tkm 1073741824 P = P' → Hd a W b P → ∀ fld, Calls Tryd.prog 59 #[.pointer (some ⟨b, 0, none⟩), .string fld, .int .u64 1073741824] W fun e w' => e = .returned (.int .i64 (P'.n : Int)) ∧ Hd a w' b P' ∧ W.grownBy w' (some b)) := Lib.hid (fun W q P P' hp h fld => by subst hp; exact hnum_any a c b 1073741824 fld P W (hS.q q) h (by omega))
  have KN16 : Hid (∀ W, Q w0 W → ∀ P P', tkm 16 P = P' → Hd a W b P → ∀ fld, Calls Tryd.prog 59 #[.pointer (some ⟨b, 0, none⟩), .string fld, .int .u64 16] W fun e w' => e = .returned (.int .i64 (P'.n : Int)) ∧ Hd a w' b P' ∧ W.grownBy w' (some b)) := Lib.hid (fun W q P P' hp h fld => by subst hp; exact hnum_any a c b 16 fld P W (hS.q q) h (by omega))
  have KN1 : Hid (∀ W, Q w0 W → ∀ P P', tkm 1 P = P' → Hd a W b P → ∀ fld, Calls Tryd.prog 59 #[.pointer (some ⟨b, 0, none⟩), .string fld, .int .u64 1] W fun e w' => e = .returned (.int .i64 (P'.n : Int)) ∧ Hd a w' b P' ∧ W.grownBy w' (some b)) := Lib.hid (fun W q P P' hp h fld => by subst hp; exact hnum_any a c b 1 fld P W (hS.q q) h (by omega))
  have KT64 : Hid (∀ W, Q w0 W → ∀ P P', tkt 64 P = P' → Hd a W b P → ∀ fld, Calls Tryd.prog 60 #[.pointer (some ⟨b, 0, none⟩), .string fld, .int .i64 64] W fun e w' => e = .returned (.string (ba P'.t)) ∧ Hd a w' b P' ∧ W.grownBy w' (some b)) := Lib.hid (fun W q P P' hp h fld => by subst hp; exact htext_any a c b 64 fld P W (hS.q q) h (by omega) (by omega))
  have KR : Hid (∀ W, Q w0 W → ∀ P, Hd a W b P → Calls Tryd.prog 76 #[.pointer (some ⟨b, 0, none⟩)] W fun e w' => e = .returned (.agg #[.string (ba (tkt 32 P).t), .string (ba (tkt 64 (tkt 32 P)).t)]) ∧ Hd a w' b (tkt 64 (tkt 32 P)) ∧ W.grownBy w' (some b)) := Lib.hid (fun W q P h => hrow_any a c b P w0 W hS q hb h)
  have H0 := Lib.hid (Hw.start [.int .i64 0, .int .i64 0, .int .i64 0, .int .i64 0, .string ⟨#[]⟩, .bool false, .slice none 0 0, .bool false] [.int .i64 0, .int .i64 0, .int .i64 0, .int .i64 0, .string ⟨#[]⟩, .bool false, .slice none 0 0, .bool false] 40 40 hH q0 hb)
  clear hS hH
  go_enter Tryd.func57, Tryd.ntmps57
  go_upto_region 2 with (fail)
  change Hid (Hw a w0 w ((w.alloc (.cells #[.int .i64 0, .int .i64 0, .int .i64 0, .int .i64 0, .string ⟨#[]⟩, .bool false, .slice none 0 0, .bool false] 40)).alloc (.cells #[.int .i64 0, .int .i64 0, .int .i64 0, .int .i64 0, .string ⟨#[]⟩, .bool false, .slice none 0 0, .bool false] 40)) b (w.heap.size + 1) w.heap.size _ _ _) at H0
  generalize (w.alloc (.cells #[.int .i64 0, .int .i64 0, .int .i64 0, .int .i64 0, .string ⟨#[]⟩, .bool false, .slice none 0 0, .bool false] 40)).alloc (.cells #[.int .i64 0, .int .i64 0, .int .i64 0, .int .i64 0, .string ⟨#[]⟩, .bool false, .slice none 0 0, .bool false] 40) = W0 at H0 ⊢
  generalize w.heap.size + 1 = bo at H0 ⊢
  generalize w.heap.size = br at H0 ⊢
  change Hid (Hw a w0 w W0 b bo br (p0 s) [.int .i64 0, .int .i64 0, .int .i64 0, .int .i64 0, .string ⟨#[]⟩, .bool false, .slice none 0 0, .bool false] [.int .i64 0, .int .i64 0, .int .i64 0, .int .i64 0, .string ⟨#[]⟩, .bool false, .slice none 0 0, .bool false]) at H0
  go_wp2_with fail
  refine (KNM.out W0 H0.out.q (p0 s) (r1 s) rfl H0.out.h _).mono ?_
  rintro e1 v1 ⟨rfl, hd1, ge1⟩
  have J1 : Hid (Hw a w0 w v1 b bo br (r1 s) [.int .i64 0, .int .i64 0, .int .i64 0, .int .i64 0, .string ⟨#[]⟩, .bool false, .slice none 0 0, .bool false] [.int .i64 0, .int .i64 0, .int .i64 0, .int .i64 0, .string ⟨#[]⟩, .bool false, .slice none 0 0, .bool false]) := Lib.hid (H0.out.call hd1 ge1)
  clear hd1 ge1 H0
  have y0 := (J1.out.x 0 _ rfl).1
  have f0 := (J1.out.x 0 _ rfl).2
  have H1 : Hid (Hw a w0 w (v1.setCell ⟨bo, 0, none⟩ (.int .i64 ((r1 s).n : Int))) b bo br (r1 s) [.int .i64 ((r1 s).n : Int), .int .i64 0, .int .i64 0, .int .i64 0, .string ⟨#[]⟩, .bool false, .slice none 0 0, .bool false] [.int .i64 0, .int .i64 0, .int .i64 0, .int .i64 0, .string ⟨#[]⟩, .bool false, .slice none 0 0, .bool false]) := Lib.hid ((J1.out.put 0 (by simp) (.int .i64 ((r1 s).n : Int))))
  clear J1
  go_upto_region 3 with (fail)
  generalize (v1.setCell ⟨bo, 0, none⟩ (.int .i64 ((r1 s).n : Int))) = W1 at H1 ⊢
  clear y0 f0
  go_wp2_with fail
  refine (KNM.out W1 H1.out.q (r1 s) (r2 s) rfl H1.out.h _).mono ?_
  rintro e2 v2 ⟨rfl, hd2, ge2⟩
  have J2 : Hid (Hw a w0 w v2 b bo br (r2 s) [.int .i64 ((r1 s).n : Int), .int .i64 0, .int .i64 0, .int .i64 0, .string ⟨#[]⟩, .bool false, .slice none 0 0, .bool false] [.int .i64 0, .int .i64 0, .int .i64 0, .int .i64 0, .string ⟨#[]⟩, .bool false, .slice none 0 0, .bool false]) := Lib.hid (H1.out.call hd2 ge2)
  clear hd2 ge2 H1
  have y0 := (J2.out.x 1 _ rfl).1
  have f0 := (J2.out.x 1 _ rfl).2
  have H2 : Hid (Hw a w0 w (v2.setCell ⟨bo, 1, none⟩ (.int .i64 ((r2 s).n : Int))) b bo br (r2 s) [.int .i64 ((r1 s).n : Int), .int .i64 ((r2 s).n : Int), .int .i64 0, .int .i64 0, .string ⟨#[]⟩, .bool false, .slice none 0 0, .bool false] [.int .i64 0, .int .i64 0, .int .i64 0, .int .i64 0, .string ⟨#[]⟩, .bool false, .slice none 0 0, .bool false]) := Lib.hid ((J2.out.put 1 (by simp) (.int .i64 ((r2 s).n : Int))))
  clear J2
  go_upto_region 4 with (fail)
  generalize (v2.setCell ⟨bo, 1, none⟩ (.int .i64 ((r2 s).n : Int))) = W2 at H2 ⊢
  clear y0 f0
  go_wp2_with fail
  refine (KNM.out W2 H2.out.q (r2 s) (r3 s) rfl H2.out.h _).mono ?_
  rintro e3 v3 ⟨rfl, hd3, ge3⟩
  have J3 : Hid (Hw a w0 w v3 b bo br (r3 s) [.int .i64 ((r1 s).n : Int), .int .i64 ((r2 s).n : Int), .int .i64 0, .int .i64 0, .string ⟨#[]⟩, .bool false, .slice none 0 0, .bool false] [.int .i64 0, .int .i64 0, .int .i64 0, .int .i64 0, .string ⟨#[]⟩, .bool false, .slice none 0 0, .bool false]) := Lib.hid (H2.out.call hd3 ge3)
  clear hd3 ge3 H2
  have y0 := (J3.out.x 2 _ rfl).1
  have f0 := (J3.out.x 2 _ rfl).2
  have H3 : Hid (Hw a w0 w (v3.setCell ⟨bo, 2, none⟩ (.int .i64 ((r3 s).n : Int))) b bo br (r3 s) [.int .i64 ((r1 s).n : Int), .int .i64 ((r2 s).n : Int), .int .i64 ((r3 s).n : Int), .int .i64 0, .string ⟨#[]⟩, .bool false, .slice none 0 0, .bool false] [.int .i64 0, .int .i64 0, .int .i64 0, .int .i64 0, .string ⟨#[]⟩, .bool false, .slice none 0 0, .bool false]) := Lib.hid ((J3.out.put 2 (by simp) (.int .i64 ((r3 s).n : Int))))
  clear J3
  go_upto_region 5 with (fail)
  generalize (v3.setCell ⟨bo, 2, none⟩ (.int .i64 ((r3 s).n : Int))) = W3 at H3 ⊢
  clear y0 f0
  go_wp2_with fail
  refine (KN16.out W3 H3.out.q (r3 s) (s4 s) rfl H3.out.h _).mono ?_
  rintro e4 v4 ⟨rfl, hd4, ge4⟩
  have J4 : Hid (Hw a w0 w v4 b bo br (s4 s) [.int .i64 ((r1 s).n : Int), .int .i64 ((r2 s).n : Int), .int .i64 ((r3 s).n : Int), .int .i64 0, .string ⟨#[]⟩, .bool false, .slice none 0 0, .bool false] [.int .i64 0, .int .i64 0, .int .i64 0, .int .i64 0, .string ⟨#[]⟩, .bool false, .slice none 0 0, .bool false]) := Lib.hid (H3.out.call hd4 ge4)
  clear hd4 ge4 H3
  have y0 := (J4.out.x 3 _ rfl).1
  have f0 := (J4.out.x 3 _ rfl).2
  have H4 : Hid (Hw a w0 w (v4.setCell ⟨bo, 3, none⟩ (.int .i64 ((s4 s).n : Int))) b bo br (s4 s) [.int .i64 ((r1 s).n : Int), .int .i64 ((r2 s).n : Int), .int .i64 ((r3 s).n : Int), .int .i64 ((s4 s).n : Int), .string ⟨#[]⟩, .bool false, .slice none 0 0, .bool false] [.int .i64 0, .int .i64 0, .int .i64 0, .int .i64 0, .string ⟨#[]⟩, .bool false, .slice none 0 0, .bool false]) := Lib.hid ((J4.out.put 3 (by simp) (.int .i64 ((s4 s).n : Int))))
  clear J4
  go_upto_region 6 with (fail)
  generalize (v4.setCell ⟨bo, 3, none⟩ (.int .i64 ((s4 s).n : Int))) = W4 at H4 ⊢
  clear y0 f0
  go_wp2_with fail
  refine (KT64.out W4 H4.out.q (s4 s) (s5 s) rfl H4.out.h _).mono ?_
  rintro e5 v5 ⟨rfl, hd5, ge5⟩
  have J5 : Hid (Hw a w0 w v5 b bo br (s5 s) [.int .i64 ((r1 s).n : Int), .int .i64 ((r2 s).n : Int), .int .i64 ((r3 s).n : Int), .int .i64 ((s4 s).n : Int), .string ⟨#[]⟩, .bool false, .slice none 0 0, .bool false] [.int .i64 0, .int .i64 0, .int .i64 0, .int .i64 0, .string ⟨#[]⟩, .bool false, .slice none 0 0, .bool false]) := Lib.hid (H4.out.call hd5 ge5)
  clear hd5 ge5 H4
  have y0 := (J5.out.x 4 _ rfl).1
  have f0 := (J5.out.x 4 _ rfl).2
  have H5 : Hid (Hw a w0 w (v5.setCell ⟨bo, 4, none⟩ (.string (ba (s5 s).t))) b bo br (s5 s) [.int .i64 ((r1 s).n : Int), .int .i64 ((r2 s).n : Int), .int .i64 ((r3 s).n : Int), .int .i64 ((s4 s).n : Int), .string (ba (s5 s).t), .bool false, .slice none 0 0, .bool false] [.int .i64 0, .int .i64 0, .int .i64 0, .int .i64 0, .string ⟨#[]⟩, .bool false, .slice none 0 0, .bool false]) := Lib.hid ((J5.out.put 4 (by simp) (.string (ba (s5 s).t))))
  clear J5
  go_upto_region 7 with (fail)
  generalize (v5.setCell ⟨bo, 4, none⟩ (.string (ba (s5 s).t))) = W5 at H5 ⊢
  clear y0 f0
  go_wp2_with fail
  refine (KN1.out W5 H5.out.q (s5 s) (s6 s) rfl H5.out.h _).mono ?_
  rintro e6 v6 ⟨rfl, hd6, ge6⟩
  have J6 : Hid (Hw a w0 w v6 b bo br (s6 s) [.int .i64 ((r1 s).n : Int), .int .i64 ((r2 s).n : Int), .int .i64 ((r3 s).n : Int), .int .i64 ((s4 s).n : Int), .string (ba (s5 s).t), .bool false, .slice none 0 0, .bool false] [.int .i64 0, .int .i64 0, .int .i64 0, .int .i64 0, .string ⟨#[]⟩, .bool false, .slice none 0 0, .bool false]) := Lib.hid (H5.out.call hd6 ge6)
  clear hd6 ge6 H5
  have y0 := (J6.out.x 5 _ rfl).1
  have f0 := (J6.out.x 5 _ rfl).2
  have H6 : Hid (Hw a w0 w (v6.setCell ⟨bo, 5, none⟩ (.bool (decide (((s6 s).n : Int) = 1)))) b bo br (s6 s) [.int .i64 ((r1 s).n : Int), .int .i64 ((r2 s).n : Int), .int .i64 ((r3 s).n : Int), .int .i64 ((s4 s).n : Int), .string (ba (s5 s).t), .bool (decide (((s6 s).n : Int) = 1)), .slice none 0 0, .bool false] [.int .i64 0, .int .i64 0, .int .i64 0, .int .i64 0, .string ⟨#[]⟩, .bool false, .slice none 0 0, .bool false]) := Lib.hid ((J6.out.put 5 (by simp) (.bool (decide (((s6 s).n : Int) = 1)))))
  clear J6
  go_upto_region 8 with (fail)
  generalize (v6.setCell ⟨bo, 5, none⟩ (.bool (decide (((s6 s).n : Int) = 1)))) = W6 at H6 ⊢
  clear y0 f0
  go_wp2_with fail
  refine (KN1.out W6 H6.out.q (s6 s) (s7 s) rfl H6.out.h _).mono ?_
  rintro e7 v7 ⟨rfl, hd7, ge7⟩
  have J7 : Hid (Hw a w0 w v7 b bo br (s7 s) [.int .i64 ((r1 s).n : Int), .int .i64 ((r2 s).n : Int), .int .i64 ((r3 s).n : Int), .int .i64 ((s4 s).n : Int), .string (ba (s5 s).t), .bool (decide (((s6 s).n : Int) = 1)), .slice none 0 0, .bool false] [.int .i64 0, .int .i64 0, .int .i64 0, .int .i64 0, .string ⟨#[]⟩, .bool false, .slice none 0 0, .bool false]) := Lib.hid (H6.out.call hd7 ge7)
  clear hd7 ge7 H6
  have y0 := (J7.out.x 7 _ rfl).1
  have f0 := (J7.out.x 7 _ rfl).2
  have H7 : Hid (Hw a w0 w (v7.setCell ⟨bo, 7, none⟩ (.bool (decide (((s7 s).n : Int) = 1)))) b bo br (s7 s) [.int .i64 ((r1 s).n : Int), .int .i64 ((r2 s).n : Int), .int .i64 ((r3 s).n : Int), .int .i64 ((s4 s).n : Int), .string (ba (s5 s).t), .bool (decide (((s6 s).n : Int) = 1)), .slice none 0 0, .bool (decide (((s7 s).n : Int) = 1))] [.int .i64 0, .int .i64 0, .int .i64 0, .int .i64 0, .string ⟨#[]⟩, .bool false, .slice none 0 0, .bool false]) := Lib.hid ((J7.out.put 7 (by simp) (.bool (decide (((s7 s).n : Int) = 1)))))
  clear J7
  go_upto_region 9 with (fail)
  generalize (v7.setCell ⟨bo, 7, none⟩ (.bool (decide (((s7 s).n : Int) = 1)))) = W7 at H7 ⊢
  clear y0 f0
  go_wp2_with fail
  refine (KN16.out W7 H7.out.q (s7 s) (s8 s) rfl H7.out.h _).mono ?_
  rintro e9 v9 ⟨rfl, hd9, ge9⟩
  have J9 : Hid (Hw a w0 w v9 b bo br (s8 s) [.int .i64 ((r1 s).n : Int), .int .i64 ((r2 s).n : Int), .int .i64 ((r3 s).n : Int), .int .i64 ((s4 s).n : Int), .string (ba (s5 s).t), .bool (decide (((s6 s).n : Int) = 1)), .slice none 0 0, .bool (decide (((s7 s).n : Int) = 1))] [.int .i64 0, .int .i64 0, .int .i64 0, .int .i64 0, .string ⟨#[]⟩, .bool false, .slice none 0 0, .bool false]) := Lib.hid (H7.out.call hd9 ge9)
  clear hd9 ge9 H7
  have HN16 := Lib.hid (tkm_le (m := 16) (s7 s))
  change Hid ((s8 s).n ≤ 16) at HN16
  have hblo := J9.out.x.lt
  generalize hBB : v9.heap.size = BB at hblo
  have HBB := Lib.hid hBB
  have HBO := Lib.hid hblo
  have HBL := Lib.hid (show b < BB by have := J9.out.e; omega)
  clear hBB hblo
  generalize hN : (s8 s).n = N at HN16 ⊢
  have HN := Lib.hid hN
  clear hN
  go_wp2
  go_loopw [29] (fun iv wr => ∃ (k : Nat) (acc : List Pr) (PL : Pt) (A4 : Option Addr) (c4 : Nat), iv = .int .i64 (k : Nat) ∧ k ≤ N ∧ acc.length = k ∧ OwnK pairK wr BB A4 acc.length c4 acc ∧ Hw a w0 w wr b bo br PL [.int .i64 ((r1 s).n : Int), .int .i64 ((r2 s).n : Int), .int .i64 ((r3 s).n : Int), .int .i64 ((s4 s).n : Int), .string (ba (s5 s).t), .bool (decide (((s6 s).n : Int) = 1)), .slice A4 acc.length c4, .bool (decide (((s7 s).n : Int) = 1))] [.int .i64 0, .int .i64 0, .int .i64 0, .int .i64 0, .string ⟨#[]⟩, .bool false, .slice none 0 0, .bool false] ∧ tkR N [] (s8 s) = tkR (N - k) acc PL ∧ BB ≤ wr.heap.size) (fun iv _ => N - (intOf iv).toNat)
  case atStart => exact ⟨0, [], s8 s, none, 0, rfl, Nat.zero_le _, rfl, OwnK.nil_ _ _ _, J9.out, rfl, Nat.le_of_eq HBB.out.symm⟩
  case round =>
    obtain ⟨k, acc, PL, A4, c4, rfl, hk, hacl, ho, hw, htk, hbw⟩ := hrel
    have HR := Lib.hid hw
    have O := Lib.hid ho
    have HTK := Lib.hid htk
    have HAL := Lib.hid hacl
    have HBW := Lib.hid hbw
    clear ho hw htk hacl hbw J9 HBB KNM KN16 KN1 KT64
    by_cases hlt : k < N
    · have hki : (k : Int) < (N : Int) := by omega
      have hk16 : k < 16 := by have := HN16.out; omega
      have HSTEP : Hid (tkR N [] (s8 s) = tkR (N - (k + 1)) (acc ++ [⟨ba (tkt 32 PL).t, ba (tkt 64 (tkt 32 PL)).t⟩]) (tkt 64 (tkt 32 PL))) := Lib.hid (HTK.out.trans (by
        rw [show N - k = (N - (k + 1)) + 1 by omega]
        rfl))
      have FEW : Hid ((acc.length + 1) * pairK.bs ≤ 140737488355328) := Lib.hid (by
        have h1 := HAL.out
        have h2 := HN16.out
        show (acc.length + 1) * 32 ≤ _
        omega)
      go_upto_region 11 with (fail)
      refine wp_region_heldL 7 (fun W' => Bx W' bo [.int .i64 ((r1 s).n : Int), .int .i64 ((r2 s).n : Int), .int .i64 ((r3 s).n : Int), .int .i64 ((s4 s).n : Int), .string (ba (s5 s).t), .bool (decide (((s6 s).n : Int) = 1)), .slice A4 acc.length c4, .bool (decide (((s7 s).n : Int) = 1))]) (by kernel_rfl) ?szz6 (fun hHeld => ?rzz6)
      case szz6 =>
        exact HR.out.x.drew
      case' rzz6 => skip
      have HRd : Hid (Hw a w0 w wr.drew b bo br PL [.int .i64 ((r1 s).n : Int), .int .i64 ((r2 s).n : Int), .int .i64 ((r3 s).n : Int), .int .i64 ((s4 s).n : Int), .string (ba (s5 s).t), .bool (decide (((s6 s).n : Int) = 1)), .slice A4 acc.length c4, .bool (decide (((s7 s).n : Int) = 1))] [.int .i64 0, .int .i64 0, .int .i64 0, .int .i64 0, .string ⟨#[]⟩, .bool false, .slice none 0 0, .bool false]) := Lib.hid (⟨HR.out.h, HR.out.x, HR.out.r, HR.out.q.drew, only_drew HR.out.g, HR.out.e⟩)
      have OD : Hid (OwnK pairK wr.drew BB A4 acc.length c4 acc) := Lib.hid O.out
      have HBD : Hid (BB ≤ wr.drew.heap.size) := HBW
      generalize hgen : wr.drew = D0 at hHeld HRd OD HBD ⊢
      clear hgen
      refine wpAnyL_take (i := 0) (oi := ?ozz7) (v := ?vzz7) ?hzz7 ?azz7 ?bzz7 ?czz7 ?kzz7 ?qzz7 ?yzz7 ?szz7 ?rzz7
      case hzz7 => simp only [List.getElem?_toArray, List.getElem?_cons_zero]; rfl
      case azz7 => kernel_rfl
      case bzz7 => kernel_rfl
      case czz7 => kernel_rfl
      case kzz7 => kernel_rfl
      case yzz7 =>
        refine Or.inl ⟨by rfl, ?_⟩
        intro w hSw
        skip
        go_simp
        try with_reducible rfl
      case qzz7 => exact fun _ _ _ h => h
      case szz7 => first | assumption | trivial
      case' rzz7 => simp only [Act.put, List.setIfInBounds_toArray, List.set_cons_zero, List.set_cons_succ]
      refine wpAnyL_take (i := 1) (oi := ?ozz8) (v := ?vzz8) ?hzz8 ?azz8 ?bzz8 ?czz8 ?kzz8 ?qzz8 ?yzz8 ?szz8 ?rzz8
      case hzz8 => simp only [List.getElem?_toArray, List.getElem?_cons_zero, List.getElem?_cons_succ]; rfl
      case azz8 => kernel_rfl
      case bzz8 => kernel_rfl
      case czz8 => kernel_rfl
      case kzz8 => kernel_rfl
      case yzz8 =>
        refine Or.inl ⟨by rfl, ?_⟩
        intro w hSw
        have a6 := (hSw 6 _ rfl).1; clear hSw
        go_simp
        try with_reducible rfl
      case qzz8 => exact fun _ _ _ h => h
      case szz8 => first | assumption | trivial
      case' rzz8 => simp only [Act.put, List.setIfInBounds_toArray, List.set_cons_zero, List.set_cons_succ]
      refine wpAnyL_take (i := 2) (oi := ?ozz9) (v := ?vzz9) ?hzz9 ?azz9 ?bzz9 ?czz9 ?kzz9 ?qzz9 ?yzz9 ?szz9 ?rzz9
      case hzz9 => simp only [List.getElem?_toArray, List.getElem?_cons_zero, List.getElem?_cons_succ]; rfl
      case azz9 => kernel_rfl
      case bzz9 => kernel_rfl
      case czz9 => kernel_rfl
      case kzz9 => kernel_rfl
      case yzz9 =>
        refine Or.inl ⟨by rfl, ?_⟩
        intro w hSw
        skip
        go_simp
        try with_reducible rfl
      case qzz9 => exact fun _ _ _ h => h
      case szz9 => first | assumption | trivial
      case' rzz9 => simp only [Act.put, List.setIfInBounds_toArray, List.set_cons_zero, List.set_cons_succ]
      refine wpAnyL_ready (rs := [3]) (by kernel_rfl) (by simp) ?_
      refine AllReadyL.cons (o := ?ozz14) ?hzz14 (fun K hK => ?kzz14) ?mzz14
      case hzz14 => simp only [List.getElem?_toArray, List.getElem?_cons_zero, List.getElem?_cons_succ]; rfl
      case kzz14 =>
        go_simp
        refine (KR.out D0 HRd.out.q PL HRd.out.h).mono ?_
        rintro e5 v5 ⟨rfl, hd, ge⟩
        have J5 : Hid (Hw a w0 w v5 b bo br (tkt 64 (tkt 32 PL)) [.int .i64 ((r1 s).n : Int), .int .i64 ((r2 s).n : Int), .int .i64 ((r3 s).n : Int), .int .i64 ((s4 s).n : Int), .string (ba (s5 s).t), .bool (decide (((s6 s).n : Int) = 1)), .slice A4 acc.length c4, .bool (decide (((s7 s).n : Int) = 1))] [.int .i64 0, .int .i64 0, .int .i64 0, .int .i64 0, .string ⟨#[]⟩, .bool false, .slice none 0 0, .bool false]) := Lib.hid (HRd.out.call hd ge)
        have O5 := Lib.hid (own_only OD.out ge HBL.out)
        have HB5 := Lib.hid (Nat.le_trans HBD.out ge.size)
        clear hd ge
        go_wp2_with fail
        refine hK.out _ _ ?Szz14 (fun hHeld => ?Rzz14)
        case Szz14 =>
          exact J5.out.x
        case Rzz14 =>
          clear hK K
          try simp only [Act.put, List.setIfInBounds_toArray, List.set_cons_zero, List.set_cons_succ]
          refine wpAnyL_ready (rs := [4]) (by kernel_rfl) (by simp) ?_
          refine AllReadyL.cons (o := ?ozz13) ?hzz13 (fun K hK => ?kzz13) ?mzz13
          case hzz13 => simp only [List.getElem?_toArray, List.getElem?_cons_zero, List.getElem?_cons_succ]; rfl
          case kzz13 =>
            go_simp
            have q6 := (Q.refl v5).alloc (.cells #[.string (ba (tkt 32 PL).t), .string (ba (tkt 64 (tkt 32 PL)).t)] 70)
            have OB : Hid (OwnK pairK (v5.alloc (.cells #[.string (ba (tkt 32 PL).t), .string (ba (tkt 64 (tkt 32 PL)).t)] 70)) BB (some ⟨v5.heap.size, 0, none⟩) 1 1 [⟨ba (tkt 32 PL).t, ba (tkt 64 (tkt 32 PL)).t⟩]) := Lib.hid (OwnK.lit1 pairK v5 BB HB5.out ⟨ba (tkt 32 PL).t, ba (tkt 64 (tkt 32 PL)).t⟩)
            have J6 := Lib.hid (J5.out.q2 q6)
            have O6 := Lib.hid (O5.out.q q6)
            have HB6 := Lib.hid (Nat.le_trans HB5.out q6.size)
            clear q6
            generalize v5.alloc (.cells #[.string (ba (tkt 32 PL).t), .string (ba (tkt 64 (tkt 32 PL)).t)] 70) = v6 at OB J6 O6 HB6 ⊢
            generalize v5.heap.size = nb at OB ⊢
            refine hK.out _ _ ?Szz13 (fun hHeld => ?Rzz13)
            case Szz13 =>
              exact J6.out.x
            case Rzz13 =>
              clear hK K
              try simp only [Act.put, List.setIfInBounds_toArray, List.set_cons_zero, List.set_cons_succ]
              refine wpAnyL_ready (rs := [5]) (by kernel_rfl) (by simp) ?_
              refine AllReadyL.cons (o := ?ozz12) ?hzz12 (fun K hK => ?kzz12) ?mzz12
              case hzz12 => simp only [List.getElem?_toArray, List.getElem?_cons_zero, List.getElem?_cons_succ]; rfl
              case kzz12 =>
                refine step_appKM pairK (by rfl) _ _ _ rfl (by rfl) BB A4 acc.length c4 acc (by rfl) O6.out _ 1 1 [⟨ba (tkt 32 PL).t, ba (tkt 64 (tkt 32 PL)).t⟩] (by rfl) OB.out.lst (fun e => by cases e) (acc.length + 1) rfl (acc ++ [⟨ba (tkt 32 PL).t, ba (tkt 64 (tkt 32 PL)).t⟩]) rfl FEW.out HB6.out ?_
                intro A7 c7 w7 o7 b7 g7
                have J7 := Lib.hid (J6.out.low b7 HBO.out)
                have O7 := Lib.hid o7
                have HB7 := Lib.hid (Nat.le_trans HB6.out b7.size)
                clear o7 b7 g7
                refine hK.out _ _ ?Szz12 (fun hHeld => ?Rzz12)
                case Szz12 =>
                  exact J7.out.x
                case Rzz12 =>
                  clear hK K
                  try simp only [Act.put, List.setIfInBounds_toArray, List.set_cons_zero, List.set_cons_succ]
                  refine wpAnyL_take (i := 6) (oi := ?ozz10) (v := ?vzz10) ?hzz10 ?azz10 ?bzz10 ?czz10 ?kzz10 ?qzz10 ?yzz10 ?szz10 ?rzz10
                  case hzz10 => simp only [List.getElem?_toArray, List.getElem?_cons_zero, List.getElem?_cons_succ]; rfl
                  case azz10 => kernel_rfl
                  case bzz10 => kernel_rfl
                  case czz10 => kernel_rfl
                  case kzz10 => kernel_rfl
                  case yzz10 =>
                    refine Or.inl ⟨by rfl, ?_⟩
                    intro w hSw
                    skip
                    go_simp
                    try with_reducible rfl
                  case qzz10 => exact fun _ _ _ h => h
                  case szz10 => first | assumption | trivial
                  case' rzz10 => simp only [Act.put, List.setIfInBounds_toArray, List.set_cons_zero, List.set_cons_succ]
                  refine wpAnyL_ready (rs := [7]) (by kernel_rfl) (by simp) ?_
                  refine AllReadyL.consK (o := ?ozz11) ?hzz11 ?lzz11 (fun K hK => ?kzz11) ?mzz11
                  case hzz11 => simp only [List.getElem?_toArray, List.getElem?_cons_zero, List.getElem?_cons_succ]; rfl
                  case lzz11 => kernel_rfl
                  case kzz11 =>
                    have y6 := (J7.out.x 6 _ rfl).1
                    have f6 := (J7.out.x 6 _ rfl).2
                    have HZ : Hid (Hw a w0 w (w7.setCell ⟨bo, 6, none⟩ (.slice A7 (acc.length + 1) c7)) b bo br (tkt 64 (tkt 32 PL)) [.int .i64 ((r1 s).n : Int), .int .i64 ((r2 s).n : Int), .int .i64 ((r3 s).n : Int), .int .i64 ((s4 s).n : Int), .string (ba (s5 s).t), .bool (decide (((s6 s).n : Int) = 1)), .slice A7 (acc.length + 1) c7, .bool (decide (((s7 s).n : Int) = 1))] [.int .i64 0, .int .i64 0, .int .i64 0, .int .i64 0, .string ⟨#[]⟩, .bool false, .slice none 0 0, .bool false]) := Lib.hid (J7.out.put 6 (by simp) (.slice A7 (acc.length + 1) c7))
                    have O8 := Lib.hid (O7.out.setCell (p := ⟨bo, 6, none⟩) HBO.out (.slice A7 (acc.length + 1) c7))
                    have HB8 : Hid (BB ≤ (w7.setCell ⟨bo, 6, none⟩ (.slice A7 (acc.length + 1) c7)).heap.size) := Lib.hid (Nat.le_trans HB7.out (only_set (only_refl w7 bo) 6 (.slice A7 (acc.length + 1) c7)).size)
                    go_simp
                    clear y6 f6
                    refine hK.out _ _ ?Rzz11
                    case Rzz11 =>
                      clear hK K
                      try simp only [Act.put, List.setIfInBounds_toArray, List.set_cons_zero, List.set_cons_succ]
                      refine wpAnyH_done (by kernel_rfl) ?_ _
                      generalize w7.setCell ⟨bo, 6, none⟩ (.slice A7 (acc.length + 1) c7) = W8 at HZ O8 HB8 ⊢
                      go_wp2
                      go_roundw
                      case rel => exact ⟨k + 1, acc ++ [⟨ba (tkt 32 PL).t, ba (tkt 64 (tkt 32 PL)).t⟩], (tkt 64 (tkt 32 PL)), A7, c7, by go_num, by omega, by rw [List.length_append, HAL.out]; rfl, by rw [List.length_append]; exact O8.out, by rw [List.length_append]; exact HZ.out, HSTEP.out, HB8.out⟩
                      case measure => simp [intOf]; omega
                  case' mzz11 => skip
                  exact AllReadyL.nil
              case' mzz12 => skip
              exact AllReadyL.nil
          case' mzz13 => skip
          exact AllReadyL.nil
      case' mzz14 => skip
      exact AllReadyL.nil
    · have hkn : k = N := by omega
      have hki : ¬ (k : Int) < (N : Int) := by omega
      have HSO : Hid ((sOf s).rows = acc ∧ lastS s = PL) := Lib.hid (by
        have h1 := HTK.out
        rw [hkn, Nat.sub_self] at h1
        have h2 : tkR N [] (s8 s) = (acc, PL) := h1
        unfold sOf lastS
        rw [HN.out, h2]
        exact ⟨rfl, rfl⟩)
      have HVal : Hid (Ending.returned (.agg #[.int .i64 ((r1 s).n : Int), .int .i64 ((r2 s).n : Int), .int .i64 ((r3 s).n : Int), .int .i64 ((s4 s).n : Int), .string (ba (s5 s).t), .bool (decide (((s6 s).n : Int) = 1)), .slice A4 acc.length c4, .bool (decide (((s7 s).n : Int) = 1))]) = .returned (rpV (sOf s) A4 (sOf s).rows.length c4)) := Lib.hid (by
        have h1 := HSO.out.1
        unfold sOf at h1 ⊢
        simp only at h1 ⊢
        rw [h1, dec1, dec1])
      have FEW : Hid (acc.length * pairK.bs ≤ 140737488355328) := Lib.hid (by
        have h1 := HAL.out
        have h2 := HN16.out
        show acc.length * 32 ≤ _
        omega)
      have HOW := Lib.hid (show ∀ ad, A4 = some ad → w.heap.size ≤ ad.block by
        rintro ad rfl
        have e := HR.out.e
        have hbo := HBO.out
        rcases O.out.parts with ⟨h0, _⟩ | ⟨g, cur, h0, h1, _⟩
        · cases h0
        · injection h0 with h0
          subst h0
          show w.heap.size ≤ g
          omega)
      clear hkn
      go_upto_region 13 with (fail)
      have y0 := (HR.out.x 0 _ rfl).1
      have z0 := (HR.out.r 0 _ rfl).1
      have f0 := (HR.out.r 0 _ rfl).2
      have y1 := (HR.out.x 1 _ rfl).1
      have z1 := (HR.out.r 1 _ rfl).1
      have f1 := (HR.out.r 1 _ rfl).2
      have y2 := (HR.out.x 2 _ rfl).1
      have z2 := (HR.out.r 2 _ rfl).1
      have f2 := (HR.out.r 2 _ rfl).2
      have y3 := (HR.out.x 3 _ rfl).1
      have z3 := (HR.out.r 3 _ rfl).1
      have f3 := (HR.out.r 3 _ rfl).2
      have y4 := (HR.out.x 4 _ rfl).1
      have z4 := (HR.out.r 4 _ rfl).1
      have f4 := (HR.out.r 4 _ rfl).2
      have y5 := (HR.out.x 5 _ rfl).1
      have z5 := (HR.out.r 5 _ rfl).1
      have f5 := (HR.out.r 5 _ rfl).2
      have y6 := (HR.out.x 6 _ rfl).1
      have z6 := (HR.out.r 6 _ rfl).1
      have f6 := (HR.out.r 6 _ rfl).2
      have y7 := (HR.out.x 7 _ rfl).1
      have z7 := (HR.out.r 7 _ rfl).1
      have f7 := (HR.out.r 7 _ rfl).2
      have HZ : Hid (Hw a w0 w ((((((((wr.setCell ⟨br, 0, none⟩ (.int .i64 ((r1 s).n : Int))).setCell ⟨br, 1, none⟩ (.int .i64 ((r2 s).n : Int))).setCell ⟨br, 2, none⟩ (.int .i64 ((r3 s).n : Int))).setCell ⟨br, 3, none⟩ (.int .i64 ((s4 s).n : Int))).setCell ⟨br, 4, none⟩ (.string (ba (s5 s).t))).setCell ⟨br, 5, none⟩ (.bool (decide (((s6 s).n : Int) = 1)))).setCell ⟨br, 6, none⟩ (.slice A4 acc.length c4)).setCell ⟨br, 7, none⟩ (.bool (decide (((s7 s).n : Int) = 1)))) b bo br PL [.int .i64 ((r1 s).n : Int), .int .i64 ((r2 s).n : Int), .int .i64 ((r3 s).n : Int), .int .i64 ((s4 s).n : Int), .string (ba (s5 s).t), .bool (decide (((s6 s).n : Int) = 1)), .slice A4 acc.length c4, .bool (decide (((s7 s).n : Int) = 1))] [.int .i64 ((r1 s).n : Int), .int .i64 ((r2 s).n : Int), .int .i64 ((r3 s).n : Int), .int .i64 ((s4 s).n : Int), .string (ba (s5 s).t), .bool (decide (((s6 s).n : Int) = 1)), .slice A4 acc.length c4, .bool (decide (((s7 s).n : Int) = 1))]) := Lib.hid (((((((((HR.out.putR 0 (by simp) (.int .i64 ((r1 s).n : Int))).putR 1 (by simp) (.int .i64 ((r2 s).n : Int))).putR 2 (by simp) (.int .i64 ((r3 s).n : Int))).putR 3 (by simp) (.int .i64 ((s4 s).n : Int))).putR 4 (by simp) (.string (ba (s5 s).t))).putR 5 (by simp) (.bool (decide (((s6 s).n : Int) = 1)))).putR 6 (by simp) (.slice A4 acc.length c4)).putR 7 (by simp) (.bool (decide (((s7 s).n : Int) = 1)))))
      have OZ : Hid (OwnK pairK ((((((((wr.setCell ⟨br, 0, none⟩ (.int .i64 ((r1 s).n : Int))).setCell ⟨br, 1, none⟩ (.int .i64 ((r2 s).n : Int))).setCell ⟨br, 2, none⟩ (.int .i64 ((r3 s).n : Int))).setCell ⟨br, 3, none⟩ (.int .i64 ((s4 s).n : Int))).setCell ⟨br, 4, none⟩ (.string (ba (s5 s).t))).setCell ⟨br, 5, none⟩ (.bool (decide (((s6 s).n : Int) = 1)))).setCell ⟨br, 6, none⟩ (.slice A4 acc.length c4)).setCell ⟨br, 7, none⟩ (.bool (decide (((s7 s).n : Int) = 1)))) BB A4 acc.length c4 acc) := Lib.hid (OwnK.sets (show br < BB by have e := HR.out.e; have := HBO.out; omega) [.int .i64 ((r1 s).n : Int), .int .i64 ((r2 s).n : Int), .int .i64 ((r3 s).n : Int), .int .i64 ((s4 s).n : Int), .string (ba (s5 s).t), .bool (decide (((s6 s).n : Int) = 1)), .slice A4 acc.length c4, .bool (decide (((s7 s).n : Int) = 1))] 0 O.out)
      go_wp2
      generalize ((((((((wr.setCell ⟨br, 0, none⟩ (.int .i64 ((r1 s).n : Int))).setCell ⟨br, 1, none⟩ (.int .i64 ((r2 s).n : Int))).setCell ⟨br, 2, none⟩ (.int .i64 ((r3 s).n : Int))).setCell ⟨br, 3, none⟩ (.int .i64 ((s4 s).n : Int))).setCell ⟨br, 4, none⟩ (.string (ba (s5 s).t))).setCell ⟨br, 5, none⟩ (.bool (decide (((s6 s).n : Int) = 1)))).setCell ⟨br, 6, none⟩ (.slice A4 acc.length c4)).setCell ⟨br, 7, none⟩ (.bool (decide (((s7 s).n : Int) = 1)))) = W99 at HZ OZ ⊢
      have ru0 := (HZ.out.r 0 _ rfl).1
      have ru1 := (HZ.out.r 1 _ rfl).1
      have ru2 := (HZ.out.r 2 _ rfl).1
      have ru3 := (HZ.out.r 3 _ rfl).1
      have ru4 := (HZ.out.r 4 _ rfl).1
      have ru5 := (HZ.out.r 5 _ rfl).1
      have ru6 := (HZ.out.r 6 _ rfl).1
      have ru7 := (HZ.out.r 7 _ rfl).1
      refine bodyPost_ret (v := .agg #[.int .i64 ((r1 s).n : Int), .int .i64 ((r2 s).n : Int), .int .i64 ((r3 s).n : Int), .int .i64 ((s4 s).n : Int), .string (ba (s5 s).t), .bool (decide (((s6 s).n : Int) = 1)), .slice A4 acc.length c4, .bool (decide (((s7 s).n : Int) = 1))]) (by simp [results, Tryd.results57, go_sem, ru0, ru1, ru2, ru3, ru4, ru5, ru6, ru7]) rfl ?_
      exact ⟨A4, c4, HVal.out, by rw [HSO.out.1]; exact OZ.out.in_ FEW.out, HOW.out, by rw [HSO.out.2]; exact HZ.out.h, HZ.out.g⟩
end Wi
end Go.Proofs.YtdipikdebapmlaaDoor
