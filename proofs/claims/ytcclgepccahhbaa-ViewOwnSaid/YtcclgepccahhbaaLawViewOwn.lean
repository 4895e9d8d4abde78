/- For every row of writes, base, write and key: what was set is got, by the one who set it; no other key changes. No condition. -/
import Derived.Test.YtcclgepccahhbaaPairIn
import Derived.Test.YtcclgepccahhbaaViewShown
import Derived.Test.YtcclgepccahhbaaBx2
namespace Go.Proofs.Ytcclgepccahhbaa.viewOwn
set_option maxRecDepth 100000
open Go.ChangeShapes Go.WideShapes Go.ChangeAt Go.RowKit Prm Vm
set_option linter.unusedVariables false
set_option linter.unusedSimpArgs false

set_option maxHeartbeats 8000000 in
set_option maxRecDepth 100000 in
theorem walk (A : Option Addr) (n c : Nat) (l : List Wr) (B : Option Addr) (m d : Nat) (base : List Pr) (x : Wr) (other : ByteArray) (w : World) (hd : In_ writeK w A n c l) (hb : n * 40 ≤ 140737488351232) (hp : ∀ p ∈ l, WrIn p) (hd2 : In_ pairK w B m d base) (hb2 : m * 32 ≤ 140737488351232) (hp2 : ∀ p ∈ base, PrIn p) (px : WrIn x) (h3 : other.size ≤ 140737488351232) :
    Calls Try.prog 5 #[.agg #[.slice A n c, .slice B m d, .string x.key, .string x.val, .bool x.del, .string other]] w fun e w' => e = .returned (.bool true) ∧ Q w w' := by
  obtain ⟨xk, xv, xd⟩ := x
  have HD := Lib.hid hd
  have HB := Lib.hid hd2
  have hn1 : (n + 1) * 40 ≤ 140737488355328 := by omega
  have P1 := Lib.hid (fun W (h : In_ writeK W A n c l) => vset_any ⟨xk, xv, xd⟩ A n c l W h hn1)
  have hl1 := put_wlen l ⟨xk, xv, xd⟩
  have hl := hd.len
  have LI := Lib.hid (show (putW l ⟨xk, xv, xd⟩).length * 40 ≤ 140737488355328 by omega)
  have E1 := get_put_same ⟨xk, xv, xd⟩ base l
  have E2 := fun (h : xk ≠ other) => get_put_other (x := ⟨xk, xv, xd⟩) h base l
  have G3 := Lib.hid (fun W (h : In_ writeK W A n c l) (g : In_ pairK W B m d base) => vget_any other A B n c m d l base W h.lst h.max g.lst g.max)
  generalize putW l ⟨xk, xv, xd⟩ = r at P1 LI E1 E2 hl1
  have G1 := fun W A c (h : In_ writeK W A r.length c r) (g : In_ pairK W B m d base) => vget_any xk A B r.length c m d r base W h.lst h.max g.lst g.max
  have G2 := fun W A c (h : In_ writeK W A r.length c r) (g : In_ pairK W B m d base) => vget_any other A B r.length c m d r base W h.lst h.max g.lst g.max
  rw [E1] at G1
  have b2 := Bx.new (w.alloc (.cells #[.slice A n c, .slice B m d, .string xk, .string xv, .bool xd, .string other] 40)) [.string xk, .string xv, .bool xd] 24
  rw [show (w.alloc (.cells #[.slice A n c, .slice B m d, .string xk, .string xv, .bool xd, .string other] 40)).heap.size = w.heap.size + 1 by simp] at b2
  have B2 : Hid (Bx ((w.alloc (.cells #[.slice A n c, .slice B m d, .string xk, .string xv, .bool xd, .string other] 40)).alloc (.cells #[.string xk, .string xv, .bool xd] 24)) (w.heap.size + 1) [.string xk, .string xv, .bool xd]) := Lib.hid b2
  have q0 := Lib.hid (((Q.refl w).alloc (.cells #[.slice A n c, .slice B m d, .string xk, .string xv, .bool xd, .string other] 40)).alloc (.cells #[.string xk, .string xv, .bool xd] 24))
  have e1 := same_str other xk
  by_cases ho : other = xk
  · rw [ho, E1] at G2
    rw [decide_eq_true ho] at e1
    have HO := Lib.hid ho
    rw [← ho] at G2
    have G2' := Lib.hid G2
    have G1 := Lib.hid G1
    clear G2 E1 E2 ho hd hd2 hp hp2 hb hb2 hn1 hl1 hl px b2 h3
    generalize Vm.get l base other = gg at G3
    obtain ⟨g1, g2⟩ := gg
    go_enter Try.func5, Try.ntmps5
    go_upto_region 5 with (fail)
    generalize hgw : (w.alloc (.cells #[.slice A n c, .slice B m d, .string xk, .string xv, .bool xd, .string other] 40)).alloc (.cells #[.string xk, .string xv, .bool xd] 24) = W0 at q0 B2 ⊢
    cases xd
    all_goals
      simp only [told, Bool.false_eq_true, if_false, if_true] at G1 G2'
      obtain ⟨⟨c0, c1, c2⟩, g0, g3, g4⟩ := B2.out.get3
      go_wp2_with fail
      refine (vshown_any _).mono ?_
      rintro e w1 ⟨rfl, q1⟩
      have Q1 := Lib.hid (q0.out.trans q1)
      have B2 := Lib.hid (B2.out.q q1)
      clear c0 c1 c2 g0 g3 g4 q1
      obtain ⟨⟨c0, c1, c2⟩, g0, g3, g4⟩ := B2.out.get3
      go_wp2_with fail
      refine (P1.out _ (HD.out.q Q1.out)).mono ?_
      rintro e w2 ⟨A2, n2, rfl, o2, q2⟩
      have Q2 := Lib.hid (Q1.out.trans q2)
      have I2 := Lib.hid (o2.in_ LI.out)
      have B2 := Lib.hid (B2.out.q q2)
      clear c0 c1 c2 g0 g3 g4 q2 o2
      obtain ⟨⟨c0, c1, c2⟩, g0, g3, g4⟩ := B2.out.get3
      go_wp2_with fail
      refine (G1.out _ A2 n2 I2.out (HB.out.q Q2.out)).mono ?_
      rintro e w3 ⟨rfl, q3⟩
      have Q3 := Lib.hid (Q2.out.trans q3)
      have I3 := Lib.hid (I2.out.q q3)
      have B2 := Lib.hid (B2.out.q q3)
      clear c0 c1 c2 g0 g3 g4 q3
      obtain ⟨⟨c0, c1, c2⟩, g0, g3, g4⟩ := B2.out.get3
      go_wp2_with fail
      refine (G2'.out _ A2 n2 I3.out (HB.out.q Q3.out)).mono ?_
      rintro e w4 ⟨rfl, q4⟩
      have Q4 := Lib.hid (Q3.out.trans q4)
      have B2 := Lib.hid (B2.out.q q4)
      clear c0 c1 c2 g0 g3 g4 q4
      obtain ⟨⟨c0, c1, c2⟩, g0, g3, g4⟩ := B2.out.get3
      go_wp2_with fail
      refine (G3.out _ (HD.out.q Q4.out) (HB.out.q Q4.out)).mono ?_
      rintro e w5 ⟨rfl, q5⟩
      have Q5 := Lib.hid (Q4.out.trans q5)
      have B2 := Lib.hid (B2.out.q q5)
      clear c0 c1 c2 g0 g3 g4 q5
      obtain ⟨⟨c0, c1, c2⟩, g0, g3, g4⟩ := B2.out.get3
      go_wp2
      all_goals go_ret
      all_goals exact ⟨by first | rfl | simp, Q5.out⟩
  · rw [E2 (fun e => ho e.symm)] at G2
    rw [decide_eq_false ho] at e1
    have G2' := Lib.hid G2
    have G1 := Lib.hid G1
    clear G2 E1 E2 ho hd hd2 hp hp2 hb hb2 hn1 hl1 hl px b2 h3
    generalize Vm.get l base other = gg at G3 G2'
    obtain ⟨g1, g2⟩ := gg
    go_enter Try.func5, Try.ntmps5
    go_upto_region 5 with (fail)
    generalize hgw : (w.alloc (.cells #[.slice A n c, .slice B m d, .string xk, .string xv, .bool xd, .string other] 40)).alloc (.cells #[.string xk, .string xv, .bool xd] 24) = W0 at q0 B2 ⊢
    cases xd
    all_goals
      simp only [told, Bool.false_eq_true, if_false, if_true] at G1
      obtain ⟨⟨c0, c1, c2⟩, g0, g3, g4⟩ := B2.out.get3
      go_wp2_with fail
      refine (vshown_any _).mono ?_
      rintro e w1 ⟨rfl, q1⟩
      have Q1 := Lib.hid (q0.out.trans q1)
      have B2 := Lib.hid (B2.out.q q1)
      clear c0 c1 c2 g0 g3 g4 q1
      obtain ⟨⟨c0, c1, c2⟩, g0, g3, g4⟩ := B2.out.get3
      go_wp2_with fail
      refine (P1.out _ (HD.out.q Q1.out)).mono ?_
      rintro e w2 ⟨A2, n2, rfl, o2, q2⟩
      have Q2 := Lib.hid (Q1.out.trans q2)
      have I2 := Lib.hid (o2.in_ LI.out)
      have B2 := Lib.hid (B2.out.q q2)
      clear c0 c1 c2 g0 g3 g4 q2 o2
      obtain ⟨⟨c0, c1, c2⟩, g0, g3, g4⟩ := B2.out.get3
      go_wp2_with fail
      refine (G1.out _ A2 n2 I2.out (HB.out.q Q2.out)).mono ?_
      rintro e w3 ⟨rfl, q3⟩
      have Q3 := Lib.hid (Q2.out.trans q3)
      have I3 := Lib.hid (I2.out.q q3)
      have B2 := Lib.hid (B2.out.q q3)
      clear c0 c1 c2 g0 g3 g4 q3
      obtain ⟨⟨c0, c1, c2⟩, g0, g3, g4⟩ := B2.out.get3
      go_wp2_with fail
      refine (G2'.out _ A2 n2 I3.out (HB.out.q Q3.out)).mono ?_
      rintro e w4 ⟨rfl, q4⟩
      have Q4 := Lib.hid (Q3.out.trans q4)
      have B2 := Lib.hid (B2.out.q q4)
      clear c0 c1 c2 g0 g3 g4 q4
      obtain ⟨⟨c0, c1, c2⟩, g0, g3, g4⟩ := B2.out.get3
      go_wp2_with fail
      refine (G3.out _ (HD.out.q Q4.out) (HB.out.q Q4.out)).mono ?_
      rintro e w5 ⟨rfl, q5⟩
      have Q5 := Lib.hid (Q4.out.trans q5)
      have B2 := Lib.hid (B2.out.q q5)
      clear c0 c1 c2 g0 g3 g4 q5
      obtain ⟨⟨c0, c1, c2⟩, g0, g3, g4⟩ := B2.out.get3
      go_wp2
      all_goals go_ret
      all_goals exact ⟨by first | rfl | simp, Q5.out⟩

theorem opened (W : World) (args : Array Value) (hn : args.size = 1) (h : ∀ (j : Nat) t v, Try.f5.params[j]? = some t → args[j]? = some v → RdV W t v) :
    Calls Try.prog 5 args W fun e W' => e = .returned (.bool true) ∧ Q W W' := by
  obtain ⟨v, rfl⟩ := args1 hn
  rw [Try.params5] at h
  obtain ⟨cs, rfl, hr⟩ := (h 0 40 v rfl rfl).struct Try.underlying40
  obtain ⟨hl, _⟩ := hr.struct Try.underlying40
  rw [show Try.prog.cellsOf 40 = 6 by kernel_rfl] at hl
  match cs, hl with
  | [x0, x1, x2, x3, x4, x5], _ =>
    obtain ⟨A0, n0, c0, w, e0, hd0, hb0, hp0⟩ := open_writes (hr.field Try.underlying40 0 (ty := 22) 0 1 rfl (by kernel_rfl))
    obtain ⟨A1, n1, c1, base, e1, hd1, hb1, hp1⟩ := open_pairs (hr.field Try.underlying40 1 (ty := 31) 1 1 rfl (by kernel_rfl))
    obtain ⟨x, e2, p2⟩ := open_write (hr.field Try.underlying40 2 (ty := 24) 2 3 rfl (by kernel_rfl))
    obtain ⟨other, e3, s3⟩ := (hr.field Try.underlying40 3 (ty := 9) 5 1 rfl (by kernel_rfl)).string Try.underlying9
    simp [writeK] at e0 e1 e2 e3
    obtain ⟨rfl, rfl, rfl⟩ := e2
    subst e0 e1 e3
    exact walk A0 n0 c0 w A1 n1 c1 base x other W hd0 hb0 hp0 hd1 hb1 hp1 p2 s3

set_option maxRecDepth 100000 in
theorem lifted (os : Os) (started : os.Started) (H : Type) (enc : TypeId × Value → H) :
    ReturnsInHanded {} Try.checked os 5 .any (Rows.viewOwnSpec.pre6 enc Try.prog Try.f5 Rows.viewOwnRow.domain false) (Rows.viewOwnSpec.post enc Try.prog Try.f5 false true false false) :=
  framed 1 Try.func5 (by rw [Try.params5]; rfl) rfl (by kernel_rfl) (by kernel_rfl) (by kernel_rfl)
    (fun H ds h => by match ds, h with | [d0], _ => exact ⟨rfl, rfl, rfl⟩)
    opened os started H enc
    (ChangeSpec.witness6 (enc := enc) (C := Try.checked) false ⟨#[], #[.agg #[.slice none 0 0, .slice none 0 0, .string ByteArray.empty, .string ByteArray.empty, .bool false, .string ByteArray.empty]], []⟩ 8 (by kernel_rfl) (by kernel_rfl) (by kernel_rfl) (by kernel_rfl))

theorem over : Rows.viewOwnRow.holds Try.pinned (OpenSpec.ofChange Rows.viewOwnSpec) :=
  OpenClaim.holds_of_wide 5 Try.f5 rfl rfl rfl rfl rfl rfl rfl ⟨rfl, rfl, rfl, rfl, rfl⟩ rfl rfl rfl rfl rfl (by kernel_rfl) Try.func5 (by kernel_rfl)
    (of_decide_eq_true (by kernel_rfl)) (by unfold Func.isWrapper; first | (rw [if_pos (by decide +kernel)]; kernel_rfl) | (rw [if_neg (by decide +kernel)]; exact ⟨rfl, rfl⟩))
    (fun os started H enc _ => lifted os started H enc)

theorem proved : Rows.ViewOwnSaid := over
end Go.Proofs.Ytcclgepccahhbaa.viewOwn
