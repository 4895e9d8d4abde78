/- For every disk, name and bytes: what a file that is laid makes of the disk, and what is loaded of it, is as the document says. Its second form: where what it reads is of bulk at most 1048576. -/
import Derived.Test.YtodfdklcioafmaaB7
import Derived.Test.YtodfdklcioafmaaB10
import Derived.Test.YtodfdklcioafmaaB9
import Derived.Test.YtodfdklcioafmaaB4
import Derived.Test.YtodfdklcioafmaaB5
namespace Go.Proofs.Ytodfdklcioafmaa.runLaysUpto
set_option maxRecDepth 100000
open Go.ChangeShapes Go.WideShapes Go.ChangeAt Go.RowKit Dkm
set_option linter.unusedVariables false

theorem sameD_refl (d : Dk) : sameD d d = true := by simp [sameD]

set_option maxHeartbeats 4000000 in
set_option maxRecDepth 100000 in
theorem walk (A : Option Addr) (n c : Nat) (d : Dk) (nm s : ByteArray) (w : World) (hd : DkIn w A n c d) (hsm : ∀ f ∈ d.fs, f.sf.size ≤ 1048576 ∧ f.wt.size ≤ 1048576) (hn : nm.size ≤ 140737488351232) (hs : s.size ≤ 140737488351232) :
    Calls Try.prog 3 #[dkv A n c d.room d.fuse d.off, .string nm, .string s] w fun e w' => e = .returned (.bool true) ∧ Q w w' := by
  have X0 := Lib.hid (And.intro (DV.new (W := w) (d := d) hd.dsk) ((Q.refl w).alloc (.cells #[.slice A n c, .int .i64 d.room, .int .i64 d.fuse, .bool d.off] 24)))
  have K1 := Lib.hid (fun (W : World) (hW : Dsk W A n c d.fs) => lay_any nm s A n c d W hW hd.bnd (by omega) hn)
  have K2 := Lib.hid (fun (W : World) (hW : Dsk W A n c d.fs) => refLay_any nm s A n c d W hW hd.bnd (by omega) hn)
  have hz : ∀ f ∈ d.fs, f.sf.size + f.wt.size ≤ 1073741824 := fun f hf => by have := hsm f hf; omega
  have K3 := Lib.hid (fun (W : World) (hW : Dsk W A n c d.fs) => load_any nm A n c d W hW hz)
  have K4 := Lib.hid (fun (W : World) (hW : Dsk W A n c d.fs) => refLoad_any nm A n c d W hW hz)
  generalize Rn.lay d nm s = x at K1 K2
  obtain ⟨x, er⟩ := x
  generalize Rn.loadM nm d.fs = y at K3 K4
  obtain ⟨y, ey⟩ := y
  clear hd hsm hz
  go_enter Try.func3, Try.ntmps3
  go_wp2_with fail
  refine (rshown_any _).mono ?_
  rintro e w1 ⟨rfl, q1⟩
  have X1 := Lib.hid (And.intro (X0.out.1.q q1) (X0.out.2.trans q1))
  clear X0 q1
  obtain ⟨⟨e0, e1, e2, e3⟩, _⟩ := X1.out.1.get
  go_wp2_with fail
  refine (K1.out _ X1.out.1.dsk).mono ?_
  rintro e w2 ⟨A2, n2, c2, rfl, D2, _, q2⟩
  have V2 := DV.new (W := w2) (d := x) D2
  have P2 := q2.alloc (.cells #[.slice A2 n2 c2, .int .i64 x.room, .int .i64 x.fuse, .bool x.off] 24)
  have X2 := Lib.hid (And.intro (X1.out.1.q P2) (And.intro (X1.out.2.trans P2) V2))
  clear X1 D2 V2 P2 q2 e0 e1 e2 e3
  obtain ⟨⟨e0, e1, e2, e3⟩, _⟩ := X2.out.1.get
  go_wp2_with fail
  refine (K2.out _ X2.out.1.dsk).mono ?_
  rintro e w3 ⟨A3, n3, c3, rfl, D3, _, q3⟩
  have V3 := DV.new (W := w3) (d := x) D3
  have P3 := q3.alloc (.cells #[.slice A3 n3 c3, .int .i64 x.room, .int .i64 x.fuse, .bool x.off] 24)
  have X3 := Lib.hid (And.intro (X2.out.1.q P3) (And.intro (X2.out.2.1.trans P3) (And.intro (X2.out.2.2.q P3) V3)))
  clear X2 D3 V3 P3 q3 e0 e1 e2 e3
  obtain ⟨⟨e0, e1, e2, e3⟩, _⟩ := X3.out.1.get
  go_wp2_with fail
  refine (K3.out _ X3.out.1.dsk).mono ?_
  rintro e w4 ⟨A4, c4, rfl, o4, q4⟩
  have X4 := Lib.hid (And.intro (X3.out.1.q q4) (And.intro (X3.out.2.1.trans q4) (And.intro (X3.out.2.2.1.q q4) (X3.out.2.2.2.q q4))))
  have O4 := Lib.hid o4
  have L4 := Lib.hid (Nat.le_trans o4.le o4.cap)
  clear X3 q4 e0 e1 e2 e3 o4
  obtain ⟨⟨e0, e1, e2, e3⟩, _⟩ := X4.out.1.get
  go_wp2_with fail
  refine (K4.out _ X4.out.1.dsk).mono ?_
  rintro e w5 ⟨A5, c5, rfl, o5, q5⟩
  have X5 := Lib.hid (And.intro (X4.out.2.1.trans q5) (And.intro (X4.out.2.2.1.q q5) (X4.out.2.2.2.q q5)))
  have O4' := Lib.hid (O4.out.lst.q q5)
  have O5 := Lib.hid o5
  clear X4 q5 e0 e1 e2 e3 o5 O4
  obtain ⟨⟨a0, a1, a2, a3⟩, _⟩ := X5.out.2.1.get
  obtain ⟨⟨b0, b1, b2, b3⟩, _⟩ := X5.out.2.2.get
  go_wp2_with fail
  refine (ref_same_any A2 A3 n2 c2 n3 c3 x x _ X5.out.2.1.dsk.files X5.out.2.2.dsk.files X5.out.2.1.dsk.max X5.out.2.2.dsk.max).mono ?_
  rw [sameD_refl]
  rintro e w6 ⟨rfl, q6⟩
  have Q6 := Lib.hid q6
  clear q6
  go_wp2_with fail
  refine (refSame_any A4 A5 y.length c4 y.length c5 y y _ (O4'.out.q Q6.out) (O5.out.lst.q Q6.out) L4.out L4.out).mono ?_
  rw [show decide (y = y) = true from decide_eq_true rfl]
  rintro e w7 ⟨rfl, q7⟩
  go_wp2
  all_goals go_ret
  all_goals exact ⟨by first | rfl | simp, X5.out.1.trans (Q6.out.trans q7)⟩

theorem opened (W : World) (args : Array Value) (hn : args.size = 3) (h : ∀ (j : Nat) t v, Try.f3.params[j]? = some t → args[j]? = some v → RdV W t v ∧ (true = true → RdU W t v.cells.toList)) :
    Calls Try.prog 3 args W fun e W' => e = .returned (.bool true) ∧ Q W W' := by
  obtain ⟨v0, v1, v2, rfl⟩ := args3 hn
  rw [Try.params3] at h
  obtain ⟨cs, rfl, hr⟩ := (h 0 24 v0 rfl rfl).1.struct Try.underlying24
  obtain ⟨A, n, c, d, rfl, hd⟩ := open_disk hr
  have hu := (h 0 24 (.agg #[.slice A n c, .int .i64 d.room, .int .i64 d.fuse, .bool d.off]) rfl rfl).2 rfl
  rw [show (Value.agg (#[.slice A n c, .int .i64 d.room, .int .i64 d.fuse, .bool d.off] : Array Value)).cells.toList = [.slice A n c, .int .i64 d.room, .int .i64 d.fuse, .bool d.off] by simp [Value.cells]] at hu
  obtain ⟨nm, rfl, s1⟩ := (h 1 9 v1 rfl rfl).1.string Try.underlying9
  obtain ⟨s, rfl, s2⟩ := (h 2 9 v2 rfl rfl).1.string Try.underlying9
  exact walk A n c d nm s W hd (hd.small hu) s1 s2

set_option maxRecDepth 100000 in
theorem lifted (os : Os) (started : os.Started) (H : Type) (enc : TypeId × Value → H) (F : Stop.Interp) :
    ReturnsInHanded {} Try.checked os 3 .any ((Rows.OpenSpec.upto Rows.runLaysSpec).pre6 enc Try.prog Try.f3 Rows.runLaysUptoRow.domain false) (((Rows.OpenSpec.upto Rows.runLaysSpec).at F).post enc Try.prog Try.f3 false true false false) :=
  framedU (s := Rows.runLaysSpec) 3 Try.func3 (by rw [Try.params3]; rfl) rfl (by kernel_rfl) (by kernel_rfl) (by kernel_rfl)
    (fun H ds h => by match ds, h with | [d0, d1, d2], _ => exact ⟨rfl, rfl, rfl⟩)
    opened os started H enc F
    (OpenSpec.witness (enc := enc) (C := Try.checked) (s := Rows.OpenSpec.upto Rows.runLaysSpec) (k := Rows.uptoSmall) rfl false ⟨#[], #[.agg #[.slice none 0 0, .int .i64 0, .int .i64 0, .bool false], .string ByteArray.empty, .string ByteArray.empty], []⟩ 8 (by kernel_rfl) (by kernel_rfl) (by kernel_rfl)
      (x := ([.agg [.nil, .lit (.int .i64 0), .lit (.int .i64 0), .lit (.bool false)], .lit (.string []), .lit (.string [])], [], [])) (by kernel_rfl) (by kernel_rfl) (by kernel_rfl))

theorem proved : Rows.RunLaysUptoSaid :=
  OpenClaim.holds_of_cond 3 Try.f3 rfl rfl rfl rfl rfl rfl rfl ⟨rfl, rfl, rfl, rfl, rfl⟩ rfl rfl rfl rfl rfl (by kernel_rfl) Try.func3 (by kernel_rfl)
    (of_decide_eq_true (by kernel_rfl)) (by unfold Func.isWrapper; first | (rw [if_pos (by decide +kernel)]; kernel_rfl) | (rw [if_neg (by decide +kernel)]; exact ⟨rfl, rfl⟩))
    (fun os started H enc _ F => lifted os started H enc F)
end Go.Proofs.Ytodfdklcioafmaa.runLaysUpto
