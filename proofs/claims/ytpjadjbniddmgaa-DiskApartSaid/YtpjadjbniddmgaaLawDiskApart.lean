/- For every disk, act and name: what is done with one file changes no other one. No condition. -/
import Derived.Test.YtpjadjbniddmgaaDiskApart
import Derived.Test.YtpjadjbniddmgaaDiskIn
import Derived.Laws.StructEq
namespace Go.Proofs.Ytpjadjbniddmgaa.diskApart
open Go.ChangeShapes Go.WideShapes Go.ChangeAt Go.RowKit Dkm
set_option linter.unusedVariables false

theorem eql_file (W : World) (f : Fil) : (binOp .eql 29 f.val f.val).run Try.prog W = .ok (.bool true) W := by
  have u := Try.underlying9
  have hS : Try.prog.underlying 29 = some (.struct (Try.prog.fieldsOf 29)) := by kernel_rfl
  have hp : Try.prog.stoodInHeld 29 = false := by kernel_rfl
  have a3 := Try.isAgg9
  have z3 := Try.sizeOf9
  obtain ⟨a, b, c⟩ := f
  rw [run_eql_struct, show (10000 : Nat) = 9999 + 1 from rfl, run_equalIn_agg W 9999 _ _ _ hS hp]
  simp only [Program.fieldsOf, Try.underlying29]
  go_simp

set_option maxHeartbeats 2000000 in
theorem walk_up (A : Option Addr) (n c : Nat) (d : Dk) (kind num : Int) (nm s o : ByteArray) (w : World) (h : kind = 5 ∨ (kind ≠ 5 ∧ o = nm) ∨ (kind = 3 ∧ o ≠ nm ∧ o = s)) :
    Calls Try.prog 9 #[dkv A n c d.room d.fuse d.off, actv kind num nm s, .string o] w fun e w' => e = .returned (.bool true) ∧ Q w w' := by
  rcases h with h | ⟨h, e⟩ | ⟨h, h1, h2⟩
  case' inl =>
    have t1 : (kind == 5) = true := by simpa using h
    clear h
  case' inr.inl =>
    have t1 : (kind == 5) = false := by simpa using h
    have t2 := str_eq e
    clear h e
  case' inr.inr =>
    have t0 : (kind == 5) = false := by simp; omega
    have t3 : (kind == 3) = true := by simpa using h
    have t1 := str_ne h1
    have t2 := str_eq h2
    clear h h1 h2
  all_goals
    have Y := (Bx.new (w.alloc (.cells #[.slice A n c, .int .i64 d.room, .int .i64 d.fuse, .bool d.off] 24)) [.int .i64 kind, .int .i64 num, .string nm, .string s] 56)
    go_enter Try.func9, Try.ntmps9
    go_wp2_with fail
    refine (shown_any _).mono ?_
    rintro e w1 ⟨rfl, q1⟩
    have Y1 := Y.q q1
    simp only [World.size_alloc] at Y1
    obtain ⟨⟨e0, e1, e2, e3⟩, _⟩ := Y1.get4
    clear Y Y1
    go_wp2
    go_ret
    exact ⟨rfl, (((Q.refl _).alloc _).alloc _).trans q1⟩

set_option maxHeartbeats 2000000 in
theorem walk_main (A : Option Addr) (n c : Nat) (d : Dk) (kind num : Int) (nm s o : ByteArray) (w : World) (hd : DkIn w A n c d) (hs : s.size ≤ 140737488351232) (h5 : kind ≠ 5) (h1 : o ≠ nm) (h3 : kind = 3 → o ≠ s) :
    Calls Try.prog 9 #[dkv A n c d.room d.fuse d.off, actv kind num nm s, .string o] w fun e w' => e = .returned (.bool true) ∧ Q w w' := by
  have HA := Lib.hid (does_apart d kind num nm s h5 h1 h3)
  have HF := Lib.hid (show ∀ f ∈ d.fs, f.sf.size + f.wt.size ≤ 2305843009213693952 from fun f hf => by have := hd.fil f hf; unfold FilIn at this; omega)
  have t1 : (kind == 5) = false := by simpa using h5
  have t2 := str_ne h1
  have KK := Lib.hid (fun (W : World) (hW : Dsk W A n c d.fs) => does_any kind num nm s A n c d W hW HF.out (by omega) hd.room.2 hd.fuse.2)
  generalize doesM d kind num nm s = r at KK HA
  obtain ⟨r, er⟩ := r
  have HX := Lib.hid hd
  have V0 := DV.new (W := w) (d := d) hd.dsk
  have Y0 := Bx.new (w.alloc (.cells #[.slice A n c, .int .i64 d.room, .int .i64 d.fuse, .bool d.off] 24)) [.int .i64 kind, .int .i64 num, .string nm, .string s] 56
  rw [World.size_alloc] at Y0
  have X := Lib.hid (And.intro (V0.q ((Q.refl _).alloc (.cells #[.int .i64 kind, .int .i64 num, .string nm, .string s] 56))) (And.intro Y0 (((Q.refl w).alloc (.cells #[.slice A n c, .int .i64 d.room, .int .i64 d.fuse, .bool d.off] 24)).alloc (.cells #[.int .i64 kind, .int .i64 num, .string nm, .string s] 56))))
  clear hd V0 Y0 h1 h5
  by_cases k3 : kind = 3
  case' pos =>
    have t3 : (kind == 3) = true := by simpa using k3
    have t4 := str_ne (h3 k3)
    clear h3 k3
  case' neg =>
    have t3 : (kind == 3) = false := by simpa using k3
    clear h3 k3
  all_goals
    go_enter Try.func9, Try.ntmps9
    go_wp2_with fail
    refine (shown_any _).mono ?_
    rintro e w1 ⟨rfl, q1⟩
    have Y := Lib.hid (And.intro (X.out.1.q q1) (And.intro (X.out.2.1.q q1) (X.out.2.2.trans q1)))
    clear X q1
    obtain ⟨⟨e0, e1, e2, e3⟩, _⟩ := Y.out.1.get
    obtain ⟨⟨a0, a1, a2, a3⟩, _⟩ := Y.out.2.1.get4
    go_wp2_with fail
    refine (ref_find o A n c d.room d.fuse d.off d.fs _ Y.out.1.dsk.files Y.out.1.dsk.max).mono ?_
    rintro e w2 ⟨rfl, q2⟩
    have Z := Lib.hid (And.intro (Y.out.1.q q2) (And.intro (Y.out.2.1.q q2) (Y.out.2.2.trans q2)))
    clear Y q2 e0 e1 e2 e3 a0 a1 a2 a3
    obtain ⟨⟨e0, e1, e2, e3⟩, _⟩ := Z.out.1.get
    obtain ⟨⟨a0, a1, a2, a3⟩, _⟩ := Z.out.2.1.get4
    have z1 : w.heap.size < w2.heap.size := Z.out.1.box.lt
    have z2 : w.heap.size + 1 < w2.heap.size := Z.out.2.1.lt
    have z3 : w.heap.size ≠ w2.heap.size := by omega
    have z4 : w.heap.size + 1 ≠ w2.heap.size := by omega
    generalize hh : hit o d.fs = h at *
    obtain ⟨h, ih⟩ := h
    go_wp2_with fail
    refine (KK.out _ (Z.out.1.dsk.q ((Q.refl _).alloc _))).mono ?_
    rintro e w3 ⟨A3, n3, c3, rfl, d3, q3, _⟩
    have B3 := (Bx.new w2 [.string h.nm, .string h.sf, .string h.wt] 29).q q3
    have D3 := Lib.hid d3
    have Q3 := Lib.hid ((Z.out.2.2.alloc (.cells #[.string h.nm, .string h.sf, .string h.wt] 29)).trans q3)
    clear d3 q3 e0 e1 e2 e3 a0 a1 a2 a3 Z
    go_wp2_with fail
    have k4 := ref_find o A3 n3 c3 r.room r.fuse r.off r.fs _ (D3.out.files.q ((Q.refl _).alloc (.cells #[.slice A3 n3 c3, .int .i64 r.room, .int .i64 r.fuse, .bool r.off] 24))) D3.out.max
    rw [show hit o r.fs = (h, ih) from HA.out] at k4
    refine k4.mono ?_
    clear k4
    rintro e w4 ⟨rfl, q4⟩
    have B4 := (B3.alloc (.cells #[.slice A3 n3 c3, .int .i64 r.room, .int .i64 r.fuse, .bool r.off] 24)).q q4
    have Q4 := Lib.hid ((Q3.out.alloc (.cells #[.slice A3 n3 c3, .int .i64 r.room, .int .i64 r.fuse, .bool r.off] 24)).trans q4)
    have y1 : w2.heap.size < w4.heap.size := B4.lt
    have y2 : w2.heap.size ≠ w4.heap.size := by omega
    obtain ⟨⟨b0, b1, b2⟩, _⟩ := B4.get3
    have hq := fun W => eql_file W h
    clear B3 B4 q4
    go_wp2
    go_ret
    exact ⟨by simp, Q4.out.alloc _⟩

theorem opened (W : World) (args : Array Value) (hn : args.size = 3) (h : ∀ (j : Nat) t v, Try.f9.params[j]? = some t → args[j]? = some v → RdV W t v) :
    Calls Try.prog 9 args W fun e W' => e = .returned (.bool true) ∧ Q W W' := by
  obtain ⟨v, a, b, rfl⟩ := args3 hn
  rw [Try.params9] at h
  obtain ⟨cs, rfl, hr⟩ := (h 0 24 v rfl rfl).struct Try.underlying24
  obtain ⟨A, n, c, d, rfl, hd⟩ := open_disk hr
  obtain ⟨cs, rfl, hr⟩ := (h 1 56 a rfl rfl).struct Try.underlying56
  obtain ⟨kind, num, nm, s, rfl, h1, h2, h3⟩ := open_act hr
  obtain ⟨o, rfl, ho⟩ := (h 2 9 b rfl rfl).string Try.underlying9
  by_cases h5 : kind = 5
  · exact walk_up A n c d kind num nm s o W (.inl h5)
  by_cases hnm : o = nm
  · exact walk_up A n c d kind num nm s o W (.inr (.inl ⟨h5, hnm⟩))
  by_cases h33 : kind = 3 ∧ o = s
  · exact walk_up A n c d kind num nm s o W (.inr (.inr ⟨h33.1, hnm, h33.2⟩))
  · exact walk_main A n c d kind num nm s o W hd h3 h5 hnm (fun e1 e2 => h33 ⟨e1, e2⟩)

set_option maxRecDepth 100000 in
theorem lifted (os : Os) (started : os.Started) (H : Type) (enc : TypeId × Value → H) :
    ReturnsInHanded {} Try.checked os 9 .any (Rows.diskApartSpec.pre6 enc Try.prog Try.f9 Rows.diskApartRow.domain false) (Rows.diskApartSpec.post enc Try.prog Try.f9 false true false false) :=
  framed 3 Try.func9 (by rw [Try.params9]; rfl) rfl (by kernel_rfl) (by kernel_rfl) (by kernel_rfl)
    (fun H ds h => by match ds, h with | [d0, d1, d2], _ => exact ⟨rfl, rfl, rfl⟩)
    opened os started H enc
    (ChangeSpec.witness6 (enc := enc) (C := Try.checked) false ⟨#[], #[.agg #[.slice none 0 0, .int .i64 0, .int .i64 0, .bool false], .agg #[.int .i64 0, .int .i64 0, .string ByteArray.empty, .string ByteArray.empty], .string ByteArray.empty], []⟩ 8 (by kernel_rfl) (by kernel_rfl) (by kernel_rfl) (by kernel_rfl))

theorem over : Rows.diskApartRow.holds Try.pinned (OpenSpec.ofChange Rows.diskApartSpec) :=
  OpenClaim.holds_of_wide 9 Try.f9 rfl rfl rfl rfl rfl rfl rfl ⟨rfl, rfl, rfl, rfl, rfl⟩ rfl rfl rfl rfl rfl (by kernel_rfl) Try.func9 (by kernel_rfl)
    (of_decide_eq_true (by kernel_rfl)) (by unfold Func.isWrapper; first | (rw [if_pos (by decide +kernel)]; kernel_rfl) | (rw [if_neg (by decide +kernel)]; exact ⟨rfl, rfl⟩))
    (fun os started H enc _ => lifted os started H enc)

theorem proved : Rows.DiskApartSaid := over
end Go.Proofs.Ytpjadjbniddmgaa.diskApart
