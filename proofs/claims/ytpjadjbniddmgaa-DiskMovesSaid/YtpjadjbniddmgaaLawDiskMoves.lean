/- For every disks, names, keeps and fuse: what a rename, a deletion, a crash and a fuse make of a disk is as the document says; which disks are the same, too. No condition. -/
import Derived.Test.YtpjadjbniddmgaaDiskRef6
import Derived.Deep.RegionHeld3
import Derived.Test.YtpjadjbniddmgaaDiskDoes
import Derived.Test.YtpjadjbniddmgaaDiskSame2
import Derived.Test.YtpjadjbniddmgaaDiskIn
namespace Go.Proofs.Ytpjadjbniddmgaa.diskMoves
open Go.ChangeShapes Go.WideShapes Go.ChangeAt Go.RowKit Dkm
set_option linter.unusedVariables false

theorem sameD_refl (d : Dk) : sameD d d = true := by simp [sameD]

set_option maxRecDepth 100000 in
set_option maxHeartbeats 4000000 in
theorem walk (A : Option Addr) (n c : Nat) (d : Dk) (fr tu : ByteArray) (K : Option Addr) (kn kc : Nat) (ks : List Int) (fuse2 : Int) (B : Option Addr) (m cb : Nat) (o : Dk) (w : World) (hd : DkIn w A n c d) (hk : Ints w K kn ks) (hkn : kn * 8 ≤ 140737488351232) (ho : DkIn w B m cb o) :
    Calls Try.prog 4 #[.agg #[.slice A n c, .int .i64 d.room, .int .i64 d.fuse, .bool d.off, .string fr, .string tu, .slice K kn kc, .int .i64 fuse2, .slice B m cb, .int .i64 o.room, .int .i64 o.fuse, .bool o.off]] w fun e w' => e = .returned (.bool true) ∧ Q w w' := by
  have HS := Lib.hid (show ∀ f ∈ d.fs, f.sf.size + f.wt.size ≤ maxLen from fun f hf => by have := hd.fil f hf; unfold FilIn at this; unfold maxLen; omega)
  have HD := Lib.hid hd
  have HK := Lib.hid hk
  have HO := Lib.hid ho
  have few := hd.dsk.few
  have HL := Lib.hid hd.dsk.len
  have X0 : Hid (DV (((w.alloc (.cells #[.slice A n c, .int .i64 d.room, .int .i64 d.fuse, .bool d.off, .string fr, .string tu, .slice K kn kc, .int .i64 fuse2, .slice B m cb, .int .i64 o.room, .int .i64 o.fuse, .bool o.off] 49)).alloc (.cells #[.slice A n c, .int .i64 d.room, .int .i64 d.fuse, .bool d.off] 24)).alloc (.cells #[.slice B m cb, .int .i64 o.room, .int .i64 o.fuse, .bool o.off] 24)) (w.heap.size + 1) A n c d ∧ DV (((w.alloc (.cells #[.slice A n c, .int .i64 d.room, .int .i64 d.fuse, .bool d.off, .string fr, .string tu, .slice K kn kc, .int .i64 fuse2, .slice B m cb, .int .i64 o.room, .int .i64 o.fuse, .bool o.off] 49)).alloc (.cells #[.slice A n c, .int .i64 d.room, .int .i64 d.fuse, .bool d.off] 24)).alloc (.cells #[.slice B m cb, .int .i64 o.room, .int .i64 o.fuse, .bool o.off] 24)) (w.heap.size + 1 + 1) B m cb o ∧ Q w (((w.alloc (.cells #[.slice A n c, .int .i64 d.room, .int .i64 d.fuse, .bool d.off, .string fr, .string tu, .slice K kn kc, .int .i64 fuse2, .slice B m cb, .int .i64 o.room, .int .i64 o.fuse, .bool o.off] 49)).alloc (.cells #[.slice A n c, .int .i64 d.room, .int .i64 d.fuse, .bool d.off] 24)).alloc (.cells #[.slice B m cb, .int .i64 o.room, .int .i64 o.fuse, .bool o.off] 24))) := Lib.hid (by
    have q0 := ((Q.refl w).alloc (.cells #[.slice A n c, .int .i64 d.room, .int .i64 d.fuse, .bool d.off, .string fr, .string tu, .slice K kn kc, .int .i64 fuse2, .slice B m cb, .int .i64 o.room, .int .i64 o.fuse, .bool o.off] 49))
    have a := DV.new (W := w.alloc (.cells #[.slice A n c, .int .i64 d.room, .int .i64 d.fuse, .bool d.off, .string fr, .string tu, .slice K kn kc, .int .i64 fuse2, .slice B m cb, .int .i64 o.room, .int .i64 o.fuse, .bool o.off] 49)) (d := d) (hd.dsk.q q0)
    have b := DV.new (W := (w.alloc (.cells #[.slice A n c, .int .i64 d.room, .int .i64 d.fuse, .bool d.off, .string fr, .string tu, .slice K kn kc, .int .i64 fuse2, .slice B m cb, .int .i64 o.room, .int .i64 o.fuse, .bool o.off] 49)).alloc (.cells #[.slice A n c, .int .i64 d.room, .int .i64 d.fuse, .bool d.off] 24)) (d := o) (ho.dsk.q (q0.alloc _))
    refine ⟨?_, ?_, (q0.alloc _).alloc _⟩
    · have := a.q ((Q.refl _).alloc (.cells #[.slice B m cb, .int .i64 o.room, .int .i64 o.fuse, .bool o.off] 24))
      simpa using this
    · simpa using b)
  have K1 := Lib.hid (fun (W : World) (hW : Dsk W A n c d.fs) => ren_any fr tu A n c d W hW HS.out hd.fuse.2)
  have K2 := Lib.hid (fun (W : World) (hW : Dsk W A n c d.fs) => ref_ren_any fr tu A n c d W hW HS.out hd.fuse.2)
  have L1 := Lib.hid (Dkm.ren_len d fr tu)
  generalize ren d fr tu = r at K1 K2 L1
  obtain ⟨r, er⟩ := r
  have K3 := Lib.hid (fun (W : World) (hW : Dsk W A n c d.fs) => del_any fr A n c d W hW HS.out hd.fuse.2)
  have K4 := Lib.hid (fun (W : World) (hW : Dsk W A n c d.fs) => ref_del_any fr A n c d W hW HS.out hd.fuse.2)
  have L3 := Lib.hid (Dkm.del_len d fr)
  generalize del d fr = s at K3 K4 L3
  obtain ⟨s, es⟩ := s
  have K5 := Lib.hid (fun (W : World) (hW : Dsk W A n c d.fs) (hI : Ints W K kn ks) => (show Calls Try.prog 27 #[dkv A n c d.room d.fuse d.off, .slice K kn kc] W fun e w' => RetD W (crs d ks) e w' from crash_any A n c d.room d.fuse d.off K kn kc ks d.fs W hW hI (by unfold maxLen; omega) HS.out))
  have K6 := Lib.hid (fun (W : World) (hW : Dsk W A n c d.fs) (hI : Ints W K kn ks) => (show Calls Try.prog 28 #[dkv A n c d.room d.fuse d.off, .slice K kn kc] W fun e w' => RetD W (crs d ks) e w' from ref_crash A n c d.room d.fuse d.off K kn kc ks d.fs W hW hI (by unfold maxLen; omega) HS.out))
  have L5 := Lib.hid (crs_len d ks)
  generalize crs d ks = t at K5 K6 L5
  clear hd hk ho
  go_enter Try.func4, Try.ntmps4
  go_wp2_with fail
  refine (shown_any _).mono ?_
  rintro e w1 ⟨rfl, q1⟩
  have X1 := Lib.hid (And.intro (X0.out.1.q q1) (And.intro (X0.out.2.1.q q1) (X0.out.2.2.trans q1)))
  clear X0 q1
  obtain ⟨⟨e0, e1, e2, e3⟩, _⟩ := X1.out.1.get
  go_wp2_with fail
  refine (K1.out _ X1.out.1.dsk).mono ?_
  rintro e w2 ⟨A2, n2, c2, rfl, o2, q2⟩
  have D2 : Dsk w2 A2 n2 c2 r.fs := o2.dsk (by have h1 := o2.len; have h2 := L1.out; have h3 := HL.out; omega)
  have V2 := DV.new (W := w2) (d := r) D2
  have P2 := q2.alloc (.cells #[.slice A2 n2 c2, .int .i64 r.room, .int .i64 r.fuse, .bool r.off] 24)
  have X2 := Lib.hid (And.intro (X1.out.1.q P2) (And.intro (X1.out.2.1.q P2) (X1.out.2.2.trans P2)))
  have T2 := Lib.hid (And.intro V2 trivial)
  clear V2  D2 P2 o2 q2 e0 e1 e2 e3 X1
  go_upto_region 9 with (fail)
  generalize (w2.alloc (.cells #[.slice A2 n2 c2, .int .i64 r.room, .int .i64 r.fuse, .bool r.off] 24)) = W2 at X2 T2 ⊢
  generalize w2.heap.size = g2 at T2 ⊢
  obtain ⟨V2, _⟩ := T2.out
  clear T2
  obtain ⟨⟨e0, e1, e2, e3⟩, _⟩ := X2.out.1.get
  go_wp2_with fail
  refine (K2.out _ X2.out.1.dsk).mono ?_
  rintro e w3 ⟨A3, n3, c3, rfl, o3, q3⟩
  have D3 : Dsk w3 A3 n3 c3 r.fs := o3
  have V3 := DV.new (W := w3) (d := r) D3
  have P3 := q3.alloc (.cells #[.slice A3 n3 c3, .int .i64 r.room, .int .i64 r.fuse, .bool r.off] 24)
  have X3 := Lib.hid (And.intro (X2.out.1.q P3) (And.intro (X2.out.2.1.q P3) (X2.out.2.2.trans P3)))
  have V2 := V2.q P3
  have T3 := Lib.hid (And.intro V3 (And.intro V2 trivial))
  clear V3 V2 D3 P3 o3 q3 e0 e1 e2 e3 X2
  go_upto_region 10 with (fail)
  generalize (w3.alloc (.cells #[.slice A3 n3 c3, .int .i64 r.room, .int .i64 r.fuse, .bool r.off] 24)) = W3 at X3 T3 ⊢
  generalize w3.heap.size = g3 at T3 ⊢
  obtain ⟨V3, V2, _⟩ := T3.out
  clear T3
  obtain ⟨⟨e0, e1, e2, e3⟩, _⟩ := X3.out.1.get
  go_wp2_with fail
  refine (K3.out _ X3.out.1.dsk).mono ?_
  rintro e w4 ⟨A4, n4, c4, rfl, o4, q4⟩
  have D4 : Dsk w4 A4 n4 c4 s.fs := o4.dsk (by have h1 := o4.len; have h2 := L3.out; have h3 := HL.out; omega)
  have V4 := DV.new (W := w4) (d := s) D4
  have P4 := q4.alloc (.cells #[.slice A4 n4 c4, .int .i64 s.room, .int .i64 s.fuse, .bool s.off] 24)
  have X4 := Lib.hid (And.intro (X3.out.1.q P4) (And.intro (X3.out.2.1.q P4) (X3.out.2.2.trans P4)))
  have V3 := V3.q P4
  have V2 := V2.q P4
  have T4 := Lib.hid (And.intro V4 (And.intro V3 (And.intro V2 trivial)))
  clear V4 V3 V2 D4 P4 o4 q4 e0 e1 e2 e3 X3
  go_upto_region 11 with (fail)
  generalize (w4.alloc (.cells #[.slice A4 n4 c4, .int .i64 s.room, .int .i64 s.fuse, .bool s.off] 24)) = W4 at X4 T4 ⊢
  generalize w4.heap.size = g4 at T4 ⊢
  obtain ⟨V4, V3, V2, _⟩ := T4.out
  clear T4
  obtain ⟨⟨e0, e1, e2, e3⟩, _⟩ := X4.out.1.get
  go_wp2_with fail
  refine (K4.out _ X4.out.1.dsk).mono ?_
  rintro e w5 ⟨A5, n5, c5, rfl, o5, q5⟩
  have D5 : Dsk w5 A5 n5 c5 s.fs := o5
  have V5 := DV.new (W := w5) (d := s) D5
  have P5 := q5.alloc (.cells #[.slice A5 n5 c5, .int .i64 s.room, .int .i64 s.fuse, .bool s.off] 24)
  have X5 := Lib.hid (And.intro (X4.out.1.q P5) (And.intro (X4.out.2.1.q P5) (X4.out.2.2.trans P5)))
  have V4 := V4.q P5
  have V3 := V3.q P5
  have V2 := V2.q P5
  have T5 := Lib.hid (And.intro V5 (And.intro V4 (And.intro V3 (And.intro V2 trivial))))
  clear V5 V4 V3 V2 D5 P5 o5 q5 e0 e1 e2 e3 X4
  go_upto_region 12 with (fail)
  generalize (w5.alloc (.cells #[.slice A5 n5 c5, .int .i64 s.room, .int .i64 s.fuse, .bool s.off] 24)) = W5 at X5 T5 ⊢
  generalize w5.heap.size = g5 at T5 ⊢
  obtain ⟨V5, V4, V3, V2, _⟩ := T5.out
  clear T5
  obtain ⟨⟨e0, e1, e2, e3⟩, _⟩ := X5.out.1.get
  have V2 := Lib.hid V2
  have V3 := Lib.hid V3
  have V4 := Lib.hid V4
  have V5 := Lib.hid V5
  obtain ⟨⟨a0, a1, a2, a3⟩, _⟩ := V2.out.get
  obtain ⟨⟨b0, b1, b2, b3⟩, _⟩ := V3.out.get
  go_wp2_with fail
  have k6 := ref_same_any A2 A3 n2 c2 n3 c3 r r W5 V2.out.dsk.files V3.out.dsk.files V2.out.dsk.max V3.out.dsk.max
  rw [sameD_refl] at k6
  refine k6.mono ?_
  clear k6
  rintro e w6 ⟨rfl, q6⟩
  have X6 := Lib.hid (And.intro (X5.out.1.q q6) (And.intro (X5.out.2.1.q q6) (X5.out.2.2.trans q6)))
  have V46 := Lib.hid (V4.out.q q6)
  have V56 := Lib.hid (V5.out.q q6)
  clear X5 V2 V3 V4 V5 q6 e0 e1 e2 e3 a0 a1 a2 a3 b0 b1 b2 b3
  obtain ⟨⟨a0, a1, a2, a3⟩, _⟩ := V46.out.get
  obtain ⟨⟨b0, b1, b2, b3⟩, _⟩ := V56.out.get
  go_wp2_with fail
  have k7 := ref_same_any A4 A5 n4 c4 n5 c5 s s w6 V46.out.dsk.files V56.out.dsk.files V46.out.dsk.max V56.out.dsk.max
  rw [sameD_refl] at k7
  refine k7.mono ?_
  clear k7
  rintro e w7 ⟨rfl, q7⟩
  have X7 := Lib.hid (And.intro (X6.out.1.q q7) (And.intro (X6.out.2.1.q q7) (X6.out.2.2.trans q7)))
  clear X6 V46 V56 q7 a0 a1 a2 a3 b0 b1 b2 b3
  obtain ⟨⟨e0, e1, e2, e3⟩, _⟩ := X7.out.1.get
  obtain ⟨⟨p0, p1, p2, p3⟩, _⟩ := X7.out.2.1.get
  have nm : n ≤ maxLen := X7.out.1.dsk.max
  have mm : m ≤ maxLen := X7.out.2.1.dsk.max
  go_wp2
  go_region_held3 (fun w' => w'.cell? ⟨w.heap.size + 1, 0, none⟩ = some (.slice A n c) ∧ w'.cell? ⟨w.heap.size + 1, 1, none⟩ = some (.int .i64 d.room) ∧ w'.cell? ⟨w.heap.size + 1, 2, none⟩ = some (.int .i64 d.fuse) ∧ w'.cell? ⟨w.heap.size + 1, 3, none⟩ = some (.bool d.off))
    (first
      | go_keep
      | (go_split_ands
         (repeat' apply And.intro) <;> exact box_ ‹Q _ _› (by assumption)))
    (first
      | (go_at_call 27
         refine (K5.out _ (X7.out.1.dsk.q (Q.refl w7).drew) (HK.out.q X7.out.2.2.drew)).mono ?_
         rintro e v1 ⟨A8, n8, c8, rfl, o8, y1⟩)
      | (go_at_call 28
         refine (K6.out _ (X7.out.1.dsk.q ((Q.refl w7).drew.trans y1)) (HK.out.q (X7.out.2.2.drew.trans y1))).mono ?_
         rintro e v2 ⟨A9, n9, c9, rfl, o9, y2⟩)
      | (go_at_call 22
         (with_reducible refine (ref_same_any A8 A9 n8 c8 n9 c9 t t _ (o8.files.q y2) o9.files (by have h1 := o8.len; have h2 := L5.out; have h3 := HL.out; omega) (by have h1 := o9.len; have h2 := L5.out; have h3 := HL.out; omega)).mono ?_)
         rw [sameD_refl]
         rintro e v3 ⟨rfl, y3⟩)
      | (go_at_call 29
         refine (arm_any A n c d.room d.fuse d.off fuse2 d.fs _ (X7.out.1.dsk.q ((((Q.refl w7).drew.trans y1).trans y2).trans y3))).mono ?_
         rintro e v4 ⟨A10, n10, c10, rfl, o10, y4⟩)
      | (go_at_call 30
         refine (ref_arm A n c d.room d.fuse d.off fuse2 _).mono ?_
         rintro e v5 ⟨rfl, y5⟩)
      | (go_at_call 22
         (with_reducible refine (ref_same_any A10 A n10 c10 n c ⟨d.fs, d.room, max fuse2 (-1), d.off⟩ ⟨d.fs, d.room, max fuse2 (-1), d.off⟩ _ (o10.files.q y5) (X7.out.1.dsk.files.q ((((((Q.refl w7).drew.trans y1).trans y2).trans y3).trans y4).trans y5)) (by have h1 := o10.len; have h3 := HL.out; (try simp only at h1); omega) nm).mono ?_)
         rw [sameD_refl]
         rintro e v6 ⟨rfl, y6⟩))
  have Y := (((((((Q.refl w7).drew.trans y1).trans y2).trans y3).trans y4).trans y5).trans y6)
  have X8 := Lib.hid (And.intro (X7.out.1.q Y) (And.intro (X7.out.2.1.q Y) (X7.out.2.2.trans Y)))
  clear o8 o9 o10 y1 y2 y3 y4 y5 y6 Y e0 e1 e2 e3 p0 p1 p2 p3 X7
  obtain ⟨⟨e0, e1, e2, e3⟩, _⟩ := X8.out.1.get
  obtain ⟨⟨p0, p1, p2, p3⟩, _⟩ := X8.out.2.1.get
  go_wp2
  have M1 := Lib.hid (fun (W : World) (h1 : Files W A n d.fs) (h2 : Files W B m o.fs) => same_any A B n c m cb d o W h1 h2 nm mm)
  have M2 := Lib.hid (fun (W : World) (h1 : Files W A n d.fs) (h2 : Files W B m o.fs) => ref_same_any A B n c m cb d o W h1 h2 nm mm)
  have M3 := Lib.hid (fun (W : World) (h1 : Files W A n d.fs) => same_any A A n c n c d d W h1 h1 nm nm)
  rw [sameD_refl] at M3
  generalize sameD d o = bb at M1 M2
  go_region_held3 (fun w' => w'.cell? ⟨w.heap.size + 1, 0, none⟩ = some (.slice A n c) ∧ w'.cell? ⟨w.heap.size + 1, 1, none⟩ = some (.int .i64 d.room) ∧ w'.cell? ⟨w.heap.size + 1, 2, none⟩ = some (.int .i64 d.fuse) ∧ w'.cell? ⟨w.heap.size + 1, 3, none⟩ = some (.bool d.off) ∧
      w'.cell? ⟨w.heap.size + 1 + 1, 0, none⟩ = some (.slice B m cb) ∧ w'.cell? ⟨w.heap.size + 1 + 1, 1, none⟩ = some (.int .i64 o.room) ∧ w'.cell? ⟨w.heap.size + 1 + 1, 2, none⟩ = some (.int .i64 o.fuse) ∧ w'.cell? ⟨w.heap.size + 1 + 1, 3, none⟩ = some (.bool o.off))
    (first
      | go_keep
      | (go_split_ands
         (repeat' apply And.intro) <;> exact box_ ‹Q _ _› (by assumption)))
    (first
      | (go_at_call 31
         (with_reducible refine (M1.out _ (X8.out.1.dsk.files.q (Q.refl v6).drew) (X8.out.2.1.dsk.files.q (Q.refl v6).drew)).mono ?_)
         rintro e u1 ⟨rfl, y1⟩)
      | (go_at_call 22
         (with_reducible refine (M2.out _ (X8.out.1.dsk.files.q ((Q.refl v6).drew.trans y1)) (X8.out.2.1.dsk.files.q ((Q.refl v6).drew.trans y1))).mono ?_)
         rintro e u2 ⟨rfl, y2⟩)
      | (go_at_call 31
         (with_reducible refine (M3.out _ (X8.out.1.dsk.files.q (((Q.refl v6).drew.trans y1).trans y2))).mono ?_)
         rintro e u3 ⟨rfl, y3⟩))
  go_wp2
  go_ret
  exact ⟨by simp, X8.out.2.2.trans ((((Q.refl v6).drew.trans y1).trans y2).trans y3)⟩

theorem opened (W : World) (args : Array Value) (hn : args.size = 1) (h : ∀ (j : Nat) t v, Try.f4.params[j]? = some t → args[j]? = some v → RdV W t v) :
    Calls Try.prog 4 args W fun e W' => e = .returned (.bool true) ∧ Q W W' := by
  obtain ⟨v, rfl⟩ := args1 hn
  rw [Try.params4] at h
  obtain ⟨cs, rfl, hr⟩ := (h 0 49 v rfl rfl).struct Try.underlying49
  obtain ⟨hl, _⟩ := hr.struct Try.underlying49
  rw [show Try.prog.cellsOf 49 = 12 by kernel_rfl] at hl
  match cs, hl with
  | [x0, x1, x2, x3, x4, x5, x6, x7, x8, x9, x10, x11], _ =>
    obtain ⟨A, n, c, d, e0, hd⟩ := open_disk (hr.field Try.underlying49 0 (ty := 24) 0 4 rfl (by kernel_rfl))
    obtain ⟨fr, e1, _⟩ := (hr.field Try.underlying49 1 (ty := 9) 4 1 rfl (by kernel_rfl)).string Try.underlying9
    obtain ⟨tu, e2, _⟩ := (hr.field Try.underlying49 2 (ty := 9) 5 1 rfl (by kernel_rfl)).string Try.underlying9
    obtain ⟨K, kn, kc, ks, e3, hk, hk1, _⟩ := open_ints (hr.field Try.underlying49 3 (ty := 47) 6 1 rfl (by kernel_rfl))
    obtain ⟨fuse2, e4, _⟩ := (hr.field Try.underlying49 4 (ty := 3) 7 1 rfl (by kernel_rfl)).int Try.underlying3
    obtain ⟨B, m, cb, o, e5, ho⟩ := open_disk (hr.field Try.underlying49 5 (ty := 24) 8 4 rfl (by kernel_rfl))
    simp at e0 e1 e2 e3 e4 e5
    obtain ⟨rfl, rfl, rfl, rfl⟩ := e0
    obtain ⟨rfl, rfl, rfl, rfl⟩ := e5
    subst e1 e2 e3 e4
    exact walk A n c d fr tu K kn kc ks fuse2 B m cb o W hd hk hk1 ho

set_option maxRecDepth 100000 in
theorem lifted (os : Os) (started : os.Started) (H : Type) (enc : TypeId × Value → H) :
    ReturnsInHanded {} Try.checked os 4 .any (Rows.diskMovesSpec.pre6 enc Try.prog Try.f4 Rows.diskMovesRow.domain false) (Rows.diskMovesSpec.post enc Try.prog Try.f4 false true false false) :=
  framed 1 Try.func4 (by rw [Try.params4]; rfl) rfl (by kernel_rfl) (by kernel_rfl) (by kernel_rfl)
    (fun H ds h => by match ds, h with | [d0], _ => exact ⟨rfl, rfl, rfl⟩)
    opened os started H enc
    (ChangeSpec.witness6 (enc := enc) (C := Try.checked) false ⟨#[], #[.agg #[.slice none 0 0, .int .i64 0, .int .i64 0, .bool false, .string ByteArray.empty, .string ByteArray.empty, .slice none 0 0, .int .i64 0, .slice none 0 0, .int .i64 0, .int .i64 0, .bool false]], []⟩ 8 (by kernel_rfl) (by kernel_rfl) (by kernel_rfl) (by kernel_rfl))

theorem over : Rows.diskMovesRow.holds Try.pinned (OpenSpec.ofChange Rows.diskMovesSpec) :=
  OpenClaim.holds_of_wide 4 Try.f4 rfl rfl rfl rfl rfl rfl rfl ⟨rfl, rfl, rfl, rfl, rfl⟩ rfl rfl rfl rfl rfl (by kernel_rfl) Try.func4 (by kernel_rfl)
    (of_decide_eq_true (by kernel_rfl)) (by unfold Func.isWrapper; first | (rw [if_pos (by decide +kernel)]; kernel_rfl) | (rw [if_neg (by decide +kernel)]; exact ⟨rfl, rfl⟩))
    (fun os started H enc _ => lifted os started H enc)

theorem proved : Rows.DiskMovesSaid := over
end Go.Proofs.Ytpjadjbniddmgaa.diskMoves
