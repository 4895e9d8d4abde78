/- For every disk, name, text and room: what is appended, synced, found, read and made new is as the document says. No condition. -/
import Derived.Test.YtpjadjbniddmgaaDiskRef10
import Derived.Test.YtpjadjbniddmgaaDiskShown
import Derived.Test.YtpjadjbniddmgaaDiskSame2
import Derived.Test.YtpjadjbniddmgaaDiskIn
namespace Go.Proofs.Ytpjadjbniddmgaa.diskActs
open Go.ChangeShapes Go.WideShapes Go.ChangeAt Go.RowKit Dkm
set_option linter.unusedVariables false

theorem sameD_refl (d : Dk) : sameD d d = true := by simp [sameD]
def newM (room : Int) : Dk × Int := if room < 0 then (⟨[], 0, 0, false⟩, 1) else (⟨[], room, -1, false⟩, 0)
def RetN (w : World) (d : Dk) (er : Int) (e : Ending) (w' : World) : Prop := e = .returned (.tuple #[dkv none 0 0 d.room d.fuse d.off, .int .i64 er]) ∧ d.fs = [] ∧ Q w w'
theorem new_all (room : Int) (w : World) : Calls Try.prog 20 #[.int .i64 room] w fun e w' => RetN w (newM room).1 (newM room).2 e w' := by
  by_cases h : room < 0
  · rw [show newM room = (⟨[], 0, 0, false⟩, 1) by unfold newM; rw [if_pos h]]
    exact (new_neg room w h).mono fun e w' ⟨a, b⟩ => ⟨a, rfl, b⟩
  · rw [show newM room = (⟨[], room, -1, false⟩, 0) by unfold newM; rw [if_neg h]]
    exact (new_any room w (by omega)).mono fun e w' ⟨a, b⟩ => ⟨a, rfl, b⟩
theorem ref_new_all (room : Int) (w : World) : Calls Try.prog 21 #[.int .i64 room] w fun e w' => RetN w (newM room).1 (newM room).2 e w' := by
  by_cases h : room < 0
  · rw [show newM room = (⟨[], 0, 0, false⟩, 1) by unfold newM; rw [if_pos h]]
    exact (ref_new_neg room w h).mono fun e w' ⟨a, b⟩ => ⟨a, rfl, b⟩
  · rw [show newM room = (⟨[], room, -1, false⟩, 0) by unfold newM; rw [if_neg h]]
    exact (ref_new_any room w (by omega)).mono fun e w' ⟨a, b⟩ => ⟨a, rfl, b⟩
theorem opn_le1 (nm : ByteArray) (l : List Fil) : (opn nm l).2 ≤ l.length := opn_le nm l
theorem appd_len1 (d : Dk) (nm s : ByteArray) : (appd d nm s).1.fs.length ≤ max d.fs.length 64 := by
  unfold appd
  split
  · simp only; omega
  · split
    · simp only; omega
    · split
      · simp only; omega
      · rename_i h3
        split
        · simp only; omega
        · simp only
          unfold put
          split
          · rename_i h5
            rw [List.length_append]
            simp only [List.length_cons, List.length_nil]
            have : ¬ 64 ≤ d.fs.length := fun x => h3 (.inl ⟨h5, x⟩)
            omega
          · rw [List.length_set]; omega
theorem syn_len (d : Dk) (nm : ByteArray) : (syn d nm).1.fs.length = d.fs.length := by
  unfold syn
  split
  · rfl
  · split <;> simp

set_option maxRecDepth 100000 in
set_option maxHeartbeats 4000000 in
theorem walk (A : Option Addr) (n c : Nat) (d : Dk) (nm s : ByteArray) (room : Int) (w : World) (hd : DkIn w A n c d) (hs : s.size ≤ 2305843009213693952) :
    Calls Try.prog 3 #[.agg #[.slice A n c, .int .i64 d.room, .int .i64 d.fuse, .bool d.off, .string nm, .string s, .int .i64 room]] w fun e w' => e = .returned (.bool true) ∧ Q w w' := by
  have HS := Lib.hid (show ∀ f ∈ d.fs, f.sf.size + f.wt.size ≤ maxLen from fun f hf => by have := hd.fil f hf; unfold FilIn at this; unfold maxLen; omega)
  have HS2 := Lib.hid (show ∀ f ∈ d.fs, f.sf.size + f.wt.size ≤ 2305843009213693952 from fun f hf => by have := hd.fil f hf; unfold FilIn at this; omega)
  have few := hd.dsk.few
  have HL := Lib.hid hd.dsk.len
  have X0 : Hid (DV ((w.alloc (.cells #[.slice A n c, .int .i64 d.room, .int .i64 d.fuse, .bool d.off, .string nm, .string s, .int .i64 room] 26)).alloc (.cells #[.slice A n c, .int .i64 d.room, .int .i64 d.fuse, .bool d.off] 24)) (w.heap.size + 1) A n c d ∧ Q w ((w.alloc (.cells #[.slice A n c, .int .i64 d.room, .int .i64 d.fuse, .bool d.off, .string nm, .string s, .int .i64 room] 26)).alloc (.cells #[.slice A n c, .int .i64 d.room, .int .i64 d.fuse, .bool d.off] 24))) := Lib.hid (by
    have q0 := ((Q.refl w).alloc (.cells #[.slice A n c, .int .i64 d.room, .int .i64 d.fuse, .bool d.off, .string nm, .string s, .int .i64 room] 26))
    have a := DV.new (W := w.alloc (.cells #[.slice A n c, .int .i64 d.room, .int .i64 d.fuse, .bool d.off, .string nm, .string s, .int .i64 room] 26)) (d := d) (hd.dsk.q q0)
    exact ⟨by simpa using a, q0.alloc _⟩)
  have K1 := Lib.hid (fun (W : World) (hW : Dsk W A n c d.fs) => append_any nm s A n c d W hW HS2.out hs hd.room.2 hd.fuse.2)
  have K2 := Lib.hid (fun (W : World) (hW : Dsk W A n c d.fs) => ref_append_any nm s A n c d W hW HS2.out hs hd.room.2 hd.fuse.2)
  have L1 := Lib.hid (appd_len1 d nm s)
  generalize appd d nm s = r at K1 K2 L1
  obtain ⟨r, er⟩ := r
  have K3 := Lib.hid (fun (W : World) (hW : Dsk W A n c d.fs) => sync_any nm A n c d W hW HS.out)
  have K4 := Lib.hid (fun (W : World) (hW : Dsk W A n c d.fs) => ref_sync_any nm A n c d W hW HS.out)
  have L3 := Lib.hid (syn_len d nm)
  generalize syn d nm = t at K3 K4 L3
  obtain ⟨t, et⟩ := t
  have nmx : n ≤ maxLen := hd.dsk.max
  have K5 := Lib.hid (fun (W : World) (hW : Dsk W A n c d.fs) => read_any nm A n c d.room d.fuse d.off d.fs W hW.files nmx HS.out)
  have K6 := Lib.hid (fun (W : World) (hW : Dsk W A n c d.fs) => ref_read nm A n c d.room d.fuse d.off d.fs W hW.files nmx HS.out)
  generalize redd nm d.fs = p at K5 K6
  obtain ⟨p, ep⟩ := p
  have K7 := Lib.hid (fun (W : World) (hW : Dsk W A n c d.fs) => find_any nm A n c d.room d.fuse d.off d.fs W hW.files nmx)
  have K8 := Lib.hid (fun (W : World) (hW : Dsk W A n c d.fs) => ref_find nm A n c d.room d.fuse d.off d.fs W hW.files nmx)
  generalize hit nm d.fs = v at K7 K8
  obtain ⟨v, ev⟩ := v
  have K9 := Lib.hid (fun (W : World) => new_all room W)
  have K10 := Lib.hid (fun (W : World) => ref_new_all room W)
  generalize newM room = m at K9 K10
  obtain ⟨m, em⟩ := m
  obtain ⟨va, vb, vc⟩ := v
  clear hd
  unfold maxLen at nmx
  go_enter Try.func3, Try.ntmps3
  go_wp2_with fail
  refine (shown_any _).mono ?_
  rintro e w1 ⟨rfl, q1⟩
  have X1 := Lib.hid (And.intro (X0.out.1.q q1) (X0.out.2.trans q1))
  clear X0 q1
  obtain ⟨⟨e0, e1, e2, e3⟩, _⟩ := X1.out.1.get
  go_wp2
  go_loop [8] (fun i => ∃ k : Nat, k ≤ n ∧ i = .int .i64 k) (fun i => n - (intOf i).toNat)
  case atStart => exact ⟨0, Nat.zero_le _, rfl⟩
  case round =>
    obtain ⟨k, hk, rfl⟩ := hrel
    by_cases hlt : k < n
    · have hkl : k < d.fs.length := by have := HL.out; omega
      obtain ⟨ad, rfl, hb, c0, c1, c3⟩ := X1.out.1.dsk.files.load hlt hkl
      have q4 : (k : Int) < (n : Int) := by omega
      have q5 : 0 ≤ (k : Int) := by omega
      by_cases h1 : (131072 : Int) < (d.fs[k].sf.size : Int)
      · go_wp2
        go_ret
        exact ⟨rfl, X1.out.2⟩
      · by_cases h2 : (131072 : Int) < (d.fs[k].wt.size : Int)
        · go_wp2
          go_ret
          exact ⟨rfl, X1.out.2⟩
        · go_wp2
          go_round
          case rel => exact ⟨k + 1, by omega, by go_num⟩
          case measure => simp [intOf]; omega
    · have q4 : ¬ (k : Int) < (n : Int) := by omega
      clear hlt
      go_wp2_with fail
      refine (K1.out _ X1.out.1.dsk).mono ?_
      rintro e w2 ⟨A2, n2, c2, rfl, o2, q2⟩
      have D2 : Dsk w2 A2 n2 c2 r.fs := o2.dsk (by have h1 := o2.len; have h2 := L1.out; have h3 := HL.out; (try simp only at h2); omega)
      have V2 := Lib.hid (DV.new (W := w2) (d := r) D2)
      have P2 := q2.alloc (.cells #[.slice A2 n2 c2, .int .i64 r.room, .int .i64 r.fuse, .bool r.off] 24)
      have X2 := Lib.hid (And.intro (X1.out.1.q P2) (X1.out.2.trans P2))
      clear D2 P2 o2 q2 e0 e1 e2 e3 X1
      go_upto_region 12 with (fail)
      generalize (w2.alloc (.cells #[.slice A2 n2 c2, .int .i64 r.room, .int .i64 r.fuse, .bool r.off] 24)) = W2 at X2 V2  ⊢
      generalize w2.heap.size = g2 at V2 ⊢
      obtain ⟨⟨e0, e1, e2, e3⟩, _⟩ := X2.out.1.get
      go_wp2_with fail
      refine (K2.out _ X2.out.1.dsk).mono ?_
      rintro e w3 ⟨A3, n3, c3, rfl, o3, q3⟩
      have D3 : Dsk w3 A3 n3 c3 r.fs := o3
      have V3 := Lib.hid (DV.new (W := w3) (d := r) D3)
      have P3 := q3.alloc (.cells #[.slice A3 n3 c3, .int .i64 r.room, .int .i64 r.fuse, .bool r.off] 24)
      have X3 := Lib.hid (And.intro (X2.out.1.q P3) (X2.out.2.trans P3))
      have V2 := Lib.hid (V2.out.q P3)
      clear D3 P3 o3 q3 e0 e1 e2 e3 X2
      go_upto_region 13 with (fail)
      generalize (w3.alloc (.cells #[.slice A3 n3 c3, .int .i64 r.room, .int .i64 r.fuse, .bool r.off] 24)) = W3 at X3 V3 V2 ⊢
      generalize w3.heap.size = g3 at V3 ⊢
      obtain ⟨⟨e0, e1, e2, e3⟩, _⟩ := X3.out.1.get
      go_wp2_with fail
      refine (K3.out _ X3.out.1.dsk).mono ?_
      rintro e w4 ⟨A4, n4, c4, rfl, o4, q4⟩
      have D4 : Dsk w4 A4 n4 c4 t.fs := o4.dsk (by have h1 := o4.len; have h2 := L3.out; have h3 := HL.out; (try simp only at h2); omega)
      have V4 := Lib.hid (DV.new (W := w4) (d := t) D4)
      have P4 := q4.alloc (.cells #[.slice A4 n4 c4, .int .i64 t.room, .int .i64 t.fuse, .bool t.off] 24)
      have X4 := Lib.hid (And.intro (X3.out.1.q P4) (X3.out.2.trans P4))
      have V2 := Lib.hid (V2.out.q P4)
      have V3 := Lib.hid (V3.out.q P4)
      clear D4 P4 o4 q4 e0 e1 e2 e3 X3
      go_upto_region 14 with (fail)
      generalize (w4.alloc (.cells #[.slice A4 n4 c4, .int .i64 t.room, .int .i64 t.fuse, .bool t.off] 24)) = W4 at X4 V4 V2 V3 ⊢
      generalize w4.heap.size = g4 at V4 ⊢
      obtain ⟨⟨e0, e1, e2, e3⟩, _⟩ := X4.out.1.get
      go_wp2_with fail
      refine (K4.out _ X4.out.1.dsk).mono ?_
      rintro e w5 ⟨A5, n5, c5, rfl, o5, q5⟩
      have D5 : Dsk w5 A5 n5 c5 t.fs := o5
      have V5 := Lib.hid (DV.new (W := w5) (d := t) D5)
      have P5 := q5.alloc (.cells #[.slice A5 n5 c5, .int .i64 t.room, .int .i64 t.fuse, .bool t.off] 24)
      have X5 := Lib.hid (And.intro (X4.out.1.q P5) (X4.out.2.trans P5))
      have V2 := Lib.hid (V2.out.q P5)
      have V3 := Lib.hid (V3.out.q P5)
      have V4 := Lib.hid (V4.out.q P5)
      clear D5 P5 o5 q5 e0 e1 e2 e3 X4
      go_upto_region 15 with (fail)
      generalize (w5.alloc (.cells #[.slice A5 n5 c5, .int .i64 t.room, .int .i64 t.fuse, .bool t.off] 24)) = W5 at X5 V5 V2 V3 V4 ⊢
      generalize w5.heap.size = g5 at V5 ⊢
      obtain ⟨⟨e0, e1, e2, e3⟩, _⟩ := X5.out.1.get
      go_wp2_with fail
      refine (K5.out _ X5.out.1.dsk).mono ?_
      rintro e w6 ⟨rfl, P6⟩
      have X6 := Lib.hid (And.intro (X5.out.1.q P6) (X5.out.2.trans P6))
      have V2 := Lib.hid (V2.out.q P6)
      have V3 := Lib.hid (V3.out.q P6)
      have V4 := Lib.hid (V4.out.q P6)
      have V5 := Lib.hid (V5.out.q P6)
      clear P6 e0 e1 e2 e3 X5
      obtain ⟨⟨e0, e1, e2, e3⟩, _⟩ := X6.out.1.get
      go_wp2_with fail
      refine (K6.out _ X6.out.1.dsk).mono ?_
      rintro e w7 ⟨rfl, P7⟩
      have X7 := Lib.hid (And.intro (X6.out.1.q P7) (X6.out.2.trans P7))
      have V2 := Lib.hid (V2.out.q P7)
      have V3 := Lib.hid (V3.out.q P7)
      have V4 := Lib.hid (V4.out.q P7)
      have V5 := Lib.hid (V5.out.q P7)
      clear P7 e0 e1 e2 e3 X6
      obtain ⟨⟨e0, e1, e2, e3⟩, _⟩ := X7.out.1.get
      go_wp2_with fail
      refine (K7.out _ X7.out.1.dsk).mono ?_
      rintro e w8 ⟨rfl, q8⟩
      have V8 := Lib.hid (Bx.new w8 [.string va, .string vb, .string vc] 29)
      have P8 := q8.alloc (.cells #[.string va, .string vb, .string vc] 29)
      have X8 := Lib.hid (And.intro (X7.out.1.q P8) (X7.out.2.trans P8))
      have V2 := Lib.hid (V2.out.q P8)
      have V3 := Lib.hid (V3.out.q P8)
      have V4 := Lib.hid (V4.out.q P8)
      have V5 := Lib.hid (V5.out.q P8)
      clear P8 q8 e0 e1 e2 e3 X7
      go_upto_region 18 with (fail)
      generalize (w8.alloc (.cells #[.string va, .string vb, .string vc] 29)) = W8 at X8 V8 V2 V3 V4 V5 ⊢
      generalize w8.heap.size = g8 at V8 ⊢
      obtain ⟨⟨e0, e1, e2, e3⟩, _⟩ := X8.out.1.get
      go_wp2_with fail
      refine (K8.out _ X8.out.1.dsk).mono ?_
      rintro e w9 ⟨rfl, q9⟩
      have V9 := Lib.hid (Bx.new w9 [.string va, .string vb, .string vc] 29)
      have P9 := q9.alloc (.cells #[.string va, .string vb, .string vc] 29)
      have X9 := Lib.hid (And.intro (X8.out.1.q P9) (X8.out.2.trans P9))
      have V2 := Lib.hid (V2.out.q P9)
      have V3 := Lib.hid (V3.out.q P9)
      have V4 := Lib.hid (V4.out.q P9)
      have V5 := Lib.hid (V5.out.q P9)
      have V8 := Lib.hid (V8.out.q P9)
      clear P9 q9 e0 e1 e2 e3 X8
      go_upto_region 19 with (fail)
      generalize (w9.alloc (.cells #[.string va, .string vb, .string vc] 29)) = W9 at X9 V9 V2 V3 V4 V5 V8 ⊢
      generalize w9.heap.size = g9 at V9 ⊢
      obtain ⟨⟨e0, e1, e2, e3⟩, _⟩ := X9.out.1.get
      go_wp2_with fail
      refine (K9.out _).mono ?_
      rintro e w10 ⟨rfl, hfs10, q10⟩
      have V10 := Lib.hid (DV.new (W := w10) (d := m) (A := none) (n := 0) (c := 0) (by rw [show m.fs = [] from hfs10]; exact dsk_nil w10))
      have P10 := q10.alloc (.cells #[.slice none 0 0, .int .i64 m.room, .int .i64 m.fuse, .bool m.off] 24)
      have X10 := Lib.hid (And.intro (X9.out.1.q P10) (X9.out.2.trans P10))
      have V2 := Lib.hid (V2.out.q P10)
      have V3 := Lib.hid (V3.out.q P10)
      have V4 := Lib.hid (V4.out.q P10)
      have V5 := Lib.hid (V5.out.q P10)
      have V8 := Lib.hid (V8.out.q P10)
      have V9 := Lib.hid (V9.out.q P10)
      clear P10 q10 hfs10 e0 e1 e2 e3 X9
      go_upto_region 20 with (fail)
      generalize (w10.alloc (.cells #[.slice none 0 0, .int .i64 m.room, .int .i64 m.fuse, .bool m.off] 24)) = W10 at X10 V10 V2 V3 V4 V5 V8 V9 ⊢
      generalize w10.heap.size = g10 at V10 ⊢
      obtain ⟨⟨e0, e1, e2, e3⟩, _⟩ := X10.out.1.get
      go_wp2_with fail
      refine (K10.out _).mono ?_
      rintro e w11 ⟨rfl, hfs11, q11⟩
      have V11 := Lib.hid (DV.new (W := w11) (d := m) (A := none) (n := 0) (c := 0) (by rw [show m.fs = [] from hfs11]; exact dsk_nil w11))
      have P11 := q11.alloc (.cells #[.slice none 0 0, .int .i64 m.room, .int .i64 m.fuse, .bool m.off] 24)
      have X11 := Lib.hid (And.intro (X10.out.1.q P11) (X10.out.2.trans P11))
      have V2 := Lib.hid (V2.out.q P11)
      have V3 := Lib.hid (V3.out.q P11)
      have V4 := Lib.hid (V4.out.q P11)
      have V5 := Lib.hid (V5.out.q P11)
      have V8 := Lib.hid (V8.out.q P11)
      have V9 := Lib.hid (V9.out.q P11)
      have V10 := Lib.hid (V10.out.q P11)
      clear P11 q11 hfs11 e0 e1 e2 e3 X10
      go_upto_region 21 with (fail)
      generalize (w11.alloc (.cells #[.slice none 0 0, .int .i64 m.room, .int .i64 m.fuse, .bool m.off] 24)) = W11 at X11 V11 V2 V3 V4 V5 V8 V9 V10 ⊢
      generalize w11.heap.size = g11 at V11 ⊢
      obtain ⟨⟨e0, e1, e2, e3⟩, _⟩ := X11.out.1.get
      clear e0 e1 e2 e3
      obtain ⟨⟨e0, e1, e2, e3⟩, _⟩ := V2.out.get
      obtain ⟨⟨b0, b1, b2, b3⟩, _⟩ := V3.out.get
      go_wp2_with fail
      have k12 := ref_same_any A2 A3 n2 c2 n3 c3  r r _ V2.out.dsk.files V3.out.dsk.files V2.out.dsk.max V3.out.dsk.max
      rw [sameD_refl] at k12
      refine k12.mono ?_
      clear k12
      rintro e w12 ⟨rfl, P12⟩
      have X12 := Lib.hid (And.intro (X11.out.1.q P12) (X11.out.2.trans P12))
      have V2 := Lib.hid (V2.out.q P12)
      have V3 := Lib.hid (V3.out.q P12)
      have V4 := Lib.hid (V4.out.q P12)
      have V5 := Lib.hid (V5.out.q P12)
      have V8 := Lib.hid (V8.out.q P12)
      have V9 := Lib.hid (V9.out.q P12)
      have V10 := Lib.hid (V10.out.q P12)
      have V11 := Lib.hid (V11.out.q P12)
      clear P12 e0 e1 e2 e3 b0 b1 b2 b3 X11
      obtain ⟨⟨e0, e1, e2, e3⟩, _⟩ := X12.out.1.get
      clear e0 e1 e2 e3
      obtain ⟨⟨e0, e1, e2, e3⟩, _⟩ := V4.out.get
      obtain ⟨⟨b0, b1, b2, b3⟩, _⟩ := V5.out.get
      go_wp2_with fail
      have k13 := ref_same_any A4 A5 n4 c4 n5 c5  t t _ V4.out.dsk.files V5.out.dsk.files V4.out.dsk.max V5.out.dsk.max
      rw [sameD_refl] at k13
      refine k13.mono ?_
      clear k13
      rintro e w13 ⟨rfl, P13⟩
      have X13 := Lib.hid (And.intro (X12.out.1.q P13) (X12.out.2.trans P13))
      have V2 := Lib.hid (V2.out.q P13)
      have V3 := Lib.hid (V3.out.q P13)
      have V4 := Lib.hid (V4.out.q P13)
      have V5 := Lib.hid (V5.out.q P13)
      have V8 := Lib.hid (V8.out.q P13)
      have V9 := Lib.hid (V9.out.q P13)
      have V10 := Lib.hid (V10.out.q P13)
      have V11 := Lib.hid (V11.out.q P13)
      clear P13 e0 e1 e2 e3 b0 b1 b2 b3 X12
      obtain ⟨⟨e0, e1, e2, e3⟩, _⟩ := X13.out.1.get
      clear e0 e1 e2 e3
      obtain ⟨⟨e0, e1, e2, e3⟩, _⟩ := V10.out.get
      obtain ⟨⟨b0, b1, b2, b3⟩, _⟩ := V11.out.get
      go_wp2_with fail
      have k14 := ref_same_any none none 0 0 0 0  m m _ V10.out.dsk.files V11.out.dsk.files V10.out.dsk.max V11.out.dsk.max
      rw [sameD_refl] at k14
      refine k14.mono ?_
      clear k14
      rintro e w14 ⟨rfl, P14⟩
      have X14 := Lib.hid (And.intro (X13.out.1.q P14) (X13.out.2.trans P14))
      have V2 := Lib.hid (V2.out.q P14)
      have V3 := Lib.hid (V3.out.q P14)
      have V4 := Lib.hid (V4.out.q P14)
      have V5 := Lib.hid (V5.out.q P14)
      have V8 := Lib.hid (V8.out.q P14)
      have V9 := Lib.hid (V9.out.q P14)
      have V10 := Lib.hid (V10.out.q P14)
      have V11 := Lib.hid (V11.out.q P14)
      clear P14 e0 e1 e2 e3 b0 b1 b2 b3 X13
      obtain ⟨⟨e0, e1, e2, e3⟩, _⟩ := X14.out.1.get
      obtain ⟨⟨x0, x1, x2⟩, _⟩ := V8.out.get3
      obtain ⟨⟨y0, y1, y2⟩, _⟩ := V9.out.get3
      go_wp2
      go_ret
      exact ⟨by simp, X14.out.2⟩

theorem opened (W : World) (args : Array Value) (hn : args.size = 1) (h : ∀ (j : Nat) t v, Try.f3.params[j]? = some t → args[j]? = some v → RdV W t v) :
    Calls Try.prog 3 args W fun e W' => e = .returned (.bool true) ∧ Q W W' := by
  obtain ⟨v, rfl⟩ := args1 hn
  rw [Try.params3] at h
  obtain ⟨cs, rfl, hr⟩ := (h 0 26 v rfl rfl).struct Try.underlying26
  obtain ⟨hl, _⟩ := hr.struct Try.underlying26
  rw [show Try.prog.cellsOf 26 = 7 by kernel_rfl] at hl
  match cs, hl with
  | [x0, x1, x2, x3, x4, x5, x6], _ =>
    obtain ⟨A, n, c, d, e0, hd⟩ := open_disk (hr.field Try.underlying26 0 (ty := 24) 0 4 rfl (by kernel_rfl))
    obtain ⟨nm, e1, _⟩ := (hr.field Try.underlying26 1 (ty := 9) 4 1 rfl (by kernel_rfl)).string Try.underlying9
    obtain ⟨s, e2, hs⟩ := (hr.field Try.underlying26 2 (ty := 9) 5 1 rfl (by kernel_rfl)).string Try.underlying9
    obtain ⟨room, e3, _⟩ := (hr.field Try.underlying26 3 (ty := 3) 6 1 rfl (by kernel_rfl)).int Try.underlying3
    simp at e0 e1 e2 e3
    obtain ⟨rfl, rfl, rfl, rfl⟩ := e0
    subst e1 e2 e3
    exact walk A n c d nm s room W hd (by omega)

set_option maxRecDepth 100000 in
theorem lifted (os : Os) (started : os.Started) (H : Type) (enc : TypeId × Value → H) :
    ReturnsInHanded {} Try.checked os 3 .any (Rows.diskActsSpec.pre6 enc Try.prog Try.f3 Rows.diskActsRow.domain false) (Rows.diskActsSpec.post enc Try.prog Try.f3 false true false false) :=
  framed 1 Try.func3 (by rw [Try.params3]; rfl) rfl (by kernel_rfl) (by kernel_rfl) (by kernel_rfl)
    (fun H ds h => by match ds, h with | [d0], _ => exact ⟨rfl, rfl, rfl⟩)
    opened os started H enc
    (ChangeSpec.witness6 (enc := enc) (C := Try.checked) false ⟨#[], #[.agg #[.slice none 0 0, .int .i64 0, .int .i64 0, .bool false, .string ByteArray.empty, .string ByteArray.empty, .int .i64 0]], []⟩ 8 (by kernel_rfl) (by kernel_rfl) (by kernel_rfl) (by kernel_rfl))

theorem over : Rows.diskActsRow.holds Try.pinned (OpenSpec.ofChange Rows.diskActsSpec) :=
  OpenClaim.holds_of_wide 3 Try.f3 rfl rfl rfl rfl rfl rfl rfl ⟨rfl, rfl, rfl, rfl, rfl⟩ rfl rfl rfl rfl rfl (by kernel_rfl) Try.func3 (by kernel_rfl)
    (of_decide_eq_true (by kernel_rfl)) (by unfold Func.isWrapper; first | (rw [if_pos (by decide +kernel)]; kernel_rfl) | (rw [if_neg (by decide +kernel)]; exact ⟨rfl, rfl⟩))
    (fun os started H enc _ => lifted os started H enc)

theorem proved : Rows.DiskActsSaid := over
end Go.Proofs.Ytpjadjbniddmgaa.diskActs
