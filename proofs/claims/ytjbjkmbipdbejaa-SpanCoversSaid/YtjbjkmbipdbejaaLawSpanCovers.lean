/- For every three spans and key: a span that covers another one has each key of it, and clashes with all with which that clashes. No condition. -/
import Derived.Test.YtjbjkmbipdbejaaSpanIn
namespace Go.Proofs.Ytjbjkmbipdbejaa.spanCovers
set_option maxRecDepth 100000
open Go.ChangeShapes Go.WideShapes Go.ChangeAt Go.RowKit Prm Sm
set_option linter.unusedVariables false
set_option linter.unusedSimpArgs false

set_option maxHeartbeats 4000000 in
theorem walk_not (a b c : Wn) (key : ByteArray) (w : World) (h0 : covers a b = false) :
    Calls Try.prog 7 #[.agg #[.int .i64 a.mode, .string a.lo, .string a.hi, .int .i64 b.mode, .string b.lo, .string b.hi, .int .i64 c.mode, .string c.lo, .string c.hi, .string key]] w fun e w' => e = .returned (.bool true) ∧ Q w w' := by
  have K1 := Lib.hid (fun W => scovers_any a b W)
  have K2 := Lib.hid (fun W => sin_any b key W)
  have K3 := Lib.hid (fun W => sin_any a key W)
  have K4 := Lib.hid (fun W => sclash_any b c W)
  have K5 := Lib.hid (fun W => sclash_any a c W)
  rw [h0] at K1
  clear h0
  have B0 := wn_box3 (w.alloc (.cells #[.int .i64 a.mode, .string a.lo, .string a.hi, .int .i64 b.mode, .string b.lo, .string b.hi, .int .i64 c.mode, .string c.lo, .string c.hi, .string key] 33)) a b c
  have BQ0 := Lib.hid ((Q.refl w).alloc (.cells #[.int .i64 a.mode, .string a.lo, .string a.hi, .int .i64 b.mode, .string b.lo, .string b.hi, .int .i64 c.mode, .string c.lo, .string c.hi, .string key] 33))
  rw [show (w.alloc (.cells #[.int .i64 a.mode, .string a.lo, .string a.hi, .int .i64 b.mode, .string b.lo, .string b.hi, .int .i64 c.mode, .string c.lo, .string c.hi, .string key] 33)).heap.size = w.heap.size + 1 by simp] at B0
  unfold wnV at *
  go_enter Try.func7, Try.ntmps7
  go_wp2_with fail
  generalize ((((w.alloc (.cells #[.int .i64 a.mode, .string a.lo, .string a.hi, .int .i64 b.mode, .string b.lo, .string b.hi, .int .i64 c.mode, .string c.lo, .string c.hi, .string key] 33)).alloc (.cells #[.int .i64 a.mode, .string a.lo, .string a.hi] 23)).alloc (.cells #[.int .i64 b.mode, .string b.lo, .string b.hi] 23)).alloc (.cells #[.int .i64 c.mode, .string c.lo, .string c.hi] 23)) = W0 at B0 ⊢
  obtain ⟨⟨c0, c1, c2⟩, ⟨c3, c4, c5⟩, ⟨c6, c7, c8⟩, bq⟩ := B0
  have BQ := Lib.hid (BQ0.out.trans bq)
  clear bq
  go_wp2_with fail
  refine (spshown_any _).mono ?_
  rintro e w1 ⟨rfl, q1⟩
  have c0 := box_ q1 c0
  have c1 := box_ q1 c1
  have c2 := box_ q1 c2
  have c3 := box_ q1 c3
  have c4 := box_ q1 c4
  have c5 := box_ q1 c5
  have c6 := box_ q1 c6
  have c7 := box_ q1 c7
  have c8 := box_ q1 c8
  have BQ := Lib.hid (BQ.out.trans q1)
  clear q1
  go_wp2_with fail
  refine (K1.out _).mono ?_
  rintro e w2 ⟨rfl, q2⟩
  have c0 := box_ q2 c0
  have c1 := box_ q2 c1
  have c2 := box_ q2 c2
  have c3 := box_ q2 c3
  have c4 := box_ q2 c4
  have c5 := box_ q2 c5
  have c6 := box_ q2 c6
  have c7 := box_ q2 c7
  have c8 := box_ q2 c8
  have BQ := Lib.hid (BQ.out.trans q2)
  clear q2
  go_wp2
  go_ret
  exact ⟨rfl, BQ.out⟩
set_option maxHeartbeats 4000000 in
theorem walk_00 (a b c : Wn) (key : ByteArray) (w : World) (h0 : covers a b = true) (h1 : inS b key = false) (h2 : clash b c = false) :
    Calls Try.prog 7 #[.agg #[.int .i64 a.mode, .string a.lo, .string a.hi, .int .i64 b.mode, .string b.lo, .string b.hi, .int .i64 c.mode, .string c.lo, .string c.hi, .string key]] w fun e w' => e = .returned (.bool true) ∧ Q w w' := by
  have K1 := Lib.hid (fun W => scovers_any a b W)
  have K2 := Lib.hid (fun W => sin_any b key W)
  have K3 := Lib.hid (fun W => sin_any a key W)
  have K4 := Lib.hid (fun W => sclash_any b c W)
  have K5 := Lib.hid (fun W => sclash_any a c W)
  rw [h0] at K1
  rw [h1] at K2
  rw [h2] at K4
  clear h0 h1 h2
  have B0 := wn_box3 (w.alloc (.cells #[.int .i64 a.mode, .string a.lo, .string a.hi, .int .i64 b.mode, .string b.lo, .string b.hi, .int .i64 c.mode, .string c.lo, .string c.hi, .string key] 33)) a b c
  have BQ0 := Lib.hid ((Q.refl w).alloc (.cells #[.int .i64 a.mode, .string a.lo, .string a.hi, .int .i64 b.mode, .string b.lo, .string b.hi, .int .i64 c.mode, .string c.lo, .string c.hi, .string key] 33))
  rw [show (w.alloc (.cells #[.int .i64 a.mode, .string a.lo, .string a.hi, .int .i64 b.mode, .string b.lo, .string b.hi, .int .i64 c.mode, .string c.lo, .string c.hi, .string key] 33)).heap.size = w.heap.size + 1 by simp] at B0
  unfold wnV at *
  go_enter Try.func7, Try.ntmps7
  go_wp2_with fail
  generalize ((((w.alloc (.cells #[.int .i64 a.mode, .string a.lo, .string a.hi, .int .i64 b.mode, .string b.lo, .string b.hi, .int .i64 c.mode, .string c.lo, .string c.hi, .string key] 33)).alloc (.cells #[.int .i64 a.mode, .string a.lo, .string a.hi] 23)).alloc (.cells #[.int .i64 b.mode, .string b.lo, .string b.hi] 23)).alloc (.cells #[.int .i64 c.mode, .string c.lo, .string c.hi] 23)) = W0 at B0 ⊢
  obtain ⟨⟨c0, c1, c2⟩, ⟨c3, c4, c5⟩, ⟨c6, c7, c8⟩, bq⟩ := B0
  have BQ := Lib.hid (BQ0.out.trans bq)
  clear bq
  go_wp2_with fail
  refine (spshown_any _).mono ?_
  rintro e w1 ⟨rfl, q1⟩
  have c0 := box_ q1 c0
  have c1 := box_ q1 c1
  have c2 := box_ q1 c2
  have c3 := box_ q1 c3
  have c4 := box_ q1 c4
  have c5 := box_ q1 c5
  have c6 := box_ q1 c6
  have c7 := box_ q1 c7
  have c8 := box_ q1 c8
  have BQ := Lib.hid (BQ.out.trans q1)
  clear q1
  go_wp2_with fail
  refine (K1.out _).mono ?_
  rintro e w2 ⟨rfl, q2⟩
  have c0 := box_ q2 c0
  have c1 := box_ q2 c1
  have c2 := box_ q2 c2
  have c3 := box_ q2 c3
  have c4 := box_ q2 c4
  have c5 := box_ q2 c5
  have c6 := box_ q2 c6
  have c7 := box_ q2 c7
  have c8 := box_ q2 c8
  have BQ := Lib.hid (BQ.out.trans q2)
  clear q2
  go_wp2_with fail
  refine (K2.out _).mono ?_
  rintro e w3 ⟨rfl, q3⟩
  have c0 := box_ q3 c0
  have c1 := box_ q3 c1
  have c2 := box_ q3 c2
  have c3 := box_ q3 c3
  have c4 := box_ q3 c4
  have c5 := box_ q3 c5
  have c6 := box_ q3 c6
  have c7 := box_ q3 c7
  have c8 := box_ q3 c8
  have BQ := Lib.hid (BQ.out.trans q3)
  clear q3
  go_wp2_with fail
  refine (K4.out _).mono ?_
  rintro e w5 ⟨rfl, q5⟩
  have c0 := box_ q5 c0
  have c1 := box_ q5 c1
  have c2 := box_ q5 c2
  have c3 := box_ q5 c3
  have c4 := box_ q5 c4
  have c5 := box_ q5 c5
  have c6 := box_ q5 c6
  have c7 := box_ q5 c7
  have c8 := box_ q5 c8
  have BQ := Lib.hid (BQ.out.trans q5)
  clear q5
  go_wp2
  go_ret
  exact ⟨rfl, BQ.out⟩
set_option maxHeartbeats 4000000 in
theorem walk_01 (a b c : Wn) (key : ByteArray) (w : World) (h0 : covers a b = true) (h1 : inS b key = false) (h2 : clash b c = true) :
    Calls Try.prog 7 #[.agg #[.int .i64 a.mode, .string a.lo, .string a.hi, .int .i64 b.mode, .string b.lo, .string b.hi, .int .i64 c.mode, .string c.lo, .string c.hi, .string key]] w fun e w' => e = .returned (.bool true) ∧ Q w w' := by
  have K1 := Lib.hid (fun W => scovers_any a b W)
  have K2 := Lib.hid (fun W => sin_any b key W)
  have K3 := Lib.hid (fun W => sin_any a key W)
  have K4 := Lib.hid (fun W => sclash_any b c W)
  have K5 := Lib.hid (fun W => sclash_any a c W)
  rw [h0] at K1
  rw [h1] at K2
  rw [h2] at K4
  rw [covers_clash h0 h2] at K5
  clear h0 h1 h2
  have B0 := wn_box3 (w.alloc (.cells #[.int .i64 a.mode, .string a.lo, .string a.hi, .int .i64 b.mode, .string b.lo, .string b.hi, .int .i64 c.mode, .string c.lo, .string c.hi, .string key] 33)) a b c
  have BQ0 := Lib.hid ((Q.refl w).alloc (.cells #[.int .i64 a.mode, .string a.lo, .string a.hi, .int .i64 b.mode, .string b.lo, .string b.hi, .int .i64 c.mode, .string c.lo, .string c.hi, .string key] 33))
  rw [show (w.alloc (.cells #[.int .i64 a.mode, .string a.lo, .string a.hi, .int .i64 b.mode, .string b.lo, .string b.hi, .int .i64 c.mode, .string c.lo, .string c.hi, .string key] 33)).heap.size = w.heap.size + 1 by simp] at B0
  unfold wnV at *
  go_enter Try.func7, Try.ntmps7
  go_wp2_with fail
  generalize ((((w.alloc (.cells #[.int .i64 a.mode, .string a.lo, .string a.hi, .int .i64 b.mode, .string b.lo, .string b.hi, .int .i64 c.mode, .string c.lo, .string c.hi, .string key] 33)).alloc (.cells #[.int .i64 a.mode, .string a.lo, .string a.hi] 23)).alloc (.cells #[.int .i64 b.mode, .string b.lo, .string b.hi] 23)).alloc (.cells #[.int .i64 c.mode, .string c.lo, .string c.hi] 23)) = W0 at B0 ⊢
  obtain ⟨⟨c0, c1, c2⟩, ⟨c3, c4, c5⟩, ⟨c6, c7, c8⟩, bq⟩ := B0
  have BQ := Lib.hid (BQ0.out.trans bq)
  clear bq
  go_wp2_with fail
  refine (spshown_any _).mono ?_
  rintro e w1 ⟨rfl, q1⟩
  have c0 := box_ q1 c0
  have c1 := box_ q1 c1
  have c2 := box_ q1 c2
  have c3 := box_ q1 c3
  have c4 := box_ q1 c4
  have c5 := box_ q1 c5
  have c6 := box_ q1 c6
  have c7 := box_ q1 c7
  have c8 := box_ q1 c8
  have BQ := Lib.hid (BQ.out.trans q1)
  clear q1
  go_wp2_with fail
  refine (K1.out _).mono ?_
  rintro e w2 ⟨rfl, q2⟩
  have c0 := box_ q2 c0
  have c1 := box_ q2 c1
  have c2 := box_ q2 c2
  have c3 := box_ q2 c3
  have c4 := box_ q2 c4
  have c5 := box_ q2 c5
  have c6 := box_ q2 c6
  have c7 := box_ q2 c7
  have c8 := box_ q2 c8
  have BQ := Lib.hid (BQ.out.trans q2)
  clear q2
  go_wp2_with fail
  refine (K2.out _).mono ?_
  rintro e w3 ⟨rfl, q3⟩
  have c0 := box_ q3 c0
  have c1 := box_ q3 c1
  have c2 := box_ q3 c2
  have c3 := box_ q3 c3
  have c4 := box_ q3 c4
  have c5 := box_ q3 c5
  have c6 := box_ q3 c6
  have c7 := box_ q3 c7
  have c8 := box_ q3 c8
  have BQ := Lib.hid (BQ.out.trans q3)
  clear q3
  go_wp2_with fail
  refine (K4.out _).mono ?_
  rintro e w5 ⟨rfl, q5⟩
  have c0 := box_ q5 c0
  have c1 := box_ q5 c1
  have c2 := box_ q5 c2
  have c3 := box_ q5 c3
  have c4 := box_ q5 c4
  have c5 := box_ q5 c5
  have c6 := box_ q5 c6
  have c7 := box_ q5 c7
  have c8 := box_ q5 c8
  have BQ := Lib.hid (BQ.out.trans q5)
  clear q5
  go_wp2_with fail
  refine (K5.out _).mono ?_
  rintro e w6 ⟨rfl, q6⟩
  have c0 := box_ q6 c0
  have c1 := box_ q6 c1
  have c2 := box_ q6 c2
  have c3 := box_ q6 c3
  have c4 := box_ q6 c4
  have c5 := box_ q6 c5
  have c6 := box_ q6 c6
  have c7 := box_ q6 c7
  have c8 := box_ q6 c8
  have BQ := Lib.hid (BQ.out.trans q6)
  clear q6
  go_wp2
  go_ret
  exact ⟨rfl, BQ.out⟩
set_option maxHeartbeats 4000000 in
theorem walk_10 (a b c : Wn) (key : ByteArray) (w : World) (h0 : covers a b = true) (h1 : inS b key = true) (h2 : clash b c = false) :
    Calls Try.prog 7 #[.agg #[.int .i64 a.mode, .string a.lo, .string a.hi, .int .i64 b.mode, .string b.lo, .string b.hi, .int .i64 c.mode, .string c.lo, .string c.hi, .string key]] w fun e w' => e = .returned (.bool true) ∧ Q w w' := by
  have K1 := Lib.hid (fun W => scovers_any a b W)
  have K2 := Lib.hid (fun W => sin_any b key W)
  have K3 := Lib.hid (fun W => sin_any a key W)
  have K4 := Lib.hid (fun W => sclash_any b c W)
  have K5 := Lib.hid (fun W => sclash_any a c W)
  rw [h0] at K1
  rw [h1] at K2
  rw [h2] at K4
  rw [covers_in h0 h1] at K3
  clear h0 h1 h2
  have B0 := wn_box3 (w.alloc (.cells #[.int .i64 a.mode, .string a.lo, .string a.hi, .int .i64 b.mode, .string b.lo, .string b.hi, .int .i64 c.mode, .string c.lo, .string c.hi, .string key] 33)) a b c
  have BQ0 := Lib.hid ((Q.refl w).alloc (.cells #[.int .i64 a.mode, .string a.lo, .string a.hi, .int .i64 b.mode, .string b.lo, .string b.hi, .int .i64 c.mode, .string c.lo, .string c.hi, .string key] 33))
  rw [show (w.alloc (.cells #[.int .i64 a.mode, .string a.lo, .string a.hi, .int .i64 b.mode, .string b.lo, .string b.hi, .int .i64 c.mode, .string c.lo, .string c.hi, .string key] 33)).heap.size = w.heap.size + 1 by simp] at B0
  unfold wnV at *
  go_enter Try.func7, Try.ntmps7
  go_wp2_with fail
  generalize ((((w.alloc (.cells #[.int .i64 a.mode, .string a.lo, .string a.hi, .int .i64 b.mode, .string b.lo, .string b.hi, .int .i64 c.mode, .string c.lo, .string c.hi, .string key] 33)).alloc (.cells #[.int .i64 a.mode, .string a.lo, .string a.hi] 23)).alloc (.cells #[.int .i64 b.mode, .string b.lo, .string b.hi] 23)).alloc (.cells #[.int .i64 c.mode, .string c.lo, .string c.hi] 23)) = W0 at B0 ⊢
  obtain ⟨⟨c0, c1, c2⟩, ⟨c3, c4, c5⟩, ⟨c6, c7, c8⟩, bq⟩ := B0
  have BQ := Lib.hid (BQ0.out.trans bq)
  clear bq
  go_wp2_with fail
  refine (spshown_any _).mono ?_
  rintro e w1 ⟨rfl, q1⟩
  have c0 := box_ q1 c0
  have c1 := box_ q1 c1
  have c2 := box_ q1 c2
  have c3 := box_ q1 c3
  have c4 := box_ q1 c4
  have c5 := box_ q1 c5
  have c6 := box_ q1 c6
  have c7 := box_ q1 c7
  have c8 := box_ q1 c8
  have BQ := Lib.hid (BQ.out.trans q1)
  clear q1
  go_wp2_with fail
  refine (K1.out _).mono ?_
  rintro e w2 ⟨rfl, q2⟩
  have c0 := box_ q2 c0
  have c1 := box_ q2 c1
  have c2 := box_ q2 c2
  have c3 := box_ q2 c3
  have c4 := box_ q2 c4
  have c5 := box_ q2 c5
  have c6 := box_ q2 c6
  have c7 := box_ q2 c7
  have c8 := box_ q2 c8
  have BQ := Lib.hid (BQ.out.trans q2)
  clear q2
  go_wp2_with fail
  refine (K2.out _).mono ?_
  rintro e w3 ⟨rfl, q3⟩
  have c0 := box_ q3 c0
  have c1 := box_ q3 c1
  have c2 := box_ q3 c2
  have c3 := box_ q3 c3
  have c4 := box_ q3 c4
  have c5 := box_ q3 c5
  have c6 := box_ q3 c6
  have c7 := box_ q3 c7
  have c8 := box_ q3 c8
  have BQ := Lib.hid (BQ.out.trans q3)
  clear q3
  go_wp2_with fail
  refine (K3.out _).mono ?_
  rintro e w4 ⟨rfl, q4⟩
  have c0 := box_ q4 c0
  have c1 := box_ q4 c1
  have c2 := box_ q4 c2
  have c3 := box_ q4 c3
  have c4 := box_ q4 c4
  have c5 := box_ q4 c5
  have c6 := box_ q4 c6
  have c7 := box_ q4 c7
  have c8 := box_ q4 c8
  have BQ := Lib.hid (BQ.out.trans q4)
  clear q4
  go_wp2_with fail
  refine (K4.out _).mono ?_
  rintro e w5 ⟨rfl, q5⟩
  have c0 := box_ q5 c0
  have c1 := box_ q5 c1
  have c2 := box_ q5 c2
  have c3 := box_ q5 c3
  have c4 := box_ q5 c4
  have c5 := box_ q5 c5
  have c6 := box_ q5 c6
  have c7 := box_ q5 c7
  have c8 := box_ q5 c8
  have BQ := Lib.hid (BQ.out.trans q5)
  clear q5
  go_wp2
  go_ret
  exact ⟨rfl, BQ.out⟩
set_option maxHeartbeats 4000000 in
theorem walk_11 (a b c : Wn) (key : ByteArray) (w : World) (h0 : covers a b = true) (h1 : inS b key = true) (h2 : clash b c = true) :
    Calls Try.prog 7 #[.agg #[.int .i64 a.mode, .string a.lo, .string a.hi, .int .i64 b.mode, .string b.lo, .string b.hi, .int .i64 c.mode, .string c.lo, .string c.hi, .string key]] w fun e w' => e = .returned (.bool true) ∧ Q w w' := by
  have K1 := Lib.hid (fun W => scovers_any a b W)
  have K2 := Lib.hid (fun W => sin_any b key W)
  have K3 := Lib.hid (fun W => sin_any a key W)
  have K4 := Lib.hid (fun W => sclash_any b c W)
  have K5 := Lib.hid (fun W => sclash_any a c W)
  rw [h0] at K1
  rw [h1] at K2
  rw [h2] at K4
  rw [covers_in h0 h1] at K3
  rw [covers_clash h0 h2] at K5
  clear h0 h1 h2
  have B0 := wn_box3 (w.alloc (.cells #[.int .i64 a.mode, .string a.lo, .string a.hi, .int .i64 b.mode, .string b.lo, .string b.hi, .int .i64 c.mode, .string c.lo, .string c.hi, .string key] 33)) a b c
  have BQ0 := Lib.hid ((Q.refl w).alloc (.cells #[.int .i64 a.mode, .string a.lo, .string a.hi, .int .i64 b.mode, .string b.lo, .string b.hi, .int .i64 c.mode, .string c.lo, .string c.hi, .string key] 33))
  rw [show (w.alloc (.cells #[.int .i64 a.mode, .string a.lo, .string a.hi, .int .i64 b.mode, .string b.lo, .string b.hi, .int .i64 c.mode, .string c.lo, .string c.hi, .string key] 33)).heap.size = w.heap.size + 1 by simp] at B0
  unfold wnV at *
  go_enter Try.func7, Try.ntmps7
  go_wp2_with fail
  generalize ((((w.alloc (.cells #[.int .i64 a.mode, .string a.lo, .string a.hi, .int .i64 b.mode, .string b.lo, .string b.hi, .int .i64 c.mode, .string c.lo, .string c.hi, .string key] 33)).alloc (.cells #[.int .i64 a.mode, .string a.lo, .string a.hi] 23)).alloc (.cells #[.int .i64 b.mode, .string b.lo, .string b.hi] 23)).alloc (.cells #[.int .i64 c.mode, .string c.lo, .string c.hi] 23)) = W0 at B0 ⊢
  obtain ⟨⟨c0, c1, c2⟩, ⟨c3, c4, c5⟩, ⟨c6, c7, c8⟩, bq⟩ := B0
  have BQ := Lib.hid (BQ0.out.trans bq)
  clear bq
  go_wp2_with fail
  refine (spshown_any _).mono ?_
  rintro e w1 ⟨rfl, q1⟩
  have c0 := box_ q1 c0
  have c1 := box_ q1 c1
  have c2 := box_ q1 c2
  have c3 := box_ q1 c3
  have c4 := box_ q1 c4
  have c5 := box_ q1 c5
  have c6 := box_ q1 c6
  have c7 := box_ q1 c7
  have c8 := box_ q1 c8
  have BQ := Lib.hid (BQ.out.trans q1)
  clear q1
  go_wp2_with fail
  refine (K1.out _).mono ?_
  rintro e w2 ⟨rfl, q2⟩
  have c0 := box_ q2 c0
  have c1 := box_ q2 c1
  have c2 := box_ q2 c2
  have c3 := box_ q2 c3
  have c4 := box_ q2 c4
  have c5 := box_ q2 c5
  have c6 := box_ q2 c6
  have c7 := box_ q2 c7
  have c8 := box_ q2 c8
  have BQ := Lib.hid (BQ.out.trans q2)
  clear q2
  go_wp2_with fail
  refine (K2.out _).mono ?_
  rintro e w3 ⟨rfl, q3⟩
  have c0 := box_ q3 c0
  have c1 := box_ q3 c1
  have c2 := box_ q3 c2
  have c3 := box_ q3 c3
  have c4 := box_ q3 c4
  have c5 := box_ q3 c5
  have c6 := box_ q3 c6
  have c7 := box_ q3 c7
  have c8 := box_ q3 c8
  have BQ := Lib.hid (BQ.out.trans q3)
  clear q3
  go_wp2_with fail
  refine (K3.out _).mono ?_
  rintro e w4 ⟨rfl, q4⟩
  have c0 := box_ q4 c0
  have c1 := box_ q4 c1
  have c2 := box_ q4 c2
  have c3 := box_ q4 c3
  have c4 := box_ q4 c4
  have c5 := box_ q4 c5
  have c6 := box_ q4 c6
  have c7 := box_ q4 c7
  have c8 := box_ q4 c8
  have BQ := Lib.hid (BQ.out.trans q4)
  clear q4
  go_wp2_with fail
  refine (K4.out _).mono ?_
  rintro e w5 ⟨rfl, q5⟩
  have c0 := box_ q5 c0
  have c1 := box_ q5 c1
  have c2 := box_ q5 c2
  have c3 := box_ q5 c3
  have c4 := box_ q5 c4
  have c5 := box_ q5 c5
  have c6 := box_ q5 c6
  have c7 := box_ q5 c7
  have c8 := box_ q5 c8
  have BQ := Lib.hid (BQ.out.trans q5)
  clear q5
  go_wp2_with fail
  refine (K5.out _).mono ?_
  rintro e w6 ⟨rfl, q6⟩
  have c0 := box_ q6 c0
  have c1 := box_ q6 c1
  have c2 := box_ q6 c2
  have c3 := box_ q6 c3
  have c4 := box_ q6 c4
  have c5 := box_ q6 c5
  have c6 := box_ q6 c6
  have c7 := box_ q6 c7
  have c8 := box_ q6 c8
  have BQ := Lib.hid (BQ.out.trans q6)
  clear q6
  go_wp2
  go_ret
  exact ⟨rfl, BQ.out⟩
set_option maxHeartbeats 4000000 in
theorem walk (a b c : Wn) (key : ByteArray) (w : World) :
    Calls Try.prog 7 #[.agg #[.int .i64 a.mode, .string a.lo, .string a.hi, .int .i64 b.mode, .string b.lo, .string b.hi, .int .i64 c.mode, .string c.lo, .string c.hi, .string key]] w fun e w' => e = .returned (.bool true) ∧ Q w w' := by
  cases h0 : covers a b
  · exact walk_not a b c key w h0
  · cases h1 : inS b key <;> cases h2 : clash b c
    · exact walk_00 a b c key w h0 h1 h2
    · exact walk_01 a b c key w h0 h1 h2
    · exact walk_10 a b c key w h0 h1 h2
    · exact walk_11 a b c key w h0 h1 h2

theorem opened (W : World) (args : Array Value) (hn : args.size = 1) (h : ∀ (j : Nat) t v, Try.f7.params[j]? = some t → args[j]? = some v → RdV W t v) :
    Calls Try.prog 7 args W fun e W' => e = .returned (.bool true) ∧ Q W W' := by
  obtain ⟨v, rfl⟩ := args1 hn
  rw [Try.params7] at h
  obtain ⟨cs, rfl, hr⟩ := (h 0 33 v rfl rfl).struct Try.underlying33
  obtain ⟨hl, _⟩ := hr.struct Try.underlying33
  rw [show Try.prog.cellsOf 33 = 10 by kernel_rfl] at hl
  match cs, hl with
  | [x0, x1, x2, x3, x4, x5, x6, x7, x8, x9], _ =>
    obtain ⟨a, e0, _⟩ := open_want (hr.field Try.underlying33 0 (ty := 23) 0 3 rfl (by kernel_rfl))
    obtain ⟨b, e1, _⟩ := open_want (hr.field Try.underlying33 1 (ty := 23) 3 3 rfl (by kernel_rfl))
    obtain ⟨c, e2, _⟩ := open_want (hr.field Try.underlying33 2 (ty := 23) 6 3 rfl (by kernel_rfl))
    obtain ⟨key, e3, _⟩ := (hr.field Try.underlying33 3 (ty := 9) 9 1 rfl (by kernel_rfl)).string Try.underlying9
    simp at e0 e1 e2 e3
    obtain ⟨rfl, rfl, rfl⟩ := e0
    obtain ⟨rfl, rfl, rfl⟩ := e1
    obtain ⟨rfl, rfl, rfl⟩ := e2
    subst e3
    exact walk a b c key W

set_option maxRecDepth 100000 in
theorem lifted (os : Os) (started : os.Started) (H : Type) (enc : TypeId × Value → H) :
    ReturnsInHanded {} Try.checked os 7 .any (Rows.spanCoversSpec.pre6 enc Try.prog Try.f7 Rows.spanCoversRow.domain false) (Rows.spanCoversSpec.post enc Try.prog Try.f7 false true false false) :=
  framed 1 Try.func7 (by rw [Try.params7]; rfl) rfl (by kernel_rfl) (by kernel_rfl) (by kernel_rfl)
    (fun H ds h => by match ds, h with | [d0], _ => exact ⟨rfl, rfl, rfl⟩)
    opened os started H enc
    (ChangeSpec.witness6 (enc := enc) (C := Try.checked) false ⟨#[], #[.agg #[.int .i64 0, .string ByteArray.empty, .string ByteArray.empty, .int .i64 0, .string ByteArray.empty, .string ByteArray.empty, .int .i64 0, .string ByteArray.empty, .string ByteArray.empty, .string ByteArray.empty]], []⟩ 8 (by kernel_rfl) (by kernel_rfl) (by kernel_rfl) (by kernel_rfl))

theorem over : Rows.spanCoversRow.holds Try.pinned (OpenSpec.ofChange Rows.spanCoversSpec) :=
  OpenClaim.holds_of_wide 7 Try.f7 rfl rfl rfl rfl rfl rfl rfl ⟨rfl, rfl, rfl, rfl, rfl⟩ rfl rfl rfl rfl rfl (by kernel_rfl) Try.func7 (by kernel_rfl)
    (of_decide_eq_true (by kernel_rfl)) (by unfold Func.isWrapper; first | (rw [if_pos (by decide +kernel)]; kernel_rfl) | (rw [if_neg (by decide +kernel)]; exact ⟨rfl, rfl⟩))
    (fun os started H enc _ => lifted os started H enc)

theorem proved : Rows.SpanCoversSaid := over
end Go.Proofs.Ytjbjkmbipdbejaa.spanCovers
