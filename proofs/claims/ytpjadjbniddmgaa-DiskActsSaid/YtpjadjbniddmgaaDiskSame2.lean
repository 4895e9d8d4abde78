/- Contracts: Same and Arm, in the program and in the document's answer. -/
import Derived.Test.YtpjadjbniddmgaaDiskSame
namespace Go.Proofs.Ytpjadjbniddmgaa
open Go.RowKit Dkm
set_option linter.unusedVariables false

set_option maxHeartbeats 1000000 in
theorem same_fs (A B : Option Addr) (n c m d : Nat) (l l2 : List Fil) (r1 r2 u1 u2 : Int) (o1 : Bool) (o2 : Bool) (w : World) (h1 : Files w A n l) (h2 : Files w B m l2) (hn : n ≤ maxLen) (hm : m ≤ maxLen) (hl : l ≠ l2) :
    Calls Try.prog 31 #[dkv A n c r1 u1 o1, dkv B m d r2 u2 o2] w fun e w' => e = .returned (.bool false) ∧ Q w w' := by
  have H1 := Lib.hid h1
  have H2 := Lib.hid h2
  have M1 := Lib.hid hn
  have M2 := Lib.hid hm
  clear h1 h2 hn hm
  have HL : Hid (decide (l = l2) = false) := Lib.hid (by simpa using hl)
  clear hl
  go_enter Try.func31, Try.ntmps31
  go_wp2_with fail
  have B0 := two_new w (.slice A n c) (.int .i64 r1) (.int .i64 u1) (.bool o1) (.slice B m d) (.int .i64 r2) (.int .i64 u2) (.bool o2) 24
  refine (equal_any A B n c m d l l2 _ (H1.out.q (((Q.refl _).alloc _).alloc _)) (H2.out.q (((Q.refl _).alloc _).alloc _)) M1.out M2.out).mono ?_
  rintro e w1 ⟨rfl, q1⟩
  rw [HL.out]
  obtain ⟨⟨e0, e1, e2, e3⟩, f0, f1, f2, f3⟩ := (B0.1.q q1).get4
  obtain ⟨⟨d0, d1, d2, d3⟩, g0, g1, g2, g3⟩ := (B0.2.q q1).get4
  have HQ := Lib.hid ((((Q.refl w).alloc _).alloc _).trans q1)
  clear B0 q1
  go_wp2
  go_ret
  exact ⟨ret_bool (by simp), HQ.out⟩

set_option maxHeartbeats 1000000 in
theorem same_room (A B : Option Addr) (n c m d : Nat) (l l2 : List Fil) (r1 r2 u1 u2 : Int) (o1 : Bool) (o2 : Bool) (w : World) (h1 : Files w A n l) (h2 : Files w B m l2) (hn : n ≤ maxLen) (hm : m ≤ maxLen) (hl : l = l2) (hr : r1 ≠ r2) :
    Calls Try.prog 31 #[dkv A n c r1 u1 o1, dkv B m d r2 u2 o2] w fun e w' => e = .returned (.bool false) ∧ Q w w' := by
  have H1 := Lib.hid h1
  have H2 := Lib.hid h2
  have M1 := Lib.hid hn
  have M2 := Lib.hid hm
  clear h1 h2 hn hm
  have HL : Hid (decide (l = l2) = true) := Lib.hid (by simpa using hl)
  clear hl
  have xr : (r1 == r2) = false := by simpa using hr
  clear hr
  go_enter Try.func31, Try.ntmps31
  go_wp2_with fail
  have B0 := two_new w (.slice A n c) (.int .i64 r1) (.int .i64 u1) (.bool o1) (.slice B m d) (.int .i64 r2) (.int .i64 u2) (.bool o2) 24
  refine (equal_any A B n c m d l l2 _ (H1.out.q (((Q.refl _).alloc _).alloc _)) (H2.out.q (((Q.refl _).alloc _).alloc _)) M1.out M2.out).mono ?_
  rintro e w1 ⟨rfl, q1⟩
  rw [HL.out]
  obtain ⟨⟨e0, e1, e2, e3⟩, f0, f1, f2, f3⟩ := (B0.1.q q1).get4
  obtain ⟨⟨d0, d1, d2, d3⟩, g0, g1, g2, g3⟩ := (B0.2.q q1).get4
  have HQ := Lib.hid ((((Q.refl w).alloc _).alloc _).trans q1)
  clear B0 q1
  go_wp2
  go_ret
  exact ⟨ret_bool (by simp), HQ.out⟩

set_option maxHeartbeats 1000000 in
theorem same_fuse (A B : Option Addr) (n c m d : Nat) (l l2 : List Fil) (r1 r2 u1 u2 : Int) (o1 : Bool) (o2 : Bool) (w : World) (h1 : Files w A n l) (h2 : Files w B m l2) (hn : n ≤ maxLen) (hm : m ≤ maxLen) (hl : l = l2) (hr : r1 = r2) (hu : u1 ≠ u2) :
    Calls Try.prog 31 #[dkv A n c r1 u1 o1, dkv B m d r2 u2 o2] w fun e w' => e = .returned (.bool false) ∧ Q w w' := by
  have H1 := Lib.hid h1
  have H2 := Lib.hid h2
  have M1 := Lib.hid hn
  have M2 := Lib.hid hm
  clear h1 h2 hn hm
  have HL : Hid (decide (l = l2) = true) := Lib.hid (by simpa using hl)
  clear hl
  subst hr
  have xu : (u1 == u2) = false := by simpa using hu
  clear hu
  go_enter Try.func31, Try.ntmps31
  go_wp2_with fail
  have B0 := two_new w (.slice A n c) (.int .i64 r1) (.int .i64 u1) (.bool o1) (.slice B m d) (.int .i64 r1) (.int .i64 u2) (.bool o2) 24
  refine (equal_any A B n c m d l l2 _ (H1.out.q (((Q.refl _).alloc _).alloc _)) (H2.out.q (((Q.refl _).alloc _).alloc _)) M1.out M2.out).mono ?_
  rintro e w1 ⟨rfl, q1⟩
  rw [HL.out]
  obtain ⟨⟨e0, e1, e2, e3⟩, f0, f1, f2, f3⟩ := (B0.1.q q1).get4
  obtain ⟨⟨d0, d1, d2, d3⟩, g0, g1, g2, g3⟩ := (B0.2.q q1).get4
  have HQ := Lib.hid ((((Q.refl w).alloc _).alloc _).trans q1)
  clear B0 q1
  go_wp2
  go_ret
  exact ⟨ret_bool (by simp), HQ.out⟩

set_option maxHeartbeats 1000000 in
theorem same_off_true_true (A B : Option Addr) (n c m d : Nat) (l l2 : List Fil) (r1 r2 u1 u2 : Int) (w : World) (h1 : Files w A n l) (h2 : Files w B m l2) (hn : n ≤ maxLen) (hm : m ≤ maxLen) (hl : l = l2) (hr : r1 = r2) (hu : u1 = u2) :
    Calls Try.prog 31 #[dkv A n c r1 u1 true, dkv B m d r2 u2 true] w fun e w' => e = .returned (.bool true) ∧ Q w w' := by
  have H1 := Lib.hid h1
  have H2 := Lib.hid h2
  have M1 := Lib.hid hn
  have M2 := Lib.hid hm
  clear h1 h2 hn hm
  have HL : Hid (decide (l = l2) = true) := Lib.hid (by simpa using hl)
  clear hl
  subst hr
  subst hu
  go_enter Try.func31, Try.ntmps31
  go_wp2_with fail
  have B0 := two_new w (.slice A n c) (.int .i64 r1) (.int .i64 u1) (.bool true) (.slice B m d) (.int .i64 r1) (.int .i64 u1) (.bool true) 24
  refine (equal_any A B n c m d l l2 _ (H1.out.q (((Q.refl _).alloc _).alloc _)) (H2.out.q (((Q.refl _).alloc _).alloc _)) M1.out M2.out).mono ?_
  rintro e w1 ⟨rfl, q1⟩
  rw [HL.out]
  obtain ⟨⟨e0, e1, e2, e3⟩, f0, f1, f2, f3⟩ := (B0.1.q q1).get4
  obtain ⟨⟨d0, d1, d2, d3⟩, g0, g1, g2, g3⟩ := (B0.2.q q1).get4
  have HQ := Lib.hid ((((Q.refl w).alloc _).alloc _).trans q1)
  clear B0 q1
  go_wp2
  go_ret
  exact ⟨ret_bool (by simp), HQ.out⟩

set_option maxHeartbeats 1000000 in
theorem same_off_true_false (A B : Option Addr) (n c m d : Nat) (l l2 : List Fil) (r1 r2 u1 u2 : Int) (w : World) (h1 : Files w A n l) (h2 : Files w B m l2) (hn : n ≤ maxLen) (hm : m ≤ maxLen) (hl : l = l2) (hr : r1 = r2) (hu : u1 = u2) :
    Calls Try.prog 31 #[dkv A n c r1 u1 true, dkv B m d r2 u2 false] w fun e w' => e = .returned (.bool false) ∧ Q w w' := by
  have H1 := Lib.hid h1
  have H2 := Lib.hid h2
  have M1 := Lib.hid hn
  have M2 := Lib.hid hm
  clear h1 h2 hn hm
  have HL : Hid (decide (l = l2) = true) := Lib.hid (by simpa using hl)
  clear hl
  subst hr
  subst hu
  go_enter Try.func31, Try.ntmps31
  go_wp2_with fail
  have B0 := two_new w (.slice A n c) (.int .i64 r1) (.int .i64 u1) (.bool true) (.slice B m d) (.int .i64 r1) (.int .i64 u1) (.bool false) 24
  refine (equal_any A B n c m d l l2 _ (H1.out.q (((Q.refl _).alloc _).alloc _)) (H2.out.q (((Q.refl _).alloc _).alloc _)) M1.out M2.out).mono ?_
  rintro e w1 ⟨rfl, q1⟩
  rw [HL.out]
  obtain ⟨⟨e0, e1, e2, e3⟩, f0, f1, f2, f3⟩ := (B0.1.q q1).get4
  obtain ⟨⟨d0, d1, d2, d3⟩, g0, g1, g2, g3⟩ := (B0.2.q q1).get4
  have HQ := Lib.hid ((((Q.refl w).alloc _).alloc _).trans q1)
  clear B0 q1
  go_wp2
  go_ret
  exact ⟨ret_bool (by simp), HQ.out⟩

set_option maxHeartbeats 1000000 in
theorem same_off_false_true (A B : Option Addr) (n c m d : Nat) (l l2 : List Fil) (r1 r2 u1 u2 : Int) (w : World) (h1 : Files w A n l) (h2 : Files w B m l2) (hn : n ≤ maxLen) (hm : m ≤ maxLen) (hl : l = l2) (hr : r1 = r2) (hu : u1 = u2) :
    Calls Try.prog 31 #[dkv A n c r1 u1 false, dkv B m d r2 u2 true] w fun e w' => e = .returned (.bool false) ∧ Q w w' := by
  have H1 := Lib.hid h1
  have H2 := Lib.hid h2
  have M1 := Lib.hid hn
  have M2 := Lib.hid hm
  clear h1 h2 hn hm
  have HL : Hid (decide (l = l2) = true) := Lib.hid (by simpa using hl)
  clear hl
  subst hr
  subst hu
  go_enter Try.func31, Try.ntmps31
  go_wp2_with fail
  have B0 := two_new w (.slice A n c) (.int .i64 r1) (.int .i64 u1) (.bool false) (.slice B m d) (.int .i64 r1) (.int .i64 u1) (.bool true) 24
  refine (equal_any A B n c m d l l2 _ (H1.out.q (((Q.refl _).alloc _).alloc _)) (H2.out.q (((Q.refl _).alloc _).alloc _)) M1.out M2.out).mono ?_
  rintro e w1 ⟨rfl, q1⟩
  rw [HL.out]
  obtain ⟨⟨e0, e1, e2, e3⟩, f0, f1, f2, f3⟩ := (B0.1.q q1).get4
  obtain ⟨⟨d0, d1, d2, d3⟩, g0, g1, g2, g3⟩ := (B0.2.q q1).get4
  have HQ := Lib.hid ((((Q.refl w).alloc _).alloc _).trans q1)
  clear B0 q1
  go_wp2
  go_ret
  exact ⟨ret_bool (by simp), HQ.out⟩

set_option maxHeartbeats 1000000 in
theorem same_off_false_false (A B : Option Addr) (n c m d : Nat) (l l2 : List Fil) (r1 r2 u1 u2 : Int) (w : World) (h1 : Files w A n l) (h2 : Files w B m l2) (hn : n ≤ maxLen) (hm : m ≤ maxLen) (hl : l = l2) (hr : r1 = r2) (hu : u1 = u2) :
    Calls Try.prog 31 #[dkv A n c r1 u1 false, dkv B m d r2 u2 false] w fun e w' => e = .returned (.bool true) ∧ Q w w' := by
  have H1 := Lib.hid h1
  have H2 := Lib.hid h2
  have M1 := Lib.hid hn
  have M2 := Lib.hid hm
  clear h1 h2 hn hm
  have HL : Hid (decide (l = l2) = true) := Lib.hid (by simpa using hl)
  clear hl
  subst hr
  subst hu
  go_enter Try.func31, Try.ntmps31
  go_wp2_with fail
  have B0 := two_new w (.slice A n c) (.int .i64 r1) (.int .i64 u1) (.bool false) (.slice B m d) (.int .i64 r1) (.int .i64 u1) (.bool false) 24
  refine (equal_any A B n c m d l l2 _ (H1.out.q (((Q.refl _).alloc _).alloc _)) (H2.out.q (((Q.refl _).alloc _).alloc _)) M1.out M2.out).mono ?_
  rintro e w1 ⟨rfl, q1⟩
  rw [HL.out]
  obtain ⟨⟨e0, e1, e2, e3⟩, f0, f1, f2, f3⟩ := (B0.1.q q1).get4
  obtain ⟨⟨d0, d1, d2, d3⟩, g0, g1, g2, g3⟩ := (B0.2.q q1).get4
  have HQ := Lib.hid ((((Q.refl w).alloc _).alloc _).trans q1)
  clear B0 q1
  go_wp2
  go_ret
  exact ⟨ret_bool (by simp), HQ.out⟩

theorem same_any (A B : Option Addr) (n c m d : Nat) (x y : Dk) (w : World) (h1 : Files w A n x.fs) (h2 : Files w B m y.fs) (hn : n ≤ maxLen) (hm : m ≤ maxLen) :
    Calls Try.prog 31 #[dkv A n c x.room x.fuse x.off, dkv B m d y.room y.fuse y.off] w fun e w' => e = .returned (.bool (sameD x y)) ∧ Q w w' := by
  obtain ⟨l, r1, u1, o1⟩ := x
  obtain ⟨l2, r2, u2, o2⟩ := y
  simp only at h1 h2 ⊢
  by_cases hl : l = l2
  · by_cases hr : r1 = r2
    · by_cases hu : u1 = u2
      · cases o1 <;> cases o2
        · rw [show sameD ⟨l, r1, u1, false⟩ ⟨l2, r2, u2, false⟩ = true by simp [sameD, hl, hr, hu]]
          exact same_off_false_false A B n c m d l l2 r1 r2 u1 u2 w h1 h2 hn hm hl hr hu
        · rw [show sameD ⟨l, r1, u1, false⟩ ⟨l2, r2, u2, true⟩ = false by simp [sameD]]
          exact same_off_false_true A B n c m d l l2 r1 r2 u1 u2 w h1 h2 hn hm hl hr hu
        · rw [show sameD ⟨l, r1, u1, true⟩ ⟨l2, r2, u2, false⟩ = false by simp [sameD]]
          exact same_off_true_false A B n c m d l l2 r1 r2 u1 u2 w h1 h2 hn hm hl hr hu
        · rw [show sameD ⟨l, r1, u1, true⟩ ⟨l2, r2, u2, true⟩ = true by simp [sameD, hl, hr, hu]]
          exact same_off_true_true A B n c m d l l2 r1 r2 u1 u2 w h1 h2 hn hm hl hr hu
      · rw [show sameD ⟨l, r1, u1, o1⟩ ⟨l2, r2, u2, o2⟩ = false by simp [sameD, hu]]
        exact same_fuse A B n c m d l l2 r1 r2 u1 u2 o1 o2 w h1 h2 hn hm hl hr hu
    · rw [show sameD ⟨l, r1, u1, o1⟩ ⟨l2, r2, u2, o2⟩ = false by simp [sameD, hr]]
      exact same_room A B n c m d l l2 r1 r2 u1 u2 o1 o2 w h1 h2 hn hm hl hr
  · rw [show sameD ⟨l, r1, u1, o1⟩ ⟨l2, r2, u2, o2⟩ = false by simp [sameD, hl]]
    exact same_fs A B n c m d l l2 r1 r2 u1 u2 o1 o2 w h1 h2 hn hm hl

end Go.Proofs.Ytpjadjbniddmgaa
