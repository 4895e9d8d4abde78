/- BatchTakeRef, Concat, ConcatP, BatchPairs, AppK: merged. -/
import Derived.Test.YtlbjobbmjccekaaA6
import Derived.Test.YtlbjobbmjccekaaA5
import Derived.Test.YtlbjobbmjccekaaA1
import Derived.Test.YtlbjobbmjccekaaA4
/- The contract of the document's Take of a batch. -/
namespace Go.Proofs.Ytlbjobbmjccekaa
set_option maxRecDepth 100000
open Go.RowKit Prm
set_option linter.unusedVariables false
set_option linter.unusedSimpArgs false

namespace Bm
def zero : Bt × Nat := (⟨0, ⟨#[]⟩, []⟩, 3)
theorem tkN_bad {m : Nat} {x : Hs} (h : (Dm.tnum x.1).2.2 ≠ 0 ∨ m < (Dm.tnum x.1).1) : (tkN m x).2.2 = false := by unfold tkN; rw [if_pos h]
theorem tkN_ok {m : Nat} {l : List UInt8} {v : Nat} {r : List UInt8} (h : Dm.tnum l = (v, r, 0)) (hv : v ≤ m) : tkN m (l, true) = (v, r, true) := by
  unfold tkN; simp only [h]; rw [if_neg (by simp; omega)]
theorem tkT_bad {m : Int} {x : Hs} (h : (Dm.ttext x.1 m).2.2 ≠ 0) : (tkT m x).2.2 = false := by unfold tkT; simp [h]
theorem tkT_ok {m : Int} {l t r : List UInt8} (h : Dm.ttext l m = (t, r, 0)) : tkT m (l, true) = (t, r, true) := by unfold tkT; simp [h]
theorem take_no {s : List UInt8} (h : (tkH (s, true)).2.2.2.2 = false) : take s = zero := by
  unfold take
  apply fin_bad
  simp only [tkB]
  exact tkWs_no _ _ h
theorem take_b1 {s : List UInt8} (h : (tkN 2 (s, true)).2.2 = false) : take s = zero := take_no (by simp only [tkH]; exact tkN_no' (tkT_no' h))
theorem take_b2 {s r : List UInt8} {v : Nat} (h1 : tkN 2 (s, true) = (v, r, true)) (h : (tkT 16 (r, true)).2.2 = false) : take s = zero :=
  take_no (by simp only [tkH]; rw [h1]; exact tkN_no' h)
theorem take_b3 {s r t r2 : List UInt8} {v : Nat} (h1 : tkN 2 (s, true) = (v, r, true)) (h2 : tkT 16 (r, true) = (t, r2, true)) (h : (tkN 24 (r2, true)).2.2 = false) : take s = zero :=
  take_no (by simp only [tkH]; rw [h1]; dsimp only; rw [h2]; exact h)
theorem take_mid {s r t r2 r3 : List UInt8} {v m : Nat} (h1 : tkN 2 (s, true) = (v, r, true)) (h2 : tkT 16 (r, true) = (t, r2, true)) (h3 : tkN 24 (r2, true) = (m, r3, true)) :
    take s = fin (⟨(v : Int), ⟨t.toArray⟩, (tkWs m [] (r3, true)).1⟩, (tkWs m [] (r3, true)).2) := by
  have e : tkH (s, true) = (v, t, m, (r3, true)) := by
    simp only [tkH]
    rw [h1]; dsimp only
    rw [h2]; dsimp only
    rw [h3]
  simp only [take, tkB]
  rw [e]
theorem tkW_b1 {r : List UInt8} (h : (tkN 1 (r, true)).2.2 = false) : (tkW (r, true)).2.2 = false := by simp only [tkW]; exact tkT_no' (tkT_no' h)
theorem tkW_b2 {r r1 : List UInt8} {v : Nat} (h1 : tkN 1 (r, true) = (v, r1, true)) (h : (tkT 32 (r1, true)).2.2 = false) : (tkW (r, true)).2.2 = false := by
  simp only [tkW]; rw [h1]; exact tkT_no' h
theorem tkW_b3 {r r1 t r2 : List UInt8} {v : Nat} (h1 : tkN 1 (r, true) = (v, r1, true)) (h2 : tkT 32 (r1, true) = (t, r2, true)) (h : (tkT 64 (r2, true)).2.2 = false) : (tkW (r, true)).2.2 = false := by
  simp only [tkW]; rw [h1]; dsimp only; rw [h2]; exact h
theorem tkW_ok {r r1 t r2 u r3 : List UInt8} {v : Nat} (h1 : tkN 1 (r, true) = (v, r1, true)) (h2 : tkT 32 (r1, true) = (t, r2, true)) (h3 : tkT 64 (r2, true) = (u, r3, true)) :
    tkW (r, true) = (⟨⟨t.toArray⟩, ⟨u.toArray⟩, decide (v = 1)⟩, (r3, true)) := by
  simp only [tkW]
  rw [h1]; dsimp only
  rw [h2]; dsimp only
  rw [h3]
theorem tkWs_bad {v j : Nat} (h : j < v) (acc : List Wr) (x : Hs) (hx : (tkW x).2.2 = false) : (tkWs (v - j) acc x).2.2 = false := by
  rw [tkWs_fold h]; exact tkWs_no _ _ hx
end Bm

theorem bytes_of' (l : List UInt8) : ∃ B : ByteArray, B = ⟨l.toArray⟩ ∧ B.size = l.length ∧ B.data.toList = l := ⟨_, rfl, by show l.toArray.size = _; simp, by simp⟩

/-- where the document's Take stands. -/
structure Tr (w w2 : World) (kind : Int) (tok : ByteArray) (A : Option Addr) (n c : Nat) (ws : List Wr) (wi : World) : Prop where
  res : Bx wi w.heap.size [.int .i64 0, .string ⟨#[]⟩, .slice none 0 0]
  bb : Bx wi w2.heap.size [.int .i64 kind, .string tok, .slice A n c]
  own : OwnK writeK wi (w2.heap.size + 1) A n c ws
  q : Q w wi
  l1 : w.heap.size < w2.heap.size
  l2 : w2.heap.size + 1 ≤ wi.heap.size
section
variable {w w2 wi wj : World} {kind : Int} {tok : ByteArray} {A : Option Addr} {n c : Nat} {ws : List Wr}
theorem Tr.step (h : Tr w w2 kind tok A n c ws wi) (q : Q wi wj) : Tr w w2 kind tok A n c ws wj :=
  ⟨h.res.q q, h.bb.q q, h.own.q q, h.q.trans q, h.l1, Nat.le_trans h.l2 q.size⟩
theorem Tr.setWs (h : Tr w w2 kind tok A n c ws wi) (hb : Below (w2.heap.size + 1) wi wj) {A' : Option Addr} {n' c' : Nat} {ws' : List Wr} (ho : OwnK writeK wj (w2.heap.size + 1) A' n' c' ws') : Tr w w2 kind tok A' n' c' ws' (wj.setCell ⟨w2.heap.size, 2, none⟩ (.slice A' n' c')) := by
  have h3 := h.l1; have h5 := h.l2
  exact ⟨(h.res.below hb (by omega)).far (by simp only; omega) _, (h.bb.below hb (by omega)).set (k := 2) (by simp) _, ho.setCell (by simp only; omega) _,
    Q.setCell (a := w) (h.q.below.trans (hb.mono (by omega))) (by simp only; omega) _, h3, by have := hb.size; simp only [World.size_setCell]; omega⟩
/-- the endings that refuse. -/
theorem bad_end (T : Bm.Bt × Nat) (hT : T = Bm.zero) (q : Q w wi) (x y z : Value) : RetTB w T (.returned (.tuple #[batV 0 ⟨#[]⟩ none 0 0, .int .i64 3])) (((wi.setCell ⟨w.heap.size, 0, none⟩ x).setCell ⟨w.heap.size, 1, none⟩ y).setCell ⟨w.heap.size, 2, none⟩ z) := by
  subst hT
  exact ⟨none, 0, rfl, OwnK.nil_ _ _ _, q.set3 (Nat.le_refl _) _ _ _⟩
end

set_option maxHeartbeats 8000000 in
set_option maxRecDepth 100000 in
theorem refTakeB_any (s : ByteArray) (w : World) (hs : s.size ≤ maxLen) :
    Calls Try.prog 15 #[.string s] w (RetTB w (Bm.take s.data.toList)) := by
  have K1 := fun W => refTakeNum_any s W hs
  have l1 := Dm.tnum_len s.data.toList
  have b1 := Dm.tnum_le s.data.toList
  have o1 := fun h => Bm.tkN_bad (m := 2) (x := (s.data.toList, true)) h
  have g1 := fun v r (h : Dm.tnum s.data.toList = (v, r, 0)) hv => Bm.tkN_ok (m := 2) h hv
  unfold tnR at K1
  generalize Dm.tnum s.data.toList = x1 at K1 l1 b1 o1 g1
  obtain ⟨v1, r1, e1⟩ := x1
  simp only at K1 l1 b1 o1 g1
  obtain ⟨R1, hR1, hS1, hD1⟩ := bytes_of' r1
  rw [← hR1] at K1
  rw [Rn.size_data] at l1
  by_cases c1 : e1 ≠ 0
  · have hne : ((e1 : Int) != 0) = true := by simp; omega
    have HB := Lib.hid (Bm.take_b1 (o1 (.inl c1)))
    clear c1
    have H1 := Lib.hid K1
    clear K1 o1 g1 l1
    clear hR1 hS1 hD1
    try clear hT1
    go_enter Try.func15, Try.ntmps15
    go_wp2_with fail
    refine (H1.out _).mono ?_
    rintro e w1 ⟨rfl, q1⟩
    have Q1 := Lib.hid (((Q.refl w).alloc _).trans q1)
    have B1 := Lib.hid ((Bx.new w [.int .i64 0, .string ⟨#[]⟩, .slice none 0 0] 24).q q1)
    clear q1
    obtain ⟨⟨p0, p1, p2⟩, p3, p4, p5⟩ := B1.out.get3
    go_wp2
    obtain ⟨⟨r0, r1, r2⟩, _⟩ := (B1.out.set3 (.int .i64 0) (.string ⟨#[]⟩) (.slice none 0 0)).get3
    refine bodyPost_ret (v := .tuple #[batV 0 ⟨#[]⟩ none 0 0, .int .i64 3]) (by simp [results, Try.results15, go_sem, r0, r1, r2]) rfl ?_
    exact bad_end _ HB.out Q1.out _ _ _
  have c1' : e1 = 0 := by omega
  subst c1'
  clear c1
  have z0 : ((0 : Int) != 0) = false := by decide
  by_cases d1 : (2 : Int) < (v1 : Int)
  · have HB := Lib.hid (Bm.take_b1 (o1 (.inr (by omega))))
    have H1 := Lib.hid K1
    clear K1 o1 g1 l1
    clear hR1 hS1 hD1
    try clear hT1
    go_enter Try.func15, Try.ntmps15
    go_wp2_with fail
    refine (H1.out _).mono ?_
    rintro e w1 ⟨rfl, q1⟩
    have Q1 := Lib.hid (((Q.refl w).alloc _).trans q1)
    have B1 := Lib.hid ((Bx.new w [.int .i64 0, .string ⟨#[]⟩, .slice none 0 0] 24).q q1)
    clear q1
    obtain ⟨⟨p0, p1, p2⟩, p3, p4, p5⟩ := B1.out.get3
    go_wp2
    obtain ⟨⟨r0, r1, r2⟩, _⟩ := (B1.out.set3 (.int .i64 0) (.string ⟨#[]⟩) (.slice none 0 0)).get3
    refine bodyPost_ret (v := .tuple #[batV 0 ⟨#[]⟩ none 0 0, .int .i64 3]) (by simp [results, Try.results15, go_sem, r0, r1, r2]) rfl ?_
    exact bad_end _ HB.out Q1.out _ _ _
  have d1' : decide ((2 : Int) < (v1 : Int)) = false := decide_eq_false d1
  have n1 := Lib.hid (g1 _ _ rfl (by omega))
  have h1s : R1.size ≤ maxLen := by omega
  have K2 := fun W => refTakeText_any R1 16 W h1s (by omega) (by omega)
  rw [hD1] at K2
  have l2 := ttext_len r1 16
  have o2 := fun h => Bm.tkT_bad (m := 16) (x := (r1, true)) h
  have g2 := fun t r (h : Dm.ttext r1 16 = (t, r, 0)) => Bm.tkT_ok (m := 16) h
  unfold ttR at K2
  generalize Dm.ttext r1 16 = x2 at K2 l2 o2 g2
  obtain ⟨t2, r2, e2⟩ := x2
  simp only at K2 l2 o2 g2
  obtain ⟨T2, hT2, -, -⟩ := bytes_of' t2
  obtain ⟨R2, hR2, hS2, hD2⟩ := bytes_of' r2
  rw [← hT2, ← hR2] at K2
  by_cases c2 : e2 ≠ 0
  · have hne : ((e2 : Int) != 0) = true := by simp; omega
    have HB := Lib.hid (Bm.take_b2 n1.out (o2 c2))
    clear c2
    have H1 := Lib.hid K1
    have H2 := Lib.hid K2
    clear K1 o1 g1 l1 K2 o2 g2 l2
    clear hR1 hS1 hD1
    clear hR2 hS2 hD2
    try clear hT1
    try clear hT2
    go_enter Try.func15, Try.ntmps15
    go_wp2_with fail
    refine (H1.out _).mono ?_
    rintro e w1 ⟨rfl, q1⟩
    have Q1 := Lib.hid (((Q.refl w).alloc _).trans q1)
    have B1 := Lib.hid ((Bx.new w [.int .i64 0, .string ⟨#[]⟩, .slice none 0 0] 24).q q1)
    clear q1
    go_wp2_with fail
    refine (H2.out _).mono ?_
    rintro e w2 ⟨rfl, q2⟩
    have Q2 := Lib.hid (Q1.out.trans q2)
    have B2 := Lib.hid (B1.out.q q2)
    clear q2
    obtain ⟨⟨p0, p1, p2⟩, p3, p4, p5⟩ := B2.out.get3
    go_wp2
    obtain ⟨⟨r0, r1, r2⟩, _⟩ := (B2.out.set3 (.int .i64 0) (.string ⟨#[]⟩) (.slice none 0 0)).get3
    refine bodyPost_ret (v := .tuple #[batV 0 ⟨#[]⟩ none 0 0, .int .i64 3]) (by simp [results, Try.results15, go_sem, r0, r1, r2]) rfl ?_
    exact bad_end _ HB.out Q2.out _ _ _
  have c2' : e2 = 0 := by omega
  subst c2'
  clear c2
  have n2 := Lib.hid (g2 _ _ rfl)
  have h2s : R2.size ≤ maxLen := by omega
  have K3 := fun W => refTakeNum_any R2 W h2s
  rw [hD2] at K3
  have l3 := Dm.tnum_len r2
  have b3 := Dm.tnum_le r2
  have o3 := fun h => Bm.tkN_bad (m := 24) (x := (r2, true)) h
  have g3 := fun v r (h : Dm.tnum r2 = (v, r, 0)) hv => Bm.tkN_ok (m := 24) h hv
  unfold tnR at K3
  generalize Dm.tnum r2 = x3 at K3 l3 b3 o3 g3
  obtain ⟨v3, r3, e3⟩ := x3
  simp only at K3 l3 b3 o3 g3
  obtain ⟨R3, hR3, hS3, hD3⟩ := bytes_of' r3
  rw [← hR3] at K3
  by_cases c3 : e3 ≠ 0
  · have hne : ((e3 : Int) != 0) = true := by simp; omega
    have HB := Lib.hid (Bm.take_b3 n1.out n2.out (o3 (.inl c3)))
    clear c3
    have H1 := Lib.hid K1
    have H2 := Lib.hid K2
    have H3 := Lib.hid K3
    clear K1 o1 g1 l1 K2 o2 g2 l2 K3 o3 g3 l3
    clear hR1 hS1 hD1
    clear hR2 hS2 hD2
    clear hR3 hS3 hD3
    try clear hT1
    try clear hT2
    try clear hT3
    go_enter Try.func15, Try.ntmps15
    go_wp2_with fail
    refine (H1.out _).mono ?_
    rintro e w1 ⟨rfl, q1⟩
    have Q1 := Lib.hid (((Q.refl w).alloc _).trans q1)
    have B1 := Lib.hid ((Bx.new w [.int .i64 0, .string ⟨#[]⟩, .slice none 0 0] 24).q q1)
    clear q1
    go_wp2_with fail
    refine (H2.out _).mono ?_
    rintro e w2 ⟨rfl, q2⟩
    have Q2 := Lib.hid (Q1.out.trans q2)
    have B2 := Lib.hid (B1.out.q q2)
    clear q2
    go_wp2_with fail
    refine (H3.out _).mono ?_
    rintro e w3 ⟨rfl, q3⟩
    have Q3 := Lib.hid (Q2.out.trans q3)
    have B3 := Lib.hid (B2.out.q q3)
    clear q3
    obtain ⟨⟨p0, p1, p2⟩, p3, p4, p5⟩ := B3.out.get3
    go_wp2
    obtain ⟨⟨r0, r1, r2⟩, _⟩ := (B3.out.set3 (.int .i64 0) (.string ⟨#[]⟩) (.slice none 0 0)).get3
    refine bodyPost_ret (v := .tuple #[batV 0 ⟨#[]⟩ none 0 0, .int .i64 3]) (by simp [results, Try.results15, go_sem, r0, r1, r2]) rfl ?_
    exact bad_end _ HB.out Q3.out _ _ _
  have c3' : e3 = 0 := by omega
  subst c3'
  clear c3
  by_cases d3 : (24 : Int) < (v3 : Int)
  · have HB := Lib.hid (Bm.take_b3 n1.out n2.out (o3 (.inr (by omega))))
    have H1 := Lib.hid K1
    have H2 := Lib.hid K2
    have H3 := Lib.hid K3
    clear K1 o1 g1 l1 K2 o2 g2 l2 K3 o3 g3 l3
    clear hR1 hS1 hD1
    clear hR2 hS2 hD2
    clear hR3 hS3 hD3
    try clear hT1
    try clear hT2
    try clear hT3
    go_enter Try.func15, Try.ntmps15
    go_wp2_with fail
    refine (H1.out _).mono ?_
    rintro e w1 ⟨rfl, q1⟩
    have Q1 := Lib.hid (((Q.refl w).alloc _).trans q1)
    have B1 := Lib.hid ((Bx.new w [.int .i64 0, .string ⟨#[]⟩, .slice none 0 0] 24).q q1)
    clear q1
    go_wp2_with fail
    refine (H2.out _).mono ?_
    rintro e w2 ⟨rfl, q2⟩
    have Q2 := Lib.hid (Q1.out.trans q2)
    have B2 := Lib.hid (B1.out.q q2)
    clear q2
    go_wp2_with fail
    refine (H3.out _).mono ?_
    rintro e w3 ⟨rfl, q3⟩
    have Q3 := Lib.hid (Q2.out.trans q3)
    have B3 := Lib.hid (B2.out.q q3)
    clear q3
    obtain ⟨⟨p0, p1, p2⟩, p3, p4, p5⟩ := B3.out.get3
    go_wp2
    obtain ⟨⟨r0, r1, r2⟩, _⟩ := (B3.out.set3 (.int .i64 0) (.string ⟨#[]⟩) (.slice none 0 0)).get3
    refine bodyPost_ret (v := .tuple #[batV 0 ⟨#[]⟩ none 0 0, .int .i64 3]) (by simp [results, Try.results15, go_sem, r0, r1, r2]) rfl ?_
    exact bad_end _ HB.out Q3.out _ _ _
  have d3' : decide ((24 : Int) < (v3 : Int)) = false := decide_eq_false d3
  have n3 := Lib.hid (g3 _ _ rfl (by omega))
  have hT := Bm.take_mid n1.out n2.out n3.out
  rw [← hT2] at hT
  have h3s : R3.size ≤ maxLen := by omega
  have HR3 := Lib.hid h3s
  have HD3 := Lib.hid hD3
  generalize Bm.take s.data.toList = T at hT ⊢
  have HT := Lib.hid hT
  have H1 := Lib.hid K1
  have H2 := Lib.hid K2
  have H3 := Lib.hid K3
  clear K1 K2 K3 o1 o2 o3 g1 g2 g3 l1 l2 l3 n1 n2 n3 hT hR1 hR2 hR3 hS1 hS2 hS3 hD1 hD2 hD3 hT2 h1s h2s h3s b1 b3 hs
  go_enter Try.func15, Try.ntmps15
  go_wp2_with fail
  refine (H1.out _).mono ?_
  rintro e w1 ⟨rfl, q1⟩
  have Q1 := Lib.hid (((Q.refl w).alloc _).trans q1)
  have B1 := Lib.hid ((Bx.new w [.int .i64 0, .string ⟨#[]⟩, .slice none 0 0] 24).q q1)
  clear q1
  go_wp2_with fail
  refine (H2.out _).mono ?_
  rintro e w2 ⟨rfl, q2⟩
  have Q2 := Lib.hid (Q1.out.trans q2)
  have B2 := Lib.hid (B1.out.q q2)
  clear q2
  go_wp2_with fail
  refine (H3.out _).mono ?_
  rintro e w3 ⟨rfl, q3⟩
  have Q3 := Lib.hid (Q2.out.trans q3)
  have B3 := Lib.hid (B2.out.q q3)
  clear q3
  go_upto_region 11 with (fail)
  have X : Hid (Tr w w3 (v1 : Int) T2 none 0 0 [] (w3.alloc (.cells #[.int .i64 (v1 : Int), .string T2, .slice none 0 0] 24))) :=
    Lib.hid ⟨B3.out.alloc _, Bx.new w3 [.int .i64 (v1 : Int), .string T2, .slice none 0 0] 24, OwnK.nil_ _ _ _, Q3.out.alloc _, B3.out.lt, by simp⟩
  generalize w3.alloc (.cells #[.int .i64 (v1 : Int), .string T2, .slice none 0 0] 24) = w4 at X ⊢
  clear B1 B2 B3 Q1 Q2 Q3 H1 H2 H3
  go_wp2
  go_loopw [11, 14] (fun s11 i wr => ∃ (j : Nat) (RB : ByteArray) (acc : List Wr) (A : Option Addr) (c : Nat), j ≤ v3 ∧ i = .int .u64 j ∧ s11 = .string RB ∧ acc.length = j ∧ Tr w w3 (v1 : Int) T2 A acc.length c acc wr ∧ Bm.tkWs v3 [] (r3, true) = Bm.tkWs (v3 - j) acc (RB.data.toList, true) ∧ RB.size ≤ maxLen) (fun _ i _ => v3 - (intOf i).toNat)
  case atStart => exact ⟨0, R3, [], none, 0, Nat.zero_le _, rfl, rfl, rfl, X.out, by rw [HD3.out]; rfl, HR3.out⟩
  case round =>
    obtain ⟨j, RB, acc, A, c, hj, rfl, rfl, hal, x1, hT, hxl⟩ := hrel
    have X1 := Lib.hid x1
    have HAl := Lib.hid hal
    have HTT := Lib.hid hT
    have hal2 : acc.length ≤ 24 := by omega
    clear x1 hT X hal HR3 HD3
    by_cases hlt : j < v3
    · have hjv : (j : Int) < (v3 : Int) := by omega
      have HBad := Lib.hid (fun (h : (Bm.tkW (RB.data.toList, true)).2.2 = false) => show T = Bm.zero from HT.out.trans (Bm.fin_bad (by show (Bm.tkWs v3 [] (r3, true)).2.2 = false; rw [HTT.out]; exact Bm.tkWs_bad hlt acc _ h)))
      have HF := Lib.hid (tkWs_fold hlt acc (RB.data.toList, true))
      have K5 := fun W => refTakeNum_any RB W hxl
      have l5 := Dm.tnum_len RB.data.toList
      have b5 := Dm.tnum_le RB.data.toList
      have o5 := fun h => Bm.tkN_bad (m := 1) (x := (RB.data.toList, true)) h
      have g5 := fun v r (h : Dm.tnum RB.data.toList = (v, r, 0)) hv => Bm.tkN_ok (m := 1) h hv
      unfold tnR at K5
      generalize Dm.tnum RB.data.toList = x5 at K5 l5 b5 o5 g5
      obtain ⟨v5, r5, e5⟩ := x5
      simp only at K5 l5 b5 o5 g5
      obtain ⟨R5, hR5, hS5, hD5⟩ := bytes_of' r5
      rw [← hR5] at K5
      rw [Rn.size_data] at l5
      by_cases c5 : e5 ≠ 0
      · have hne : ((e5 : Int) != 0) = true := by simp; omega
        have HB := Lib.hid (HBad.out (Bm.tkW_b1 (o5 (.inl c5))))
        clear c5
        have H5 := Lib.hid K5
        clear K5 o5 g5 l5
        clear hR5 hS5 hD5
        try clear hT5
        go_wp2_with fail
        refine (H5.out _).mono ?_
        rintro e w5 ⟨rfl, q5⟩
        have X5 := Lib.hid (X1.out.step q5)
        clear q5
        obtain ⟨⟨p0, p1, p2⟩, p3, p4, p5⟩ := X5.out.res.get3
        go_wp2
        obtain ⟨⟨r0, r1, r2⟩, _⟩ := (X5.out.res.set3 (.int .i64 0) (.string ⟨#[]⟩) (.slice none 0 0)).get3
        refine bodyPost_ret (v := .tuple #[batV 0 ⟨#[]⟩ none 0 0, .int .i64 3]) (by simp [results, Try.results15, go_sem, r0, r1, r2]) rfl ?_
        exact bad_end _ HB.out X5.out.q _ _ _
      have c5' : e5 = 0 := by omega
      subst c5'
      clear c5
      by_cases d5 : (1 : Int) < (v5 : Int)
      · have HB := Lib.hid (HBad.out (Bm.tkW_b1 (o5 (.inr (by omega)))))
        have H5 := Lib.hid K5
        clear K5 o5 g5 l5
        clear hR5 hS5 hD5
        try clear hT5
        go_wp2_with fail
        refine (H5.out _).mono ?_
        rintro e w5 ⟨rfl, q5⟩
        have X5 := Lib.hid (X1.out.step q5)
        clear q5
        obtain ⟨⟨p0, p1, p2⟩, p3, p4, p5⟩ := X5.out.res.get3
        go_wp2
        obtain ⟨⟨r0, r1, r2⟩, _⟩ := (X5.out.res.set3 (.int .i64 0) (.string ⟨#[]⟩) (.slice none 0 0)).get3
        refine bodyPost_ret (v := .tuple #[batV 0 ⟨#[]⟩ none 0 0, .int .i64 3]) (by simp [results, Try.results15, go_sem, r0, r1, r2]) rfl ?_
        exact bad_end _ HB.out X5.out.q _ _ _
      have d5' : decide ((1 : Int) < (v5 : Int)) = false := decide_eq_false d5
      have n5 := Lib.hid (g5 _ _ rfl (by omega))
      have h5s : R5.size ≤ maxLen := by omega
      have K6 := fun W => refTakeText_any R5 32 W h5s (by omega) (by omega)
      rw [hD5] at K6
      have l6 := ttext_len r5 32
      have o6 := fun h => Bm.tkT_bad (m := 32) (x := (r5, true)) h
      have g6 := fun t r (h : Dm.ttext r5 32 = (t, r, 0)) => Bm.tkT_ok (m := 32) h
      unfold ttR at K6
      generalize Dm.ttext r5 32 = x6 at K6 l6 o6 g6
      obtain ⟨t6, r6, e6⟩ := x6
      simp only at K6 l6 o6 g6
      obtain ⟨T6, hT6, -, -⟩ := bytes_of' t6
      obtain ⟨R6, hR6, hS6, hD6⟩ := bytes_of' r6
      rw [← hT6, ← hR6] at K6
      by_cases c6 : e6 ≠ 0
      · have hne : ((e6 : Int) != 0) = true := by simp; omega
        have HB := Lib.hid (HBad.out (Bm.tkW_b2 n5.out (o6 c6)))
        clear c6
        have H5 := Lib.hid K5
        have H6 := Lib.hid K6
        clear K5 o5 g5 l5 K6 o6 g6 l6
        clear hR5 hS5 hD5
        clear hR6 hS6 hD6
        try clear hT5
        try clear hT6
        go_wp2_with fail
        refine (H5.out _).mono ?_
        rintro e w5 ⟨rfl, q5⟩
        have X5 := Lib.hid (X1.out.step q5)
        clear q5
        go_wp2_with fail
        refine (H6.out _).mono ?_
        rintro e w6 ⟨rfl, q6⟩
        have X6 := Lib.hid (X5.out.step q6)
        clear q6
        obtain ⟨⟨p0, p1, p2⟩, p3, p4, p5⟩ := X6.out.res.get3
        go_wp2
        obtain ⟨⟨r0, r1, r2⟩, _⟩ := (X6.out.res.set3 (.int .i64 0) (.string ⟨#[]⟩) (.slice none 0 0)).get3
        refine bodyPost_ret (v := .tuple #[batV 0 ⟨#[]⟩ none 0 0, .int .i64 3]) (by simp [results, Try.results15, go_sem, r0, r1, r2]) rfl ?_
        exact bad_end _ HB.out X6.out.q _ _ _
      have c6' : e6 = 0 := by omega
      subst c6'
      clear c6
      have n6 := Lib.hid (g6 _ _ rfl)
      have h6s : R6.size ≤ maxLen := by omega
      have K7 := fun W => refTakeText_any R6 64 W h6s (by omega) (by omega)
      rw [hD6] at K7
      have l7 := ttext_len r6 64
      have o7 := fun h => Bm.tkT_bad (m := 64) (x := (r6, true)) h
      have g7 := fun t r (h : Dm.ttext r6 64 = (t, r, 0)) => Bm.tkT_ok (m := 64) h
      unfold ttR at K7
      generalize Dm.ttext r6 64 = x7 at K7 l7 o7 g7
      obtain ⟨t7, r7, e7⟩ := x7
      simp only at K7 l7 o7 g7
      obtain ⟨T7, hT7, -, -⟩ := bytes_of' t7
      obtain ⟨R7, hR7, hS7, hD7⟩ := bytes_of' r7
      rw [← hT7, ← hR7] at K7
      by_cases c7 : e7 ≠ 0
      · have hne : ((e7 : Int) != 0) = true := by simp; omega
        have HB := Lib.hid (HBad.out (Bm.tkW_b3 n5.out n6.out (o7 c7)))
        clear c7
        have H5 := Lib.hid K5
        have H6 := Lib.hid K6
        have H7 := Lib.hid K7
        clear K5 o5 g5 l5 K6 o6 g6 l6 K7 o7 g7 l7
        clear hR5 hS5 hD5
        clear hR6 hS6 hD6
        clear hR7 hS7 hD7
        try clear hT5
        try clear hT6
        try clear hT7
        go_wp2_with fail
        refine (H5.out _).mono ?_
        rintro e w5 ⟨rfl, q5⟩
        have X5 := Lib.hid (X1.out.step q5)
        clear q5
        go_wp2_with fail
        refine (H6.out _).mono ?_
        rintro e w6 ⟨rfl, q6⟩
        have X6 := Lib.hid (X5.out.step q6)
        clear q6
        go_wp2_with fail
        refine (H7.out _).mono ?_
        rintro e w7 ⟨rfl, q7⟩
        have X7 := Lib.hid (X6.out.step q7)
        clear q7
        obtain ⟨⟨p0, p1, p2⟩, p3, p4, p5⟩ := X7.out.res.get3
        go_wp2
        obtain ⟨⟨r0, r1, r2⟩, _⟩ := (X7.out.res.set3 (.int .i64 0) (.string ⟨#[]⟩) (.slice none 0 0)).get3
        refine bodyPost_ret (v := .tuple #[batV 0 ⟨#[]⟩ none 0 0, .int .i64 3]) (by simp [results, Try.results15, go_sem, r0, r1, r2]) rfl ?_
        exact bad_end _ HB.out X7.out.q _ _ _
      have c7' : e7 = 0 := by omega
      subst c7'
      clear c7
      have n7 := Lib.hid (g7 _ _ rfl)
      have h7s : R7.size ≤ maxLen := by omega
      have hW := Bm.tkW_ok n5.out n6.out n7.out
      have hv5 : decide (v5 = 1) = ((v5 : Int) == 1) := by
        rcases (by omega : v5 = 0 ∨ v5 = 1) with rfl | rfl <;> rfl
      rw [← hT6, ← hT7, hv5] at hW
      rw [hW] at HF
      have HN := Lib.hid (HTT.out.trans HF.out)
      dsimp only at HN
      rw [← hD7] at HN
      have HS7 := Lib.hid h7s
      have H5 := Lib.hid K5
      have H6 := Lib.hid K6
      have H7 := Lib.hid K7
      clear K5 K6 K7 o5 o6 o7 g5 g6 g7 l5 l6 l7 n5 n6 n7 hW hv5 hR5 hR6 hR7 hS5 hS6 hS7 hD5 hD6 hD7 hT6 hT7 h5s h6s h7s b5 HF HBad
      go_wp2_with fail
      refine (H5.out _).mono ?_
      rintro e w5 ⟨rfl, q5⟩
      have X5 := Lib.hid (X1.out.step q5)
      clear q5
      go_wp2_with fail
      refine (H6.out _).mono ?_
      rintro e w6 ⟨rfl, q6⟩
      have X6 := Lib.hid (X5.out.step q6)
      clear q6
      go_wp2_with fail
      refine (H7.out _).mono ?_
      rintro e w7 ⟨rfl, q7⟩
      have X7 := Lib.hid (X6.out.step q7)
      clear q7
      obtain ⟨⟨p0, p1, p2⟩, p3, p4, p5⟩ := X7.out.bb.get3
      go_wp2_with (at_builtin
                   refine wpl_appK writeK rfl (.tmp 101) (.tmp 107) 22 rfl rfl (w3.heap.size + 1) A acc.length c acc rfl (X7.out.step ((Q.refl _).alloc _)).own (some ⟨w7.heap.size, 0, none⟩) 1 1 [⟨T6, T7, (v5 : Int) == 1⟩] rfl (lit_write w7 ⟨T6, T7, (v5 : Int) == 1⟩).lst (fun e => by cases e) (by show (acc.length + 1) * 40 ≤ _; omega) (X7.out.step ((Q.refl _).alloc _)).l2 ?_
                   intro A8 c8 w8 o8 b8
                   have X8 := Lib.hid ((X7.out.step ((Q.refl _).alloc (.cells #[.string T6, .string T7, .bool ((v5 : Int) == 1)] 63))).setWs b8 o8)
                   obtain ⟨⟨a0, a1, a2⟩, a3, a4, a5⟩ := ((X7.out.step ((Q.refl _).alloc (.cells #[.string T6, .string T7, .bool ((v5 : Int) == 1)] 63))).bb.below b8 (by omega)).get3
                   clear o8 b8)
      go_roundw
      case rel => exact ⟨j + 1, R7, acc ++ [⟨T6, T7, (v5 : Int) == 1⟩], A8, c8, by omega, by go_num, rfl, by rw [List.length_append, HAl.out]; rfl, by rw [List.length_append]; exact X8.out, HN.out, HS7.out⟩
      case measure => simp [intOf]; omega
    · have hjv : j = v3 := by omega
      have HTl := Lib.hid (show Bm.tkWs v3 [] (r3, true) = (acc, (RB.data.toList, true)) by rw [HTT.out, hjv, Nat.sub_self]; rfl)
      have HT2 := Lib.hid (show T = Bm.fin (⟨(v1 : Int), T2, acc⟩, (RB.data.toList, true)) by rw [HT.out, HTl.out])
      have hjn : ¬((j : Int) < (v3 : Int)) := by omega
      have KM := Lib.hid (fun W q => refMay_any (v1 : Int) T2 A acc.length c acc W (X1.out.own.lst.q q) (by unfold maxLen; omega))
      have hxz : RB.size = RB.data.toList.length := (Rn.size_data RB).symm
      clear hjv HTl HTT HT hxl
      obtain ⟨⟨d0, d1, d2⟩, f0, f1, f2⟩ := X1.out.bb.get3
      by_cases hz : (0 : Int) < (RB.size : Int)
      · have HB := Lib.hid (HT2.out.trans (show Bm.fin (⟨(v1 : Int), T2, acc⟩, (RB.data.toList, true)) = Bm.zero by
          unfold Bm.fin; rw [if_neg (by rintro ⟨_, h2, _⟩; simp only at h2; rw [h2] at hxz; have h3 : RB.size = 0 := hxz; omega)]; rfl))
        have hzd : decide ((0 : Int) < (RB.size : Int)) = true := decide_eq_true hz
        have hzn : ¬ RB = ByteArray.empty := by rintro rfl; simp at hz
        clear hxz
        go_wp2_with fail
        refine (KM.out _ (Q.refl _)).mono ?_
        rintro e w10 ⟨rfl, q10⟩
        have Y2 := Lib.hid (X1.out.step q10)
        clear q10 d0 d1 d2 f0 f1 f2 X1
        obtain ⟨⟨p0, p1, p2⟩, p3, p4, p5⟩ := Y2.out.res.get3
        go_wp2
        obtain ⟨⟨r0, r1, r2⟩, _⟩ := (Y2.out.res.set3 (.int .i64 0) (.string ⟨#[]⟩) (.slice none 0 0)).get3
        refine bodyPost_ret (v := .tuple #[batV 0 ⟨#[]⟩ none 0 0, .int .i64 3]) (by simp [results, Try.results15, go_sem, r0, r1, r2]) rfl ?_
        exact bad_end _ HB.out Y2.out.q _ _ _
      · have hx0 : RB.data.toList = [] := List.eq_nil_of_length_eq_zero (by omega)
        have hx1 : RB = ⟨#[]⟩ := by rw [dt_mk RB hx0]
        subst hx1
        clear hz
        cases hm : Bm.may ⟨(v1 : Int), T2, acc⟩ with
        | false =>
          rw [hm] at KM
          have HB := Lib.hid (HT2.out.trans (show Bm.fin (⟨(v1 : Int), T2, acc⟩, ((⟨#[]⟩ : ByteArray).data.toList, true)) = Bm.zero by unfold Bm.fin; rw [if_neg (by rw [hm]; simp)]; rfl))
          clear hm hx0 hxz
          go_wp2_with fail
          refine (KM.out _ (Q.refl _)).mono ?_
          rintro e w10 ⟨rfl, q10⟩
          have Y2 := Lib.hid (X1.out.step q10)
          clear q10 d0 d1 d2 f0 f1 f2 X1
          obtain ⟨⟨p0, p1, p2⟩, p3, p4, p5⟩ := Y2.out.res.get3
          go_wp2
          obtain ⟨⟨r0, r1, r2⟩, _⟩ := (Y2.out.res.set3 (.int .i64 0) (.string ⟨#[]⟩) (.slice none 0 0)).get3
          refine bodyPost_ret (v := .tuple #[batV 0 ⟨#[]⟩ none 0 0, .int .i64 3]) (by simp [results, Try.results15, go_sem, r0, r1, r2]) rfl ?_
          exact bad_end _ HB.out Y2.out.q _ _ _
        | true =>
          rw [hm] at KM
          have HB := Lib.hid (HT2.out.trans (show Bm.fin (⟨(v1 : Int), T2, acc⟩, ((⟨#[]⟩ : ByteArray).data.toList, true)) = (⟨(v1 : Int), T2, acc⟩, 0) by unfold Bm.fin; rw [if_pos ⟨rfl, hx0, hm⟩]))
          clear hm hx0 hxz
          go_wp2_with fail
          refine (KM.out _ (Q.refl _)).mono ?_
          rintro e w10 ⟨rfl, q10⟩
          have Y2 := Lib.hid (X1.out.step q10)
          clear q10 d0 d1 d2 f0 f1 f2 X1
          obtain ⟨⟨d0, d1, d2⟩, f0, f1, f2⟩ := Y2.out.bb.get3
          obtain ⟨⟨p0, p1, p2⟩, p3, p4, p5⟩ := Y2.out.res.get3
          go_wp2
          obtain ⟨⟨r0, r1, r2⟩, _⟩ := (Y2.out.res.set3 (.int .i64 (v1 : Int)) (.string T2) (.slice A acc.length c)).get3
          refine bodyPost_ret (v := .tuple #[batV (v1 : Int) T2 A acc.length c, .int .i64 0]) (by simp [results, Try.results15, go_sem, r0, r1, r2]) rfl ?_
          rw [HB.out]
          exact ⟨A, c, rfl, ((((Y2.out.own.setCell (p := ⟨w.heap.size, 0, none⟩) (by have := Y2.out.l1; simp only; omega) _).setCell (p := ⟨w.heap.size, 1, none⟩) (by have := Y2.out.l1; simp only; omega) _).setCell (p := ⟨w.heap.size, 2, none⟩) (by have := Y2.out.l1; simp only; omega) _).lower (by have := Y2.out.l1; omega)), Y2.out.q.set3 (Nat.le_refl _) _ _ _⟩
end Go.Proofs.Ytlbjobbmjccekaa

/- Contracts: slices.Grow of nothing, slices.Concat of two rows of writes. -/
namespace Go.Proofs.Ytlbjobbmjccekaa
set_option maxRecDepth 100000
open Go.RowKit Prm
set_option linter.unusedVariables false
set_option linter.unusedSimpArgs false
variable {α : Type}

/-- 'append(nil, make(.., m)...)': a new row. -/
theorem zeros_row0 (K : Kind α) (w : World) (base : Nat) (tn : TypeId) (htn : Try.prog.underlying tn = some (.int .i64)) (ty : TypeId) (m : Nat)
    (hm : 0 < m) (hb : m * K.bs ≤ 140737488355328) (hbase : base ≤ w.heap.size) :
    ∃ G w' xs, (Builtin.append_ #[K.S, tn] ty #[.slice none 0 0, .int .i64 (m : Int)]).run Try.prog w = .ok (.slice (some ⟨w.heap.size, 0, none⟩) m G) w' ∧ RowK K w' base w.heap.size G xs ∧ m ≤ G ∧ Q w w' ∧ G ≤ maxLen := by
  obtain ⟨t, hi, hz, hs, hy⟩ := info_parts K.info
  have hmax : m ≤ maxLen := by
    have : m * 1 ≤ m * K.bs := Nat.mul_le_mul_left _ K.bpos
    unfold maxLen; omega
  have hGm := grownCap_le_maxLen w (0 + m) 0 K.T (by omega)
  have hGn := grownCap_ge w (0 + m) 0 K.T
  have hmb : m * t.bytes ≤ 281474976710656 := by rw [hy]; omega
  have h := Lib.run_append_grow_zeros (P := Try.prog) w K.S tn ty K.T t K.z .i64 .i64 K.und htn hi hz none 0 0 []
    (run_firstCells_none (P := Try.prog) (w := w.drew) _ 0 0 0) m hm (by rw [hs]; exact K.pos) (by omega) (by unfold maxLen at hmax; omega) hmb (by rw [hy]; exact growslice_fits (by omega) (by rw [Nat.zero_add]; exact hb))
  rw [Nat.zero_add] at h hGm hGn
  generalize grownCap w m 0 K.T = G at h hGm hGn
  have hsz : ((#[] : Array Value) ++ Builtin.zeroCells K.z.cells m ++ Builtin.zeroCells K.z.cells (G - m)).size = G * K.k := by
    simp only [Array.size_append, zeros_size, K.zc, List.size_toArray]
    simp only [List.size_toArray, List.length_nil, Array.size_empty, Nat.zero_add]
    rw [← Nat.add_mul]
    congr 1
    omega
  exact ⟨G, _, _, h, World.ownsRow_lit (e := K.T) (size := K.k) w.drew _ G hbase hGm hsz, hGn, (Q.refl w).drew.alloc _, hGm⟩

theorem wpl_zerosK0 (K : Kind α) {w : World} {ops : Array Oper} {rest : List Oper} {o : Oper} {a : Act} {R : Exit → Act → World → Prop} (hgd : o.guard = none) (s x : Operand) (t tn : TypeId) (ht : t = K.S) (htn : Try.prog.underlying tn = some (.int .i64))
    (ho : o.op = .call { callee := .builtin .append, args := #[s, x], argTypes := #[t, tn] }) (base : Nat) (m : Nat) (hs : a.eval s = .slice none 0 0) (hx : a.eval x = .int .i64 (m : Int))
    (hm : 0 < m) (hb : m * K.bs ≤ 140737488355328) (hbase : base ≤ w.heap.size)
    (hk : ∀ G w' xs, RowK K w' base w.heap.size G xs → m ≤ G → Q w w' → G ≤ maxLen → wpList Try.prog ops R rest (a.put o.dst (.slice (some ⟨w.heap.size, 0, none⟩) m G)) w') : wpList Try.prog ops R (o :: rest) a w := by
  subst ht
  refine wpList_plain hgd fun X hX => ?_
  obtain ⟨G, w', xs, hr, h1, h2, h3, h4⟩ := zeros_row0 K w base tn htn o.type m hm hb hbase
  unfold Oper.wp execOp
  simp only [ho, resolve, invoke, builtin, Sem.run_bind, Sem.run_pure, Result.andThen_ok, List.map_toArray, List.map_cons, List.map_nil, hs, hx, hr]
  exact hX _ _ (hk G w' xs h1 h2 h3 h4)

/-- two rows of writes in a row of their own. -/
def Two (w : World) (b : Nat) (A : Option Addr) (n c : Nat) (B : Option Addr) (m d : Nat) : Prop := Bx w b [.slice A n c, .slice B m d]

end Go.Proofs.Ytlbjobbmjccekaa

/- Contracts: slices.Grow of nothing, slices.Concat of two rows of pairs. -/
namespace Go.Proofs.Ytlbjobbmjccekaa
set_option maxRecDepth 100000
open Go.RowKit Prm
set_option linter.unusedVariables false
set_option linter.unusedSimpArgs false
variable {α : Type}

set_option maxHeartbeats 2000000 in
theorem growP_any (m : Nat) (w : World) (hb : m * 32 ≤ 140737488355328) :
    Calls Try.prog 75 #[.slice none 0 0, .int .i64 (m : Int)] w fun e w' => RetL pairK w 0 [] e w' := by
  have hm : m ≤ 9223372036854775807 := by omega
  by_cases h0 : 0 < m
  · have h1 : (0 : Int) < (m : Int) := by omega
    have HB := Lib.hid hb
    clear hb
    go_enter Try.func75, Try.ntmps75
    go_wp2_with (at_builtin
                 refine wpl_zerosK0 pairK rfl (.tmp 20) (.tmp 21) 38 3 rfl Try.underlying3 rfl w.heap.size m rfl rfl h0 HB.out (Nat.le_refl _) ?_
                 intro G w1 xs hrow hG q1 hGm)
    go_ret
    exact ⟨_, G, rfl, hrow.own (Nat.zero_le _) (by simp [Kind.rows]), q1⟩
  · have h1 : m = 0 := by omega
    subst h1
    clear hb
    go_enter Try.func75, Try.ntmps75
    go_wp2
    go_ret
    exact ⟨none, 0, rfl, OwnK.nil_ _ _ _, Q.refl _⟩

/-- two rows of writes in a row of their own. -/
def TwoP (w : World) (b : Nat) (A : Option Addr) (n c : Nat) (B : Option Addr) (m d : Nat) : Prop := Bx w b [.slice A n c, .slice B m d]

set_option maxHeartbeats 4000000 in
set_option maxRecDepth 100000 in
theorem concatP_any (b : Nat) (A B : Option Addr) (n c m d : Nat) (l l2 : List Pr) (w : World) (hb : TwoP w b A n c B m d) (h1 : In_ pairK w A n c l) (h2 : In_ pairK w B m d l2) (hs : (n + m) * 32 ≤ 140737488355328) :
    Calls Try.prog 59 #[.slice (some ⟨b, 0, none⟩) 2 2] w fun e w' => RetL pairK w (n + m) (l ++ l2) e w' := by
  obtain ⟨x0, _⟩ := hb 0 _ rfl
  obtain ⟨x1, _⟩ := hb 1 _ rfl
  have H1 := Lib.hid h1
  have H2 := Lib.hid h2
  have HS := Lib.hid hs
  have X0 := Lib.hid x0
  have X1 := Lib.hid x1
  have hn : n ≤ 9223372036854775807 := by have := h1.max; unfold maxLen at this; exact this
  have hm : m ≤ 9223372036854775807 := by have := h2.max; unfold maxLen at this; exact this
  have hnm : n + m ≤ 4611686018427387904 := by omega
  have hnm2 : (n : Int) + (m : Int) ≤ 4611686018427387904 := by omega
  clear h1 h2 hs hb x0 x1
  go_enter Try.func59, Try.ntmps59
  go_wp2
  go_loopw [3, 11] (fun s3 s11 wr => w = wr ∧ ((s3 = .int .i64 0 ∧ s11 = .int .i64 0) ∨ (s3 = .int .i64 (n : Int) ∧ s11 = .int .i64 1) ∨ (s3 = .int .i64 ((n + m : Nat) : Int) ∧ s11 = .int .i64 2))) (fun _ s11 _ => (2 - intOf s11).toNat)
  case atStart => exact ⟨rfl, .inl ⟨rfl, rfl⟩⟩
  case round =>
    obtain ⟨rfl, ⟨rfl, rfl⟩ | ⟨rfl, rfl⟩ | ⟨rfl, rfl⟩⟩ := hrel
    · have x0 := X0.out
      go_wp2
      go_roundw
      case rel => exact ⟨trivial, .inr (.inl ⟨by first | rfl | go_num, rfl⟩)⟩
      case measure => simp [intOf]
    · have x1 := X1.out
      go_wp2
      go_roundw
      case rel => exact ⟨trivial, .inr (.inr ⟨by first | rfl | go_num | (congr 1; omega), rfl⟩)⟩
      case measure => simp [intOf]
    · go_wp2_with fail
      refine (growP_any (n + m) _ HS.out).mono ?_
      rintro e w2 ⟨A2, c2, rfl, o2, q2⟩
      have O2 := Lib.hid o2
      have Q2 := Lib.hid q2
      clear o2 q2
      go_wp2
      go_loopw [6, 27] (fun s6 s27 wy => Q w wy ∧ ((∃ A3 c3, s6 = .slice A3 0 c3 ∧ OwnK pairK wy w.heap.size A3 0 c3 [] ∧ s27 = .int .i64 0) ∨ (∃ A3 c3, s6 = .slice A3 n c3 ∧ OwnK pairK wy w.heap.size A3 n c3 l ∧ s27 = .int .i64 1) ∨ (∃ A3 c3, s6 = .slice A3 (n + m) c3 ∧ OwnK pairK wy w.heap.size A3 (n + m) c3 (l ++ l2) ∧ s27 = .int .i64 2))) (fun _ s27 _ => (2 - intOf s27).toNat)
      case atStart => exact ⟨Q2.out, .inl ⟨A2, c2, rfl, O2.out, rfl⟩⟩
      case round =>
        obtain ⟨q, ⟨A3, c3, rfl, o3, rfl⟩ | ⟨A3, c3, rfl, o3, rfl⟩ | ⟨A3, c3, rfl, o3, rfl⟩⟩ := hrel
        · have QQ := Lib.hid q
          have O3 := Lib.hid o3
          have x0 := box_ q X0.out
          clear q o3
          go_wp2_with (at_builtin
                       refine wpl_appK pairK rfl (.tmp 31) (.tmp 32) 38 rfl rfl w.heap.size A3 0 c3 [] rfl O3.out A n c l rfl (H1.out.lst.q QQ.out) H1.out.nil (by have := HS.out; show (0 + n) * 32 ≤ _; omega) QQ.out.size ?_
                       intro A5 c5 w5 o5 b5
                       have S5 := Lib.hid (show Q w w5 ∧ OwnK pairK w5 w.heap.size A5 n c5 l from ⟨QQ.out.below.trans b5, by simpa using o5⟩)
                       clear o5 b5)
          go_roundw
          case rel => exact ⟨S5.out.1, .inr (.inl ⟨A5, c5, by simp, S5.out.2, rfl⟩)⟩
          case measure => simp [intOf]
        · have QQ := Lib.hid q
          have O3 := Lib.hid o3
          have x1 := box_ q X1.out
          clear q o3
          go_wp2_with (at_builtin
                       refine wpl_appK pairK rfl (.tmp 31) (.tmp 32) 38 rfl rfl w.heap.size A3 n c3 l rfl O3.out B m d l2 rfl (H2.out.lst.q QQ.out) H2.out.nil HS.out QQ.out.size ?_
                       intro A5 c5 w5 o5 b5
                       have S5 := Lib.hid (show Q w w5 ∧ OwnK pairK w5 w.heap.size A5 (n + m) c5 (l ++ l2) from ⟨QQ.out.below.trans b5, o5⟩)
                       clear o5 b5)
          go_roundw
          case rel => exact ⟨S5.out.1, .inr (.inr ⟨A5, c5, by simp, S5.out.2, rfl⟩)⟩
          case measure => simp [intOf]
        · go_wp2
          go_ret
          exact ⟨A3, c3, rfl, o3, q⟩
end Go.Proofs.Ytlbjobbmjccekaa

/- Contracts: batch.marked, Pairs; the document's Pairs. -/
namespace Go.Proofs.Ytlbjobbmjccekaa
set_option maxRecDepth 100000
open Go.RowKit Prm
set_option linter.unusedVariables false
set_option linter.unusedSimpArgs false

theorem box_b {B : Nat} {W w : World} (hb : Below B W w) {p : Addr} {v : Value} (h : W.cell? p = some v) (hp : p.block < B) : w.cell? p = some v := (hb.cell hp).trans h
theorem Bm.marked_snoc (m : UInt8) (l : List Pr) {k : Nat} (hk : k < l.length) : Bm.marked m (l.take (k + 1)) = Bm.marked m (l.take k) ++ [Bm.mk1 m l[k]] := by
  unfold Bm.marked; rw [List.take_succ_eq_append_getElem hk, List.map_append]; rfl
/-- keys that may have a mark ahead. -/
def KeysLow (l : List Pr) : Prop := ∀ p ∈ l, p.key.size ≤ 4611686018427387904
theorem OwnK.below_q {α : Type} {K : Kind α} {w w' : World} {base n c : Nat} {A : Option Addr} {l : List α} (h : OwnK K w base A n c l) (q : Q w w') : OwnK K w' base A n c l := h.q q

set_option maxHeartbeats 1000000 in
theorem marked_any (mb : UInt8) (A : Option Addr) (n c : Nat) (l : List Pr) (w : World) (hf : Lst pairK w A n l) (hb : n * 32 ≤ 140737488355328) (hks : KeysLow l) :
    Calls Try.prog 60 #[.string ⟨#[mb]⟩, .slice A n c] w (RetL pairK w n (Bm.marked mb l)) := by
  have HF := Lib.hid hf
  have HL := Lib.hid hf.len
  have HK := Lib.hid hks
  have hlit : (⟨#[mb]⟩ : ByteArray).size = 1 := rfl
  clear hf hks
  go_enter Try.func60, Try.ntmps60
  go_wp2
  go_loopw [5, 10] (fun s3 i wr => ∃ (k : Nat) (B : Option Addr) (d : Nat), k ≤ n ∧ i = .int .i64 k ∧ s3 = .slice B k d ∧ OwnK pairK wr w.heap.size B k d (Bm.marked mb (l.take k)) ∧ Q w wr) (fun _ i _ => n - (intOf i).toNat)
  case atStart => exact ⟨0, none, 0, Nat.zero_le _, rfl, rfl, OwnK.nil_ _ _ _, Q.refl _⟩
  case round =>
    obtain ⟨k, B, d, hk, rfl, rfl, o1, q1⟩ := hrel
    have HO := Lib.hid o1
    have HQ := Lib.hid q1
    clear o1 q1
    by_cases hlt : k < n
    · have hkl : k < l.length := by have := HL.out; omega
      have HN := Lib.hid (Bm.marked_snoc mb l hkl)
      have hky := HK.out l[k] (List.getElem_mem hkl)
      obtain ⟨ad, rfl, hab, x0, x1⟩ := load_pair (HF.out.q HQ.out) hlt hkl
      generalize l[k] = x at x0 x1 HN hky
      generalize Bm.marked mb (l.take k) = ks at HO HN
      have hc1 : ¬(9223372036854775807 < 1 + x.key.size) := by omega
      have HE := Lib.hid (show (⟨#[mb]⟩ : ByteArray) ++ x.key = (Bm.mk1 mb x).key from app_list [mb] x.key)
      go_wp2_with (at_builtin
                   refine wpl_appK pairK rfl (.tmp 14) (.tmp 22) 38 rfl rfl w.heap.size B k d ks rfl ((HO.out.alloc _).alloc _) (some ⟨wr.heap.size + 1, 0, none⟩) 1 1 [Bm.mk1 mb x] rfl (by have := lit_pair (wr.alloc (.cells #[.string x.key, .string x.val] 99)) (Bm.mk1 mb x); rw [← HE.out] at this; simpa [Bm.mk1] using this) (fun e => by cases e) (by show (k + 1) * 32 ≤ _; omega) (by have := HQ.out.size; simp; omega) ?_
                   intro A5 c5 w5 o5 b5
                   have O5 := Lib.hid o5
                   have Q5 := Lib.hid (show Q w w5 from ((HQ.out.alloc _).alloc _).below.trans b5)
                   clear o5 b5)
      go_roundw
      case rel => exact ⟨k + 1, A5, c5, by omega, by go_num, rfl, by rw [HN.out]; exact O5.out, Q5.out⟩
      case measure => simp [intOf]; omega
    · have hkn : k = n := by omega
      subst hkn
      have HR := Lib.hid (show Bm.marked mb (l.take k) = Bm.marked mb l by rw [List.take_of_length_le (by have := HL.out; omega)])
      go_wp2
      go_ret
      exact ⟨B, d, rfl, by rw [← HR.out]; exact HO.out, HQ.out⟩

set_option maxHeartbeats 2000000 in
theorem bpairs_any (A B : Option Addr) (n c m d : Nat) (s : Bm.Sta) (w : World) (hA : Lst pairK w A n s.data) (hB : Lst pairK w B m s.toks) (hb : (n + m) * 32 ≤ 140737488355328) (hk1 : KeysLow s.data) (hk2 : KeysLow s.toks) :
    Calls Try.prog 26 #[staV A n c B m d] w (RetL pairK w (n + m) (Bm.pairs s)) := by
  obtain ⟨l, t⟩ := s
  simp only at hA hB hk1 hk2
  have KA := Lib.hid (fun W q => marked_any 100 A n c l W (hA.q q) (by omega) hk1)
  have KB := Lib.hid (fun W q => marked_any 116 B m d t W (hB.q q) (by omega) hk2)
  have hn1 : n * 32 ≤ 140737488355328 := by omega
  have hm1 : m * 32 ≤ 140737488355328 := by omega
  clear hA hB hk1 hk2
  go_enter Try.func26, Try.ntmps26
  go_upto_region 1 with (fail)
  have X : Hid (Bx (w.alloc (.cells #[.slice A n c, .slice B m d] 40)) w.heap.size [.slice A n c, .slice B m d] ∧ Q w (w.alloc (.cells #[.slice A n c, .slice B m d] 40)) ∧ w.heap.size + 1 ≤ (w.alloc (.cells #[.slice A n c, .slice B m d] 40)).heap.size) :=
    Lib.hid ⟨Bx.new w [.slice A n c, .slice B m d] 40, (Q.refl w).alloc _, by simp⟩
  generalize w.alloc (.cells #[.slice A n c, .slice B m d] 40) = w2 at X ⊢
  obtain ⟨⟨c0, c1⟩, _⟩ := X.out.1.get2
  go_wp2
  go_region_held3 (fun w' => w'.cell? ⟨w.heap.size, 0, none⟩ = some (.slice A n c) ∧ w'.cell? ⟨w.heap.size, 1, none⟩ = some (.slice B m d))
    (first
      | go_keep
      | (go_split_ands
         (repeat' apply And.intro) <;> exact box_ ‹Q _ _› (by assumption)))
    (first
      | (go_at_call 60
         (with_reducible refine (KA.out _ X.out.2.1.drew).mono ?_)
         rintro e w3 ⟨A3, c3, rfl, o3, y3⟩)
      | (go_at_call 60
         (with_reducible refine (KB.out _ (X.out.2.1.drew.trans y3)).mono ?_)
         rintro e w4 ⟨A4, c4, rfl, o4, y4⟩
         have y5 : Q w4 (w4.alloc (.cells #[.slice A3 n c3, .slice A4 m c4] 38)) := (Q.refl _).alloc _)
      | (go_at_call 59
         refine (concatP_any w4.heap.size A3 A4 n c3 m c4 _ _ _ (Bx.new w4 [.slice A3 n c3, .slice A4 m c4] 38) (((o3.q y4).alloc _).in_ hn1) ((o4.alloc _).in_ hm1) hb).mono ?_
         rintro e w6 ⟨A6, c6, rfl, o6, y6⟩))
  have HO := Lib.hid o6
  have HY := Lib.hid ((((X.out.2.1.drew.trans y3).trans y4).trans y5).trans y6)
  have HS := Lib.hid (show w.heap.size ≤ w4.heap.size from ((X.out.2.1.drew.trans y3).trans y4).size)
  clear o3 o4 o6 y3 y4 y5 y6
  go_wp2
  go_ret
  exact ⟨A6, c6, rfl, HO.out.lower (by have := HS.out; simp; omega), HY.out⟩

set_option maxHeartbeats 8000000 in
set_option maxRecDepth 100000 in
theorem refPairs_any (A B : Option Addr) (n c m d : Nat) (s : Bm.Sta) (w : World) (hA : Lst pairK w A n s.data) (hB : Lst pairK w B m s.toks) (hb : (n + m) * 32 ≤ 140737488355328) (hk1 : KeysLow s.data) (hk2 : KeysLow s.toks) :
    Calls Try.prog 27 #[staV A n c B m d] w (RetL pairK w (n + m) (Bm.pairs s)) := by
  obtain ⟨l, t⟩ := s
  simp only at hA hB hk1 hk2
  have HA := Lib.hid hA
  have HB := Lib.hid hB
  have HL := Lib.hid hA.len
  have HT := Lib.hid hB.len
  have HK1 := Lib.hid hk1
  have HK2 := Lib.hid hk2
  have hn0 : n ≤ 9223372036854775807 := by omega
  have hm0 : m ≤ 9223372036854775807 := by omega
  clear hA hB hk1 hk2
  go_enter Try.func27, Try.ntmps27
  have X := Lib.hid (Bx.new w [.slice A n c, .slice B m d] 40)
  go_wp2
  go_loopw [3, 4] (fun s3 i wr => ∃ (k : Nat) (P : Option Addr) (pc : Nat), k ≤ n ∧ i = .int .i64 k ∧ s3 = .slice P k pc ∧ OwnK pairK wr (w.heap.size + 1) P k pc (Bm.marked 100 (l.take k)) ∧ Q (w.alloc (.cells #[.slice A n c, .slice B m d] 40)) wr) (fun _ i _ => n - (intOf i).toNat)
  case atStart => exact ⟨0, none, 0, Nat.zero_le _, rfl, rfl, OwnK.nil_ _ _ _, Q.refl _⟩
  case round =>
    obtain ⟨k, P, pc, hk, rfl, rfl, o1, q1⟩ := hrel
    have HO := Lib.hid o1
    have HQ := Lib.hid q1
    have HQ0 := Lib.hid (((Q.refl w).alloc _).trans q1)
    have hsz : w.heap.size < wr.heap.size := by have := q1.size; simp at this; omega
    obtain ⟨⟨x0, x1⟩, _⟩ := (X.out.q q1).get2
    clear o1 q1
    by_cases hlt : k < n
    · have hkl : k < l.length := by have := HL.out; omega
      have HN := Lib.hid (Bm.marked_snoc 100 l hkl)
      have hky := HK1.out l[k] (List.getElem_mem hkl)
      have hkn : (k : Int) < (n : Int) := by omega
      have hk0 : (0 : Int) ≤ (k : Int) := by omega
      obtain ⟨ad, rfl, hab0, y0, y1⟩ := load_pair HA.out hlt hkl
      have y0 := box_ HQ0.out y0
      have y1 := box_ HQ0.out y1
      generalize l[k] = x at y0 y1 HN hky
      generalize Bm.marked 100 (l.take k) = ks at HO HN
      have hc1 : ¬(9223372036854775807 < 1 + x.key.size) := by omega
      have hlit : (⟨#[100]⟩ : ByteArray).size = 1 := rfl
      have hE : (⟨#[100]⟩ : ByteArray) ++ x.key = ⟨([100] ++ x.key.data.toList).toArray⟩ := app_list [100] x.key
      go_wp2
      refine wp_region_held_drew (S := Below (w.heap.size + 1) wr) (by kernel_rfl) ?szz0 (fun hHeld => ?rzz0)
      case szz0 =>
        exact (Below.refl _ _).drew
      case' rzz0 => skip
      refine wpAnyH_take (i := 0) (oi := ?ozz1) (v := ?vzz1) ?hzz1 ?azz1 ?bzz1 ?czz1 ?qzz1 ?yzz1 ?szz1 ?rzz1
      case hzz1 => simp only [List.getElem?_toArray, List.getElem?_cons_zero]; rfl
      case azz1 => kernel_rfl
      case bzz1 => kernel_rfl
      case czz1 => kernel_rfl
      case yzz1 =>
        refine Or.inl ⟨by rfl, ?_⟩
        intro w hSw
        have s0 := box_b hSw x0 (by simp only; omega)
        have s1 := box_b hSw y0 (by rw [addr_block]; omega)
        have s2 := box_b hSw y1 (by simp only [addr_block]; omega)
        go_simp
        try with_reducible rfl
      case qzz1 => exact fun _ _ _ h => h
      case szz1 => first | assumption | trivial
      case' rzz1 => simp only [Act.put, List.setIfInBounds_toArray, List.set_cons_zero, List.set_cons_succ]
      refine wpAnyH_take (i := 1) (oi := ?ozz2) (v := ?vzz2) ?hzz2 ?azz2 ?bzz2 ?czz2 ?qzz2 ?yzz2 ?szz2 ?rzz2
      case hzz2 => simp only [List.getElem?_toArray, List.getElem?_cons_zero, List.getElem?_cons_succ]; rfl
      case azz2 => kernel_rfl
      case bzz2 => kernel_rfl
      case czz2 => kernel_rfl
      case yzz2 =>
        refine Or.inl ⟨by rfl, ?_⟩
        intro w hSw
        have s0 := box_b hSw x0 (by simp only; omega)
        have s1 := box_b hSw y0 (by rw [addr_block]; omega)
        have s2 := box_b hSw y1 (by simp only [addr_block]; omega)
        go_simp
        try with_reducible rfl
      case qzz2 => exact fun _ _ _ h => h
      case szz2 => first | assumption | trivial
      case' rzz2 => simp only [Act.put, List.setIfInBounds_toArray, List.set_cons_zero, List.set_cons_succ]
      refine wpAnyH_take (i := 2) (oi := ?ozz3) (v := ?vzz3) ?hzz3 ?azz3 ?bzz3 ?czz3 ?qzz3 ?yzz3 ?szz3 ?rzz3
      case hzz3 => simp only [List.getElem?_toArray, List.getElem?_cons_zero, List.getElem?_cons_succ]; rfl
      case azz3 => kernel_rfl
      case bzz3 => kernel_rfl
      case czz3 => kernel_rfl
      case yzz3 =>
        refine Or.inl ⟨by rfl, ?_⟩
        intro w hSw
        have s0 := box_b hSw x0 (by simp only; omega)
        have s1 := box_b hSw y0 (by rw [addr_block]; omega)
        have s2 := box_b hSw y1 (by simp only [addr_block]; omega)
        go_simp
        try with_reducible rfl
      case qzz3 => exact fun _ _ _ h => h
      case szz3 => first | assumption | trivial
      case' rzz3 => simp only [Act.put, List.setIfInBounds_toArray, List.set_cons_zero, List.set_cons_succ]
      refine wpAnyH_take (i := 3) (oi := ?ozz4) (v := ?vzz4) ?hzz4 ?azz4 ?bzz4 ?czz4 ?qzz4 ?yzz4 ?szz4 ?rzz4
      case hzz4 => simp only [List.getElem?_toArray, List.getElem?_cons_zero, List.getElem?_cons_succ]; rfl
      case azz4 => kernel_rfl
      case bzz4 => kernel_rfl
      case czz4 => kernel_rfl
      case yzz4 =>
        refine Or.inl ⟨by rfl, ?_⟩
        intro w hSw
        have s0 := box_b hSw x0 (by simp only; omega)
        have s1 := box_b hSw y0 (by rw [addr_block]; omega)
        have s2 := box_b hSw y1 (by simp only [addr_block]; omega)
        go_simp
        try with_reducible rfl
      case qzz4 => exact fun _ _ _ h => h
      case szz4 => first | assumption | trivial
      case' rzz4 => simp only [Act.put, List.setIfInBounds_toArray, List.set_cons_zero, List.set_cons_succ]
      refine wpAnyH_take (i := 4) (oi := ?ozz5) (v := ?vzz5) ?hzz5 ?azz5 ?bzz5 ?czz5 ?qzz5 ?yzz5 ?szz5 ?rzz5
      case hzz5 => simp only [List.getElem?_toArray, List.getElem?_cons_zero, List.getElem?_cons_succ]; rfl
      case azz5 => kernel_rfl
      case bzz5 => kernel_rfl
      case czz5 => kernel_rfl
      case yzz5 =>
        refine Or.inl ⟨by rfl, ?_⟩
        intro w hSw
        have s0 := box_b hSw x0 (by simp only; omega)
        have s1 := box_b hSw y0 (by rw [addr_block]; omega)
        have s2 := box_b hSw y1 (by simp only [addr_block]; omega)
        go_simp
        try with_reducible rfl
      case qzz5 => exact fun _ _ _ h => h
      case szz5 => first | assumption | trivial
      case' rzz5 => simp only [Act.put, List.setIfInBounds_toArray, List.set_cons_zero, List.set_cons_succ]
      refine wpAnyH_take (i := 5) (oi := ?ozz6) (v := ?vzz6) ?hzz6 ?azz6 ?bzz6 ?czz6 ?qzz6 ?yzz6 ?szz6 ?rzz6
      case hzz6 => simp only [List.getElem?_toArray, List.getElem?_cons_zero, List.getElem?_cons_succ]; rfl
      case azz6 => kernel_rfl
      case bzz6 => kernel_rfl
      case czz6 => kernel_rfl
      case yzz6 =>
        refine Or.inl ⟨by rfl, ?_⟩
        intro w hSw
        have s0 := box_b hSw x0 (by simp only; omega)
        have s1 := box_b hSw y0 (by rw [addr_block]; omega)
        have s2 := box_b hSw y1 (by simp only [addr_block]; omega)
        go_simp
        try with_reducible rfl
      case qzz6 => exact fun _ _ _ h => h
      case szz6 => first | assumption | trivial
      case' rzz6 => simp only [Act.put, List.setIfInBounds_toArray, List.set_cons_zero, List.set_cons_succ]
      refine wpAnyH_take (i := 6) (oi := ?ozz7) (v := ?vzz7) ?hzz7 ?azz7 ?bzz7 ?czz7 ?qzz7 ?yzz7 ?szz7 ?rzz7
      case hzz7 => simp only [List.getElem?_toArray, List.getElem?_cons_zero, List.getElem?_cons_succ]; rfl
      case azz7 => kernel_rfl
      case bzz7 => kernel_rfl
      case czz7 => kernel_rfl
      case yzz7 =>
        refine Or.inl ⟨by rfl, ?_⟩
        intro w hSw
        have s0 := box_b hSw x0 (by simp only; omega)
        have s1 := box_b hSw y0 (by rw [addr_block]; omega)
        have s2 := box_b hSw y1 (by simp only [addr_block]; omega)
        go_simp
        try with_reducible rfl
      case qzz7 => exact fun _ _ _ h => h
      case szz7 => first | assumption | trivial
      case' rzz7 => simp only [Act.put, List.setIfInBounds_toArray, List.set_cons_zero, List.set_cons_succ]
      refine wpAnyH_take (i := 7) (oi := ?ozz8) (v := ?vzz8) ?hzz8 ?azz8 ?bzz8 ?czz8 ?qzz8 ?yzz8 ?szz8 ?rzz8
      case hzz8 => simp only [List.getElem?_toArray, List.getElem?_cons_zero, List.getElem?_cons_succ]; rfl
      case azz8 => kernel_rfl
      case bzz8 => kernel_rfl
      case czz8 => kernel_rfl
      case yzz8 =>
        refine Or.inl ⟨by rfl, ?_⟩
        intro w hSw
        have s0 := box_b hSw x0 (by simp only; omega)
        have s1 := box_b hSw y0 (by rw [addr_block]; omega)
        have s2 := box_b hSw y1 (by simp only [addr_block]; omega)
        go_simp
        try with_reducible rfl
      case qzz8 => exact fun _ _ _ h => h
      case szz8 => first | assumption | trivial
      case' rzz8 => simp only [Act.put, List.setIfInBounds_toArray, List.set_cons_zero, List.set_cons_succ]
      refine wpAnyH_take (i := 8) (oi := ?ozz9) (v := ?vzz9) ?hzz9 ?azz9 ?bzz9 ?czz9 ?qzz9 ?yzz9 ?szz9 ?rzz9
      case hzz9 => simp only [List.getElem?_toArray, List.getElem?_cons_zero, List.getElem?_cons_succ]; rfl
      case azz9 => kernel_rfl
      case bzz9 => kernel_rfl
      case czz9 => kernel_rfl
      case yzz9 =>
        refine Or.inl ⟨by rfl, ?_⟩
        intro w hSw
        have s0 := box_b hSw x0 (by simp only; omega)
        have s1 := box_b hSw y0 (by rw [addr_block]; omega)
        have s2 := box_b hSw y1 (by simp only [addr_block]; omega)
        go_simp
        try with_reducible rfl
      case qzz9 => exact fun _ _ _ h => h
      case szz9 => first | assumption | trivial
      case' rzz9 => simp only [Act.put, List.setIfInBounds_toArray, List.set_cons_zero, List.set_cons_succ]
      refine wpAnyH_take (i := 9) (oi := ?ozz10) (v := ?vzz10) ?hzz10 ?azz10 ?bzz10 ?czz10 ?qzz10 ?yzz10 ?szz10 ?rzz10
      case hzz10 => simp only [List.getElem?_toArray, List.getElem?_cons_zero, List.getElem?_cons_succ]; rfl
      case azz10 => kernel_rfl
      case bzz10 => kernel_rfl
      case czz10 => kernel_rfl
      case yzz10 =>
        refine Or.inl ⟨by rfl, ?_⟩
        intro w hSw
        have s0 := box_b hSw x0 (by simp only; omega)
        have s1 := box_b hSw y0 (by rw [addr_block]; omega)
        have s2 := box_b hSw y1 (by simp only [addr_block]; omega)
        go_simp
        try with_reducible rfl
      case qzz10 => exact fun _ _ _ h => h
      case szz10 => first | assumption | trivial
      case' rzz10 => simp only [Act.put, List.setIfInBounds_toArray, List.set_cons_zero, List.set_cons_succ]
      refine wpAnyH_take (i := 10) (oi := ?ozz11) (v := ?vzz11) ?hzz11 ?azz11 ?bzz11 ?czz11 ?qzz11 ?yzz11 ?szz11 ?rzz11
      case hzz11 => simp only [List.getElem?_toArray, List.getElem?_cons_zero, List.getElem?_cons_succ]; rfl
      case azz11 => kernel_rfl
      case bzz11 => kernel_rfl
      case czz11 => kernel_rfl
      case yzz11 =>
        refine Or.inl ⟨by rfl, ?_⟩
        intro w hSw
        have s0 := box_b hSw x0 (by simp only; omega)
        have s1 := box_b hSw y0 (by rw [addr_block]; omega)
        have s2 := box_b hSw y1 (by simp only [addr_block]; omega)
        go_simp
        try with_reducible rfl
      case qzz11 => exact fun _ _ _ h => h
      case szz11 => first | assumption | trivial
      case' rzz11 => simp only [Act.put, List.setIfInBounds_toArray, List.set_cons_zero, List.set_cons_succ]
      refine wpAnyH_take (i := 11) (oi := ?ozz12) (v := ?vzz12) ?hzz12 ?azz12 ?bzz12 ?czz12 ?qzz12 ?yzz12 ?szz12 ?rzz12
      case hzz12 => simp only [List.getElem?_toArray, List.getElem?_cons_zero, List.getElem?_cons_succ]; rfl
      case azz12 => kernel_rfl
      case bzz12 => kernel_rfl
      case czz12 => kernel_rfl
      case yzz12 =>
        refine Or.inl ⟨by rfl, ?_⟩
        intro w hSw
        have s0 := box_b hSw x0 (by simp only; omega)
        have s1 := box_b hSw y0 (by rw [addr_block]; omega)
        have s2 := box_b hSw y1 (by simp only [addr_block]; omega)
        go_simp
        try with_reducible rfl
      case qzz12 => exact fun _ _ _ h => h
      case szz12 => first | assumption | trivial
      case' rzz12 => simp only [Act.put, List.setIfInBounds_toArray, List.set_cons_zero, List.set_cons_succ]
      refine wpAnyH_take (i := 12) (oi := ?ozz13) (v := ?vzz13) ?hzz13 ?azz13 ?bzz13 ?czz13 ?qzz13 ?yzz13 ?szz13 ?rzz13
      case hzz13 => simp only [List.getElem?_toArray, List.getElem?_cons_zero, List.getElem?_cons_succ]; rfl
      case azz13 => kernel_rfl
      case bzz13 => kernel_rfl
      case czz13 => kernel_rfl
      case yzz13 =>
        refine Or.inl ⟨by rfl, ?_⟩
        intro w hSw
        have s0 := box_b hSw x0 (by simp only; omega)
        have s1 := box_b hSw y0 (by rw [addr_block]; omega)
        have s2 := box_b hSw y1 (by simp only [addr_block]; omega)
        go_simp
        try with_reducible rfl
      case qzz13 => exact fun _ _ _ h => h
      case szz13 => first | assumption | trivial
      case' rzz13 => simp only [Act.put, List.setIfInBounds_toArray, List.set_cons_zero, List.set_cons_succ]
      refine wpAnyH_take (i := 13) (oi := ?ozz14) (v := ?vzz14) ?hzz14 ?azz14 ?bzz14 ?czz14 ?qzz14 ?yzz14 ?szz14 ?rzz14
      case hzz14 => simp only [List.getElem?_toArray, List.getElem?_cons_zero, List.getElem?_cons_succ]; rfl
      case azz14 => kernel_rfl
      case bzz14 => kernel_rfl
      case czz14 => kernel_rfl
      case yzz14 =>
        refine Or.inl ⟨by rfl, ?_⟩
        intro w hSw
        have s0 := box_b hSw x0 (by simp only; omega)
        have s1 := box_b hSw y0 (by rw [addr_block]; omega)
        have s2 := box_b hSw y1 (by simp only [addr_block]; omega)
        go_simp
        try with_reducible rfl
      case qzz14 => exact fun _ _ _ h => h
      case szz14 => first | assumption | trivial
      case' rzz14 => simp only [Act.put, List.setIfInBounds_toArray, List.set_cons_zero, List.set_cons_succ]
      refine wpAnyH_take (i := 14) (oi := ?ozz15) (v := ?vzz15) ?hzz15 ?azz15 ?bzz15 ?czz15 ?qzz15 ?yzz15 ?szz15 ?rzz15
      case hzz15 => simp only [List.getElem?_toArray, List.getElem?_cons_zero, List.getElem?_cons_succ]; rfl
      case azz15 => kernel_rfl
      case bzz15 => kernel_rfl
      case czz15 => kernel_rfl
      case yzz15 =>
        refine Or.inl ⟨by rfl, ?_⟩
        intro w hSw
        have s0 := box_b hSw x0 (by simp only; omega)
        have s1 := box_b hSw y0 (by rw [addr_block]; omega)
        have s2 := box_b hSw y1 (by simp only [addr_block]; omega)
        go_simp
        try with_reducible rfl
      case qzz15 => exact fun _ _ _ h => h
      case szz15 => first | assumption | trivial
      case' rzz15 => simp only [Act.put, List.setIfInBounds_toArray, List.set_cons_zero, List.set_cons_succ]
      refine wpAnyH_ready (rs := [15]) (by kernel_rfl) (by simp) ?_
      refine AllReadyH.cons (o := ?ozz18) ?hzz18 (fun K hK => ?kzz18) ?mzz18
      case hzz18 => simp only [List.getElem?_toArray, List.getElem?_cons_zero, List.getElem?_cons_succ]; rfl
      case kzz18 =>
        go_simp
        refine hK.out _ _ ?Szz18 (fun hHeld => ?Rzz18)
        case Szz18 =>
          exact ((Below.refl _ _).drew).alloc (by simp only [World.size_drew]; omega) _
        case Rzz18 =>
          clear hK K
          try simp only [Act.put, List.setIfInBounds_toArray, List.set_cons_zero, List.set_cons_succ]
          refine wpAnyH_ready (rs := [16]) (by kernel_rfl) (by simp) ?_
          refine AllReadyH.cons (o := ?ozz17) ?hzz17 (fun K hK => ?kzz17) ?mzz17
          case hzz17 => simp only [List.getElem?_toArray, List.getElem?_cons_zero, List.getElem?_cons_succ]; rfl
          case kzz17 =>
            refine step_appKD pairK (by rfl) _ _ _ rfl (by rfl) (w.heap.size + 1) P k pc (ks) (by rfl) ((HO.out.drew).alloc _) (some ⟨wr.heap.size, 0, none⟩) 1 1 [Bm.mk1 100 x] (by rfl) (by have := (lit_pair wr (Bm.mk1 100 x)).q (Q.refl _).drew; simpa [Bm.mk1] using this) (fun e => by cases e) (by show (k + 1) * 32 ≤ _; omega) (by have := HQ.out.size; simp at this ⊢; omega) ?_
            intro A6 c6 w6 o6 b6
            refine hK.out _ _ ?Szz17 (fun hHeld => ?Rzz17)
            case Szz17 =>
              first | exact (((Below.refl _ _).drew).alloc (by simp only [World.size_drew]; omega) _).trans b6 | exact (((Below.refl _ _).alloc (by omega) _).drew).trans b6
            case Rzz17 =>
              clear hK K
              try simp only [Act.put, List.setIfInBounds_toArray, List.set_cons_zero, List.set_cons_succ]
              refine wpAnyH_take (i := 17) (oi := ?ozz16) (v := ?vzz16) ?hzz16 ?azz16 ?bzz16 ?czz16 ?qzz16 ?yzz16 ?szz16 ?rzz16
              case hzz16 => simp only [List.getElem?_toArray, List.getElem?_cons_zero, List.getElem?_cons_succ]; rfl
              case azz16 => kernel_rfl
              case bzz16 => kernel_rfl
              case czz16 => kernel_rfl
              case yzz16 =>
                refine Or.inl ⟨by rfl, ?_⟩
                intro w hSw
                have s0 := box_b hSw x0 (by simp only; omega)
                have s1 := box_b hSw y0 (by rw [addr_block]; omega)
                have s2 := box_b hSw y1 (by simp only [addr_block]; omega)
                go_simp
                try with_reducible rfl
              case qzz16 => exact fun _ _ _ h => h
              case szz16 => first | assumption | trivial
              case' rzz16 => simp only [Act.put, List.setIfInBounds_toArray, List.set_cons_zero, List.set_cons_succ]
              refine wpAnyH_done (by kernel_rfl) ?_ _
              have O6 := Lib.hid o6
              have B6 := Lib.hid ((((Below.refl (w.heap.size + 1) wr).alloc (by omega) (.cells #[.string ⟨([100] ++ x.key.data.toList).toArray⟩, .string x.val] 99)).drew).trans b6)
              clear o6 b6
              go_wp2
              go_roundw
              case rel => exact ⟨k + 1, A6, c6, by omega, by go_num, rfl, by rw [HN.out]; exact O6.out, HQ.out.below.trans (by have := B6.out; simpa using this)⟩
              case measure => simp [intOf]; omega
          case' mzz17 => skip
          exact AllReadyH.nil
      case' mzz18 => skip
      exact AllReadyH.nil
    · have hkn : n = k := by omega
      subst hkn
      have HR := Lib.hid (show Bm.marked 100 (l.take n) = Bm.marked 100 l by rw [List.take_of_length_le (by have := HL.out; omega)])
      rw [HR.out] at HO
      have HO2 := Lib.hid HO.out
      clear HO HR
      go_wp2
      go_loopw [3, 5] (fun s3 i wr => ∃ (k : Nat) (P : Option Addr) (pc : Nat), k ≤ m ∧ i = .int .i64 k ∧ s3 = .slice P (n + k) pc ∧ OwnK pairK wr (w.heap.size + 1) P (n + k) pc (Bm.marked 100 l ++ Bm.marked 116 (t.take k)) ∧ Q (w.alloc (.cells #[.slice A n c, .slice B m d] 40)) wr) (fun _ i _ => m - (intOf i).toNat)
      case atStart => exact ⟨0, P, pc, Nat.zero_le _, rfl, rfl, by simpa [Bm.marked] using HO2.out, HQ.out⟩
      case round =>
        obtain ⟨k, P, pc, hk, rfl, rfl, o1, q1⟩ := hrel
        have HO := Lib.hid o1
        have HQ := Lib.hid q1
        have HQ0 := Lib.hid (((Q.refl w).alloc _).trans q1)
        have hsz : w.heap.size < wr.heap.size := by have := q1.size; simp at this; omega
        obtain ⟨⟨x0, x1⟩, _⟩ := (X.out.q q1).get2
        clear o1 q1 HO2
        by_cases hlt : k < m
        · have hkl : k < t.length := by have := HT.out; omega
          have HN := Lib.hid (Bm.marked_snoc 116 t hkl)
          have hky := HK2.out t[k] (List.getElem_mem hkl)
          have hkn : (k : Int) < (m : Int) := by omega
          have hk0 : (0 : Int) ≤ (k : Int) := by omega
          obtain ⟨ad, rfl, hab0, y0, y1⟩ := load_pair HB.out hlt hkl
          have y0 := box_ HQ0.out y0
          have y1 := box_ HQ0.out y1
          generalize t[k] = x at y0 y1 HN hky
          generalize Bm.marked 116 (t.take k) = ks at HO HN
          have hc1 : ¬(9223372036854775807 < 1 + x.key.size) := by omega
          have hlit : (⟨#[116]⟩ : ByteArray).size = 1 := rfl
          have hE : (⟨#[116]⟩ : ByteArray) ++ x.key = ⟨([116] ++ x.key.data.toList).toArray⟩ := app_list [116] x.key
          go_wp2
          refine wp_region_held_drew (S := Below (w.heap.size + 1) wr) (by kernel_rfl) ?szz19 (fun hHeld => ?rzz19)
          case szz19 =>
            exact (Below.refl _ _).drew
          case' rzz19 => skip
          refine wpAnyH_take (i := 0) (oi := ?ozz20) (v := ?vzz20) ?hzz20 ?azz20 ?bzz20 ?czz20 ?qzz20 ?yzz20 ?szz20 ?rzz20
          case hzz20 => simp only [List.getElem?_toArray, List.getElem?_cons_zero]; rfl
          case azz20 => kernel_rfl
          case bzz20 => kernel_rfl
          case czz20 => kernel_rfl
          case yzz20 =>
            refine Or.inl ⟨by rfl, ?_⟩
            intro w hSw
            have s0 := box_b hSw x1 (by simp only; omega)
            have s1 := box_b hSw y0 (by rw [addr_block]; omega)
            have s2 := box_b hSw y1 (by simp only [addr_block]; omega)
            go_simp
            try with_reducible rfl
          case qzz20 => exact fun _ _ _ h => h
          case szz20 => first | assumption | trivial
          case' rzz20 => simp only [Act.put, List.setIfInBounds_toArray, List.set_cons_zero, List.set_cons_succ]
          refine wpAnyH_take (i := 1) (oi := ?ozz21) (v := ?vzz21) ?hzz21 ?azz21 ?bzz21 ?czz21 ?qzz21 ?yzz21 ?szz21 ?rzz21
          case hzz21 => simp only [List.getElem?_toArray, List.getElem?_cons_zero, List.getElem?_cons_succ]; rfl
          case azz21 => kernel_rfl
          case bzz21 => kernel_rfl
          case czz21 => kernel_rfl
          case yzz21 =>
            refine Or.inl ⟨by rfl, ?_⟩
            intro w hSw
            have s0 := box_b hSw x1 (by simp only; omega)
            have s1 := box_b hSw y0 (by rw [addr_block]; omega)
            have s2 := box_b hSw y1 (by simp only [addr_block]; omega)
            go_simp
            try with_reducible rfl
          case qzz21 => exact fun _ _ _ h => h
          case szz21 => first | assumption | trivial
          case' rzz21 => simp only [Act.put, List.setIfInBounds_toArray, List.set_cons_zero, List.set_cons_succ]
          refine wpAnyH_take (i := 2) (oi := ?ozz22) (v := ?vzz22) ?hzz22 ?azz22 ?bzz22 ?czz22 ?qzz22 ?yzz22 ?szz22 ?rzz22
          case hzz22 => simp only [List.getElem?_toArray, List.getElem?_cons_zero, List.getElem?_cons_succ]; rfl
          case azz22 => kernel_rfl
          case bzz22 => kernel_rfl
          case czz22 => kernel_rfl
          case yzz22 =>
            refine Or.inl ⟨by rfl, ?_⟩
            intro w hSw
            have s0 := box_b hSw x1 (by simp only; omega)
            have s1 := box_b hSw y0 (by rw [addr_block]; omega)
            have s2 := box_b hSw y1 (by simp only [addr_block]; omega)
            go_simp
            try with_reducible rfl
          case qzz22 => exact fun _ _ _ h => h
          case szz22 => first | assumption | trivial
          case' rzz22 => simp only [Act.put, List.setIfInBounds_toArray, List.set_cons_zero, List.set_cons_succ]
          refine wpAnyH_take (i := 3) (oi := ?ozz23) (v := ?vzz23) ?hzz23 ?azz23 ?bzz23 ?czz23 ?qzz23 ?yzz23 ?szz23 ?rzz23
          case hzz23 => simp only [List.getElem?_toArray, List.getElem?_cons_zero, List.getElem?_cons_succ]; rfl
          case azz23 => kernel_rfl
          case bzz23 => kernel_rfl
          case czz23 => kernel_rfl
          case yzz23 =>
            refine Or.inl ⟨by rfl, ?_⟩
            intro w hSw
            have s0 := box_b hSw x1 (by simp only; omega)
            have s1 := box_b hSw y0 (by rw [addr_block]; omega)
            have s2 := box_b hSw y1 (by simp only [addr_block]; omega)
            go_simp
            try with_reducible rfl
          case qzz23 => exact fun _ _ _ h => h
          case szz23 => first | assumption | trivial
          case' rzz23 => simp only [Act.put, List.setIfInBounds_toArray, List.set_cons_zero, List.set_cons_succ]
          refine wpAnyH_take (i := 4) (oi := ?ozz24) (v := ?vzz24) ?hzz24 ?azz24 ?bzz24 ?czz24 ?qzz24 ?yzz24 ?szz24 ?rzz24
          case hzz24 => simp only [List.getElem?_toArray, List.getElem?_cons_zero, List.getElem?_cons_succ]; rfl
          case azz24 => kernel_rfl
          case bzz24 => kernel_rfl
          case czz24 => kernel_rfl
          case yzz24 =>
            refine Or.inl ⟨by rfl, ?_⟩
            intro w hSw
            have s0 := box_b hSw x1 (by simp only; omega)
            have s1 := box_b hSw y0 (by rw [addr_block]; omega)
            have s2 := box_b hSw y1 (by simp only [addr_block]; omega)
            go_simp
            try with_reducible rfl
          case qzz24 => exact fun _ _ _ h => h
          case szz24 => first | assumption | trivial
          case' rzz24 => simp only [Act.put, List.setIfInBounds_toArray, List.set_cons_zero, List.set_cons_succ]
          refine wpAnyH_take (i := 5) (oi := ?ozz25) (v := ?vzz25) ?hzz25 ?azz25 ?bzz25 ?czz25 ?qzz25 ?yzz25 ?szz25 ?rzz25
          case hzz25 => simp only [List.getElem?_toArray, List.getElem?_cons_zero, List.getElem?_cons_succ]; rfl
          case azz25 => kernel_rfl
          case bzz25 => kernel_rfl
          case czz25 => kernel_rfl
          case yzz25 =>
            refine Or.inl ⟨by rfl, ?_⟩
            intro w hSw
            have s0 := box_b hSw x1 (by simp only; omega)
            have s1 := box_b hSw y0 (by rw [addr_block]; omega)
            have s2 := box_b hSw y1 (by simp only [addr_block]; omega)
            go_simp
            try with_reducible rfl
          case qzz25 => exact fun _ _ _ h => h
          case szz25 => first | assumption | trivial
          case' rzz25 => simp only [Act.put, List.setIfInBounds_toArray, List.set_cons_zero, List.set_cons_succ]
          refine wpAnyH_take (i := 6) (oi := ?ozz26) (v := ?vzz26) ?hzz26 ?azz26 ?bzz26 ?czz26 ?qzz26 ?yzz26 ?szz26 ?rzz26
          case hzz26 => simp only [List.getElem?_toArray, List.getElem?_cons_zero, List.getElem?_cons_succ]; rfl
          case azz26 => kernel_rfl
          case bzz26 => kernel_rfl
          case czz26 => kernel_rfl
          case yzz26 =>
            refine Or.inl ⟨by rfl, ?_⟩
            intro w hSw
            have s0 := box_b hSw x1 (by simp only; omega)
            have s1 := box_b hSw y0 (by rw [addr_block]; omega)
            have s2 := box_b hSw y1 (by simp only [addr_block]; omega)
            go_simp
            try with_reducible rfl
          case qzz26 => exact fun _ _ _ h => h
          case szz26 => first | assumption | trivial
          case' rzz26 => simp only [Act.put, List.setIfInBounds_toArray, List.set_cons_zero, List.set_cons_succ]
          refine wpAnyH_take (i := 7) (oi := ?ozz27) (v := ?vzz27) ?hzz27 ?azz27 ?bzz27 ?czz27 ?qzz27 ?yzz27 ?szz27 ?rzz27
          case hzz27 => simp only [List.getElem?_toArray, List.getElem?_cons_zero, List.getElem?_cons_succ]; rfl
          case azz27 => kernel_rfl
          case bzz27 => kernel_rfl
          case czz27 => kernel_rfl
          case yzz27 =>
            refine Or.inl ⟨by rfl, ?_⟩
            intro w hSw
            have s0 := box_b hSw x1 (by simp only; omega)
            have s1 := box_b hSw y0 (by rw [addr_block]; omega)
            have s2 := box_b hSw y1 (by simp only [addr_block]; omega)
            go_simp
            try with_reducible rfl
          case qzz27 => exact fun _ _ _ h => h
          case szz27 => first | assumption | trivial
          case' rzz27 => simp only [Act.put, List.setIfInBounds_toArray, List.set_cons_zero, List.set_cons_succ]
          refine wpAnyH_take (i := 8) (oi := ?ozz28) (v := ?vzz28) ?hzz28 ?azz28 ?bzz28 ?czz28 ?qzz28 ?yzz28 ?szz28 ?rzz28
          case hzz28 => simp only [List.getElem?_toArray, List.getElem?_cons_zero, List.getElem?_cons_succ]; rfl
          case azz28 => kernel_rfl
          case bzz28 => kernel_rfl
          case czz28 => kernel_rfl
          case yzz28 =>
            refine Or.inl ⟨by rfl, ?_⟩
            intro w hSw
            have s0 := box_b hSw x1 (by simp only; omega)
            have s1 := box_b hSw y0 (by rw [addr_block]; omega)
            have s2 := box_b hSw y1 (by simp only [addr_block]; omega)
            go_simp
            try with_reducible rfl
          case qzz28 => exact fun _ _ _ h => h
          case szz28 => first | assumption | trivial
          case' rzz28 => simp only [Act.put, List.setIfInBounds_toArray, List.set_cons_zero, List.set_cons_succ]
          refine wpAnyH_take (i := 9) (oi := ?ozz29) (v := ?vzz29) ?hzz29 ?azz29 ?bzz29 ?czz29 ?qzz29 ?yzz29 ?szz29 ?rzz29
          case hzz29 => simp only [List.getElem?_toArray, List.getElem?_cons_zero, List.getElem?_cons_succ]; rfl
          case azz29 => kernel_rfl
          case bzz29 => kernel_rfl
          case czz29 => kernel_rfl
          case yzz29 =>
            refine Or.inl ⟨by rfl, ?_⟩
            intro w hSw
            have s0 := box_b hSw x1 (by simp only; omega)
            have s1 := box_b hSw y0 (by rw [addr_block]; omega)
            have s2 := box_b hSw y1 (by simp only [addr_block]; omega)
            go_simp
            try with_reducible rfl
          case qzz29 => exact fun _ _ _ h => h
          case szz29 => first | assumption | trivial
          case' rzz29 => simp only [Act.put, List.setIfInBounds_toArray, List.set_cons_zero, List.set_cons_succ]
          refine wpAnyH_take (i := 10) (oi := ?ozz30) (v := ?vzz30) ?hzz30 ?azz30 ?bzz30 ?czz30 ?qzz30 ?yzz30 ?szz30 ?rzz30
          case hzz30 => simp only [List.getElem?_toArray, List.getElem?_cons_zero, List.getElem?_cons_succ]; rfl
          case azz30 => kernel_rfl
          case bzz30 => kernel_rfl
          case czz30 => kernel_rfl
          case yzz30 =>
            refine Or.inl ⟨by rfl, ?_⟩
            intro w hSw
            have s0 := box_b hSw x1 (by simp only; omega)
            have s1 := box_b hSw y0 (by rw [addr_block]; omega)
            have s2 := box_b hSw y1 (by simp only [addr_block]; omega)
            go_simp
            try with_reducible rfl
          case qzz30 => exact fun _ _ _ h => h
          case szz30 => first | assumption | trivial
          case' rzz30 => simp only [Act.put, List.setIfInBounds_toArray, List.set_cons_zero, List.set_cons_succ]
          refine wpAnyH_take (i := 11) (oi := ?ozz31) (v := ?vzz31) ?hzz31 ?azz31 ?bzz31 ?czz31 ?qzz31 ?yzz31 ?szz31 ?rzz31
          case hzz31 => simp only [List.getElem?_toArray, List.getElem?_cons_zero, List.getElem?_cons_succ]; rfl
          case azz31 => kernel_rfl
          case bzz31 => kernel_rfl
          case czz31 => kernel_rfl
          case yzz31 =>
            refine Or.inl ⟨by rfl, ?_⟩
            intro w hSw
            have s0 := box_b hSw x1 (by simp only; omega)
            have s1 := box_b hSw y0 (by rw [addr_block]; omega)
            have s2 := box_b hSw y1 (by simp only [addr_block]; omega)
            go_simp
            try with_reducible rfl
          case qzz31 => exact fun _ _ _ h => h
          case szz31 => first | assumption | trivial
          case' rzz31 => simp only [Act.put, List.setIfInBounds_toArray, List.set_cons_zero, List.set_cons_succ]
          refine wpAnyH_take (i := 12) (oi := ?ozz32) (v := ?vzz32) ?hzz32 ?azz32 ?bzz32 ?czz32 ?qzz32 ?yzz32 ?szz32 ?rzz32
          case hzz32 => simp only [List.getElem?_toArray, List.getElem?_cons_zero, List.getElem?_cons_succ]; rfl
          case azz32 => kernel_rfl
          case bzz32 => kernel_rfl
          case czz32 => kernel_rfl
          case yzz32 =>
            refine Or.inl ⟨by rfl, ?_⟩
            intro w hSw
            have s0 := box_b hSw x1 (by simp only; omega)
            have s1 := box_b hSw y0 (by rw [addr_block]; omega)
            have s2 := box_b hSw y1 (by simp only [addr_block]; omega)
            go_simp
            try with_reducible rfl
          case qzz32 => exact fun _ _ _ h => h
          case szz32 => first | assumption | trivial
          case' rzz32 => simp only [Act.put, List.setIfInBounds_toArray, List.set_cons_zero, List.set_cons_succ]
          refine wpAnyH_take (i := 13) (oi := ?ozz33) (v := ?vzz33) ?hzz33 ?azz33 ?bzz33 ?czz33 ?qzz33 ?yzz33 ?szz33 ?rzz33
          case hzz33 => simp only [List.getElem?_toArray, List.getElem?_cons_zero, List.getElem?_cons_succ]; rfl
          case azz33 => kernel_rfl
          case bzz33 => kernel_rfl
          case czz33 => kernel_rfl
          case yzz33 =>
            refine Or.inl ⟨by rfl, ?_⟩
            intro w hSw
            have s0 := box_b hSw x1 (by simp only; omega)
            have s1 := box_b hSw y0 (by rw [addr_block]; omega)
            have s2 := box_b hSw y1 (by simp only [addr_block]; omega)
            go_simp
            try with_reducible rfl
          case qzz33 => exact fun _ _ _ h => h
          case szz33 => first | assumption | trivial
          case' rzz33 => simp only [Act.put, List.setIfInBounds_toArray, List.set_cons_zero, List.set_cons_succ]
          refine wpAnyH_take (i := 14) (oi := ?ozz34) (v := ?vzz34) ?hzz34 ?azz34 ?bzz34 ?czz34 ?qzz34 ?yzz34 ?szz34 ?rzz34
          case hzz34 => simp only [List.getElem?_toArray, List.getElem?_cons_zero, List.getElem?_cons_succ]; rfl
          case azz34 => kernel_rfl
          case bzz34 => kernel_rfl
          case czz34 => kernel_rfl
          case yzz34 =>
            refine Or.inl ⟨by rfl, ?_⟩
            intro w hSw
            have s0 := box_b hSw x1 (by simp only; omega)
            have s1 := box_b hSw y0 (by rw [addr_block]; omega)
            have s2 := box_b hSw y1 (by simp only [addr_block]; omega)
            go_simp
            try with_reducible rfl
          case qzz34 => exact fun _ _ _ h => h
          case szz34 => first | assumption | trivial
          case' rzz34 => simp only [Act.put, List.setIfInBounds_toArray, List.set_cons_zero, List.set_cons_succ]
          refine wpAnyH_ready (rs := [15]) (by kernel_rfl) (by simp) ?_
          refine AllReadyH.cons (o := ?ozz37) ?hzz37 (fun K hK => ?kzz37) ?mzz37
          case hzz37 => simp only [List.getElem?_toArray, List.getElem?_cons_zero, List.getElem?_cons_succ]; rfl
          case kzz37 =>
            go_simp
            refine hK.out _ _ ?Szz37 (fun hHeld => ?Rzz37)
            case Szz37 =>
              exact ((Below.refl _ _).drew).alloc (by simp only [World.size_drew]; omega) _
            case Rzz37 =>
              clear hK K
              try simp only [Act.put, List.setIfInBounds_toArray, List.set_cons_zero, List.set_cons_succ]
              refine wpAnyH_ready (rs := [16]) (by kernel_rfl) (by simp) ?_
              refine AllReadyH.cons (o := ?ozz36) ?hzz36 (fun K hK => ?kzz36) ?mzz36
              case hzz36 => simp only [List.getElem?_toArray, List.getElem?_cons_zero, List.getElem?_cons_succ]; rfl
              case kzz36 =>
                refine step_appKD pairK (by rfl) _ _ _ rfl (by rfl) (w.heap.size + 1) P (n + k) pc (Bm.marked 100 l ++ ks) (by rfl) ((HO.out.drew).alloc _) (some ⟨wr.heap.size, 0, none⟩) 1 1 [Bm.mk1 116 x] (by rfl) (by have := (lit_pair wr (Bm.mk1 116 x)).q (Q.refl _).drew; simpa [Bm.mk1] using this) (fun e => by cases e) (by show ((n + k) + 1) * 32 ≤ _; omega) (by have := HQ.out.size; simp at this ⊢; omega) ?_
                intro A6 c6 w6 o6 b6
                refine hK.out _ _ ?Szz36 (fun hHeld => ?Rzz36)
                case Szz36 =>
                  first | exact (((Below.refl _ _).drew).alloc (by simp only [World.size_drew]; omega) _).trans b6 | exact (((Below.refl _ _).alloc (by omega) _).drew).trans b6
                case Rzz36 =>
                  clear hK K
                  try simp only [Act.put, List.setIfInBounds_toArray, List.set_cons_zero, List.set_cons_succ]
                  refine wpAnyH_take (i := 17) (oi := ?ozz35) (v := ?vzz35) ?hzz35 ?azz35 ?bzz35 ?czz35 ?qzz35 ?yzz35 ?szz35 ?rzz35
                  case hzz35 => simp only [List.getElem?_toArray, List.getElem?_cons_zero, List.getElem?_cons_succ]; rfl
                  case azz35 => kernel_rfl
                  case bzz35 => kernel_rfl
                  case czz35 => kernel_rfl
                  case yzz35 =>
                    refine Or.inl ⟨by rfl, ?_⟩
                    intro w hSw
                    have s0 := box_b hSw x1 (by simp only; omega)
                    have s1 := box_b hSw y0 (by rw [addr_block]; omega)
                    have s2 := box_b hSw y1 (by simp only [addr_block]; omega)
                    go_simp
                    try with_reducible rfl
                  case qzz35 => exact fun _ _ _ h => h
                  case szz35 => first | assumption | trivial
                  case' rzz35 => simp only [Act.put, List.setIfInBounds_toArray, List.set_cons_zero, List.set_cons_succ]
                  refine wpAnyH_done (by kernel_rfl) ?_ _
                  have O6 := Lib.hid o6
                  have B6 := Lib.hid ((((Below.refl (w.heap.size + 1) wr).alloc (by omega) (.cells #[.string ⟨([116] ++ x.key.data.toList).toArray⟩, .string x.val] 99)).drew).trans b6)
                  clear o6 b6
                  go_wp2
                  go_roundw
                  case rel => exact ⟨k + 1, A6, c6, by omega, by go_num, rfl, by rw [HN.out, ← List.append_assoc]; exact O6.out, HQ.out.below.trans (by have := B6.out; simpa using this)⟩
                  case measure => simp [intOf]; omega
              case' mzz36 => skip
              exact AllReadyH.nil
          case' mzz37 => skip
          exact AllReadyH.nil
        · have hkn : m = k := by omega
          subst hkn
          have HR := Lib.hid (show Bm.marked 116 (t.take m) = Bm.marked 116 t by rw [List.take_of_length_le (by have := HT.out; omega)])
          rw [HR.out] at HO
          go_wp2
          go_ret
          exact ⟨P, pc, rfl, HO.out.lower (by omega), HQ0.out⟩
end Go.Proofs.Ytlbjobbmjccekaa

/- 'append(own, more...)' for a kind of elements; only the own block has turned. -/
namespace Go.Proofs.Ytlbjobbmjccekaa
set_option maxRecDepth 100000
open Go.RowKit
set_option linter.unusedVariables false
variable {α : Type}

theorem run_appKG (K : Kind α) (w : World) (base : Nat) (A : Option Addr) (n c : Nat) (l : List α) (h : OwnK K w base A n c l) (A2 : Option Addr) (m c2 : Nat) (l2 : List α) (h2 : Lst K w A2 m l2) (hnil : A2 = none → m = 0 ∧ c2 = 0)
    (hb : (n + m) * K.bs ≤ 140737488355328) (hbase : base ≤ w.heap.size) (ty : TypeId) :
    ∃ A' c' w', (Builtin.append_ #[K.S, K.S] ty #[.slice A n c, .slice A2 m c2]).run Try.prog w = .ok (.slice A' (n + m) c') w' ∧ OwnK K w' base A' (n + m) c' (l ++ l2) ∧ w.grownBy w' (Value.slice A n c).ownBlock ∧
      ((Value.slice A' (n + m) c').ownBlock = (Value.slice A n c).ownBlock ∨ (Value.slice A' (n + m) c').ownBlock = some w.heap.size) := by
  have hmax : n + m ≤ maxLen := by
    have : (n + m) * 1 ≤ (n + m) * K.bs := Nat.mul_le_mul_left _ K.bpos
    unfold maxLen; omega
  obtain ⟨A', c', w', h1, h3, h4, h5⟩ := run_appG (P := Try.prog) (w := w) base K.S ty K.T K.z K.k K.bs K.und K.info K.zc K.pos A n c (K.rows l) h A2 m c2 (K.rows l2) h2.1
    (fun j u hu => by obtain ⟨a, e, _, hc⟩ := h2.2 j u hu; exact ⟨a, e, hc⟩) (K.rows_one l2) hnil hmax hb hbase
  rw [← K.rows_app] at h3
  exact ⟨A', c', w', h1, h3, h4, h5⟩
theorem grown_below {K : Kind α} {w w' : World} {base : Nat} {A : Option Addr} {n c : Nat} {l : List α} (h : OwnK K w base A n c l) (hg : w.grownBy w' (Value.slice A n c).ownBlock) (hbase : base ≤ w.heap.size) : Below base w w' :=
  below_grown hg hbase fun k hk => by
    rcases h.parts with ⟨rfl, _⟩ | ⟨g, cur, rfl, hb, _⟩
    · cases hk
    · simp only [Value.ownBlock, Option.some.injEq] at hk; omega

theorem wpl_appKG (K : Kind α) {w : World} {ops : Array Oper} {rest : List Oper} {o : Oper} {a : Act} {R : Exit → Act → World → Prop} (hgd : o.guard = none) (s x : Operand) (t : TypeId) (ht : t = K.S)
    (ho : o.op = .call { callee := .builtin .append, args := #[s, x], argTypes := #[t, t] })
    (base : Nat) (A : Option Addr) (n c : Nat) (l : List α) (hs : a.eval s = .slice A n c) (h : OwnK K w base A n c l) (A2 : Option Addr) (m c2 : Nat) (l2 : List α) (hx : a.eval x = .slice A2 m c2) (h2 : Lst K w A2 m l2) (hnil : A2 = none → m = 0 ∧ c2 = 0)
    (hb : (n + m) * K.bs ≤ 140737488355328) (hbase : base ≤ w.heap.size)
    (hk : ∀ A' c' w', OwnK K w' base A' (n + m) c' (l ++ l2) → w.grownBy w' (Value.slice A n c).ownBlock →
      ((Value.slice A' (n + m) c').ownBlock = (Value.slice A n c).ownBlock ∨ (Value.slice A' (n + m) c').ownBlock = some w.heap.size) → wpList Try.prog ops R rest (a.put o.dst (.slice A' (n + m) c')) w') : wpList Try.prog ops R (o :: rest) a w := by
  subst ht
  refine wpList_plain hgd fun X hX => ?_
  obtain ⟨A', c', w', hr, h3, h4, h5⟩ := run_appKG K w base A n c l h A2 m c2 l2 h2 hnil hb hbase o.type
  unfold Oper.wp execOp
  simp only [ho, resolve, invoke, builtin, Sem.run_bind, Sem.run_pure, Result.andThen_ok, List.map_toArray, List.map_cons, List.map_nil, hs, hx, hr]
  exact hX _ _ (hk A' c' w' h3 h4 h5)
theorem step_appKG (K : Kind α) {ops : Array Oper} {o : Oper} {a : Act} {w : World} {X : Act → World → Prop} {R : Exit → Act → World → Prop} {E : Prop} (hgd : o.guard = none) (s x : Operand) (t : TypeId) (ht : t = K.S)
    (ho : o.op = .call { callee := .builtin .append, args := #[s, x], argTypes := #[t, t] }) (base : Nat) (A : Option Addr) (n c : Nat) (l : List α) (hs : a.eval s = .slice A n c) (h : OwnK K w base A n c l) (A2 : Option Addr) (m c2 : Nat) (l2 : List α) (hx : a.eval x = .slice A2 m c2) (h2 : Lst K w A2 m l2) (hnil : A2 = none → m = 0 ∧ c2 = 0)
    (hb : (n + m) * K.bs ≤ 140737488355328) (hbase : base ≤ w.heap.size)
    (hk : ∀ A' c' w', OwnK K w' base A' (n + m) c' (l ++ l2) → w.grownBy w' (Value.slice A n c).ownBlock →
      ((Value.slice A' (n + m) c').ownBlock = (Value.slice A n c).ownBlock ∨ (Value.slice A' (n + m) c').ownBlock = some w.heap.size) → X (a.put o.dst (.slice A' (n + m) c')) w') : if Region.wanted o (yielded ops a.tmps) = true then Oper.wp Try.prog o a w X R else E := by
  subst ht
  rw [if_pos (wanted_plain hgd)]
  obtain ⟨A', c', w', hr, h3, h4, h5⟩ := run_appKG K w base A n c l h A2 m c2 l2 h2 hnil hb hbase o.type
  unfold Oper.wp execOp
  simp only [ho, resolve, invoke, builtin, Sem.run_bind, Sem.run_pure, Result.andThen_ok, List.map_toArray, List.map_cons, List.map_nil, hs, hx, hr]
  exact hk A' c' w' h3 h4 h5

/-- two lists of the call's own, in blocks of their own. -/
def Apt (A B : Option Addr) : Prop := ∀ a b, A = some a → B = some b → a.block ≠ b.block
theorem OwnK.away {K : Kind α} {w w' : World} {base : Nat} {A B : Option Addr} {n c m d : Nat} {l : List α} (h : OwnK K w base B m d l) (hg : w.grownBy w' (Value.slice A n c).ownBlock) (hap : Apt A B) (hA : A = none → True) : OwnK K w' base B m d l := by
  refine ⟨h.1, ?_⟩
  rcases h.2 with ⟨e, h0⟩ | ⟨g, cap, cur, e, hg2, hh, r⟩
  · exact .inl ⟨e, h0⟩
  · refine .inr ⟨g, cap, cur, e, hg2, (hg.block g (Array.getElem?_eq_some_iff.1 hh).1 ?_).trans hh, r⟩
    intro e2
    injection e with e
    cases A with
    | none => cases e2
    | some a =>
      simp only [Value.ownBlock, Option.some.injEq] at e2
      exact hap a ⟨g, 0, none⟩ rfl e e2.symm
theorem Apt.app {K : Kind α} {w : World} {base : Nat} {A B A' : Option Addr} {n c m d n' c' : Nat} {l : List α} (h : OwnK K w base B m d l) (hap : Apt A B)
    (ht : (Value.slice A' n' c').ownBlock = (Value.slice A n c).ownBlock ∨ (Value.slice A' n' c').ownBlock = some w.heap.size) : Apt A' B := by
  intro a b ea eb
  subst ea eb
  have hb : b.block < w.heap.size := by
    rcases h.parts with ⟨e, _⟩ | ⟨g, cur, e, hb, hh, _⟩
    · cases e
    · injection e with e; subst e; exact (Array.getElem?_eq_some_iff.1 hh).1
  rcases ht with ht | ht
  · cases A with
    | none => simp [Value.ownBlock] at ht
    | some a0 =>
      simp only [Value.ownBlock, Option.some.injEq] at ht
      rw [ht]; exact hap a0 b rfl rfl
  · simp only [Value.ownBlock, Option.some.injEq] at ht
    omega
theorem Apt.symm {A B : Option Addr} (h : Apt A B) : Apt B A := fun a b ea eb e => h b a eb ea e.symm
end Go.Proofs.Ytlbjobbmjccekaa
