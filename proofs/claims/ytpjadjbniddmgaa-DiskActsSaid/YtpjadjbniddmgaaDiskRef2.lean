/- Contracts: the document's Same whole, with, less. -/
import Derived.Test.YtpjadjbniddmgaaDiskRef
namespace Go.Proofs.Ytpjadjbniddmgaa
open Go.RowKit Dkm
set_option linter.unusedVariables false

set_option maxHeartbeats 2000000 in
theorem ref_same_any (A B : Option Addr) (n c m c2 : Nat) (x y : Dk) (w : World) (h1 : Files w A n x.fs) (h2 : Files w B m y.fs) (hn : n ≤ maxLen) (hm : m ≤ maxLen) :
    Calls Try.prog 22 #[dkv A n c x.room x.fuse x.off, dkv B m c2 y.room y.fuse y.off] w fun e w' => e = .returned (.bool (sameD x y)) ∧ Q w w' := by
  obtain ⟨l, r1, u1, o1⟩ := x
  obtain ⟨l2, r2, u2, o2⟩ := y
  simp only at h1 h2 ⊢
  by_cases hr : r1 = r2
  · by_cases hu : u1 = u2
    · by_cases ho : o1 = o2
      · by_cases hl : n = m
        · subst hr hu ho hl
          rw [show sameD ⟨l, r1, u1, o1⟩ ⟨l2, r1, u1, o1⟩ = decide (l = l2) by simp [sameD]]
          exact ref_same_len A B n c n c2 l l2 r1 u1 o1 w h1 h2 hn
        · have e : sameD ⟨l, r1, u1, o1⟩ ⟨l2, r2, u2, o2⟩ = false := by
            simp only [sameD, decide_eq_false_iff_not]
            rintro ⟨rfl, _⟩
            exact hl (h1.len.symm.trans h2.len)
          subst hr hu ho
          rw [e]
          have b1 : ((n : Int) != (m : Int)) = true := by simp; omega
          have b2 : (n != m) = true := by simp; omega
          have b3 : (n == m) = false := by simp; omega
          have b4 : ((n : Int) == (m : Int)) = false := by simp; omega
          have b5 : ¬ (n : Int) = m := by omega
          clear h1 h2 hl e
          go_enter Try.func22, Try.ntmps22
          go_wp2
          go_ret
          exact ⟨rfl, ((Q.refl _).alloc _).alloc _⟩
      · have e : sameD ⟨l, r1, u1, o1⟩ ⟨l2, r2, u2, o2⟩ = false := by simp [sameD, ho]
        subst hr hu
        rw [e]
        have b1 : (o1 != o2) = true := by simpa using ho
        have b2 : (o1 == o2) = false := by simpa using ho
        clear h1 h2 e
        go_enter Try.func22, Try.ntmps22
        go_wp2
        go_ret
        exact ⟨rfl, ((Q.refl _).alloc _).alloc _⟩
    · have e : sameD ⟨l, r1, u1, o1⟩ ⟨l2, r2, u2, o2⟩ = false := by simp [sameD, hu]
      subst hr
      rw [e]
      have b1 : (u1 != u2) = true := by simpa using hu
      have b2 : (u1 == u2) = false := by simpa using hu
      clear h1 h2 e
      go_enter Try.func22, Try.ntmps22
      go_wp2
      go_ret
      exact ⟨rfl, ((Q.refl _).alloc _).alloc _⟩
  · have e : sameD ⟨l, r1, u1, o1⟩ ⟨l2, r2, u2, o2⟩ = false := by simp [sameD, hr]
    rw [e]
    have b1 : (r1 != r2) = true := by simpa using hr
    have b2 : (r1 == r2) = false := by simpa using hr
    clear h1 h2 e
    go_enter Try.func22, Try.ntmps22
    go_wp2
    go_ret
    exact ⟨rfl, ((Q.refl _).alloc _).alloc _⟩

theorem Bx.far3 {w : World} {b c k : Nat} {vs : List Value} (h : Bx w b vs) (hc : c ≠ b) (x y z : Value) : Bx (((w.setCell ⟨c, k * 3, none⟩ x).setCell ⟨c, k * 3 + 1, none⟩ y).setCell ⟨c, k * 3 + 2, none⟩ z) b vs :=
  ((h.far (p := ⟨c, k * 3, none⟩) hc x).far (p := ⟨c, k * 3 + 1, none⟩) hc y).far (p := ⟨c, k * 3 + 2, none⟩) hc z
theorem Q.set3g {a w : World} {k : Nat} (h : Q a w) {b : Nat} (hb : a.heap.size ≤ b) (x y z : Value) : Q a (((w.setCell ⟨b, k * 3, none⟩ x).setCell ⟨b, k * 3 + 1, none⟩ y).setCell ⟨b, k * 3 + 2, none⟩ z) :=
  ((h.setCell (p := ⟨b, k * 3, none⟩) hb x).setCell (p := ⟨b, k * 3 + 1, none⟩) hb y).setCell (p := ⟨b, k * 3 + 2, none⟩) hb z

set_option maxHeartbeats 2000000 in
theorem ref_with (A : Option Addr) (n c : Nat) (room fuse : Int) (off : Bool) (k : Nat) (f : Fil) (l : List Fil) (w : World) (hd : Dsk w A n c l) (hk : k < n) :
    Calls Try.prog 39 #[dkv A n c room fuse off, .int .i64 k, f.val] w fun e w' => RetOwnD w n room fuse off (l.set k f) e w' := by
  have HD := Lib.hid hd
  have hnm := hd.max
  unfold maxLen at hnm
  clear hd
  obtain ⟨a, b, d⟩ := f
  have q4 : (k : Int) < (n : Int) := by omega
  have q5 : 0 ≤ (k : Int) := by omega
  go_enter Try.func39, Try.ntmps39
  go_upto_region 1 with (fail)
  have X := Lib.hid (And.intro (Bx.new w [.slice A n c, .int .i64 room, .int .i64 fuse, .bool off] 24) (And.intro (Bx.new (w.alloc (.cells #[.slice A n c, .int .i64 room, .int .i64 fuse, .bool off] 24)) [.string a, .string b, .string d] 29) (Bx.new ((w.alloc (.cells #[.slice A n c, .int .i64 room, .int .i64 fuse, .bool off] 24)).alloc (.cells #[.string a, .string b, .string d] 29)) [.slice none 0 0, .int .i64 0, .int .i64 0, .bool false] 24)))
  simp only [World.size_alloc] at X
  have Y := Lib.hid (And.intro ((X.out.1.alloc (.cells #[.string a, .string b, .string d] 29)).alloc (.cells #[.slice none 0 0, .int .i64 0, .int .i64 0, .bool false] 24)) (And.intro (X.out.2.1.alloc (.cells #[.slice none 0 0, .int .i64 0, .int .i64 0, .bool false] 24)) (And.intro X.out.2.2 ((((Q.refl w).alloc (.cells #[.slice A n c, .int .i64 room, .int .i64 fuse, .bool off] 24)).alloc (.cells #[.string a, .string b, .string d] 29)).alloc (.cells #[.slice none 0 0, .int .i64 0, .int .i64 0, .bool false] 24)))))
  clear X
  generalize (((w.alloc (.cells #[.slice A n c, .int .i64 room, .int .i64 fuse, .bool off] 24)).alloc (.cells #[.string a, .string b, .string d] 29)).alloc (.cells #[.slice none 0 0, .int .i64 0, .int .i64 0, .bool false] 24)) = W at Y ⊢
  obtain ⟨⟨e0, e1, e2, e3⟩, _⟩ := Y.out.1.get4
  have z0 : w.heap.size < W.heap.size := Y.out.1.lt
  have z1 : w.heap.size ≠ W.heap.size := by omega
  go_upto_region 2 with (at_builtin
                         refine wpl_app rfl (.tmp 8) (.tmp 10) rfl W.heap.size (some ⟨W.heap.size, 0, none⟩) 0 0 [] rfl (own_lit0 W _ (Nat.le_refl _)) A n c l rfl (HD.out.files.q (Y.out.2.2.2.alloc _)) HD.out.nil (by have := HD.out.few; omega) (by simp) ?_
                         intro A1 c1 w1 ho1 hb1)
  rw [Nat.zero_add, List.nil_append] at ho1
  obtain ⟨g, rfl, hg⟩ : ∃ g, A1 = some ⟨g, 0, none⟩ ∧ W.heap.size ≤ g := by
    rcases ho1.parts with ⟨_, e, _⟩ | ⟨g, cur, rfl, hb, _⟩
    · omega
    · exact ⟨g, rfl, hb⟩
  have z2 : w.heap.size + 1 < W.heap.size := Y.out.2.1.lt
  have z3 : w.heap.size + 1 + 1 < W.heap.size := Y.out.2.2.1.lt
  have D1 := (Y.out.1.alloc (.cells #[] 29)).below hb1 z0
  have F1 := (Y.out.2.1.alloc (.cells #[] 29)).below hb1 z2
  have R1 := (Y.out.2.2.1.alloc (.cells #[] 29)).below hb1 z3
  have Q1 : Q w w1 := (Y.out.2.2.2.alloc (.cells #[] 29)).below.trans (hb1.mono (by have := Y.out.2.2.2.size; omega))
  have hkl : k < l.length := by have := ho1.len; omega
  obtain ⟨c0, c1', c2, gw⟩ := own_file ho1 hkl
  have w0 : w1.frozen? ⟨g, k * 3, none⟩ = false := World.ownsRow.frozenAt ho1 _
  have w1' : w1.frozen? ⟨g, k * 3 + 1, none⟩ = false := World.ownsRow.frozenAt ho1 _
  have w2' : w1.frozen? ⟨g, k * 3 + 2, none⟩ = false := World.ownsRow.frozenAt ho1 _
  have n0 : g ≠ w.heap.size := by omega
  have n1 : g ≠ w.heap.size + 1 + 1 := by omega
  have Z := Lib.hid (And.intro (show Own (((w1.setCell ⟨g, k * 3, none⟩ (.string a)).setCell ⟨g, k * 3 + 1, none⟩ (.string b)).setCell ⟨g, k * 3 + 2, none⟩ (.string d)) W.heap.size (some ⟨g, 0, none⟩) n c1 (l.set k ⟨a, b, d⟩) from (ho1.set3 hk ⟨a, b, d⟩).1) (And.intro (D1.far3 (k := k) n0 (.string a) (.string b) (.string d)) (And.intro (R1.far3 (k := k) n1 (.string a) (.string b) (.string d)) (Q1.set3g (k := k) (b := g) (by have := Y.out.2.2.2.size; omega) (.string a) (.string b) (.string d)))))
  clear e0 e1 e2 e3 ho1 hb1 D1 R1 Q1
  obtain ⟨⟨x0, x1, x2⟩, _⟩ := F1.get3
  clear F1
  go_upto_region 3 with (fail)
  generalize (((w1.setCell ⟨g, k * 3, none⟩ (.string a)).setCell ⟨g, k * 3 + 1, none⟩ (.string b)).setCell ⟨g, k * 3 + 2, none⟩ (.string d)) = w2 at Z ⊢
  clear x0 x1 x2 c0 c1' c2 w0 w1' w2' gw
  obtain ⟨O2, D2, R2, Q2⟩ := Z.out
  obtain ⟨⟨e0, e1, e2, e3⟩, f0, f1, f2, f3⟩ := D2.get4
  obtain ⟨⟨s0, s1, s2, s3⟩, h0, h1, h2, h3⟩ := R2.get4
  clear O2 D2 R2 Q2
  go_wp2
  refine bodyPost_ret (v := dkv (some ⟨g, 0, none⟩) n c1 room fuse off) (by simp [results, Try.results39, go_sem, s0, s1, s2, s3]) rfl ⟨some ⟨g, 0, none⟩, c1, rfl, ?_, ?_⟩
  · exact ((Z.out.1.setCell (p := ⟨w.heap.size, 0, none⟩) z0 _).set4 (b := w.heap.size + 1 + 1) z3 _ _ _ _).lower (by omega)
  · exact (Z.out.2.2.2.setCell (p := ⟨w.heap.size, 0, none⟩) (Nat.le_refl _) _).set4 (b := w.heap.size + 1 + 1) (by omega) _ _ _ _

theorem wrap_two (r : Int) (a b : Nat) : wrap64 (wrap64 (r + a) + b) = wrap64 (r + ((a + b : Nat) : Int)) := by unfold wrap64; omega
theorem files_take {w : World} {A : Option Addr} {n : Nat} {l : List Fil} (h : Files w A n l) {k : Nat} (hk : k ≤ n) : Files w A k (l.take k) := by
  have hl := h.len
  refine ⟨by rw [rows_length, List.length_take]; omega, fun j u hu => ?_⟩
  rw [rows_take, List.getElem?_take] at hu
  split at hu
  · exact h.2 j u hu
  · cases hu
theorem files_drop {w : World} {ad : Addr} {n : Nat} {l : List Fil} (h : Files w (some ad) n l) {k : Nat} (hk : k ≤ n) : Files w (some (ad.add (k * 3))) (n - k) (l.drop k) := by
  have hl := h.len
  refine ⟨by rw [rows_length, List.length_drop]; omega, fun j u hu => ?_⟩
  rw [rows_drop, List.getElem?_drop] at hu
  obtain ⟨ad', e, hb, hc⟩ := h.2 _ u hu
  injection e with e
  subst e
  exact ⟨_, rfl, by rw [addr_block]; exact hb, by rw [addr_add]; exact hc⟩

set_option maxHeartbeats 2000000 in
theorem ref_less0 (ad : Addr) (n c : Nat) (room fuse : Int) (off : Bool) (k : Nat) (l : List Fil) (w : World) (hd : Dsk w (some ad) n c l) (hk : k < n) (hkl : k < l.length) (hs : l[k].sf.size + l[k].wt.size ≤ maxLen) (room2 : Int) (hR : wrap64 (wrap64 (room + (l[k].sf.size : Int)) + (l[k].wt.size : Int)) = room2) :
    Calls Try.prog 44 #[dkv (some ad) n c room fuse off, .int .i64 k] w fun e w' => RetOwnD w (n - 1) room2 fuse off (l.eraseIdx k) e w' := by
  have HR := Lib.hid hR
  clear hR
  have HD := Lib.hid hd
  have hnm := hd.max
  have hcap := hd.cap
  have hle := hd.le
  unfold maxLen at hnm hs hcap
  clear hd
  have q4 : (k : Int) < (n : Int) := by omega
  have q5 : 0 ≤ (k : Int) := by omega
  have q6 : (k : Int) + 1 ≤ (n : Int) := by omega
  have q7 : 0 ≤ (k : Int) + 1 := by omega
  have q8 : (k : Int) ≤ (c : Int) := by omega
  have q9 : k ≤ c := by omega
  have q10 : k + 1 ≤ n := by omega
  go_enter Try.func44, Try.ntmps44
  go_upto_region 1 with (fail)
  have B0 := two_new w (.slice (some ad) n c) (.int .i64 room) (.int .i64 fuse) (.bool off) (.slice none 0 0) (.int .i64 0) (.int .i64 0) (.bool false) 24
  have Y := Lib.hid (And.intro B0.1 (And.intro B0.2 (((Q.refl w).alloc (.cells #[.slice (some ad) n c, .int .i64 room, .int .i64 fuse, .bool off] 24)).alloc (.cells #[.slice none 0 0, .int .i64 0, .int .i64 0, .bool false] 24))))
  clear B0
  generalize ((w.alloc (.cells #[.slice (some ad) n c, .int .i64 room, .int .i64 fuse, .bool off] 24)).alloc (.cells #[.slice none 0 0, .int .i64 0, .int .i64 0, .bool false] 24)) = W at Y ⊢
  obtain ⟨⟨e0, e1, e2, e3⟩, f0, f1, f2, f3⟩ := Y.out.1.get4
  obtain ⟨ad', e, hb, c0, c1, c2⟩ := (HD.out.files.q Y.out.2.2).load hk hkl
  injection e with e
  subst e
  go_wp2
  go_region
  rw [HR.out]
  have Z := Lib.hid (And.intro ((Y.out.1.set (k := 1) (by simp) (.int .i64 room2)).drew) (And.intro ((Y.out.2.1.far (p := ⟨w.heap.size, 1, none⟩) (by simp) (.int .i64 room2)).drew) ((Y.out.2.2.setCell (p := ⟨w.heap.size, 1, none⟩) (Nat.le_refl _) (.int .i64 room2)).drew)))
  clear e0 e1 e2 e3 f0 f1 f2 f3 c0 c1 c2 hb Y
  generalize (W.setCell ⟨w.heap.size, 1, none⟩ (.int .i64 room2)).drew = W2 at Z ⊢
  obtain ⟨⟨e0, e1, e2, e3⟩, _⟩ := Z.out.1.get4
  have z0 : w.heap.size < W2.heap.size := Z.out.1.lt
  have z1 : w.heap.size + 1 < W2.heap.size := Z.out.2.1.lt
  have z2 : w.heap.size ≠ W2.heap.size := by omega
  have hfew := HD.out.few
  have hlen := HD.out.len
  go_upto_region 3 with (at_builtin
                         refine wpl_app rfl (.tmp 25) (.tmp 29) rfl W2.heap.size (some ⟨W2.heap.size, 0, none⟩) 0 0 [] rfl (own_lit0 W2 _ (Nat.le_refl _)) (some ad) k c (l.take k) rfl (files_take (HD.out.files.q (Z.out.2.2.alloc _)) (by omega)) (fun e => by cases e) (by omega) (by simp) ?_
                         intro A1 c1 w1 ho1 hb1)
  rw [Nat.zero_add, List.nil_append] at ho1
  have D1 := (Z.out.1.alloc (.cells #[] 29)).below hb1 z0
  have R1 := (Z.out.2.1.alloc (.cells #[] 29)).below hb1 z1
  have Q1 : Q w w1 := (Z.out.2.2.alloc (.cells #[] 29)).below.trans (hb1.mono Z.out.2.2.size)
  have s1 : W2.heap.size ≤ w1.heap.size := by have := hb1.size; simp at this; omega
  have V := Lib.hid (And.intro ho1 (And.intro D1 (And.intro R1 Q1)))
  clear e0 e1 e2 e3 hb1 ho1 R1 Q1
  obtain ⟨⟨e0, e1, e2, e3⟩, f0, f1, f2, f3⟩ := D1.get4
  clear D1
  by_cases hck : c = k + 1
  · have e : n = k + 1 := by omega
    subst e
    subst hck
    go_upto_region 4 with (at_builtin
                           refine wpl_app rfl (.tmp 31) (.tmp 36) rfl W2.heap.size A1 k c1 (l.take k) rfl V.out.1 (some ad) 0 0 [] rfl (Holds.none_ _ _ _ _) (fun e => by cases e) (by omega) s1 ?_
                           intro A3 c3 w3 ho3 hb3
                           obtain ⟨⟨x0, x1, x2, x3⟩, y0, y1, y2, y3⟩ := (V.out.2.1.below hb3 z0).get4)
    rw [Nat.add_zero, List.append_nil, show l.take k = l.eraseIdx k by rw [List.eraseIdx_eq_take_drop_succ, List.drop_eq_nil_of_le (by omega), List.append_nil]] at ho3
    have n1 : w.heap.size + 1 < W2.heap.size := z1
    have U := Lib.hid (And.intro (ho3.setCell (p := ⟨w.heap.size, 0, none⟩) z0 (.slice A3 k c3)) (And.intro ((V.out.2.1.below hb3 z0).set (k := 0) (by simp) (.slice A3 k c3)) (And.intro ((V.out.2.2.1.below hb3 z1).far (p := ⟨w.heap.size, 0, none⟩) (by simp) (.slice A3 k c3)) ((show Q w w3 from V.out.2.2.2.below.trans (hb3.mono Z.out.2.2.size)).setCell (p := ⟨w.heap.size, 0, none⟩) (Nat.le_refl _) (.slice A3 k c3)))))
    clear ho3 hb3 x0 x1 x2 x3 y0 y1 y2 y3 e0 e1 e2 e3 f0 f1 f2 f3
    generalize w3.setCell ⟨w.heap.size, 0, none⟩ (.slice A3 k c3) = w4 at U ⊢
    obtain ⟨O4, D4, R4, Q4⟩ := U.out
    obtain ⟨⟨e0, e1, e2, e3⟩, _⟩ := Bx.get4 (x := .slice A3 k c3) (y := .int .i64 room2) (z := .int .i64 fuse) (u := .bool off) D4
    obtain ⟨⟨t0, t1, t2, t3⟩, h0, h1, h2, h3⟩ := R4.get4
    clear O4 D4 R4 Q4
    go_wp2
    refine bodyPost_ret (v := dkv A3 k c3 room2 fuse off) (by simp [results, Try.results44, go_sem, t0, t1, t2, t3]) rfl ⟨A3, c3, rfl, ?_, ?_⟩
    · exact (U.out.1.set4 (b := w.heap.size + 1) z1 _ _ _ _).lower (by omega)
    · exact U.out.2.2.2.set4 (b := w.heap.size + 1) (by omega) _ _ _ _
  · go_upto_region 4 with (at_builtin
                           refine wpl_app rfl (.tmp 31) (.tmp 36) rfl W2.heap.size A1 k c1 (l.take k) rfl V.out.1 (some (ad.add ((k + 1) * 3))) (n - (k + 1)) (c - (k + 1)) (l.drop (k + 1)) rfl (files_drop (HD.out.files.q V.out.2.2.2) (by omega)) (fun e => by cases e) (by omega) s1 ?_
                           intro A3 c3 w3 ho3 hb3
                           obtain ⟨⟨x0, x1, x2, x3⟩, y0, y1, y2, y3⟩ := (V.out.2.1.below hb3 z0).get4)
    have ek : k + (n - (k + 1)) = n - 1 := by omega
    rw [ek, ← List.eraseIdx_eq_take_drop_succ] at ho3
    rw [ek]
    have n1 : w.heap.size + 1 < W2.heap.size := z1
    have U := Lib.hid (And.intro (ho3.setCell (p := ⟨w.heap.size, 0, none⟩) z0 (.slice A3 (n - 1) c3)) (And.intro ((V.out.2.1.below hb3 z0).set (k := 0) (by simp) (.slice A3 (n - 1) c3)) (And.intro ((V.out.2.2.1.below hb3 z1).far (p := ⟨w.heap.size, 0, none⟩) (by simp) (.slice A3 (n - 1) c3)) ((show Q w w3 from V.out.2.2.2.below.trans (hb3.mono Z.out.2.2.size)).setCell (p := ⟨w.heap.size, 0, none⟩) (Nat.le_refl _) (.slice A3 (n - 1) c3)))))
    clear ho3 hb3 x0 x1 x2 x3 y0 y1 y2 y3 e0 e1 e2 e3 f0 f1 f2 f3
    generalize w3.setCell ⟨w.heap.size, 0, none⟩ (.slice A3 (n - 1) c3) = w4 at U ⊢
    obtain ⟨O4, D4, R4, Q4⟩ := U.out
    obtain ⟨⟨e0, e1, e2, e3⟩, _⟩ := Bx.get4 (x := .slice A3 (n - 1) c3) (y := .int .i64 room2) (z := .int .i64 fuse) (u := .bool off) D4
    obtain ⟨⟨t0, t1, t2, t3⟩, h0, h1, h2, h3⟩ := R4.get4
    clear O4 D4 R4 Q4
    go_wp2
    refine bodyPost_ret (v := dkv A3 (n - 1) c3 room2 fuse off) (by simp [results, Try.results44, go_sem, t0, t1, t2, t3]) rfl ⟨A3, c3, rfl, ?_, ?_⟩
    · exact (U.out.1.set4 (b := w.heap.size + 1) z1 _ _ _ _).lower (by omega)
    · exact U.out.2.2.2.set4 (b := w.heap.size + 1) (by omega) _ _ _ _

theorem ref_less (ad : Addr) (n c : Nat) (room fuse : Int) (off : Bool) (k : Nat) (l : List Fil) (w : World) (hd : Dsk w (some ad) n c l) (hk : k < n) (hkl : k < l.length) (hs : l[k].sf.size + l[k].wt.size ≤ maxLen) :
    Calls Try.prog 44 #[dkv (some ad) n c room fuse off, .int .i64 k] w fun e w' => RetOwnD w (n - 1) (wrap64 (room + ((l[k].sf.size + l[k].wt.size : Nat) : Int))) fuse off (l.eraseIdx k) e w' :=
  ref_less0 ad n c room fuse off k l w hd hk hkl hs _ (wrap_two _ _ _)
end Go.Proofs.Ytpjadjbniddmgaa
