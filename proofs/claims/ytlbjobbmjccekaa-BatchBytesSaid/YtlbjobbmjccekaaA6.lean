/- BatchHand, HeldL, BatchTake, DecRef, DecRefText: merged. -/
import Derived.Test.YtlbjobbmjccekaaA5
import Derived.Test.YtlbjobbmjccekaaA3
import Derived.Laws.EntriesVeiled
import Derived.Test.YtlbjobbmjccekaaA4
import Derived.Deep.DeepCutAuto
/- A hand over bytes: its two boxes; contracts of batch.over, its closures, and (hand).write. -/
namespace Go.Proofs.Ytlbjobbmjccekaa
set_option maxRecDepth 100000
open Go.RowKit Prm
set_option linter.unusedVariables false
set_option linter.unusedSimpArgs false

/-- of what was there only two blocks have turned. -/
structure Tw (bs br : Nat) (w w' : World) : Prop where
  low : Below 0 w w'
  blk : ∀ b, b < w.heap.size → b ≠ bs → b ≠ br → w'.heap[b]? = w.heap[b]?
section
variable {bs br : Nat} {w w' w2 : World}
theorem Tw.refl (bs br : Nat) (w : World) : Tw bs br w w := ⟨Below.refl _ _, fun _ _ _ _ => rfl⟩
theorem Tw.trans (h : Tw bs br w w') (k : Tw bs br w' w2) : Tw bs br w w2 :=
  ⟨h.low.trans k.low, fun b hb h1 h2 => (k.blk b (Nat.lt_of_lt_of_le hb h.low.size) h1 h2).trans (h.blk b hb h1 h2)⟩
theorem Tw.ofQ (q : Q w w') : Tw bs br w w' := ⟨q.below.mono (Nat.zero_le _), fun b hb _ _ => q.below.block b hb⟩
theorem Tw.q (h : Tw bs br w w') (q : Q w' w2) : Tw bs br w w2 := h.trans (Tw.ofQ q)
theorem Tw.setCell (h : Tw bs br w w') {p : Addr} (hp : p.block = bs ∨ p.block = br) (u : Value) : Tw bs br w (w'.setCell p u) :=
  ⟨h.low.setCell (Nat.zero_le _) u, fun b hb h1 h2 => by rw [heap_setCell_other w' p b u (by rcases hp with e | e <;> (rw [e]; assumption))]; exact h.blk b hb h1 h2⟩
theorem Tw.far (h : Tw bs br w w') {p : Addr} (hp : w.heap.size ≤ p.block) (u : Value) : Tw bs br w (w'.setCell p u) :=
  ⟨h.low.setCell (Nat.zero_le _) u, fun b hb h1 h2 => by rw [heap_setCell_other w' p b u (by omega)]; exact h.blk b hb h1 h2⟩
theorem Tw.size (h : Tw bs br w w') : w.heap.size ≤ w'.heap.size := h.low.size
theorem Tw.below (h : Tw bs br w w') {B : Nat} (h1 : B ≤ bs) (h2 : B ≤ br) (h3 : B ≤ w.heap.size) : Below B w w' :=
  ⟨h.low.os, h.low.tape, h.low.output, h.low.size, fun b hb => h.blk b (by omega) (by omega) (by omega)⟩
theorem Tw.bx (h : Tw bs br w w') {b : Nat} {vs : List Value} (hx : Bx w b vs) (hb : b < w.heap.size) (h1 : b ≠ bs) (h2 : b ≠ br) : Bx w' b vs := fun j v hj =>
  ⟨(World.cell?_of_block (w := w) (h.blk b hb h1 h2)).trans (hx j v hj).1, (World.frozen?_of_block (w := w) (h.blk b hb h1 h2)).trans (hx j v hj).2⟩
theorem Tw.own {α : Type} {K : Kind α} {base n c : Nat} {A : Option Addr} {l : List α} (h : Tw bs br w w') (ho : OwnK K w base A n c l) (h1 : bs < base) (h2 : br < base) : OwnK K w' base A n c l := by
  refine ⟨ho.1, ?_⟩
  rcases ho.2 with ⟨e, h0⟩ | ⟨g, cap, cur, e, hg, hh, r⟩
  · exact .inl ⟨e, h0⟩
  · exact .inr ⟨g, cap, cur, e, hg, (h.blk g (heap_lt hh) (by omega) (by omega)).trans hh, r⟩
end

/-- the hand's two boxes: what is left, and whether all was right. -/
structure Hd (w : World) (bs br : Nat) (x : Bm.Hs) : Prop where
  s : Bx w bs [.string ⟨x.1.toArray⟩]
  r : Bx w br [.bool x.2]
  ne : bs ≠ br
theorem Hd.q {w w' : World} {bs br : Nat} {x : Bm.Hs} (h : Hd w bs br x) (q : Q w w') : Hd w' bs br x := ⟨h.s.q q, h.r.q q, h.ne⟩
theorem Hd.lt {w : World} {bs br : Nat} {x : Bm.Hs} (h : Hd w bs br x) : bs < w.heap.size ∧ br < w.heap.size := ⟨h.s.lt, h.r.lt⟩
theorem Hd.setS {w : World} {bs br : Nat} {x : Bm.Hs} (h : Hd w bs br x) (s : List UInt8) : Hd (w.setCell ⟨bs, 0, none⟩ (.string ⟨s.toArray⟩)) bs br (s, x.2) :=
  ⟨h.s.set (k := 0) (by simp) _, h.r.far (p := ⟨bs, 0, none⟩) h.ne _, h.ne⟩
theorem Hd.setR {w : World} {bs br : Nat} {x : Bm.Hs} (h : Hd w bs br x) (r : Bool) : Hd (w.setCell ⟨br, 0, none⟩ (.bool r)) bs br (x.1, r) :=
  ⟨h.s.far (p := ⟨br, 0, none⟩) (fun e => h.ne e.symm) _, h.r.set (k := 0) (by simp) _, h.ne⟩
theorem Hd.get {w : World} {bs br : Nat} {x : Bm.Hs} (h : Hd w bs br x) : w.cell? ⟨bs, 0, none⟩ = some (.string ⟨x.1.toArray⟩) ∧ w.cell? ⟨br, 0, none⟩ = some (.bool x.2) ∧ w.frozen? ⟨bs, 0, none⟩ = false ∧ w.frozen? ⟨br, 0, none⟩ = false :=
  ⟨(h.s 0 _ rfl).1, (h.r 0 _ rfl).1, (h.s 0 _ rfl).2, (h.r 0 _ rfl).2⟩
theorem Hd.far {w : World} {bs br : Nat} {x : Bm.Hs} (h : Hd w bs br x) {p : Addr} (h1 : p.block ≠ bs) (h2 : p.block ≠ br) (u : Value) : Hd (w.setCell p u) bs br x := ⟨h.s.far h1 u, h.r.far h2 u, h.ne⟩

abbrev ptr0 (b : Nat) : Value := .pointer (some ⟨b, 0, none⟩)
abbrev numF (bs br : Nat) : Value := .func (.func 63) #[] #[ptr0 bs, ptr0 br]
abbrev textF (bs br : Nat) : Value := .func (.func 65) #[] #[ptr0 bs, ptr0 br]
abbrev doneF (bs br : Nat) : Value := .func (.func 67) #[] #[ptr0 br, ptr0 bs]
abbrev handV (bs br : Nat) : Value := .agg #[numF bs br, textF bs br, doneF bs br]

def RetH (bs br : Nat) (w : World) (v : Value) (x : Bm.Hs) (e : Ending) (w' : World) : Prop := e = .returned v ∧ Hd w' bs br x ∧ Tw bs br w w'

set_option maxHeartbeats 1000000 in
theorem hnum_any (most : Nat) (bs br : Nat) (x : Bm.Hs) (w : World) (h : Hd w bs br x) (hs : x.1.length ≤ maxLen) (hm : most ≤ 18446744073709551615) :
    Calls Try.prog 63 #[.int .u64 (most : Int), ptr0 bs, ptr0 br] w (RetH bs br w (.int .u64 ((Bm.tkN most x).1 : Nat)) (Bm.tkN most x).2) := by
  obtain ⟨s, o⟩ := x
  have K := takeNum_any ⟨s.toArray⟩ w (by show s.toArray.size ≤ _; simpa using hs)
  have hT : Bm.tkN most (s, o) = if (Dm.tnum s).2.2 ≠ 0 ∨ most < (Dm.tnum s).1 then (0, (Dm.tnum s).2.1, false) else ((Dm.tnum s).1, (Dm.tnum s).2.1, o) := rfl
  have hle := Dm.tnum_le s
  generalize Bm.tkN most (s, o) = T at hT ⊢
  simp only at K
  generalize Dm.tnum s = x at K hT hle
  obtain ⟨v, r, er⟩ := x
  unfold tnR at K
  simp only at K hT hle
  obtain ⟨g0, g1, g2, g3⟩ := h.get
  simp only at g0 g1
  generalize (⟨s.toArray⟩ : ByteArray) = S at K g0
  have HC := Lib.hid K
  have HH := Lib.hid h
  have hn1 : bs ≠ br := h.ne
  have hn2 : br ≠ bs := fun e => h.ne e.symm
  have hv : (v : Int) ≤ 18446744073709551615 := by unfold Dm.maxU at hle; omega
  have hm' : (most : Int) ≤ 18446744073709551615 := by omega
  clear K hs h hle hm
  by_cases c1 : er = 0
  · subst c1
    have hz0 : ((0 : Int) != 0) = false := by decide
    by_cases c2 : (most : Int) < (v : Int)
    · have HT := Lib.hid (hT.trans (if_pos (.inr (by omega))))
      clear hT
      go_enter Try.func63, Try.ntmps63
      go_wp2_with fail
      refine HC.out.mono ?_
      rintro e w1 ⟨rfl, q1⟩
      have H1 := Lib.hid (HH.out.q q1)
      have Q1 := Lib.hid (Tw.ofQ (bs := bs) (br := br) q1)
      clear q1 g0 g1 g2 g3
      obtain ⟨g0, g1, g2, g3⟩ := H1.out.get
      simp only at g0 g1
      go_wp2
      go_ret
      exact ⟨by rw [HT.out]; rfl, by rw [HT.out]; exact (H1.out.setR false).setS r, (Q1.out.setCell (p := ⟨br, 0, none⟩) (.inr rfl) _).setCell (p := ⟨bs, 0, none⟩) (.inl rfl) _⟩
    · have HT := Lib.hid (hT.trans (if_neg (by simp; omega)))
      clear hT
      go_enter Try.func63, Try.ntmps63
      go_wp2_with fail
      refine HC.out.mono ?_
      rintro e w1 ⟨rfl, q1⟩
      have H1 := Lib.hid (HH.out.q q1)
      have Q1 := Lib.hid (Tw.ofQ (bs := bs) (br := br) q1)
      clear q1 g0 g1 g2 g3
      obtain ⟨g0, g1, g2, g3⟩ := H1.out.get
      simp only at g0 g1
      go_wp2
      go_ret
      exact ⟨by rw [HT.out]; rfl, by rw [HT.out]; exact H1.out.setS r, Q1.out.setCell (p := ⟨bs, 0, none⟩) (.inl rfl) _⟩
  · have HT := Lib.hid (hT.trans (if_pos (.inl c1)))
    have hne : ((er : Int) != 0) = true := by simp; omega
    clear hT c1
    go_enter Try.func63, Try.ntmps63
    go_wp2_with fail
    refine HC.out.mono ?_
    rintro e w1 ⟨rfl, q1⟩
    have H1 := Lib.hid (HH.out.q q1)
    have Q1 := Lib.hid (Tw.ofQ (bs := bs) (br := br) q1)
    clear q1 g0 g1 g2 g3
    obtain ⟨g0, g1, g2, g3⟩ := H1.out.get
    simp only at g0 g1
    go_wp2
    go_ret
    exact ⟨by rw [HT.out]; rfl, by rw [HT.out]; exact (H1.out.setR false).setS r, (Q1.out.setCell (p := ⟨br, 0, none⟩) (.inr rfl) _).setCell (p := ⟨bs, 0, none⟩) (.inl rfl) _⟩

set_option maxHeartbeats 1000000 in
theorem htext_any (most : Int) (bs br : Nat) (x : Bm.Hs) (w : World) (h : Hd w bs br x) (hs : x.1.length ≤ maxLen) (hm0 : -9223372036854775808 ≤ most) (hm1 : most ≤ 9223372036854775807) :
    Calls Try.prog 65 #[.int .i64 most, ptr0 bs, ptr0 br] w (RetH bs br w (.string ⟨(Bm.tkT most x).1.toArray⟩) (Bm.tkT most x).2) := by
  obtain ⟨s, o⟩ := x
  have K := takeText_any ⟨s.toArray⟩ most w (by show s.toArray.size ≤ _; simpa using hs) hm0 hm1
  have hT : Bm.tkT most (s, o) = ((Dm.ttext s most).1, (Dm.ttext s most).2.1, o && decide ((Dm.ttext s most).2.2 = 0)) := rfl
  generalize Bm.tkT most (s, o) = T at hT ⊢
  simp only at K
  generalize Dm.ttext s most = x at K hT
  obtain ⟨v, r, er⟩ := x
  unfold ttR at K
  simp only at K hT
  obtain ⟨g0, g1, g2, g3⟩ := h.get
  simp only at g0 g1
  generalize (⟨s.toArray⟩ : ByteArray) = S at K g0
  have HC := Lib.hid K
  have HH := Lib.hid h
  have hn1 : bs ≠ br := h.ne
  have hn2 : br ≠ bs := fun e => h.ne e.symm
  clear K hs h
  cases o
  · have HT := Lib.hid hT
    clear hT
    go_enter Try.func65, Try.ntmps65
    go_wp2_with fail
    refine HC.out.mono ?_
    rintro e w1 ⟨rfl, q1⟩
    have H1 := Lib.hid (HH.out.q q1)
    have Q1 := Lib.hid (Tw.ofQ (bs := bs) (br := br) q1)
    clear q1 g0 g1 g2 g3
    obtain ⟨g0, g1, g2, g3⟩ := H1.out.get
    simp only at g0 g1
    go_wp2
    go_ret
    exact ⟨by rw [HT.out]; rfl, by rw [HT.out]; exact (H1.out.setR false).setS r, (Q1.out.setCell (p := ⟨br, 0, none⟩) (.inr rfl) _).setCell (p := ⟨bs, 0, none⟩) (.inl rfl) _⟩
  · by_cases c1 : er = 0
    · subst c1
      have HT := Lib.hid hT
      clear hT
      go_enter Try.func65, Try.ntmps65
      go_wp2_with fail
      refine HC.out.mono ?_
      rintro e w1 ⟨rfl, q1⟩
      have H1 := Lib.hid (HH.out.q q1)
      have Q1 := Lib.hid (Tw.ofQ (bs := bs) (br := br) q1)
      clear q1 g0 g1 g2 g3
      obtain ⟨g0, g1, g2, g3⟩ := H1.out.get
      simp only at g0 g1
      go_wp2
      go_ret
      exact ⟨by rw [HT.out]; rfl, by rw [HT.out]; exact (H1.out.setR true).setS r, (Q1.out.setCell (p := ⟨br, 0, none⟩) (.inr rfl) _).setCell (p := ⟨bs, 0, none⟩) (.inl rfl) _⟩
    · have HT := Lib.hid (show T = (v, r, false) by rw [hT]; simp [c1])
      have hne : ((er : Int) == 0) = false := by simp; omega
      clear hT c1
      go_enter Try.func65, Try.ntmps65
      go_wp2_with fail
      refine HC.out.mono ?_
      rintro e w1 ⟨rfl, q1⟩
      have H1 := Lib.hid (HH.out.q q1)
      have Q1 := Lib.hid (Tw.ofQ (bs := bs) (br := br) q1)
      clear q1 g0 g1 g2 g3
      obtain ⟨g0, g1, g2, g3⟩ := H1.out.get
      simp only at g0 g1
      go_wp2
      go_ret
      exact ⟨by rw [HT.out]; rfl, by rw [HT.out]; exact (H1.out.setR false).setS r, (Q1.out.setCell (p := ⟨br, 0, none⟩) (.inr rfl) _).setCell (p := ⟨bs, 0, none⟩) (.inl rfl) _⟩

theorem hdone_any (bs br : Nat) (x : Bm.Hs) (w : World) (h : Hd w bs br x) :
    Calls Try.prog 67 #[ptr0 br, ptr0 bs] w fun e w' => e = .returned (.bool (x.2 && decide (x.1 = []))) ∧ Q w w' := by
  obtain ⟨s, o⟩ := x
  obtain ⟨g0, g1, g2, g3⟩ := h.get
  simp only at g0 g1
  have HX := Lib.hid h
  clear h
  cases o
  · go_enter Try.func67, Try.ntmps67
    go_wp2
    go_ret
    exact ⟨rfl, Q.refl _⟩
  · cases s with
    | nil =>
      go_enter Try.func67, Try.ntmps67
      go_wp2
      go_ret
      exact ⟨ret_bool (by simp), Q.refl _⟩
    | cons a s =>
      have hd : (⟨(a :: s).toArray⟩ : ByteArray).toList ≠ [] := by rw [ByteArray.toList_eq]; simp
      have hd2 : (⟨(a :: s).toArray⟩ : ByteArray).toList.isEmpty = false := by rw [ByteArray.toList_eq]; simp
      have hd3 : ((⟨(a :: s).toArray⟩ : ByteArray).toList == []) = false := by rw [ByteArray.toList_eq]; simp
      generalize (⟨(a :: s).toArray⟩ : ByteArray) = S at g0 hd hd2 hd3
      go_enter Try.func67, Try.ntmps67
      go_wp2
      go_ret
      exact ⟨ret_bool (by simp [hd, hd2, hd3]), Q.refl _⟩

theorem Bx.set3 {w : World} {b : Nat} {x y z : Value} (h : Bx w b [x, y, z]) (x' y' z' : Value) : Bx (((w.setCell ⟨b, 0, none⟩ x').setCell ⟨b, 1, none⟩ y').setCell ⟨b, 2, none⟩ z') b [x', y', z'] :=
  ((h.set (k := 0) (by simp) x').set (k := 1) (by simp) y').set (k := 2) (by simp) z'
theorem Bx.far3 {w : World} {b c : Nat} {vs : List Value} (h : Bx w b vs) (hc : c ≠ b) (x' y' z' : Value) : Bx (((w.setCell ⟨c, 0, none⟩ x').setCell ⟨c, 1, none⟩ y').setCell ⟨c, 2, none⟩ z') b vs :=
  ((h.far (p := ⟨c, 0, none⟩) hc x').far (p := ⟨c, 1, none⟩) hc y').far (p := ⟨c, 2, none⟩) hc z'

set_option maxHeartbeats 1000000 in
theorem over_any (s : ByteArray) (w : World) :
    Calls Try.prog 39 #[.string s] w fun e w' => e = .returned (handV w.heap.size (w.heap.size + 1 + 1)) ∧ Hd w' w.heap.size (w.heap.size + 1 + 1) (s.data.toList, true) ∧ Q w w' := by
  go_enter Try.func39, Try.ntmps39
  go_upto_region 2 with (fail)
  have X : Hid (Bx (((w.alloc (.cells #[.string s] 9)).alloc (.cells #[.nilFunc, .nilFunc, .nilFunc] 83)).alloc (.cells #[.bool true] 4)) w.heap.size [.string s] ∧
      Bx (((w.alloc (.cells #[.string s] 9)).alloc (.cells #[.nilFunc, .nilFunc, .nilFunc] 83)).alloc (.cells #[.bool true] 4)) (w.heap.size + 1) [.nilFunc, .nilFunc, .nilFunc] ∧
      Bx (((w.alloc (.cells #[.string s] 9)).alloc (.cells #[.nilFunc, .nilFunc, .nilFunc] 83)).alloc (.cells #[.bool true] 4)) (w.heap.size + 1 + 1) [.bool true] ∧
      Q w (((w.alloc (.cells #[.string s] 9)).alloc (.cells #[.nilFunc, .nilFunc, .nilFunc] 83)).alloc (.cells #[.bool true] 4))) := by
    refine Lib.hid ⟨((Bx.new w [.string s] 9).alloc _).alloc _, ?_, ?_, (((Q.refl w).alloc _).alloc _).alloc _⟩
    · have := (Bx.new (w.alloc (.cells #[.string s] 9)) [.nilFunc, .nilFunc, .nilFunc] 83).alloc (.cells #[.bool true] 4)
      simpa using this
    · have := Bx.new ((w.alloc (.cells #[.string s] 9)).alloc (.cells #[.nilFunc, .nilFunc, .nilFunc] 83)) [.bool true] 4
      simpa using this
  generalize (((w.alloc (.cells #[.string s] 9)).alloc (.cells #[.nilFunc, .nilFunc, .nilFunc] 83)).alloc (.cells #[.bool true] 4)) = w2 at X ⊢
  obtain ⟨⟨c0, c1, c2⟩, f0, f1, f2⟩ := X.out.2.1.get3
  go_wp2
  obtain ⟨⟨d0, d1, d2⟩, _⟩ := (X.out.2.1.set3 (numF w.heap.size (w.heap.size + 1 + 1)) (textF w.heap.size (w.heap.size + 1 + 1)) (doneF w.heap.size (w.heap.size + 1 + 1))).get3
  refine bodyPost_ret (v := handV w.heap.size (w.heap.size + 1 + 1)) (by simp [results, Try.results39, go_sem, d0, d1, d2]) rfl ?_
  exact ⟨rfl, ⟨by have := X.out.1.far3 (c := w.heap.size + 1) (by omega) (numF w.heap.size (w.heap.size + 1 + 1)) (textF w.heap.size (w.heap.size + 1 + 1)) (doneF w.heap.size (w.heap.size + 1 + 1)); simpa using this, X.out.2.2.1.far3 (by omega) _ _ _, by omega⟩, X.out.2.2.2.set3 (by omega) _ _ _⟩

/-- what is taken is no longer than what was there. -/
theorem tkN_len (m : Nat) (x : Bm.Hs) : (Bm.tkN m x).2.1.length ≤ x.1.length := by
  have := Dm.tnum_len x.1
  unfold Bm.tkN; split <;> exact this
theorem tkT_len (m : Int) (x : Bm.Hs) : (Bm.tkT m x).2.1.length ≤ x.1.length := by
  obtain ⟨s, o⟩ := x
  unfold Bm.tkT Dm.ttext
  have := Dm.tnum_len s
  split
  · simp
  · split
    · simp
    · split
      · simp
      · simp only [List.length_drop]; omega
theorem tkN_le (m : Nat) (x : Bm.Hs) : (Bm.tkN m x).1 ≤ m := by unfold Bm.tkN; split <;> simp only <;> omega

/-- where (hand).write stands. -/
structure Wb (bs br : Nat) (w : World) (x : Bm.Hs) (k v : ByteArray) (d : Bool) (wi : World) : Prop where
  b1 : Bx wi w.heap.size [numF bs br, textF bs br, doneF bs br]
  b2 : Bx wi (w.heap.size + 1) [.string ⟨#[]⟩, .string ⟨#[]⟩, .bool false]
  b3 : Bx wi (w.heap.size + 1 + 1) [.string k, .string v, .bool d]
  h : Hd wi bs br x
  t : Tw bs br w wi
  l1 : bs < w.heap.size
  l2 : br < w.heap.size
section
variable {bs br : Nat} {w wi wj : World} {x y : Bm.Hs} {k v : ByteArray} {d : Bool}
theorem Wb.step (h : Wb bs br w x k v d wi) (hh : Hd wj bs br y) (ht : Tw bs br wi wj) : Wb bs br w y k v d wj := by
  have h1 := h.l1; have h2 := h.l2; have h3 := h.b3.lt
  exact ⟨ht.bx h.b1 (by omega) (by omega) (by omega), ht.bx h.b2 (by omega) (by omega) (by omega), ht.bx h.b3 (by omega) (by omega) (by omega), hh, h.t.trans ht, h1, h2⟩
theorem Wb.setK (h : Wb bs br w x k v d wi) (a : ByteArray) : Wb bs br w x a v d (wi.setCell ⟨w.heap.size + 1 + 1, 0, none⟩ (.string a)) := by
  have h1 := h.l1; have h2 := h.l2
  exact ⟨h.b1.far (by simp only; omega) _, h.b2.far (by simp only; omega) _, h.b3.set (k := 0) (by simp) _, h.h.far (by simp only; omega) (by simp only; omega) _, h.t.far (by simp only; omega) _, h1, h2⟩
theorem Wb.setV (h : Wb bs br w x k v d wi) (a : ByteArray) : Wb bs br w x k a d (wi.setCell ⟨w.heap.size + 1 + 1, 1, none⟩ (.string a)) := by
  have h1 := h.l1; have h2 := h.l2
  exact ⟨h.b1.far (by simp only; omega) _, h.b2.far (by simp only; omega) _, h.b3.set (k := 1) (by simp) _, h.h.far (by simp only; omega) (by simp only; omega) _, h.t.far (by simp only; omega) _, h1, h2⟩
theorem Wb.setD (h : Wb bs br w x k v d wi) (a : Bool) : Wb bs br w x k v a (wi.setCell ⟨w.heap.size + 1 + 1, 2, none⟩ (.bool a)) := by
  have h1 := h.l1; have h2 := h.l2
  exact ⟨h.b1.far (by simp only; omega) _, h.b2.far (by simp only; omega) _, h.b3.set (k := 2) (by simp) _, h.h.far (by simp only; omega) (by simp only; omega) _, h.t.far (by simp only; omega) _, h1, h2⟩
end

set_option maxHeartbeats 4000000 in
theorem hwrite_any (bs br : Nat) (x : Bm.Hs) (w : World) (h : Hd w bs br x) (hs : x.1.length ≤ maxLen) :
    Calls Try.prog 40 #[handV bs br] w (RetH bs br w (Bm.tkW x).1.v (Bm.tkW x).2) := by
  have hT : Bm.tkW x = (⟨⟨(Bm.tkT 32 (Bm.tkN 1 x).2).1.toArray⟩, ⟨(Bm.tkT 64 (Bm.tkT 32 (Bm.tkN 1 x).2).2).1.toArray⟩, decide ((Bm.tkN 1 x).1 = 1)⟩, (Bm.tkT 64 (Bm.tkT 32 (Bm.tkN 1 x).2).2).2) := rfl
  have n1 := tkN_le 1 x
  have l1 := tkN_len 1 x
  have l2 := tkT_len 32 (Bm.tkN 1 x).2
  have KN := Lib.hid (fun W (h : Hd W bs br x) => hnum_any 1 bs br x W h hs (by omega))
  have KT := Lib.hid (fun W (h : Hd W bs br (Bm.tkN 1 x).2) => htext_any 32 bs br (Bm.tkN 1 x).2 W h (by omega) (by omega) (by omega))
  have KU := Lib.hid (fun W (h : Hd W bs br (Bm.tkT 32 (Bm.tkN 1 x).2).2) => htext_any 64 bs br (Bm.tkT 32 (Bm.tkN 1 x).2).2 W h (by omega) (by omega) (by omega))
  generalize Bm.tkW x = T at hT ⊢
  generalize Bm.tkN 1 x = y at hT n1 KN KT KU
  obtain ⟨v, y⟩ := y
  simp only at hT n1 KN KT KU
  generalize Bm.tkT 32 y = z at hT KT KU
  obtain ⟨s1, z⟩ := z
  simp only at hT KT KU
  generalize Bm.tkT 64 z = u at hT KU
  obtain ⟨s2, u⟩ := u
  simp only at hT KU
  generalize (⟨s1.toArray⟩ : ByteArray) = S1 at hT KT
  generalize (⟨s2.toArray⟩ : ByteArray) = S2 at hT KU
  have hv : decide (v = 1) = ((v : Int) == 1) := by
    rcases (by omega : v = 0 ∨ v = 1) with rfl | rfl <;> rfl
  rw [hv] at hT
  have HT := Lib.hid hT
  have HH := Lib.hid h
  have hlt := h.lt
  have hb1 : bs < w.heap.size := hlt.1
  have hb2 : br < w.heap.size := hlt.2
  clear hT hv n1 l1 l2 h hs hlt
  go_enter Try.func40, Try.ntmps40
  go_upto_region 2 with (fail)
  have X : Hid (Wb bs br w x ⟨#[]⟩ ⟨#[]⟩ false (((w.alloc (.cells #[numF bs br, textF bs br, doneF bs br] 83)).alloc (.cells #[.string ⟨#[]⟩, .string ⟨#[]⟩, .bool false] 63)).alloc (.cells #[.string ⟨#[]⟩, .string ⟨#[]⟩, .bool false] 63))) := by
    refine Lib.hid ⟨((Bx.new w [numF bs br, textF bs br, doneF bs br] 83).alloc _).alloc _, ?_, ?_, HH.out.q ((((Q.refl w).alloc _).alloc _).alloc _), Tw.ofQ ((((Q.refl w).alloc _).alloc _).alloc _), hb1, hb2⟩
    · have := (Bx.new (w.alloc (.cells #[numF bs br, textF bs br, doneF bs br] 83)) [.string ⟨#[]⟩, .string ⟨#[]⟩, .bool false] 63).alloc (.cells #[.string ⟨#[]⟩, .string ⟨#[]⟩, .bool false] 63)
      simpa using this
    · have := Bx.new ((w.alloc (.cells #[numF bs br, textF bs br, doneF bs br] 83)).alloc (.cells #[.string ⟨#[]⟩, .string ⟨#[]⟩, .bool false] 63)) [.string ⟨#[]⟩, .string ⟨#[]⟩, .bool false] 63
      simpa using this
  generalize (((w.alloc (.cells #[numF bs br, textF bs br, doneF bs br] 83)).alloc (.cells #[.string ⟨#[]⟩, .string ⟨#[]⟩, .bool false] 63)).alloc (.cells #[.string ⟨#[]⟩, .string ⟨#[]⟩, .bool false] 63)) = w2 at X ⊢
  obtain ⟨⟨c0, c1, c2⟩, _⟩ := X.out.b1.get3
  obtain ⟨⟨d0, d1, d2⟩, f0, f1, f2⟩ := X.out.b3.get3
  go_wp2_with fail
  refine (KN.out _ X.out.h).mono ?_
  rintro e w3 ⟨rfl, h3, t3⟩
  have X2 := Lib.hid (X.out.step h3 t3)
  clear X h3 t3 c0 c1 c2 d0 d1 d2 f0 f1 f2
  obtain ⟨⟨d0, d1, d2⟩, f0, f1, f2⟩ := X2.out.b3.get3
  go_upto_region 3 with (fail)
  have X := Lib.hid (X2.out.setD ((v : Int) == 1))
  clear X2 d0 d1 d2 f0 f1 f2
  generalize w3.setCell ⟨w.heap.size + 1 + 1, 2, none⟩ (.bool ((v : Int) == 1)) = w4 at X ⊢
  obtain ⟨⟨c0, c1, c2⟩, _⟩ := X.out.b1.get3
  obtain ⟨⟨d0, d1, d2⟩, f0, f1, f2⟩ := X.out.b3.get3
  go_wp2_with fail
  refine (KT.out _ X.out.h).mono ?_
  rintro e w5 ⟨rfl, h3, t3⟩
  have X2 := Lib.hid (X.out.step h3 t3)
  clear X h3 t3 c0 c1 c2 d0 d1 d2 f0 f1 f2
  obtain ⟨⟨d0, d1, d2⟩, f0, f1, f2⟩ := X2.out.b3.get3
  go_upto_region 4 with (fail)
  have X := Lib.hid (X2.out.setK S1)
  clear X2 d0 d1 d2 f0 f1 f2
  generalize w5.setCell ⟨w.heap.size + 1 + 1, 0, none⟩ (.string S1) = w6 at X ⊢
  obtain ⟨⟨c0, c1, c2⟩, _⟩ := X.out.b1.get3
  obtain ⟨⟨d0, d1, d2⟩, f0, f1, f2⟩ := X.out.b3.get3
  go_wp2_with fail
  refine (KU.out _ X.out.h).mono ?_
  rintro e w7 ⟨rfl, h3, t3⟩
  have X2 := Lib.hid (X.out.step h3 t3)
  clear X h3 t3 c0 c1 c2 d0 d1 d2 f0 f1 f2
  obtain ⟨⟨d0, d1, d2⟩, f0, f1, f2⟩ := X2.out.b3.get3
  go_upto_region 5 with (fail)
  have X := Lib.hid (X2.out.setV S2)
  clear X2 d0 d1 d2 f0 f1 f2
  generalize w7.setCell ⟨w.heap.size + 1 + 1, 1, none⟩ (.string S2) = w8 at X ⊢
  obtain ⟨⟨c0, c1, c2⟩, _⟩ := X.out.b1.get3
  obtain ⟨⟨d0, d1, d2⟩, f0, f1, f2⟩ := X.out.b3.get3
  obtain ⟨⟨p0, p1, p2⟩, g0, g1, g2⟩ := X.out.b2.get3
  go_wp2
  obtain ⟨⟨r0, r1, r2⟩, _⟩ := (X.out.b2.set3 (.string S1) (.string S2) (.bool ((v : Int) == 1))).get3
  refine bodyPost_ret (v := .agg #[.string S1, .string S2, .bool ((v : Int) == 1)]) (by simp [results, Try.results40, go_sem, r0, r1, r2]) rfl ?_
  refine ⟨by rw [HT.out], by rw [HT.out]; exact ((X.out.h.far (p := ⟨w.heap.size + 1, 0, none⟩) (by simp only; omega) (by simp only; omega) _).far (p := ⟨w.heap.size + 1, 1, none⟩) (by simp only; omega) (by simp only; omega) _).far (p := ⟨w.heap.size + 1, 2, none⟩) (by simp only; omega) (by simp only; omega) _, ((X.out.t.far (p := ⟨w.heap.size + 1, 0, none⟩) (by simp only; omega) _).far (p := ⟨w.heap.size + 1, 1, none⟩) (by simp only; omega) _).far (p := ⟨w.heap.size + 1, 2, none⟩) (by simp only; omega) _⟩
end Go.Proofs.Ytlbjobbmjccekaa

/- A region that draws its order and stores, as its operation k, into a cell that it loads: what is known of the world is asked only till k comes up; a load may be taken first if k waits for it. -/
namespace Go.Proofs.Ytlbjobbmjccekaa
set_option maxRecDepth 100000
section
variable {P : Program} {ops : Array Oper} {Q : Exit → Act → World → Prop} {md : Region.Mode} {k : Nat}

/-- The pair of what is owed behind a step: S, as long as k has not come up; and what follows. -/
def Till (k : Nat) (S : World → Prop) (T : Array Bool → Act → World → Prop) (l : Array Bool) : Act → World → Prop := fun a w => (l.getD k true = false → S w) ∧ T l a w
/-- In whatever order the rest comes up: Q at the end; S till k. -/
def wpAnyL (P : Program) (md : Region.Mode) (ops : Array Oper) (Q : Exit → Act → World → Prop) (k : Nat) (S : World → Prop) (fuel : Nat) : Array Bool → Act → World → Prop :=
  Nat.rec (fun l a w => Region.ready md ops l = [] ∧ Q .normal a w)
    (fun _ T l a w => (Region.ready md ops l = [] → Q .normal a w) ∧ ∀ j, j ∈ Region.ready md ops l → wpOp P ops Q j (Till k S T (l.setIfInBounds j true)) a w) fuel

variable {S S' : World → Prop}
theorem wpAnyL_zero {l : Array Bool} {a : Act} {w : World} : wpAnyL P md ops Q k S 0 l a w ↔ Region.ready md ops l = [] ∧ Q .normal a w := Iff.rfl
theorem wpAnyL_succ {n : Nat} {l : Array Bool} {a : Act} {w : World} : wpAnyL P md ops Q k S (n + 1) l a w ↔
    (Region.ready md ops l = [] → Q .normal a w) ∧ ∀ j, j ∈ Region.ready md ops l → wpOp P ops Q j (Till k S (wpAnyL P md ops Q k S n) (l.setIfInBounds j true)) a w := Iff.rfl

/-- S dropped altogether. -/
theorem wpAnyL_plain (n : Nat) : ∀ (l : Array Bool) (a : Act) (w : World), wpAnyL P md ops Q k S n l a w → wpAny P md ops Q n l a w := by
  induction n with
  | zero => exact fun l a w h => h
  | succ n ih => exact fun l a w h => ⟨(wpAnyL_succ.1 h).1, fun j hj => wpOp_mono (fun a' w' h' => ih _ a' w' h'.2) ((wpAnyL_succ.1 h).2 j hj)⟩
/-- S made stronger in the midst. -/
theorem wpAnyL_more (hS : ∀ w, S' w → S w) (n : Nat) : ∀ (l : Array Bool) (a : Act) (w : World), wpAnyL P md ops Q k S' n l a w → wpAnyL P md ops Q k S n l a w := by
  induction n with
  | zero => exact fun l a w h => h
  | succ n ih => exact fun l a w h => wpAnyL_succ.2 ⟨(wpAnyL_succ.1 h).1, fun j hj => wpOp_mono (fun a' w' h' => ⟨fun e => hS w' (h'.1 e), ih _ a' w' h'.2⟩) ((wpAnyL_succ.1 h).2 j hj)⟩
theorem wpAnyL_now (S' : World → Prop) (h : ∀ w, S' w → S w) {fuel : Nat} {listed : Array Bool} {a : Act} {w : World} (hw : S' w) (hh : S' w → wpAnyL P md ops Q k S' fuel listed a w) : wpAnyL P md ops Q k S fuel listed a w :=
  wpAnyL_more h fuel listed a w (hh hw)
theorem getD_set_up {l : Array Bool} {j : Nat} (h : l.getD k true = true) : (l.setIfInBounds j true).getD k true = true := by
  rcases Nat.decEq j k with e | rfl
  · rw [getD_set_ne true e]; exact h
  · simp [Array.getElem?_setIfInBounds]; split <;> simp
/-- Behind k nothing is asked. -/
theorem wpAnyL_free (n : Nat) : ∀ (l : Array Bool) (a : Act) (w : World), l.getD k true = true → wpAnyH P md ops Q (fun _ => True) n l a w → wpAnyL P md ops Q k S n l a w := by
  induction n with
  | zero => exact fun l a w _ h => h
  | succ n ih =>
    intro l a w hl h
    refine wpAnyL_succ.2 ⟨h.1, fun j hj => wpOp_mono (fun a' w' h' => ⟨fun e => ?_, ih _ a' w' (getD_set_up hl) h'.2⟩) (h.2 j hj)⟩
    rw [getD_set_up hl] at e
    cases e

/-- k waits for i. -/
def waitsFor (md : Region.Mode) (ops : Array Oper) (k i : Nat) : Bool := match ops[k]? with | some o => o.after.any (fun e => Region.binds md e && e.on == i) | none => false
/-- Of two that may come up now none waits for the other one. -/
theorem ready_free {l : Array Bool} {i j : Nat} {o : Oper} (hi : i ∈ Region.ready md ops l) (hj : j ∈ Region.ready md ops l) (ho : ops[j]? = some o) : ∀ e ∈ o.after, Region.binds md e = true → e.on ≠ i := by
  obtain ⟨hi0, _⟩ := mem_ready.1 hi
  obtain ⟨_, o', ho', hall⟩ := mem_ready.1 hj
  obtain rfl : o = o' := by rw [ho] at ho'; injection ho'
  intro e he hb heq
  have hl := hall e he hb
  rw [heq] at hl
  cases hg : l[i]? with
  | none => simp [hg] at hl
  | some b => simp [hg] at hi0 hl; rw [hi0] at hl; cases hl
theorem not_waits {l : Array Bool} {i : Nat} (hi : i ∈ Region.ready md ops l) (hk : waitsFor md ops k i = true) : ¬ k ∈ Region.ready md ops l := fun hj => by
  unfold waitsFor at hk
  split at hk
  · rename_i o ho
    obtain ⟨e, he, h2⟩ := Array.any_eq_true'.1 hk
    rw [Bool.and_eq_true, beq_iff_eq] at h2
    exact ready_free hi hj ho e he h2.1 h2.2
  · cases hk

/-- Number i first: nobody who could come ahead of it makes a difference, and k waits for it. -/
theorem wpAnyL_take {i : Nat} {oi : Oper} {v : Value} {fuel : Nat} {listed : Array Bool} {a : Act} {w : World} (hi : ops[i]? = some oi)
    (hs : Region.noSelect ops = true) (hf : Region.free md ops listed i = true) (hr : (Region.ready md ops listed).contains i = true)
    (hk : (listed.getD k true == false && waitsFor md ops k i && i != k) = true)
    (hQ : ∀ c a w, Q (.panic c) (a.put oi.dst v) w → Q (.panic c) a w) (hy : YieldsIf P ops S oi v a) (hS : S w)
    (h : wpAnyL P md ops Q k S fuel (listed.setIfInBounds i true) (a.put oi.dst v) w) : wpAnyL P md ops Q k S (fuel + 1) listed a w := by
  simp only [Bool.and_eq_true, beq_iff_eq, bne_iff_ne, ne_eq] at hk
  obtain ⟨⟨hku, hkw⟩, hik⟩ := hk
  have hap := Region.free_spec hi hf
  have hr' : i ∈ Region.ready md ops listed := by simpa using hr
  have hno := Region.noSelect_spec hs
  clear hf hr
  -- the same for every state: by the number of those that are left
  induction fuel generalizing listed a w with
  | zero =>
    refine wpAnyL_succ.2 ⟨fun e => absurd hr' (by rw [e]; exact List.not_mem_nil), fun j hj => ?_⟩
    rcases Nat.decEq j i with e | rfl
    · exact absurd (ready_mono hj e) (by rw [(wpAnyL_zero.1 h).1]; exact List.not_mem_nil)
    · exact hy.wpOp hi hS ⟨fun _ => hS, h⟩
  | succ n ih =>
    refine wpAnyL_succ.2 ⟨fun e => absurd hr' (by rw [e]; exact List.not_mem_nil), fun j hj => ?_⟩
    rcases Nat.decEq j i with e | rfl
    case isTrue => exact hy.wpOp hi hS ⟨fun _ => hS, h⟩
    have hjk : j ≠ k := by rintro rfl; exact not_waits hr' hkw hj
    obtain ⟨hun, oj, hoj, _⟩ := mem_ready.1 hj
    have other := wpOp_putIf hoj (hap j oj hoj e hun (ready_free hr' hj hoj)) (fun cs b => hno i oi cs b hi) (fun cs b => hno j oj cs b hoj) hQ hy ((wpAnyL_succ.1 h).2 j (ready_mono hj e))
    have hku' : (listed.setIfInBounds j true).getD k true = false := (getD_set_ne true hjk).trans hku
    refine wpOp_mono (fun a' w' ⟨hy', hS', hT⟩ => ?_) other
    have hSw : S w' := hS' (by rw [getD_set_ne true hjk, getD_set_ne true hik]; exact hku)
    rw [Array.setIfInBounds_comm _ _ (Ne.symm e)] at hT
    refine ⟨fun _ => hSw, ih hy' hSw hT hku' (fun m om hm hmi hmu hme => hap m om hm hmi ?_ hme) (ready_mono hr' (Ne.symm e))⟩
    rcases Nat.decEq j m with e2 | rfl
    · rwa [getD_set_ne true e2] at hmu
    · exact hun

def AllReadyL (P : Program) (md : Region.Mode) (ops : Array Oper) (Q : Exit → Act → World → Prop) (k : Nat) (S : World → Prop) (fuel : Nat) (listed : Array Bool) (a : Act) (w : World) (rs : List Nat) : Prop :=
  ∀ j, j ∈ rs → wpOp P ops Q j (Till k S (wpAnyL P md ops Q k S fuel) (listed.setIfInBounds j true)) a w
theorem AllReadyL.nil {fuel : Nat} {listed : Array Bool} {a : Act} {w : World} : AllReadyL P md ops Q k S fuel listed a w [] := fun _ h => absurd h List.not_mem_nil
/-- a step ahead of k: S is shown anew, and handed on. -/
theorem AllReadyL.cons {fuel : Nat} {listed : Array Bool} {a : Act} {w : World} {i : Nat} {o : Oper} {rs : List Nat} (ho : ops[i]? = some o)
    (h : ∀ K : Act → World → Prop, Shut (∀ a w, S w → (S w → wpAnyL P md ops Q k S fuel (listed.setIfInBounds i true) a w) → K a w) → if Region.wanted o (yielded ops a.tmps) = true then Oper.wp P o a w K Q else K (a.put o.dst undef) w)
    (hs : AllReadyL P md ops Q k S fuel listed a w rs) : AllReadyL P md ops Q k S fuel listed a w (i :: rs) :=
  List.forall_mem_cons.2 ⟨wpOp_step ho fun K hK => h K fun a w h1 h2 => hK a w ⟨fun _ => h1, h2 h1⟩, hs⟩
/-- the step k itself: nothing is to be shown anew. -/
theorem AllReadyL.consK {fuel : Nat} {listed : Array Bool} {a : Act} {w : World} {o : Oper} {rs : List Nat} (ho : ops[k]? = some o) (hl : (listed.setIfInBounds k true).getD k true = true)
    (h : ∀ K : Act → World → Prop, Shut (∀ a w, wpAnyH P md ops Q (fun _ => True) fuel (listed.setIfInBounds k true) a w → K a w) → if Region.wanted o (yielded ops a.tmps) = true then Oper.wp P o a w K Q else K (a.put o.dst undef) w)
    (hs : AllReadyL P md ops Q k S fuel listed a w rs) : AllReadyL P md ops Q k S fuel listed a w (k :: rs) :=
  List.forall_mem_cons.2 ⟨wpOp_step ho fun K hK => h K fun a w h2 => hK a w ⟨(fun e => by rw [hl] at e; cases e), wpAnyL_free fuel _ a w hl h2⟩, hs⟩
theorem wpAnyL_ready {rs : List Nat} {fuel : Nat} {listed : Array Bool} {a : Act} {w : World} (hr : Region.ready md ops listed = rs) (hne : rs ≠ [])
    (h : AllReadyL P md ops Q k S fuel listed a w rs) : wpAnyL P md ops Q k S (fuel + 1) listed a w :=
  wpAnyL_succ.2 ⟨fun e => absurd (hr.symm.trans e) hne, fun j hj => h j (by rwa [hr] at hj)⟩
theorem wpAnyL_done {listed : Array Bool} {a : Act} {w : World} (hr : Region.ready md ops listed = []) (h : Q .normal a w) (fuel : Nat) : wpAnyL P md ops Q k S fuel listed a w := by
  cases fuel with
  | zero => exact ⟨hr, h⟩
  | succ n => exact wpAnyL_succ.2 ⟨fun _ => h, fun j hj => absurd hj (by rw [hr]; exact List.not_mem_nil)⟩
/-- the beginning. -/
theorem wp_region_heldL (k : Nat) (S : World → Prop) {id : Nat} {a : Act} {w : World} (hm : P.follows .mixedOrders = true) (hS : S w.drew)
    (h : S w.drew → wpAnyL P .any ops Q k S ops.size (Array.replicate ops.size false) a w.drew) : (Code.region id ops true).wp P Q a w :=
  wp_region_any hm (wpAnyL_plain _ _ _ _ (h hS))
end
end Go.Proofs.Ytlbjobbmjccekaa

/- The contract of batch.Take. -/
namespace Go.Proofs.Ytlbjobbmjccekaa
set_option maxRecDepth 100000
open Go.RowKit Prm
set_option linter.unusedVariables false
set_option linter.unusedSimpArgs false
variable {α : Type}

/-- 'append(own, more...)' as one step of a region that draws. -/
theorem step_appKD (K : Kind α) {ops : Array Oper} {o : Oper} {a : Act} {w : World} {X : Act → World → Prop} {R : Exit → Act → World → Prop} {E : Prop} (hgd : o.guard = none) (s x : Operand) (t : TypeId) (ht : t = K.S)
    (ho : o.op = .call { callee := .builtin .append, args := #[s, x], argTypes := #[t, t] }) (base : Nat) (A : Option Addr) (n c : Nat) (l : List α) (hs : a.eval s = .slice A n c) (h : OwnK K w base A n c l) (A2 : Option Addr) (m c2 : Nat) (l2 : List α) (hx : a.eval x = .slice A2 m c2) (h2 : Lst K w A2 m l2) (hnil : A2 = none → m = 0 ∧ c2 = 0)
    (hb : (n + m) * K.bs ≤ 140737488355328) (hbase : base ≤ w.heap.size)
    (hk : ∀ A' c' w', OwnK K w' base A' (n + m) c' (l ++ l2) → Below base w w' → X (a.put o.dst (.slice A' (n + m) c')) w') : if Region.wanted o (yielded ops a.tmps) = true then Oper.wp Try.prog o a w X R else E := by
  subst ht
  have hw : Region.wanted o (yielded ops a.tmps) = true := by simp [Region.wanted, hgd]
  rw [if_pos hw]
  obtain ⟨A', c', w', hr, h3, h4⟩ := run_appK K w base A n c l h A2 m c2 l2 h2 hnil hb hbase o.type
  unfold Oper.wp execOp
  simp only [ho, resolve, invoke, builtin, Sem.run_bind, Sem.run_pure, Result.andThen_ok, List.map_toArray, List.map_cons, List.map_nil, hs, hx, hr]
  exact hk A' c' w' h3 h4

/-- a batch, and the errno. -/
def RetTB (w : World) (x : Bm.Bt × Nat) (e : Ending) (w' : World) : Prop :=
  ∃ A c, e = .returned (.tuple #[batV x.1.kind x.1.tok A x.1.ws.length c, .int .i64 (x.2 : Int)]) ∧ OwnK writeK w' w.heap.size A x.1.ws.length c x.1.ws ∧ Q w w'

/-- where Take stands. -/
structure Tk (bs br : Nat) (w w2 : World) (x : Bm.Hs) (kind : Int) (tok : ByteArray) (A : Option Addr) (n c : Nat) (ws : List Wr) (wi : World) : Prop where
  res : Bx wi w.heap.size [.int .i64 0, .string ⟨#[]⟩, .slice none 0 0]
  bh : Bx wi w2.heap.size [numF bs br, textF bs br, doneF bs br]
  bb : Bx wi (w2.heap.size + 1) [.int .i64 kind, .string tok, .slice A n c]
  own : OwnK writeK wi (w2.heap.size + 1 + 1) A n c ws
  h : Hd wi bs br x
  q : Q w wi
  g1 : w.heap.size < bs
  g2 : w.heap.size < br
  l1 : bs < w2.heap.size
  l2 : br < w2.heap.size
  l3 : w2.heap.size + 1 + 1 ≤ wi.heap.size
section
variable {bs br : Nat} {w w2 wi wj : World} {x y : Bm.Hs} {kind : Int} {tok : ByteArray} {A : Option Addr} {n c : Nat} {ws : List Wr}
theorem Tk.step (h : Tk bs br w w2 x kind tok A n c ws wi) (hh : Hd wj bs br y) (ht : Tw bs br wi wj) : Tk bs br w w2 y kind tok A n c ws wj := by
  have h1 := h.g1; have h2 := h.g2; have h3 := h.l1; have h4 := h.l2; have h5 := h.l3
  exact ⟨ht.bx h.res (by omega) (by omega) (by omega), ht.bx h.bh (by omega) (by omega) (by omega), ht.bx h.bb (by omega) (by omega) (by omega), ht.own h.own (by omega) (by omega), hh, h.q.below.trans (ht.below (by omega) (by omega) (by omega)), h1, h2, h3, h4, Nat.le_trans h5 ht.size⟩
theorem Tk.drew (h : Tk bs br w w2 x kind tok A n c ws wi) : Tk bs br w w2 x kind tok A n c ws wi.drew := h.step (h.h.q (Q.refl _).drew) (Tw.ofQ (Q.refl _).drew)
theorem Tk.ofQ (h : Tk bs br w w2 x kind tok A n c ws wi) (q : Q wi wj) : Tk bs br w w2 x kind tok A n c ws wj := h.step (h.h.q q) (Tw.ofQ q)
theorem Tk.setKind (h : Tk bs br w w2 x kind tok A n c ws wi) (k : Int) : Tk bs br w w2 x k tok A n c ws (wi.setCell ⟨w2.heap.size + 1, 0, none⟩ (.int .i64 k)) := by
  have h1 := h.g1; have h2 := h.g2; have h3 := h.l1; have h4 := h.l2; have h5 := h.l3
  exact ⟨h.res.far (by simp only; omega) _, h.bh.far (by simp only; omega) _, h.bb.set (k := 0) (by simp) _, h.own.setCell (by simp only; omega) _, h.h.far (by simp only; omega) (by simp only; omega) _, h.q.setCell (by simp only; omega) _, h1, h2, h3, h4, by simpa using h5⟩
theorem Tk.setTok (h : Tk bs br w w2 x kind tok A n c ws wi) (k : ByteArray) : Tk bs br w w2 x kind k A n c ws (wi.setCell ⟨w2.heap.size + 1, 1, none⟩ (.string k)) := by
  have h1 := h.g1; have h2 := h.g2; have h3 := h.l1; have h4 := h.l2; have h5 := h.l3
  exact ⟨h.res.far (by simp only; omega) _, h.bh.far (by simp only; omega) _, h.bb.set (k := 1) (by simp) _, h.own.setCell (by simp only; omega) _, h.h.far (by simp only; omega) (by simp only; omega) _, h.q.setCell (by simp only; omega) _, h1, h2, h3, h4, by simpa using h5⟩
theorem Tk.setWs (h : Tk bs br w w2 x kind tok A n c ws wi) (hb : Below (w2.heap.size + 1 + 1) wi wj) {A' : Option Addr} {n' c' : Nat} {ws' : List Wr} (ho : OwnK writeK wj (w2.heap.size + 1 + 1) A' n' c' ws') : Tk bs br w w2 x kind tok A' n' c' ws' (wj.setCell ⟨w2.heap.size + 1, 2, none⟩ (.slice A' n' c')) := by
  have h1 := h.g1; have h2 := h.g2; have h3 := h.l1; have h4 := h.l2; have h5 := h.l3
  exact ⟨(h.res.below hb (by omega)).far (by simp only; omega) _, (h.bh.below hb (by omega)).far (by simp only; omega) _, (h.bb.below hb (by omega)).set (k := 2) (by simp) _, ho.setCell (by simp only; omega) _, (⟨h.h.s.below hb (by omega), h.h.r.below hb (by omega), h.h.ne⟩ : Hd wj bs br x).far (by simp only; omega) (by simp only; omega) _,
    Q.setCell (a := w) (h.q.below.trans (hb.mono (by omega))) (by simp only; omega) _, h1, h2, h3, h4, by have := hb.size; simp only [World.size_setCell]; omega⟩
end
theorem tkW_len (x : Bm.Hs) : (Bm.tkW x).2.1.length ≤ x.1.length := Nat.le_trans (tkT_len _ _) (Nat.le_trans (tkT_len _ _) (tkN_len _ _))
theorem tkWs_len : ∀ (n : Nat) (acc : List Wr) (x : Bm.Hs), (Bm.tkWs n acc x).1.length = acc.length + n
  | 0, acc, x => rfl
  | n + 1, acc, x => by rw [Bm.tkWs, tkWs_len n]; simp; omega
theorem tkWs_fold {v j : Nat} (h : j < v) (acc : List Wr) (x : Bm.Hs) : Bm.tkWs (v - j) acc x = Bm.tkWs (v - (j + 1)) (acc ++ [(Bm.tkW x).1]) (Bm.tkW x).2 := by
  obtain ⟨m, hm⟩ : ∃ m, v - j = m + 1 := ⟨v - j - 1, by omega⟩
  rw [hm, show v - (j + 1) = m by omega]; rfl

set_option maxHeartbeats 8000000 in
set_option maxRecDepth 100000 in
theorem btake_core (s : ByteArray) (w : World) (kd v : Nat) (y1 y2 y3 : Bm.Hs) (TK : ByteArray) (T : Bm.Bt × Nat)
    (K1 : ∀ bs br W, Hd W bs br (s.data.toList, true) → Calls Try.prog 63 #[.int .u64 2, ptr0 bs, ptr0 br] W (RetH bs br W (.int .u64 (kd : Int)) y1))
    (K2 : ∀ bs br W, Hd W bs br y1 → Calls Try.prog 65 #[.int .i64 16, ptr0 bs, ptr0 br] W (RetH bs br W (.string TK) y2))
    (K3 : ∀ bs br W, Hd W bs br y2 → Calls Try.prog 63 #[.int .u64 24, ptr0 bs, ptr0 br] W (RetH bs br W (.int .u64 (v : Int)) y3))
    (hT : T = Bm.fin (⟨(kd : Int), TK, (Bm.tkWs v [] y3).1⟩, (Bm.tkWs v [] y3).2)) (hkd : (kd : Int) ≤ 2) (hv : (v : Int) ≤ 24) (hl3 : y3.1.length ≤ maxLen) :
    Calls Try.prog 14 #[.string s] w (RetTB w T) := by
  have KA := Lib.hid K1
  have KB := Lib.hid K2
  have KC := Lib.hid K3
  have HT := Lib.hid hT
  have HL3 := Lib.hid hl3
  clear K1 K2 K3 hT hl3
  go_enter Try.func14, Try.ntmps14
  go_wp2_with fail
  refine (over_any s _).mono ?_
  rintro e w2 ⟨rfl, h2, q2⟩
  simp only [World.size_alloc] at h2
  have H2 := Lib.hid h2
  have Q2 := Lib.hid q2
  have hsz : w.heap.size + 1 + 1 + 1 < w2.heap.size := h2.lt.2
  simp only [World.size_alloc]
  clear h2 q2
  generalize hbs : w.heap.size + 1 = bs at H2 ⊢
  generalize hbr : bs + 1 + 1 = br at H2 ⊢
  have g1 : w.heap.size < bs := by omega
  have g2 : w.heap.size < br := by omega
  have g3 : bs < w2.heap.size := by omega
  have g4 : br < w2.heap.size := by omega
  clear hsz hbs hbr
  go_upto_region 3 with (fail)
  have X : Hid (Tk bs br w w2 (s.data.toList, true) 0 ⟨#[]⟩ none 0 0 [] ((w2.alloc (.cells #[numF bs br, textF bs br, doneF bs br] 83)).alloc (.cells #[.int .i64 0, .string ⟨#[]⟩, .slice none 0 0] 24))) := by
    refine Lib.hid ⟨?_, (Bx.new w2 [numF bs br, textF bs br, doneF bs br] 83).alloc _, ?_, OwnK.nil_ _ _ _, (H2.out.q ((Q.refl _).alloc _)).q ((Q.refl _).alloc _), (((((Q.refl w).alloc _).trans Q2.out).alloc _).alloc _), g1, g2, g3, g4, by simp⟩
    · exact ((((Bx.new w [.int .i64 0, .string ⟨#[]⟩, .slice none 0 0] 24).q Q2.out).alloc _).alloc _)
    · have := Bx.new (w2.alloc (.cells #[numF bs br, textF bs br, doneF bs br] 83)) [.int .i64 0, .string ⟨#[]⟩, .slice none 0 0] 24
      simpa using this
  change Code.wp _ _ _ _ ((w2.alloc (.cells #[numF bs br, textF bs br, doneF bs br] 83)).alloc (.cells #[.int .i64 0, .string ⟨#[]⟩, .slice none 0 0] 24))
  generalize ((w2.alloc (.cells #[numF bs br, textF bs br, doneF bs br] 83)).alloc (.cells #[.int .i64 0, .string ⟨#[]⟩, .slice none 0 0] 24)) = w3 at X ⊢
  clear Q2 H2
  obtain ⟨⟨c0, c1, c2⟩, _⟩ := X.out.bh.get3
  obtain ⟨⟨d0, d1, d2⟩, f0, f1, f2⟩ := X.out.bb.get3
  go_wp2_with fail
  refine (KA.out _ _ _ X.out.h).mono ?_
  rintro e w4 ⟨rfl, h3, t3⟩
  have X2 := Lib.hid (X.out.step h3 t3)
  clear X h3 t3 c0 c1 c2 d0 d1 d2 f0 f1 f2
  obtain ⟨⟨d0, d1, d2⟩, f0, f1, f2⟩ := X2.out.bb.get3
  go_upto_region 4 with (fail)
  have X := Lib.hid (X2.out.setKind (kd : Int))
  clear X2 d0 d1 d2 f0 f1 f2
  generalize w4.setCell ⟨w2.heap.size + 1, 0, none⟩ (.int .i64 (kd : Int)) = w5 at X ⊢
  obtain ⟨⟨c0, c1, c2⟩, _⟩ := X.out.bh.get3
  obtain ⟨⟨d0, d1, d2⟩, f0, f1, f2⟩ := X.out.bb.get3
  go_wp2_with fail
  refine (KB.out _ _ _ X.out.h).mono ?_
  rintro e w6 ⟨rfl, h3, t3⟩
  have X2 := Lib.hid (X.out.step h3 t3)
  clear X h3 t3 c0 c1 c2 d0 d1 d2 f0 f1 f2
  obtain ⟨⟨d0, d1, d2⟩, f0, f1, f2⟩ := X2.out.bb.get3
  go_upto_region 5 with (fail)
  have X := Lib.hid (X2.out.setTok TK)
  clear X2 d0 d1 d2 f0 f1 f2
  generalize w6.setCell ⟨w2.heap.size + 1, 1, none⟩ (.string TK) = w7 at X ⊢
  obtain ⟨⟨c0, c1, c2⟩, _⟩ := X.out.bh.get3
  obtain ⟨⟨d0, d1, d2⟩, f0, f1, f2⟩ := X.out.bb.get3
  go_wp2_with fail
  refine (KC.out _ _ _ X.out.h).mono ?_
  rintro e w8 ⟨rfl, h3, t3⟩
  have X0 := Lib.hid (X.out.step h3 t3)
  clear X h3 t3 c0 c1 c2 d0 d1 d2 f0 f1 f2 KA KB KC
  go_wp2
  go_loopw [20] (fun i wr => ∃ (j : Nat) (x : Bm.Hs) (acc : List Wr) (A : Option Addr) (c : Nat), j ≤ v ∧ i = .int .u64 j ∧ acc.length = j ∧ Tk bs br w w2 x (kd : Int) TK A acc.length c acc wr ∧ Bm.tkWs v [] y3 = Bm.tkWs (v - j) acc x ∧ x.1.length ≤ maxLen) (fun i _ => v - (intOf i).toNat)
  case atStart => exact ⟨0, y3, [], none, 0, Nat.zero_le _, rfl, rfl, X0.out, rfl, HL3.out⟩
  case round =>
    obtain ⟨j, x, acc, A, c, hj, rfl, hal, x1, hT, hxl⟩ := hrel
    have X := Lib.hid x1
    have HAl := Lib.hid hal
    have HTT := Lib.hid hT
    have HX := Lib.hid hxl
    clear x1 hT X0
    by_cases hlt : j < v
    · have hjv : (j : Int) < (v : Int) := by omega
      have HF := Lib.hid (tkWs_fold hlt acc x)
      have HW := Lib.hid (Nat.le_trans (tkW_len x) hxl)
      have KW := Lib.hid (fun W (h : Hd W bs br x) => hwrite_any bs br x W h HX.out)
      have hal2 : acc.length ≤ 24 := by omega
      clear hal hxl
      generalize Bm.tkW x = yy at HF HW KW
      obtain ⟨⟨ka, va, da⟩, y4⟩ := yy
      dsimp only at HF HW KW
      obtain ⟨⟨c0, c1, c2⟩, _⟩ := X.out.bh.get3
      obtain ⟨⟨d0, d1, d2⟩, f0, f1, f2⟩ := X.out.bb.get3
      go_upto_region 7 with (fail)
      refine wp_region_heldL 7 (fun w' => (w'.cell? ⟨w2.heap.size, 0, none⟩ = some (numF bs br) ∧ w'.cell? ⟨w2.heap.size, 1, none⟩ = some (textF bs br) ∧ w'.cell? ⟨w2.heap.size, 2, none⟩ = some (doneF bs br)) ∧ w'.cell? ⟨w2.heap.size + 1, 2, none⟩ = some (.slice A acc.length c)) (by kernel_rfl) ?szz0 (fun hHeld => ?rzz0)
      case szz0 =>
        exact ⟨⟨c0, c1, c2⟩, d2⟩
      case' rzz0 => skip
      refine wpAnyL_take (i := 0) (oi := ?ozz1) (v := ?vzz1) ?hzz1 ?azz1 ?bzz1 ?czz1 ?kzz1 ?qzz1 ?yzz1 ?szz1 ?rzz1
      case hzz1 => simp only [List.getElem?_toArray, List.getElem?_cons_zero]; rfl
      case azz1 => kernel_rfl
      case bzz1 => kernel_rfl
      case czz1 => kernel_rfl
      case kzz1 => kernel_rfl
      case yzz1 =>
        refine Or.inl ⟨by rfl, ?_⟩
        intro w hSw
        obtain ⟨⟨s0, s1, s2⟩, s3⟩ := hSw
        go_simp
        try with_reducible rfl
      case qzz1 => exact fun _ _ _ h => h
      case szz1 => first | assumption | trivial
      case' rzz1 => simp only [Act.put, List.setIfInBounds_toArray, List.set_cons_zero, List.set_cons_succ]
      refine wpAnyL_take (i := 1) (oi := ?ozz2) (v := ?vzz2) ?hzz2 ?azz2 ?bzz2 ?czz2 ?kzz2 ?qzz2 ?yzz2 ?szz2 ?rzz2
      case hzz2 => simp only [List.getElem?_toArray, List.getElem?_cons_zero, List.getElem?_cons_succ]; rfl
      case azz2 => kernel_rfl
      case bzz2 => kernel_rfl
      case czz2 => kernel_rfl
      case kzz2 => kernel_rfl
      case yzz2 =>
        refine Or.inl ⟨by rfl, ?_⟩
        intro w hSw
        obtain ⟨⟨s0, s1, s2⟩, s3⟩ := hSw
        go_simp
        try with_reducible rfl
      case qzz2 => exact fun _ _ _ h => h
      case szz2 => first | assumption | trivial
      case' rzz2 => simp only [Act.put, List.setIfInBounds_toArray, List.set_cons_zero, List.set_cons_succ]
      refine wpAnyL_take (i := 2) (oi := ?ozz3) (v := ?vzz3) ?hzz3 ?azz3 ?bzz3 ?czz3 ?kzz3 ?qzz3 ?yzz3 ?szz3 ?rzz3
      case hzz3 => simp only [List.getElem?_toArray, List.getElem?_cons_zero, List.getElem?_cons_succ]; rfl
      case azz3 => kernel_rfl
      case bzz3 => kernel_rfl
      case czz3 => kernel_rfl
      case kzz3 => kernel_rfl
      case yzz3 =>
        refine Or.inl ⟨by rfl, ?_⟩
        intro w hSw
        obtain ⟨⟨s0, s1, s2⟩, s3⟩ := hSw
        go_simp
        try with_reducible rfl
      case qzz3 => exact fun _ _ _ h => h
      case szz3 => first | assumption | trivial
      case' rzz3 => simp only [Act.put, List.setIfInBounds_toArray, List.set_cons_zero, List.set_cons_succ]
      refine wpAnyL_ready (rs := [3]) (by kernel_rfl) (by simp) ?_
      refine AllReadyL.cons (o := ?ozz8) ?hzz8 (fun K hK => ?kzz8) ?mzz8
      case hzz8 => simp only [List.getElem?_toArray, List.getElem?_cons_zero, List.getElem?_cons_succ]; rfl
      case kzz8 =>
        go_simp
        refine (KW.out _ X.out.drew.h).mono ?_
        rintro e w5 ⟨rfl, h5, t5⟩
        have X2 := Lib.hid (X.out.drew.step h5 t5)
        clear h5 t5
        go_wp2_with fail
        refine hK.out _ _ ?Szz8 (fun hHeld => ?Rzz8)
        case Szz8 =>
          exact ⟨X2.out.bh.get3.1, X2.out.bb.get3.1.2.2⟩
        case Rzz8 =>
          clear hK K
          try simp only [Act.put, List.setIfInBounds_toArray, List.set_cons_zero, List.set_cons_succ]
          refine wpAnyL_ready (rs := [4]) (by kernel_rfl) (by simp) ?_
          refine AllReadyL.cons (o := ?ozz7) ?hzz7 (fun K hK => ?kzz7) ?mzz7
          case hzz7 => simp only [List.getElem?_toArray, List.getElem?_cons_zero, List.getElem?_cons_succ]; rfl
          case kzz7 =>
            go_simp
            refine hK.out _ _ ?Szz7 (fun hHeld => ?Rzz7)
            case Szz7 =>
              exact ⟨(X2.out.ofQ ((Q.refl _).alloc (.cells #[.string ka, .string va, .bool da] 63))).bh.get3.1, (X2.out.ofQ ((Q.refl _).alloc (.cells #[.string ka, .string va, .bool da] 63))).bb.get3.1.2.2⟩
            case Rzz7 =>
              clear hK K
              try simp only [Act.put, List.setIfInBounds_toArray, List.set_cons_zero, List.set_cons_succ]
              refine wpAnyL_ready (rs := [5]) (by kernel_rfl) (by simp) ?_
              refine AllReadyL.cons (o := ?ozz6) ?hzz6 (fun K hK => ?kzz6) ?mzz6
              case hzz6 => simp only [List.getElem?_toArray, List.getElem?_cons_zero, List.getElem?_cons_succ]; rfl
              case kzz6 =>
                refine step_appKD writeK (by rfl) _ _ _ rfl (by rfl) (w2.heap.size + 1 + 1) A acc.length c acc (by rfl) (X2.out.ofQ ((Q.refl _).alloc (.cells #[.string ka, .string va, .bool da] 63))).own (some ⟨w5.heap.size, 0, none⟩) 1 1 [⟨ka, va, da⟩] (by rfl) (lit_write w5 ⟨ka, va, da⟩).lst (fun e => by cases e) (by show (acc.length + 1) * 40 ≤ _; omega) (X2.out.ofQ ((Q.refl _).alloc (.cells #[.string ka, .string va, .bool da] 63))).l3 ?_
                intro A6 c6 w6 o6 b6
                refine hK.out _ _ ?Szz6 (fun hHeld => ?Rzz6)
                case Szz6 =>
                  exact ⟨(((X2.out.ofQ ((Q.refl _).alloc (.cells #[.string ka, .string va, .bool da] 63))).bh.below b6 (by omega)).get3).1, (((X2.out.ofQ ((Q.refl _).alloc (.cells #[.string ka, .string va, .bool da] 63))).bb.below b6 (by omega)).get3).1.2.2⟩
                case Rzz6 =>
                  clear hK K
                  try simp only [Act.put, List.setIfInBounds_toArray, List.set_cons_zero, List.set_cons_succ]
                  refine wpAnyL_take (i := 6) (oi := ?ozz4) (v := ?vzz4) ?hzz4 ?azz4 ?bzz4 ?czz4 ?kzz4 ?qzz4 ?yzz4 ?szz4 ?rzz4
                  case hzz4 => simp only [List.getElem?_toArray, List.getElem?_cons_zero, List.getElem?_cons_succ]; rfl
                  case azz4 => kernel_rfl
                  case bzz4 => kernel_rfl
                  case czz4 => kernel_rfl
                  case kzz4 => kernel_rfl
                  case yzz4 =>
                    refine Or.inl ⟨by rfl, ?_⟩
                    intro w hSw
                    obtain ⟨⟨s0, s1, s2⟩, s3⟩ := hSw
                    go_simp
                    try with_reducible rfl
                  case qzz4 => exact fun _ _ _ h => h
                  case szz4 => first | assumption | trivial
                  case' rzz4 => simp only [Act.put, List.setIfInBounds_toArray, List.set_cons_zero, List.set_cons_succ]
                  refine wpAnyL_ready (rs := [7]) (by kernel_rfl) (by simp) ?_
                  refine AllReadyL.consK (o := ?ozz5) ?hzz5 ?lzz5 (fun K hK => ?kzz5) ?mzz5
                  case hzz5 => simp only [List.getElem?_toArray, List.getElem?_cons_zero, List.getElem?_cons_succ]; rfl
                  case lzz5 => kernel_rfl
                  case kzz5 =>
                    obtain ⟨⟨p0, p1, p2⟩, p3, p4, p5⟩ := ((X2.out.ofQ ((Q.refl _).alloc (.cells #[.string ka, .string va, .bool da] 63))).bb.below b6 (by omega)).get3
                    go_simp
                    refine hK.out _ _ ?Rzz5
                    case Rzz5 =>
                      clear hK K
                      try simp only [Act.put, List.setIfInBounds_toArray, List.set_cons_zero, List.set_cons_succ]
                      refine wpAnyH_done (by kernel_rfl) ?_ _
                      have X9 := Lib.hid ((X2.out.ofQ ((Q.refl _).alloc (.cells #[.string ka, .string va, .bool da] 63))).setWs b6 o6)
                      go_wp2
                      go_roundw
                      case rel => exact ⟨j + 1, y4, acc ++ [⟨ka, va, da⟩], A6, c6, by omega, by go_num, by rw [List.length_append, HAl.out]; rfl, by rw [List.length_append]; exact X9.out, by rw [HTT.out]; exact HF.out, HW.out⟩
                      case measure => simp [intOf]; omega
                  case' mzz5 => skip
                  exact AllReadyL.nil
              case' mzz6 => skip
              exact AllReadyL.nil
          case' mzz7 => skip
          exact AllReadyL.nil
      case' mzz8 => skip
      exact AllReadyL.nil
    · have hjv : j = v := by omega
      have HTl := Lib.hid (show Bm.tkWs v [] y3 = (acc, x) by rw [HTT.out, hjv, Nat.sub_self]; rfl)
      have HT2 := Lib.hid (show T = Bm.fin (⟨(kd : Int), TK, acc⟩, x) by rw [HT.out, HTl.out])
      have hal2 : acc.length ≤ 24 := by omega
      have hjn : ¬((j : Int) < (v : Int)) := by omega
      clear hjv hal hxl HTl HTT HT HX
      obtain ⟨⟨c0, c1, c2⟩, _⟩ := X.out.bh.get3
      obtain ⟨⟨d0, d1, d2⟩, f0, f1, f2⟩ := X.out.bb.get3
      have KD := Lib.hid (hdone_any bs br x wr X.out.h)
      have KM := Lib.hid (fun W q => may_any (kd : Int) TK A acc.length c acc W (X.out.own.lst.q q) (by unfold maxLen; omega))
      obtain ⟨xl, xo⟩ := x
      simp only at KD
      by_cases hd : (xo && decide (xl = [])) = true
      · rw [hd] at KD
        cases hm : Bm.may ⟨(kd : Int), TK, acc⟩ with
        | false =>
          rw [hm] at KM
          have HB := Lib.hid (HT2.out.trans (show Bm.fin (⟨(kd : Int), TK, acc⟩, (xl, xo)) = (⟨0, ⟨#[]⟩, []⟩, 3) by unfold Bm.fin; rw [if_neg (by rw [hm]; simp)]))
          clear hd hm
          go_wp2_with fail
          refine KD.out.mono ?_
          rintro e w9 ⟨rfl, q9⟩
          have Y := Lib.hid (X.out.ofQ q9)
          have Q9 := Lib.hid q9
          clear q9 c0 c1 c2 d0 d1 d2 f0 f1 f2 X
          obtain ⟨⟨d0, d1, d2⟩, f0, f1, f2⟩ := Y.out.bb.get3
          go_wp2_with fail
          refine (KM.out _ Q9.out).mono ?_
          rintro e w10 ⟨rfl, q10⟩
          have Y2 := Lib.hid (Y.out.ofQ q10)
          clear q10 d0 d1 d2 f0 f1 f2 Y Q9
          obtain ⟨⟨p0, p1, p2⟩, p3, p4, p5⟩ := Y2.out.res.get3
          go_wp2
          obtain ⟨⟨r0, r1, r2⟩, _⟩ := (Y2.out.res.set3 (.int .i64 0) (.string ⟨#[]⟩) (.slice none 0 0)).get3
          refine bodyPost_ret (v := .tuple #[batV 0 ⟨#[]⟩ none 0 0, .int .i64 3]) (by simp [results, Try.results14, go_sem, r0, r1, r2]) rfl ?_
          rw [HB.out]
          exact ⟨none, 0, rfl, OwnK.nil_ _ _ _, Y2.out.q.set3 (Nat.le_refl _) _ _ _⟩
        | true =>
          rw [hm] at KM
          have HB := Lib.hid (HT2.out.trans (show Bm.fin (⟨(kd : Int), TK, acc⟩, (xl, xo)) = (⟨(kd : Int), TK, acc⟩, 0) by unfold Bm.fin; rw [if_pos ⟨by simp at hd; exact hd.1, by simp at hd; exact hd.2, hm⟩]))
          clear hd hm
          go_wp2_with fail
          refine KD.out.mono ?_
          rintro e w9 ⟨rfl, q9⟩
          have Y := Lib.hid (X.out.ofQ q9)
          have Q9 := Lib.hid q9
          clear q9 c0 c1 c2 d0 d1 d2 f0 f1 f2 X
          obtain ⟨⟨d0, d1, d2⟩, f0, f1, f2⟩ := Y.out.bb.get3
          go_wp2_with fail
          refine (KM.out _ Q9.out).mono ?_
          rintro e w10 ⟨rfl, q10⟩
          have Y2 := Lib.hid (Y.out.ofQ q10)
          clear q10 d0 d1 d2 f0 f1 f2 Y Q9
          obtain ⟨⟨d0, d1, d2⟩, f0, f1, f2⟩ := Y2.out.bb.get3
          obtain ⟨⟨p0, p1, p2⟩, p3, p4, p5⟩ := Y2.out.res.get3
          go_wp2
          obtain ⟨⟨r0, r1, r2⟩, _⟩ := (Y2.out.res.set3 (.int .i64 (kd : Int)) (.string TK) (.slice A acc.length c)).get3
          refine bodyPost_ret (v := .tuple #[batV (kd : Int) TK A acc.length c, .int .i64 0]) (by simp [results, Try.results14, go_sem, r0, r1, r2]) rfl ?_
          rw [HB.out]
          exact ⟨A, c, rfl, ((((Y2.out.own.setCell (p := ⟨w.heap.size, 0, none⟩) (by have := Y2.out.g1; have := Y2.out.l1; simp only; omega) _).setCell (p := ⟨w.heap.size, 1, none⟩) (by have := Y2.out.g1; have := Y2.out.l1; simp only; omega) _).setCell (p := ⟨w.heap.size, 2, none⟩) (by have := Y2.out.g1; have := Y2.out.l1; simp only; omega) _).lower (by have := Y2.out.g1; have := Y2.out.l1; omega)), Y2.out.q.set3 (Nat.le_refl _) _ _ _⟩
      · have hd' : (xo && decide (xl = [])) = false := by simpa using hd
        rw [hd'] at KD
        have HB := Lib.hid (HT2.out.trans (show Bm.fin (⟨(kd : Int), TK, acc⟩, (xl, xo)) = (⟨0, ⟨#[]⟩, []⟩, 3) by unfold Bm.fin; rw [if_neg (by rintro ⟨h1, h2, _⟩; simp only at h1 h2; rw [h1, h2] at hd'; simp at hd')]))
        clear hd hd'
        go_wp2_with fail
        refine KD.out.mono ?_
        rintro e w9 ⟨rfl, q9⟩
        have Y2 := Lib.hid (X.out.ofQ q9)
        clear q9 c0 c1 c2 d0 d1 d2 f0 f1 f2 X
        obtain ⟨⟨p0, p1, p2⟩, p3, p4, p5⟩ := Y2.out.res.get3
        go_wp2
        obtain ⟨⟨r0, r1, r2⟩, _⟩ := (Y2.out.res.set3 (.int .i64 0) (.string ⟨#[]⟩) (.slice none 0 0)).get3
        refine bodyPost_ret (v := .tuple #[batV 0 ⟨#[]⟩ none 0 0, .int .i64 3]) (by simp [results, Try.results14, go_sem, r0, r1, r2]) rfl ?_
        rw [HB.out]
        exact ⟨none, 0, rfl, OwnK.nil_ _ _ _, Y2.out.q.set3 (Nat.le_refl _) _ _ _⟩

theorem btake_any (s : ByteArray) (w : World) (hs : s.size ≤ maxLen) :
    Calls Try.prog 14 #[.string s] w (RetTB w (Bm.take s.data.toList)) := by
  have n1 := tkN_le 2 (s.data.toList, true)
  have l1 := tkN_len 2 (s.data.toList, true)
  have l2 := tkT_len 16 (Bm.tkN 2 (s.data.toList, true)).2
  have n3 := tkN_le 24 (Bm.tkT 16 (Bm.tkN 2 (s.data.toList, true)).2).2
  have l3 := tkN_len 24 (Bm.tkT 16 (Bm.tkN 2 (s.data.toList, true)).2).2
  have hs0 : s.data.toList.length ≤ maxLen := by rw [Rn.size_data]; exact hs
  exact btake_core s w (Bm.tkN 2 (s.data.toList, true)).1 (Bm.tkN 24 (Bm.tkT 16 (Bm.tkN 2 (s.data.toList, true)).2).2).1 (Bm.tkN 2 (s.data.toList, true)).2 (Bm.tkT 16 (Bm.tkN 2 (s.data.toList, true)).2).2 (Bm.tkN 24 (Bm.tkT 16 (Bm.tkN 2 (s.data.toList, true)).2).2).2 _ _
    (fun bs br W h => hnum_any 2 bs br (s.data.toList, true) W h hs0 (by omega)) (fun bs br W h => htext_any 16 bs br _ W h (Nat.le_trans l1 hs0) (by omega) (by omega)) (fun bs br W h => hnum_any 24 bs br _ W h (Nat.le_trans l2 (Nat.le_trans l1 hs0)) (by omega))
    (by simp only [Bm.take, Bm.tkB, Bm.tkH]) (by omega) (by omega) (Nat.le_trans l3 (Nat.le_trans l2 (Nat.le_trans l1 hs0)))
end Go.Proofs.Ytlbjobbmjccekaa

/- Contracts of the document's own TakeNum, TakeText. -/
namespace Go.Proofs.Ytlbjobbmjccekaa
set_option maxRecDepth 100000
open Go.RowKit
set_option linter.unusedVariables false

/-- how the figures end. -/
theorem figs_end (l : List UInt8) : (Dm.figs l).length = l.length ∨ ∃ h : (Dm.figs l).length < l.length, Dm.isD (l[(Dm.figs l).length]) = false := by
  rcases Nat.lt_or_ge (Dm.figs l).length l.length with h | h
  · right
    refine ⟨h, ?_⟩
    have hr : Dm.rest l = l[(Dm.figs l).length] :: l.drop ((Dm.figs l).length + 1) := by rw [Dm.rest_eq, List.drop_eq_getElem_cons h]
    have hne : Dm.rest l ≠ [] := by rw [hr]; exact List.cons_ne_nil _ _
    have := List.head_dropWhile_not Dm.isD hne
    have e : (List.dropWhile Dm.isD l).head hne = l[(Dm.figs l).length] := by
      show (Dm.rest l).head hne = _
      simp only [hr, List.head_cons]
    rw [e] at this
    simpa using this
  · left; have := Dm.figs_len l; omega
theorem figs_get (l : List UInt8) (i : Nat) (h : i < (Dm.figs l).length) (h' : i < l.length) : Dm.isD l[i] = true := by
  have := Dm.figs_all l _ (List.getElem_mem h)
  have e := Dm.figs_eq l
  have e2 : (Dm.figs l)[i] = l[i] := by
    have : (Dm.figs l)[i]? = (l.take (Dm.figs l).length)[i]? := by rw [← e]
    rw [List.getElem?_take, if_pos h, List.getElem?_eq_getElem h, List.getElem?_eq_getElem h'] at this
    injection this
  rw [← e2]; exact this
theorem bad_long (l : List UInt8) (h : 20 < (Dm.figs l).length) : Dm.bad l = true := by
  cases hl : l with
  | nil => rw [hl] at h; simp [Dm.figs] at h
  | cons c r =>
    rw [← hl]
    have hh : l.head? = some c := by rw [hl]; rfl
    by_cases h0 : c.toNat = 48
    · have hc : c = 48 := UInt8.toNat_inj.1 (by rw [h0]; rfl)
      unfold Dm.bad; rw [decide_eq_true (show 1 < (Dm.figs l).length by omega), hh, hc]; rfl
    · have hl0 : 0 < l.length := by rw [hl]; simp
      have hd := figs_get l 0 (by omega) hl0
      have e : l[0] = c := by simp [hl]
      rw [e] at hd
      cases hf : Dm.figs l with
      | nil => rw [hf] at h; simp at h
      | cons c2 r2 =>
        have hc2 : c2 = c := by
          have := Dm.figs_rest l
          rw [hf, hl] at this
          simp at this; exact this.1
        have := Dm.val_big (Dm.figs l) c2 r2 hf (by rw [hc2]; exact hd) (by rw [hc2]; exact h0) h
        unfold Dm.bad; rw [decide_eq_true this, Bool.or_true]
theorem bad_lead (l : List UInt8) (h : 1 < (Dm.figs l).length) (h0 : l.head? = some 48) : Dm.bad l = true := by
  unfold Dm.bad; rw [decide_eq_true h, h0]; rfl
theorem tnum_bad (l : List UInt8) (h : Dm.bad l = true) : Dm.tnum l = (0, [], 3) := by unfold Dm.tnum; rw [if_pos h]

theorem tnum_more (l : List UInt8) (hb : Dm.bad l = false) (h : (Dm.figs l).length = l.length) : Dm.tnum l = (0, [], 2) := by
  unfold Dm.tnum
  rw [hb, if_neg (by simp), if_pos (by rw [Dm.rest_eq, h, List.drop_length])]
theorem rest_cons (l : List UInt8) (h : (Dm.figs l).length < l.length) : Dm.rest l = l[(Dm.figs l).length] :: l.drop ((Dm.figs l).length + 1) := by
  rw [Dm.rest_eq, List.drop_eq_getElem_cons h]
theorem tnum_other (l : List UInt8) (hb : Dm.bad l = false) (h : (Dm.figs l).length < l.length) (hc : l[(Dm.figs l).length] ≠ 59 ∨ (Dm.figs l).length = 0) : Dm.tnum l = (0, [], 3) := by
  unfold Dm.tnum
  rw [hb, if_neg (by simp), rest_cons l h, if_neg (List.cons_ne_nil _ _), if_pos]
  rcases hc with hc | hc
  · left; rw [List.head?_cons]; intro e; injection e with e; exact hc e
  · right; exact List.length_eq_zero_iff.1 hc
theorem tnum_ok (l : List UInt8) (hb : Dm.bad l = false) (h : (Dm.figs l).length < l.length) (hc : l[(Dm.figs l).length] = 59) (h0 : (Dm.figs l).length ≠ 0) :
    Dm.tnum l = (Dm.val (Dm.figs l), l.drop ((Dm.figs l).length + 1), 0) := by
  unfold Dm.tnum
  rw [hb, if_neg (by simp), rest_cons l h, if_neg (List.cons_ne_nil _ _), if_neg]
  · rfl
  · rintro (e | e)
    · simp [hc] at e
    · exact h0 (List.length_eq_zero_iff.2 e)

set_option maxHeartbeats 1000000 in
theorem refTakeNum_any (s : ByteArray) (w : World) (hs : s.size ≤ maxLen) :
    Calls Try.prog 41 #[.string s] w fun e w' => e = .returned (tnR (Dm.tnum s.data.toList)) ∧ Q w w' := by
  unfold maxLen at hs
  have hend0 := figs_end s.data.toList
  have hle : (Dm.figs s.data.toList).length ≤ s.size := by have := Dm.figs_len s.data.toList; rw [size_list] at this; exact this
  have hget := figs_get s.data.toList
  have hfe := Dm.figs_eq s.data.toList
  have hbl := bad_long s.data.toList
  have hbz := bad_lead s.data.toList
  have hbb := tnum_bad s.data.toList
  have hrest := Dm.rest_eq s.data.toList
  have hnil : Dm.figs s.data.toList = [] ↔ (Dm.figs s.data.toList).length = 0 := List.length_eq_zero_iff.symm
  obtain ⟨N, hN⟩ : ∃ N, N = (Dm.figs s.data.toList).length := ⟨_, rfl⟩
  rw [← hN] at hle hget hbl hbz hrest hnil
  have hdig : ∀ i (h : i < N) (h' : i < s.size), 48 ≤ s[i].toNat ∧ s[i].toNat ≤ 57 := by
    intro i h h'
    have := hget i h (by rw [size_list]; exact h')
    rw [get_list, Dm.isD_iff] at this; exact this
  have hend : s.size ≤ N ∨ (∃ h : N < s.size, s[N].toNat < 48) ∨ (∃ h : N < s.size, 57 < s[N].toNat) := by
    rcases hend0 with h | ⟨h, h2⟩
    · left; rw [hN, h, size_list]; exact Nat.le_refl _
    · right
      have h3 : N < s.size := by rw [hN]; rw [size_list] at h; exact h
      have h4 : Dm.isD s[N] = false := by
        have : s[N] = s.data.toList[(Dm.figs s.data.toList).length] := by simp only [hN]; rfl
        rw [this]; exact h2
      unfold Dm.isD at h4
      simp only [Bool.and_eq_false_iff, decide_eq_false_iff_not] at h4
      rcases h4 with h4 | h4
      · left; exact ⟨h3, by omega⟩
      · right; exact ⟨h3, by omega⟩
  have HDIG := Lib.hid hdig
  have HFE := Lib.hid hfe
  have HNIL := Lib.hid hnil
  have HREST := Lib.hid hrest
  have HBB := Lib.hid hbb
  have HN := Lib.hid hN
  clear hend0 hget hfe hdig hnil hrest hbb
  by_cases cL : 20 < N ∨ (1 < N ∧ ∃ h : 0 < s.size, s[0].toNat = 48)
  · have hbad : Dm.bad s.data.toList = true := by
      rcases cL with h | ⟨h, h1, h2⟩
      · exact hbl h
      · exact hbz h (by rw [head_list s h1]; congr 1; exact UInt8.toNat_inj.1 (by rw [h2]; rfl))
    have ht := HBB.out hbad
    have HT := Lib.hid ht
    have CL := Lib.hid cL
    clear ht hbl hbz cL hbad hN
    rcases hend with hend | ⟨hlt, hend⟩ | ⟨hlt, hend⟩
    all_goals
      go_enter Try.func41, Try.ntmps41
      go_wp2
      go_loop [5] (fun n => ∃ k : Nat, k ≤ N ∧ n = .int .i64 k) (fun n => N - (intOf n).toNat)
      case atStart => exact ⟨0, Nat.zero_le _, rfl⟩
      case round =>
        obtain ⟨k, hk, rfl⟩ := hrel
        by_cases c : k < N
        · have hks : k < s.size := by omega
          obtain ⟨d1, d2⟩ := HDIG.out k c hks
          go_wp2
          go_round
          case rel => exact ⟨k + 1, by omega, by go_num⟩
          case measure => simp [intOf]; omega
        · obtain rfl : k = N := by omega
          by_cases cN : 20 < k
          · have dN : decide (20 < (k : Int)) = true := by simp; omega
            go_wp2
            go_ret3
            exact ⟨by rw [HT.out]; rfl, Q.refl _⟩
          · have h1 : 1 < k := by have := CL.out; omega
            have h0s : 0 < s.size := by omega
            have hb : ((s[0].toNat : Int) == 48) = true := by
              rcases CL.out with h | ⟨_, _, h⟩
              · omega
              · simp; omega
            go_wp2
            go_ret3
            exact ⟨by rw [HT.out]; rfl, Q.refl _⟩
  have cN : N ≤ 20 := by
    rcases Nat.lt_or_ge 20 N with h | h
    · exact absurd (.inl h) cL
    · exact h
  have hz : 1 < N → ∀ h : 0 < s.size, ((s[0].toNat : Int) == 48) = false := by
    intro h1 h2
    have : ¬ s[0].toNat = 48 := fun e => cL (.inr ⟨h1, h2, e⟩)
    simp; omega
  have HZ := Lib.hid hz
  have dN : decide (20 < (N : Int)) = false := by simp; omega
  have hvl : Dm.val (s.data.toList.take N) = Dm.val (Dm.figs s.data.toList) := by rw [HN.out]; rw [← HFE.out]
  have HVL := Lib.hid hvl
  have hmono : ∀ k, k < N → Dm.maxU < Dm.val (s.data.toList.take (k + 1)) → Dm.tnum s.data.toList = (0, [], 3) := by
    intro k hk h
    apply HBB.out
    refine Dm.bad_big s.data.toList k (by rw [size_list]; omega) ?_ h
    intro i hi
    rw [get_list, Dm.isD_iff]; exact HDIG.out i (by omega) (by omega)
  have HM := Lib.hid hmono
  have hgood : Dm.val (Dm.figs s.data.toList) ≤ Dm.maxU → Dm.bad s.data.toList = false := by
    intro h
    refine Dm.bad_not s.data.toList N (by rw [HN.out]; exact HFE.out) (by rw [size_list]; exact hle) ?_ (by rw [hvl]; exact h)
    intro h1 e
    have h2 : 0 < s.size := by omega
    rw [head_list s h2] at e
    injection e with e
    have := hz h1 h2
    rw [e] at this
    exact absurd this (by decide)
  have HG := Lib.hid hgood
  clear hbl hbz cL hz hN hvl hmono hgood
  rcases hend with hend | ⟨hlt, hend⟩ | ⟨hlt, hend⟩
  all_goals
    go_enter Try.func41, Try.ntmps41
    go_wp2
    go_loop [5] (fun n => ∃ k : Nat, k ≤ N ∧ n = .int .i64 k) (fun n => N - (intOf n).toNat)
    case atStart => exact ⟨0, Nat.zero_le _, rfl⟩
    case round =>
      obtain ⟨k, hk, rfl⟩ := hrel
      by_cases c : k < N
      · have hks : k < s.size := by omega
        obtain ⟨d1, d2⟩ := HDIG.out k c hks
        go_wp2
        go_round
        case rel => exact ⟨k + 1, by omega, by go_num⟩
        case measure => simp [intOf]; omega
      · obtain rfl : k = N := by omega
        have hcase : k ≤ 1 ∨ (1 < k ∧ ∃ h : 0 < s.size, ((s[0].toNat : Int) == 48) = false) := by
          rcases Nat.lt_or_ge 1 k with h | h
          · exact .inr ⟨h, by omega, HZ.out h (by omega)⟩
          · exact .inl h
        rcases hcase with h1 | ⟨h1, h0s, hb0⟩
        all_goals
          go_wp2
          go_loop [6, 7] (fun v i => ∃ j : Nat, j ≤ k ∧ i = .int .i64 j ∧ v = .int .u64 (Dm.val (s.data.toList.take j)) ∧ Dm.val (s.data.toList.take j) ≤ Dm.maxU) (fun _ i => k - (intOf i).toNat)
          case atStart => exact ⟨0, Nat.zero_le _, rfl, rfl, Nat.zero_le _⟩
          case round =>
            obtain ⟨j, hj, rfl, rfl, hv⟩ := hrel
            by_cases c2 : j < k
            · have hjs : j < s.size := by omega
              obtain ⟨d1, d2⟩ := HDIG.out j c2 hjs
              have e1 := Dm.val_snoc (s.data.toList.take j) s[j]
              rw [← take_snoc' s j hjs] at e1
              have hov := HM.out j c2
              generalize hA : Dm.val (s.data.toList.take j) = A at *
              rw [e1] at hov
              have hdv : Dm.dv s[j] = s[j].toNat - 48 := rfl
              rw [hdv] at e1 hov
              have H1 := Lib.hid e1
              have HO := Lib.hid hov
              unfold Dm.maxU at hv
              clear e1 hov hdv hA
              by_cases c3 : 1844674407370955161 < A
              · have HT := Lib.hid (HO.out (by unfold Dm.maxU; omega))
                have c3' : decide ((1844674407370955161 : Int) < (A : Int)) = true := by simp; omega
                go_wp2
                go_ret3
                exact ⟨by rw [HT.out]; rfl, Q.refl _⟩
              have c3' : decide ((1844674407370955161 : Int) < (A : Int)) = false := by simp; omega
              by_cases c4 : A = 1844674407370955161
              · have c4' : ((A : Int) == 1844674407370955161) = true := by simp; omega
                by_cases c5 : 53 < s[j].toNat
                · have HT := Lib.hid (HO.out (by unfold Dm.maxU; omega))
                  clear c4
                  go_wp2
                  go_ret3
                  exact ⟨by rw [HT.out]; rfl, Q.refl _⟩
                · have c5' : s[j].toNat ≤ 53 := by omega
                  have hle2 : 10 * A + (s[j].toNat - 48) ≤ 18446744073709551615 := by omega
                  have hle3 : 10 * (A : Int) + ((s[j].toNat : Int) - 48) ≤ 18446744073709551615 := by omega
                  have HN2 := Lib.hid (show ((10 * A + (s[j].toNat - 48) : Nat) : Int) = 10 * (A : Int) + ((s[j].toNat : Int) - 48) by omega)
                  have HL2 := Lib.hid hle2
                  clear c4 hle2
                  go_wp2
                  go_round
                  case rel => exact ⟨j + 1, by omega, by go_num, by rw [H1.out, HN2.out], by rw [H1.out]; exact HL2.out⟩
                  case measure => simp [intOf]; omega
              · have c4' : ((A : Int) == 1844674407370955161) = false := by simp; omega
                have hle2 : 10 * A + (s[j].toNat - 48) ≤ 18446744073709551615 := by omega
                have hle3 : 10 * (A : Int) + ((s[j].toNat : Int) - 48) ≤ 18446744073709551615 := by omega
                have HN2 := Lib.hid (show ((10 * A + (s[j].toNat - 48) : Nat) : Int) = 10 * (A : Int) + ((s[j].toNat : Int) - 48) by omega)
                have HL2 := Lib.hid hle2
                clear c4 hle2
                go_wp2
                go_round
                case rel => exact ⟨j + 1, by omega, by go_num, by rw [H1.out, HN2.out], by rw [H1.out]; exact HL2.out⟩
                case measure => simp [intOf]; omega
            · obtain rfl : j = k := by omega
              have hg := HG.out (by rw [← HVL.out]; exact hv)
              by_cases c6 : j = s.size
              · have HT := Lib.hid (tnum_more s.data.toList hg (by rw [size_list, ← HN.out]; exact c6))
                have hbe : ((j : Int) == (s.size : Int)) = true := by simp; omega
                clear hg
                first
                  | (exfalso; omega)
                  | (clear c6
                     go_wp2
                     go_ret3
                     exact ⟨by rw [HT.out]; rfl, Q.refl _⟩)
              · have hbe : ((j : Int) == (s.size : Int)) = false := by simp; omega
                have hjs : j < s.size := by omega
                have hgt : s.data.toList[(Dm.figs s.data.toList).length]'(by rw [size_list, ← HN.out]; exact hjs) = s[j] := by
                  simp only [← HN.out]; rfl
                all_goals (try (exfalso; omega))
                all_goals
                  by_cases c7 : s[j].toNat = 59 ∧ j ≠ 0
                  · obtain ⟨c7, c8⟩ := c7
                    have ht := tnum_ok s.data.toList hg (by rw [size_list, ← HN.out]; exact hjs) (by rw [hgt]; exact UInt8.toNat_inj.1 (by rw [c7]; rfl)) (by rw [← HN.out]; exact c8)
                    rw [← HN.out, ← HVL.out] at ht
                    have he := extract_list s (j + 1) s.size
                    rw [List.take_of_length_le (by rw [size_list]; omega)] at he
                    have HT := Lib.hid ht
                    have HE := Lib.hid he
                    have hne : ((s[j].toNat : Int) != 59) = false := by simp; omega
                    have h0 : ((j : Int) == 0) = false := by simp; omega
                    have e1 : IntKind.i64.wrap ((j : Int) + 1) = (j : Int) + 1 := IntWalk.i64_in _ (by omega)
                    have e2 : 0 ≤ (j : Int) + 1 := by omega
                    have e3 : ((j : Int) + 1).toNat = j + 1 := by omega
                    have e4 : (j : Int) + 1 ≤ (s.size : Int) := by omega
                    clear ht he hg hgt c7 c8 c6 hend
                    generalize Dm.val (s.data.toList.take j) = A at *
                    go_wp2
                    go_quiet (fail)
                    go_wp2
                    go_ret3
                    refine ⟨?_, (Q.refl _).drewN _⟩
                    rw [HT.out]; unfold tnR
                    simp only [← HE.out]; rfl
                  · have HT := Lib.hid (tnum_other s.data.toList hg (by rw [size_list, ← HN.out]; exact hjs) (by
                      rw [hgt, ← HN.out]
                      rcases Nat.eq_zero_or_pos j with e | e
                      · exact .inr e
                      · left; intro e2; exact c7 ⟨by rw [e2]; rfl, by omega⟩))
                    have C7 := Lib.hid c7
                    clear hg hgt c7 c6
                    by_cases c8 : s[j].toNat = 59
                    · have hne : ((s[j].toNat : Int) != 59) = false := by simp; omega
                      have h0 : ((j : Int) == 0) = true := by have := C7.out; simp; omega
                      clear c8
                      go_wp2
                      go_ret3
                      exact ⟨by rw [HT.out]; rfl, Q.refl _⟩
                    · have hne : ((s[j].toNat : Int) != 59) = true := by simp; omega
                      clear c8
                      go_wp2
                      go_ret3
                      exact ⟨by rw [HT.out]; rfl, Q.refl _⟩
end Go.Proofs.Ytlbjobbmjccekaa

/- The contract of the document's own TakeText. -/
namespace Go.Proofs.Ytlbjobbmjccekaa
set_option maxRecDepth 100000
open Go.RowKit
set_option linter.unusedVariables false

set_option maxHeartbeats 400000 in
theorem refTakeText_any (s : ByteArray) (most : Int) (w : World) (hs : s.size ≤ maxLen) (hm0 : -9223372036854775808 ≤ most) (hm1 : most ≤ 9223372036854775807) :
    Calls Try.prog 42 #[.string s, .int .i64 most] w fun e w' => e = .returned (ttR (Dm.ttext s.data.toList most)) ∧ Q w w' := by
  have hlen := Dm.tnum_len s.data.toList
  have hle := Dm.tnum_le s.data.toList
  have hcall := refTakeNum_any s w hs
  have htx : Dm.ttext s.data.toList most = if (Dm.tnum s.data.toList).2.2 ≠ 0 then ([], [], (Dm.tnum s.data.toList).2.2) else if most < 0 ∨ most < ((Dm.tnum s.data.toList).1 : Int) then ([], [], 4) else if (Dm.tnum s.data.toList).2.1.length < (Dm.tnum s.data.toList).1 then ([], [], 2)
    else ((Dm.tnum s.data.toList).2.1.take (Dm.tnum s.data.toList).1, (Dm.tnum s.data.toList).2.1.drop (Dm.tnum s.data.toList).1, 0) := rfl
  have herr := Dm.tnum_err s.data.toList
  generalize Dm.tnum s.data.toList = x at *
  obtain ⟨n, r, er⟩ := x
  obtain ⟨R, hR⟩ : ∃ R : ByteArray, R = ⟨r.toArray⟩ := ⟨_, rfl⟩
  have hsz : R.size = r.length := by rw [hR]; show r.toArray.size = _; simp
  have hl : R.data.toList = r := by rw [hR]
  unfold tnR at hcall
  simp only at hlen hle hcall htx herr
  rw [← hR] at hcall
  have hRle : R.size ≤ s.size := by rw [hsz]; rw [size_list] at hlen; exact hlen
  unfold maxLen at hs
  unfold Dm.maxU at hle
  have HC := Lib.hid hcall
  have HT := Lib.hid htx
  have HSZ := Lib.hid hsz
  have HL := Lib.hid hl
  clear hcall htx hsz hl hR hlen
  by_cases c0 : er = 0
  · subst c0
    clear herr
    by_cases c1 : most < 0 ∨ most < (n : Int)
    · have ht : Dm.ttext s.data.toList most = ([], [], 4) := by rw [HT.out, if_neg (by simp), if_pos c1]
      have HT2 := Lib.hid ht
      have C1 := Lib.hid c1
      clear ht c1
      by_cases c3 : most < 0
      · have d3 : decide (most < 0) = true := by simpa using c3
        go_enter Try.func42, Try.ntmps42
        go_wp2_with fail
        refine HC.out.mono ?_
        rintro e w1 ⟨rfl, q1⟩
        go_wp2_with fail
        go_ret3
        exact ⟨by rw [HT2.out]; rfl, q1⟩
      · have c3' : 0 ≤ most := by omega
        have d3 : decide (most < 0) = false := by simpa using c3'
        have c4 : most < (n : Int) := by have := C1.out; omega
        clear c3
        go_enter Try.func42, Try.ntmps42
        go_wp2_with fail
        refine HC.out.mono ?_
        rintro e w1 ⟨rfl, q1⟩
        go_wp2_with fail
        go_ret3
        exact ⟨by rw [HT2.out]; rfl, q1⟩
    have c1' : 0 ≤ most := by omega
    have c1'' : (n : Int) ≤ most := by omega
    have d3 : decide (most < 0) = false := by simpa using c1'
    by_cases c2 : R.size < n
    · have ht : Dm.ttext s.data.toList most = ([], [], 2) := by rw [HT.out, if_neg (by simp), if_neg c1, if_pos (by rw [← HSZ.out]; exact c2)]
      have HT2 := Lib.hid ht
      clear ht c1
      go_enter Try.func42, Try.ntmps42
      go_wp2_with fail
      refine HC.out.mono ?_
      rintro e w1 ⟨rfl, q1⟩
      go_wp2_with fail
      go_ret3
      exact ⟨by rw [HT2.out]; rfl, q1⟩
    have c2' : n ≤ R.size := by omega
    have ht : Dm.ttext s.data.toList most = (r.take n, r.drop n, 0) := by rw [HT.out, if_neg (by simp), if_neg c1, if_neg (by rw [← HSZ.out]; exact c2)]
    have he1 := extract_list R 0 n
    have he2 := extract_list R n R.size
    rw [List.take_of_length_le (by rw [size_list]; omega), HL.out] at he2
    rw [HL.out, List.drop_zero] at he1
    have HT2 := Lib.hid ht
    have HE1 := Lib.hid he1
    have HE2 := Lib.hid he2
    have e4 : (n : Int) ≤ (R.size : Int) := by omega
    clear ht c1 c2 he1 he2
    go_enter Try.func42, Try.ntmps42
    go_wp2_with fail
    refine HC.out.mono ?_
    rintro e w1 ⟨rfl, q1⟩
    go_wp2_with fail
    go_quiet (fail)
    go_wp2_with fail
    go_ret3
    refine ⟨?_, q1.drewN _⟩
    rw [HT2.out]; unfold ttR
    simp only [← HE1.out, ← HE2.out]; rfl
  · have ht : Dm.ttext s.data.toList most = ([], [], er) := by rw [HT.out, if_pos c0]
    have HT2 := Lib.hid ht
    have hne : ((er : Int) != 0) = true := by simp; omega
    clear ht c0 herr
    go_enter Try.func42, Try.ntmps42
    go_wp2_with fail
    refine HC.out.mono ?_
    rintro e w1 ⟨rfl, q1⟩
    go_wp2_with fail
    go_ret3
    exact ⟨by rw [HT2.out]; rfl, q1⟩
end Go.Proofs.Ytlbjobbmjccekaa
