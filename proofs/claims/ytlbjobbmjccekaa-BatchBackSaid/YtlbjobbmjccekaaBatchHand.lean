/- A hand over bytes: its two boxes; contracts of batch.over, its closures, and (hand).write. -/
import Derived.Test.YtlbjobbmjccekaaBatchBytes
import Derived.Test.YtlbjobbmjccekaaDecTakeNum
import Derived.Laws.EntriesVeiled
namespace Go.Proofs.Ytlbjobbmjccekaa
set_option maxRecDepth 100000
open Go.RowKit Prm
set_option linter.unusedVariables false
set_option linter.unusedSimpArgs false

/-- of what was there only two blocks have turned. -/
structure Tw (bs br : Nat) (w w' : World) : Prop where
  low : Below 0 w w'
  blk : ∀ b, b < w.heap.size → b ≠ bs → b ≠ br → w'.heap[b]? = w.heap[b]?
section
variable {bs br : Nat} {w w' w2 : World}
theorem Tw.refl (bs br : Nat) (w : World) : Tw bs br w w := ⟨Below.refl _ _, fun _ _ _ _ => rfl⟩
theorem Tw.trans (h : Tw bs br w w') (k : Tw bs br w' w2) : Tw bs br w w2 :=
  ⟨h.low.trans k.low, fun b hb h1 h2 => (k.blk b (Nat.lt_of_lt_of_le hb h.low.size) h1 h2).trans (h.blk b hb h1 h2)⟩
theorem Tw.ofQ (q : Q w w') : Tw bs br w w' := ⟨q.below.mono (Nat.zero_le _), fun b hb _ _ => q.below.block b hb⟩
theorem Tw.q (h : Tw bs br w w') (q : Q w' w2) : Tw bs br w w2 := h.trans (Tw.ofQ q)
theorem Tw.setCell (h : Tw bs br w w') {p : Addr} (hp : p.block = bs ∨ p.block = br) (u : Value) : Tw bs br w (w'.setCell p u) :=
  ⟨h.low.setCell (Nat.zero_le _) u, fun b hb h1 h2 => by rw [heap_setCell_other w' p b u (by rcases hp with e | e <;> (rw [e]; assumption))]; exact h.blk b hb h1 h2⟩
theorem Tw.far (h : Tw bs br w w') {p : Addr} (hp : w.heap.size ≤ p.block) (u : Value) : Tw bs br w (w'.setCell p u) :=
  ⟨h.low.setCell (Nat.zero_le _) u, fun b hb h1 h2 => by rw [heap_setCell_other w' p b u (by omega)]; exact h.blk b hb h1 h2⟩
theorem Tw.size (h : Tw bs br w w') : w.heap.size ≤ w'.heap.size := h.low.size
theorem Tw.below (h : Tw bs br w w') {B : Nat} (h1 : B ≤ bs) (h2 : B ≤ br) (h3 : B ≤ w.heap.size) : Below B w w' :=
  ⟨h.low.os, h.low.tape, h.low.output, h.low.size, fun b hb => h.blk b (by omega) (by omega) (by omega)⟩
theorem Tw.bx (h : Tw bs br w w') {b : Nat} {vs : List Value} (hx : Bx w b vs) (hb : b < w.heap.size) (h1 : b ≠ bs) (h2 : b ≠ br) : Bx w' b vs := fun j v hj =>
  ⟨(World.cell?_of_block (w := w) (h.blk b hb h1 h2)).trans (hx j v hj).1, (World.frozen?_of_block (w := w) (h.blk b hb h1 h2)).trans (hx j v hj).2⟩
theorem Tw.own {α : Type} {K : Kind α} {base n c : Nat} {A : Option Addr} {l : List α} (h : Tw bs br w w') (ho : OwnK K w base A n c l) (h1 : bs < base) (h2 : br < base) : OwnK K w' base A n c l := by
  refine ⟨ho.1, ?_⟩
  rcases ho.2 with ⟨e, h0⟩ | ⟨g, cap, cur, e, hg, hh, r⟩
  · exact .inl ⟨e, h0⟩
  · exact .inr ⟨g, cap, cur, e, hg, (h.blk g (heap_lt hh) (by omega) (by omega)).trans hh, r⟩
end

/-- the hand's two boxes: what is left, and whether all was right. -/
structure Hd (w : World) (bs br : Nat) (x : Bm.Hs) : Prop where
  s : Bx w bs [.string ⟨x.1.toArray⟩]
  r : Bx w br [.bool x.2]
  ne : bs ≠ br
theorem Hd.q {w w' : World} {bs br : Nat} {x : Bm.Hs} (h : Hd w bs br x) (q : Q w w') : Hd w' bs br x := ⟨h.s.q q, h.r.q q, h.ne⟩
theorem Hd.lt {w : World} {bs br : Nat} {x : Bm.Hs} (h : Hd w bs br x) : bs < w.heap.size ∧ br < w.heap.size := ⟨h.s.lt, h.r.lt⟩
theorem Hd.setS {w : World} {bs br : Nat} {x : Bm.Hs} (h : Hd w bs br x) (s : List UInt8) : Hd (w.setCell ⟨bs, 0, none⟩ (.string ⟨s.toArray⟩)) bs br (s, x.2) :=
  ⟨h.s.set (k := 0) (by simp) _, h.r.far (p := ⟨bs, 0, none⟩) h.ne _, h.ne⟩
theorem Hd.setR {w : World} {bs br : Nat} {x : Bm.Hs} (h : Hd w bs br x) (r : Bool) : Hd (w.setCell ⟨br, 0, none⟩ (.bool r)) bs br (x.1, r) :=
  ⟨h.s.far (p := ⟨br, 0, none⟩) (fun e => h.ne e.symm) _, h.r.set (k := 0) (by simp) _, h.ne⟩
theorem Hd.get {w : World} {bs br : Nat} {x : Bm.Hs} (h : Hd w bs br x) : w.cell? ⟨bs, 0, none⟩ = some (.string ⟨x.1.toArray⟩) ∧ w.cell? ⟨br, 0, none⟩ = some (.bool x.2) ∧ w.frozen? ⟨bs, 0, none⟩ = false ∧ w.frozen? ⟨br, 0, none⟩ = false :=
  ⟨(h.s 0 _ rfl).1, (h.r 0 _ rfl).1, (h.s 0 _ rfl).2, (h.r 0 _ rfl).2⟩
theorem Hd.far {w : World} {bs br : Nat} {x : Bm.Hs} (h : Hd w bs br x) {p : Addr} (h1 : p.block ≠ bs) (h2 : p.block ≠ br) (u : Value) : Hd (w.setCell p u) bs br x := ⟨h.s.far h1 u, h.r.far h2 u, h.ne⟩

abbrev ptr0 (b : Nat) : Value := .pointer (some ⟨b, 0, none⟩)
abbrev numF (bs br : Nat) : Value := .func (.func 63) #[] #[ptr0 bs, ptr0 br]
abbrev textF (bs br : Nat) : Value := .func (.func 65) #[] #[ptr0 bs, ptr0 br]
abbrev doneF (bs br : Nat) : Value := .func (.func 67) #[] #[ptr0 br, ptr0 bs]
abbrev handV (bs br : Nat) : Value := .agg #[numF bs br, textF bs br, doneF bs br]

def RetH (bs br : Nat) (w : World) (v : Value) (x : Bm.Hs) (e : Ending) (w' : World) : Prop := e = .returned v ∧ Hd w' bs br x ∧ Tw bs br w w'

set_option maxHeartbeats 1000000 in
theorem hnum_any (most : Nat) (bs br : Nat) (x : Bm.Hs) (w : World) (h : Hd w bs br x) (hs : x.1.length ≤ maxLen) (hm : most ≤ 18446744073709551615) :
    Calls Try.prog 63 #[.int .u64 (most : Int), ptr0 bs, ptr0 br] w (RetH bs br w (.int .u64 ((Bm.tkN most x).1 : Nat)) (Bm.tkN most x).2) := by
  obtain ⟨s, o⟩ := x
  have K := takeNum_any ⟨s.toArray⟩ w (by show s.toArray.size ≤ _; simpa using hs)
  have hT : Bm.tkN most (s, o) = if (Dm.tnum s).2.2 ≠ 0 ∨ most < (Dm.tnum s).1 then (0, (Dm.tnum s).2.1, false) else ((Dm.tnum s).1, (Dm.tnum s).2.1, o) := rfl
  have hle := Dm.tnum_le s
  generalize Bm.tkN most (s, o) = T at hT ⊢
  simp only at K
  generalize Dm.tnum s = x at K hT hle
  obtain ⟨v, r, er⟩ := x
  unfold tnR at K
  simp only at K hT hle
  obtain ⟨g0, g1, g2, g3⟩ := h.get
  simp only at g0 g1
  generalize (⟨s.toArray⟩ : ByteArray) = S at K g0
  have HC := Lib.hid K
  have HH := Lib.hid h
  have hn1 : bs ≠ br := h.ne
  have hn2 : br ≠ bs := fun e => h.ne e.symm
  have hv : (v : Int) ≤ 18446744073709551615 := by unfold Dm.maxU at hle; omega
  have hm' : (most : Int) ≤ 18446744073709551615 := by omega
  clear K hs h hle hm
  by_cases c1 : er = 0
  · subst c1
    have hz0 : ((0 : Int) != 0) = false := by decide
    by_cases c2 : (most : Int) < (v : Int)
    · have HT := Lib.hid (hT.trans (if_pos (.inr (by omega))))
      clear hT
      go_enter Try.func63, Try.ntmps63
      go_wp2_with fail
      refine HC.out.mono ?_
      rintro e w1 ⟨rfl, q1⟩
      have H1 := Lib.hid (HH.out.q q1)
      have Q1 := Lib.hid (Tw.ofQ (bs := bs) (br := br) q1)
      clear q1 g0 g1 g2 g3
      obtain ⟨g0, g1, g2, g3⟩ := H1.out.get
      simp only at g0 g1
      go_wp2
      go_ret
      exact ⟨by rw [HT.out]; rfl, by rw [HT.out]; exact (H1.out.setR false).setS r, (Q1.out.setCell (p := ⟨br, 0, none⟩) (.inr rfl) _).setCell (p := ⟨bs, 0, none⟩) (.inl rfl) _⟩
    · have HT := Lib.hid (hT.trans (if_neg (by simp; omega)))
      clear hT
      go_enter Try.func63, Try.ntmps63
      go_wp2_with fail
      refine HC.out.mono ?_
      rintro e w1 ⟨rfl, q1⟩
      have H1 := Lib.hid (HH.out.q q1)
      have Q1 := Lib.hid (Tw.ofQ (bs := bs) (br := br) q1)
      clear q1 g0 g1 g2 g3
      obtain ⟨g0, g1, g2, g3⟩ := H1.out.get
      simp only at g0 g1
      go_wp2
      go_ret
      exact ⟨by rw [HT.out]; rfl, by rw [HT.out]; exact H1.out.setS r, Q1.out.setCell (p := ⟨bs, 0, none⟩) (.inl rfl) _⟩
  · have HT := Lib.hid (hT.trans (if_pos (.inl c1)))
    have hne : ((er : Int) != 0) = true := by simp; omega
    clear hT c1
    go_enter Try.func63, Try.ntmps63
    go_wp2_with fail
    refine HC.out.mono ?_
    rintro e w1 ⟨rfl, q1⟩
    have H1 := Lib.hid (HH.out.q q1)
    have Q1 := Lib.hid (Tw.ofQ (bs := bs) (br := br) q1)
    clear q1 g0 g1 g2 g3
    obtain ⟨g0, g1, g2, g3⟩ := H1.out.get
    simp only at g0 g1
    go_wp2
    go_ret
    exact ⟨by rw [HT.out]; rfl, by rw [HT.out]; exact (H1.out.setR false).setS r, (Q1.out.setCell (p := ⟨br, 0, none⟩) (.inr rfl) _).setCell (p := ⟨bs, 0, none⟩) (.inl rfl) _⟩

set_option maxHeartbeats 1000000 in
theorem htext_any (most : Int) (bs br : Nat) (x : Bm.Hs) (w : World) (h : Hd w bs br x) (hs : x.1.length ≤ maxLen) (hm0 : -9223372036854775808 ≤ most) (hm1 : most ≤ 9223372036854775807) :
    Calls Try.prog 65 #[.int .i64 most, ptr0 bs, ptr0 br] w (RetH bs br w (.string ⟨(Bm.tkT most x).1.toArray⟩) (Bm.tkT most x).2) := by
  obtain ⟨s, o⟩ := x
  have K := takeText_any ⟨s.toArray⟩ most w (by show s.toArray.size ≤ _; simpa using hs) hm0 hm1
  have hT : Bm.tkT most (s, o) = ((Dm.ttext s most).1, (Dm.ttext s most).2.1, o && decide ((Dm.ttext s most).2.2 = 0)) := rfl
  generalize Bm.tkT most (s, o) = T at hT ⊢
  simp only at K
  generalize Dm.ttext s most = x at K hT
  obtain ⟨v, r, er⟩ := x
  unfold ttR at K
  simp only at K hT
  obtain ⟨g0, g1, g2, g3⟩ := h.get
  simp only at g0 g1
  generalize (⟨s.toArray⟩ : ByteArray) = S at K g0
  have HC := Lib.hid K
  have HH := Lib.hid h
  have hn1 : bs ≠ br := h.ne
  have hn2 : br ≠ bs := fun e => h.ne e.symm
  clear K hs h
  cases o
  · have HT := Lib.hid hT
    clear hT
    go_enter Try.func65, Try.ntmps65
    go_wp2_with fail
    refine HC.out.mono ?_
    rintro e w1 ⟨rfl, q1⟩
    have H1 := Lib.hid (HH.out.q q1)
    have Q1 := Lib.hid (Tw.ofQ (bs := bs) (br := br) q1)
    clear q1 g0 g1 g2 g3
    obtain ⟨g0, g1, g2, g3⟩ := H1.out.get
    simp only at g0 g1
    go_wp2
    go_ret
    exact ⟨by rw [HT.out]; rfl, by rw [HT.out]; exact (H1.out.setR false).setS r, (Q1.out.setCell (p := ⟨br, 0, none⟩) (.inr rfl) _).setCell (p := ⟨bs, 0, none⟩) (.inl rfl) _⟩
  · by_cases c1 : er = 0
    · subst c1
      have HT := Lib.hid hT
      clear hT
      go_enter Try.func65, Try.ntmps65
      go_wp2_with fail
      refine HC.out.mono ?_
      rintro e w1 ⟨rfl, q1⟩
      have H1 := Lib.hid (HH.out.q q1)
      have Q1 := Lib.hid (Tw.ofQ (bs := bs) (br := br) q1)
      clear q1 g0 g1 g2 g3
      obtain ⟨g0, g1, g2, g3⟩ := H1.out.get
      simp only at g0 g1
      go_wp2
      go_ret
      exact ⟨by rw [HT.out]; rfl, by rw [HT.out]; exact (H1.out.setR true).setS r, (Q1.out.setCell (p := ⟨br, 0, none⟩) (.inr rfl) _).setCell (p := ⟨bs, 0, none⟩) (.inl rfl) _⟩
    · have HT := Lib.hid (show T = (v, r, false) by rw [hT]; simp [c1])
      have hne : ((er : Int) == 0) = false := by simp; omega
      clear hT c1
      go_enter Try.func65, Try.ntmps65
      go_wp2_with fail
      refine HC.out.mono ?_
      rintro e w1 ⟨rfl, q1⟩
      have H1 := Lib.hid (HH.out.q q1)
      have Q1 := Lib.hid (Tw.ofQ (bs := bs) (br := br) q1)
      clear q1 g0 g1 g2 g3
      obtain ⟨g0, g1, g2, g3⟩ := H1.out.get
      simp only at g0 g1
      go_wp2
      go_ret
      exact ⟨by rw [HT.out]; rfl, by rw [HT.out]; exact (H1.out.setR false).setS r, (Q1.out.setCell (p := ⟨br, 0, none⟩) (.inr rfl) _).setCell (p := ⟨bs, 0, none⟩) (.inl rfl) _⟩

theorem hdone_any (bs br : Nat) (x : Bm.Hs) (w : World) (h : Hd w bs br x) :
    Calls Try.prog 67 #[ptr0 br, ptr0 bs] w fun e w' => e = .returned (.bool (x.2 && decide (x.1 = []))) ∧ Q w w' := by
  obtain ⟨s, o⟩ := x
  obtain ⟨g0, g1, g2, g3⟩ := h.get
  simp only at g0 g1
  have HX := Lib.hid h
  clear h
  cases o
  · go_enter Try.func67, Try.ntmps67
    go_wp2
    go_ret
    exact ⟨rfl, Q.refl _⟩
  · cases s with
    | nil =>
      go_enter Try.func67, Try.ntmps67
      go_wp2
      go_ret
      exact ⟨ret_bool (by simp), Q.refl _⟩
    | cons a s =>
      have hd : (⟨(a :: s).toArray⟩ : ByteArray).toList ≠ [] := by rw [ByteArray.toList_eq]; simp
      have hd2 : (⟨(a :: s).toArray⟩ : ByteArray).toList.isEmpty = false := by rw [ByteArray.toList_eq]; simp
      have hd3 : ((⟨(a :: s).toArray⟩ : ByteArray).toList == []) = false := by rw [ByteArray.toList_eq]; simp
      generalize (⟨(a :: s).toArray⟩ : ByteArray) = S at g0 hd hd2 hd3
      go_enter Try.func67, Try.ntmps67
      go_wp2
      go_ret
      exact ⟨ret_bool (by simp [hd, hd2, hd3]), Q.refl _⟩

theorem Bx.set3 {w : World} {b : Nat} {x y z : Value} (h : Bx w b [x, y, z]) (x' y' z' : Value) : Bx (((w.setCell ⟨b, 0, none⟩ x').setCell ⟨b, 1, none⟩ y').setCell ⟨b, 2, none⟩ z') b [x', y', z'] :=
  ((h.set (k := 0) (by simp) x').set (k := 1) (by simp) y').set (k := 2) (by simp) z'
theorem Bx.far3 {w : World} {b c : Nat} {vs : List Value} (h : Bx w b vs) (hc : c ≠ b) (x' y' z' : Value) : Bx (((w.setCell ⟨c, 0, none⟩ x').setCell ⟨c, 1, none⟩ y').setCell ⟨c, 2, none⟩ z') b vs :=
  ((h.far (p := ⟨c, 0, none⟩) hc x').far (p := ⟨c, 1, none⟩) hc y').far (p := ⟨c, 2, none⟩) hc z'

set_option maxHeartbeats 1000000 in
theorem over_any (s : ByteArray) (w : World) :
    Calls Try.prog 39 #[.string s] w fun e w' => e = .returned (handV w.heap.size (w.heap.size + 1 + 1)) ∧ Hd w' w.heap.size (w.heap.size + 1 + 1) (s.data.toList, true) ∧ Q w w' := by
  go_enter Try.func39, Try.ntmps39
  go_upto_region 2 with (fail)
  have X : Hid (Bx (((w.alloc (.cells #[.string s] 9)).alloc (.cells #[.nilFunc, .nilFunc, .nilFunc] 83)).alloc (.cells #[.bool true] 4)) w.heap.size [.string s] ∧
      Bx (((w.alloc (.cells #[.string s] 9)).alloc (.cells #[.nilFunc, .nilFunc, .nilFunc] 83)).alloc (.cells #[.bool true] 4)) (w.heap.size + 1) [.nilFunc, .nilFunc, .nilFunc] ∧
      Bx (((w.alloc (.cells #[.string s] 9)).alloc (.cells #[.nilFunc, .nilFunc, .nilFunc] 83)).alloc (.cells #[.bool true] 4)) (w.heap.size + 1 + 1) [.bool true] ∧
      Q w (((w.alloc (.cells #[.string s] 9)).alloc (.cells #[.nilFunc, .nilFunc, .nilFunc] 83)).alloc (.cells #[.bool true] 4))) := by
    refine Lib.hid ⟨((Bx.new w [.string s] 9).alloc _).alloc _, ?_, ?_, (((Q.refl w).alloc _).alloc _).alloc _⟩
    · have := (Bx.new (w.alloc (.cells #[.string s] 9)) [.nilFunc, .nilFunc, .nilFunc] 83).alloc (.cells #[.bool true] 4)
      simpa using this
    · have := Bx.new ((w.alloc (.cells #[.string s] 9)).alloc (.cells #[.nilFunc, .nilFunc, .nilFunc] 83)) [.bool true] 4
      simpa using this
  generalize (((w.alloc (.cells #[.string s] 9)).alloc (.cells #[.nilFunc, .nilFunc, .nilFunc] 83)).alloc (.cells #[.bool true] 4)) = w2 at X ⊢
  obtain ⟨⟨c0, c1, c2⟩, f0, f1, f2⟩ := X.out.2.1.get3
  go_wp2
  obtain ⟨⟨d0, d1, d2⟩, _⟩ := (X.out.2.1.set3 (numF w.heap.size (w.heap.size + 1 + 1)) (textF w.heap.size (w.heap.size + 1 + 1)) (doneF w.heap.size (w.heap.size + 1 + 1))).get3
  refine bodyPost_ret (v := handV w.heap.size (w.heap.size + 1 + 1)) (by simp [results, Try.results39, go_sem, d0, d1, d2]) rfl ?_
  exact ⟨rfl, ⟨by have := X.out.1.far3 (c := w.heap.size + 1) (by omega) (numF w.heap.size (w.heap.size + 1 + 1)) (textF w.heap.size (w.heap.size + 1 + 1)) (doneF w.heap.size (w.heap.size + 1 + 1)); simpa using this, X.out.2.2.1.far3 (by omega) _ _ _, by omega⟩, X.out.2.2.2.set3 (by omega) _ _ _⟩

/-- what is taken is no longer than what was there. -/
theorem tkN_len (m : Nat) (x : Bm.Hs) : (Bm.tkN m x).2.1.length ≤ x.1.length := by
  have := Dm.tnum_len x.1
  unfold Bm.tkN; split <;> exact this
theorem tkT_len (m : Int) (x : Bm.Hs) : (Bm.tkT m x).2.1.length ≤ x.1.length := by
  obtain ⟨s, o⟩ := x
  unfold Bm.tkT Dm.ttext
  have := Dm.tnum_len s
  split
  · simp
  · split
    · simp
    · split
      · simp
      · simp only [List.length_drop]; omega
theorem tkN_le (m : Nat) (x : Bm.Hs) : (Bm.tkN m x).1 ≤ m := by unfold Bm.tkN; split <;> simp only <;> omega

/-- where (hand).write stands. -/
structure Wb (bs br : Nat) (w : World) (x : Bm.Hs) (k v : ByteArray) (d : Bool) (wi : World) : Prop where
  b1 : Bx wi w.heap.size [numF bs br, textF bs br, doneF bs br]
  b2 : Bx wi (w.heap.size + 1) [.string ⟨#[]⟩, .string ⟨#[]⟩, .bool false]
  b3 : Bx wi (w.heap.size + 1 + 1) [.string k, .string v, .bool d]
  h : Hd wi bs br x
  t : Tw bs br w wi
  l1 : bs < w.heap.size
  l2 : br < w.heap.size
section
variable {bs br : Nat} {w wi wj : World} {x y : Bm.Hs} {k v : ByteArray} {d : Bool}
theorem Wb.step (h : Wb bs br w x k v d wi) (hh : Hd wj bs br y) (ht : Tw bs br wi wj) : Wb bs br w y k v d wj := by
  have h1 := h.l1; have h2 := h.l2; have h3 := h.b3.lt
  exact ⟨ht.bx h.b1 (by omega) (by omega) (by omega), ht.bx h.b2 (by omega) (by omega) (by omega), ht.bx h.b3 (by omega) (by omega) (by omega), hh, h.t.trans ht, h1, h2⟩
theorem Wb.setK (h : Wb bs br w x k v d wi) (a : ByteArray) : Wb bs br w x a v d (wi.setCell ⟨w.heap.size + 1 + 1, 0, none⟩ (.string a)) := by
  have h1 := h.l1; have h2 := h.l2
  exact ⟨h.b1.far (by simp only; omega) _, h.b2.far (by simp only; omega) _, h.b3.set (k := 0) (by simp) _, h.h.far (by simp only; omega) (by simp only; omega) _, h.t.far (by simp only; omega) _, h1, h2⟩
theorem Wb.setV (h : Wb bs br w x k v d wi) (a : ByteArray) : Wb bs br w x k a d (wi.setCell ⟨w.heap.size + 1 + 1, 1, none⟩ (.string a)) := by
  have h1 := h.l1; have h2 := h.l2
  exact ⟨h.b1.far (by simp only; omega) _, h.b2.far (by simp only; omega) _, h.b3.set (k := 1) (by simp) _, h.h.far (by simp only; omega) (by simp only; omega) _, h.t.far (by simp only; omega) _, h1, h2⟩
theorem Wb.setD (h : Wb bs br w x k v d wi) (a : Bool) : Wb bs br w x k v a (wi.setCell ⟨w.heap.size + 1 + 1, 2, none⟩ (.bool a)) := by
  have h1 := h.l1; have h2 := h.l2
  exact ⟨h.b1.far (by simp only; omega) _, h.b2.far (by simp only; omega) _, h.b3.set (k := 2) (by simp) _, h.h.far (by simp only; omega) (by simp only; omega) _, h.t.far (by simp only; omega) _, h1, h2⟩
end

set_option maxHeartbeats 4000000 in
theorem hwrite_any (bs br : Nat) (x : Bm.Hs) (w : World) (h : Hd w bs br x) (hs : x.1.length ≤ maxLen) :
    Calls Try.prog 40 #[handV bs br] w (RetH bs br w (Bm.tkW x).1.v (Bm.tkW x).2) := by
  have hT : Bm.tkW x = (⟨⟨(Bm.tkT 32 (Bm.tkN 1 x).2).1.toArray⟩, ⟨(Bm.tkT 64 (Bm.tkT 32 (Bm.tkN 1 x).2).2).1.toArray⟩, decide ((Bm.tkN 1 x).1 = 1)⟩, (Bm.tkT 64 (Bm.tkT 32 (Bm.tkN 1 x).2).2).2) := rfl
  have n1 := tkN_le 1 x
  have l1 := tkN_len 1 x
  have l2 := tkT_len 32 (Bm.tkN 1 x).2
  have KN := Lib.hid (fun W (h : Hd W bs br x) => hnum_any 1 bs br x W h hs (by omega))
  have KT := Lib.hid (fun W (h : Hd W bs br (Bm.tkN 1 x).2) => htext_any 32 bs br (Bm.tkN 1 x).2 W h (by omega) (by omega) (by omega))
  have KU := Lib.hid (fun W (h : Hd W bs br (Bm.tkT 32 (Bm.tkN 1 x).2).2) => htext_any 64 bs br (Bm.tkT 32 (Bm.tkN 1 x).2).2 W h (by omega) (by omega) (by omega))
  generalize Bm.tkW x = T at hT ⊢
  generalize Bm.tkN 1 x = y at hT n1 KN KT KU
  obtain ⟨v, y⟩ := y
  simp only at hT n1 KN KT KU
  generalize Bm.tkT 32 y = z at hT KT KU
  obtain ⟨s1, z⟩ := z
  simp only at hT KT KU
  generalize Bm.tkT 64 z = u at hT KU
  obtain ⟨s2, u⟩ := u
  simp only at hT KU
  generalize (⟨s1.toArray⟩ : ByteArray) = S1 at hT KT
  generalize (⟨s2.toArray⟩ : ByteArray) = S2 at hT KU
  have hv : decide (v = 1) = ((v : Int) == 1) := by
    rcases (by omega : v = 0 ∨ v = 1) with rfl | rfl <;> rfl
  rw [hv] at hT
  have HT := Lib.hid hT
  have HH := Lib.hid h
  have hlt := h.lt
  have hb1 : bs < w.heap.size := hlt.1
  have hb2 : br < w.heap.size := hlt.2
  clear hT hv n1 l1 l2 h hs hlt
  go_enter Try.func40, Try.ntmps40
  go_upto_region 2 with (fail)
  have X : Hid (Wb bs br w x ⟨#[]⟩ ⟨#[]⟩ false (((w.alloc (.cells #[numF bs br, textF bs br, doneF bs br] 83)).alloc (.cells #[.string ⟨#[]⟩, .string ⟨#[]⟩, .bool false] 63)).alloc (.cells #[.string ⟨#[]⟩, .string ⟨#[]⟩, .bool false] 63))) := by
    refine Lib.hid ⟨((Bx.new w [numF bs br, textF bs br, doneF bs br] 83).alloc _).alloc _, ?_, ?_, HH.out.q ((((Q.refl w).alloc _).alloc _).alloc _), Tw.ofQ ((((Q.refl w).alloc _).alloc _).alloc _), hb1, hb2⟩
    · have := (Bx.new (w.alloc (.cells #[numF bs br, textF bs br, doneF bs br] 83)) [.string ⟨#[]⟩, .string ⟨#[]⟩, .bool false] 63).alloc (.cells #[.string ⟨#[]⟩, .string ⟨#[]⟩, .bool false] 63)
      simpa using this
    · have := Bx.new ((w.alloc (.cells #[numF bs br, textF bs br, doneF bs br] 83)).alloc (.cells #[.string ⟨#[]⟩, .string ⟨#[]⟩, .bool false] 63)) [.string ⟨#[]⟩, .string ⟨#[]⟩, .bool false] 63
      simpa using this
  generalize (((w.alloc (.cells #[numF bs br, textF bs br, doneF bs br] 83)).alloc (.cells #[.string ⟨#[]⟩, .string ⟨#[]⟩, .bool false] 63)).alloc (.cells #[.string ⟨#[]⟩, .string ⟨#[]⟩, .bool false] 63)) = w2 at X ⊢
  obtain ⟨⟨c0, c1, c2⟩, _⟩ := X.out.b1.get3
  obtain ⟨⟨d0, d1, d2⟩, f0, f1, f2⟩ := X.out.b3.get3
  go_wp2_with fail
  refine (KN.out _ X.out.h).mono ?_
  rintro e w3 ⟨rfl, h3, t3⟩
  have X2 := Lib.hid (X.out.step h3 t3)
  clear X h3 t3 c0 c1 c2 d0 d1 d2 f0 f1 f2
  obtain ⟨⟨d0, d1, d2⟩, f0, f1, f2⟩ := X2.out.b3.get3
  go_upto_region 3 with (fail)
  have X := Lib.hid (X2.out.setD ((v : Int) == 1))
  clear X2 d0 d1 d2 f0 f1 f2
  generalize w3.setCell ⟨w.heap.size + 1 + 1, 2, none⟩ (.bool ((v : Int) == 1)) = w4 at X ⊢
  obtain ⟨⟨c0, c1, c2⟩, _⟩ := X.out.b1.get3
  obtain ⟨⟨d0, d1, d2⟩, f0, f1, f2⟩ := X.out.b3.get3
  go_wp2_with fail
  refine (KT.out _ X.out.h).mono ?_
  rintro e w5 ⟨rfl, h3, t3⟩
  have X2 := Lib.hid (X.out.step h3 t3)
  clear X h3 t3 c0 c1 c2 d0 d1 d2 f0 f1 f2
  obtain ⟨⟨d0, d1, d2⟩, f0, f1, f2⟩ := X2.out.b3.get3
  go_upto_region 4 with (fail)
  have X := Lib.hid (X2.out.setK S1)
  clear X2 d0 d1 d2 f0 f1 f2
  generalize w5.setCell ⟨w.heap.size + 1 + 1, 0, none⟩ (.string S1) = w6 at X ⊢
  obtain ⟨⟨c0, c1, c2⟩, _⟩ := X.out.b1.get3
  obtain ⟨⟨d0, d1, d2⟩, f0, f1, f2⟩ := X.out.b3.get3
  go_wp2_with fail
  refine (KU.out _ X.out.h).mono ?_
  rintro e w7 ⟨rfl, h3, t3⟩
  have X2 := Lib.hid (X.out.step h3 t3)
  clear X h3 t3 c0 c1 c2 d0 d1 d2 f0 f1 f2
  obtain ⟨⟨d0, d1, d2⟩, f0, f1, f2⟩ := X2.out.b3.get3
  go_upto_region 5 with (fail)
  have X := Lib.hid (X2.out.setV S2)
  clear X2 d0 d1 d2 f0 f1 f2
  generalize w7.setCell ⟨w.heap.size + 1 + 1, 1, none⟩ (.string S2) = w8 at X ⊢
  obtain ⟨⟨c0, c1, c2⟩, _⟩ := X.out.b1.get3
  obtain ⟨⟨d0, d1, d2⟩, f0, f1, f2⟩ := X.out.b3.get3
  obtain ⟨⟨p0, p1, p2⟩, g0, g1, g2⟩ := X.out.b2.get3
  go_wp2
  obtain ⟨⟨r0, r1, r2⟩, _⟩ := (X.out.b2.set3 (.string S1) (.string S2) (.bool ((v : Int) == 1))).get3
  refine bodyPost_ret (v := .agg #[.string S1, .string S2, .bool ((v : Int) == 1)]) (by simp [results, Try.results40, go_sem, r0, r1, r2]) rfl ?_
  refine ⟨by rw [HT.out], by rw [HT.out]; exact ((X.out.h.far (p := ⟨w.heap.size + 1, 0, none⟩) (by simp only; omega) (by simp only; omega) _).far (p := ⟨w.heap.size + 1, 1, none⟩) (by simp only; omega) (by simp only; omega) _).far (p := ⟨w.heap.size + 1, 2, none⟩) (by simp only; omega) (by simp only; omega) _, ((X.out.t.far (p := ⟨w.heap.size + 1, 0, none⟩) (by simp only; omega) _).far (p := ⟨w.heap.size + 1, 1, none⟩) (by simp only; omega) _).far (p := ⟨w.heap.size + 1, 2, none⟩) (by simp only; omega) _⟩
end Go.Proofs.Ytlbjobbmjccekaa
