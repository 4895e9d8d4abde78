/- The contract of frame.Whole. -/
import Derived.Test.YthcdcjidoacalaaFrmWhole
namespace Go.Proofs.Ythcdcjidoacalaa
set_option maxRecDepth 100000
open Go.RowKit Go.Shelf
set_option linter.unusedVariables false
namespace Fm
attribute [local go_sem] Oper.semAt_some

theorem finfoS : (Try.prog.info? 9).map (fun i => (i.zero, i.size, i.bytes)) = some (some (.string ⟨#[]⟩), 1, 16) := by kernel_rfl
theorem frow_lower {w : World} {base b2 size n : Nat} {e : TypeId} {v : Value} {xs : List Value} (h : w.ownsRow base e size v n xs) (hb : b2 ≤ base) : w.ownsRow b2 e size v n xs := by
  refine ⟨h.1, ?_⟩
  rcases h.2 with h0 | ⟨g, cap, cur, e, hg, hh, r⟩
  · exact .inl h0
  · exact .inr ⟨g, cap, cur, e, by omega, hh, r⟩
/-- a block below the base lies as it lay, behind an append and stores elsewhere. -/
theorem fcell_app {W w1 : World} {n₀ b B : Nat} {e : TypeId} {size k : Nat} {v v' u : Value} {xs : List Value} {tmp : Obj} (hrow : W.ownsRow n₀ e size v k xs) (hb : b < n₀) (hgrow : (W.alloc tmp).grownBy w1 v.ownBlock)
    (hB : B ≠ b) (hu : W.cell? ⟨b, 0, none⟩ = some u) : (w1.setCell ⟨B, 0, none⟩ v').cell? ⟨b, 0, none⟩ = some u := by
  have hlt : b < W.heap.size := block_lt_of_cell hu
  have h1 : (W.alloc tmp).cell? ⟨b, 0, none⟩ = some u := (((Below.refl _ W).alloc (Nat.le_refl _) tmp).cell (p := ⟨b, 0, none⟩) hlt).trans hu
  have h2 : w1.heap[b]? = (W.alloc tmp).heap[b]? := hgrow.block b (by simp; omega) (fun ej => by
    rcases hrow.2 with ⟨rfl, _⟩ | ⟨g, cap, cur, rfl, hg, _, _⟩
    · simp [Value.ownBlock] at ej
    · have : b = g := by simpa [Value.ownBlock] using ej
      omega)
  rw [World.cell?_setCell_other _ _ _ _ (by intro x; injection x with x; exact hB x)]
  simp only [World.cell?] at h1 ⊢
  rw [h2]; exact h1
theorem fown_row {w : World} {base n : Nat} {A : Option Addr} {c : Nat} {l : List (List UInt8)} : OwnK textK w base A n c l ↔ w.ownsRow base 9 1 (.slice A n c) n (textK.rows l) := Iff.rfl
def usedN (l : List UInt8) : Nat := (wraps (wh l).1).length
theorem fused_le (l : List UInt8) : usedN l ≤ l.length := by
  have := congrArg List.length (wh_eq l)
  rw [List.length_append] at this
  unfold usedN; omega
theorem fdrop_used (l : List UInt8) : l.drop (usedN l) = (wh l).2 := by
  have h := wh_eq l
  unfold usedN
  generalize wh l = p at h ⊢
  subst h
  exact List.drop_left' rfl

set_option maxHeartbeats 2000000 in
theorem fwhole_any (s : ByteArray) (w : World) (hs : s.size ≤ maxLen) (hbig : (wh s.data.toList).1.length * 16 ≤ 140737488355328) :
    Calls Try.prog 12 #[.string s] w fun e w' => ∃ A c, e = .returned (.tuple #[.slice A (wh s.data.toList).1.length c, .int .i64 (usedN s.data.toList), .bool (on s.data.toList)]) ∧ OwnK textK w' w.heap.size A (wh s.data.toList).1.length c (wh s.data.toList).1 ∧ Q w w' := by
  obtain ⟨i0, hi, hz0, hz1, hz2⟩ := info_parts finfoS
  refine (callsIn_wide (n := 6)).1 ?_
  refine callsIn_of_wp_marks Try.func12 rfl trivial ?_ rfl
  simp only [Try.ntmps12, List.size_toArray, List.length_cons, List.length_nil, Nat.reduceAdd, Nat.reduceSub, Array.replicate_succ, Array.replicate_zero, List.push_toArray, List.append_toArray, List.nil_append, List.cons_append]
  gi_wp2_with (refine ⟨trivial, ?_⟩; gi_at_call 19; refine (callsIn_wide.2 (ftexts_any s _)).mono ?_; rintro e w' ⟨rfl, rfl⟩)
  have b1 := Boxed.new w 30 (.slice none 0 0)
  have b2 := Boxed.new (w.alloc (.cells #[.slice none 0 0] 30)) 3 (.int .i64 0)
  have b3 := Boxed.new ((w.alloc (.cells #[.slice none 0 0] 30)).alloc (.cells #[.int .i64 0] 3)) 9 (.string s)
  rw [World.size_alloc] at b2 b3
  rw [World.size_alloc] at b3
  have hml : (wh s.data.toList).1.length ≤ maxLen := by unfold maxLen; omega
  have hB0 : Below w.heap.size w (((w.alloc (.cells #[.slice none 0 0] 30)).alloc (.cells #[.int .i64 0] 3)).alloc (.cells #[.string s] 9)) := (((Q.refl w).alloc _).alloc _).alloc _
  have hOn : on s.data.toList = decide ((Dm.ttext (wh s.data.toList).2 2048).2.2 = 2) := rfl
  have hex : (s.extract (usedN s.data.toList) s.size).data.toList = (wh s.data.toList).2 := by
    rw [extract_list, ← fdrop_used]
    show (s.data.toList.take s.size).drop _ = _
    rw [List.take_of_length_le (by rw [size_list]; omega)]
  have hul : usedN s.data.toList ≤ s.size := by have := fused_le s.data.toList; rw [size_list] at this; exact this
  have HO := Lib.hid hOn
  have HX := Lib.hid hex
  have HU := Lib.hid hul
  have HS := Lib.hid hs
  clear hOn hex hul
  refine wpIn_rangeFunc_ownG rfl (by omega) (gf := 25) (lb := #[.pointer (some ⟨w.heap.size + 1 + 1, 0, none⟩)]) rfl trivial (enters_of Try.func25 (by kernel_rfl) rfl)
    (fstops_any (6 - 1) (by omega) (w.heap.size + 1 + 1) s hs _ (by simp) b3.cell) kpT_t (kpT_b (by simp)) (Below.refl _ _) (fun _ => rfl)
    (fun pre W => (∃ v, Boxed W w.heap.size 30 v ∧ W.ownsRow (w.heap.size + 3) 9 1 v pre.length (pre.map fun x => Value.string x.1) ∧ True) ∧ Boxed W (w.heap.size + 1) 3 (.int .i64 (lastT pre)) ∧ Below w.heap.size (((w.alloc (.cells #[.slice none 0 0] 30)).alloc (.cells #[.int .i64 0] 3)).alloc (.cells #[.string s] 9)) W)
    (fun _ _ _ => False)
    (OwnFrom.and (Own.from (holdsRow_own (w.heap.size + 3) w.heap.size 30 9 1 (fun pre : List Te => pre.length) (fun pre => pre.map fun x => Value.string x.1) (fun _ _ => True)) _) (OwnFrom.and (Own.from (boxed_own (w.heap.size + 1) 3 (fun pre : List Te => .int .i64 (lastT pre))) _) (ownFrom_below (by simp; omega) (by simp; omega))))
    (fun _ _ _ _ _ hs _ _ => hs)
    ⟨⟨_, (b1.alloc _).alloc _, World.ownsRow_nil _ _ _ _, trivial⟩, b2.alloc _, Below.refl _ _⟩
    (fun x => { tmps := #[.string s, undef, .slice none 0 0, .int .i64 0, .bool false, .pointer (some ⟨w.heap.size, 0, none⟩), .pointer (some ⟨w.heap.size + 1, 0, none⟩), .string x.1, .int .i64 x.2, undef, undef, undef, .string s, .func (.func 25) #[] #[.pointer (some ⟨w.heap.size + 1 + 1, 0, none⟩)], .string x.1, .int .i64 x.2, undef, undef, undef, undef, undef, undef, undef, undef, undef, undef, undef, undef, undef, undef, undef, undef, undef], defers := [] }) ?assign ?body ?done ?stop
  case assign =>
    intro l x W K hK
    simp only [encT]
    gi_wp2
    exact hK
  case body =>
    rintro l pre x W ⟨⟨v, hv, hrow, _⟩, hn, hB⟩ hlt
    have hc := hv.cell
    have hBs := hB.size
    have hwl := hn.lt
    have hle3 : w.heap.size + 3 ≤ W.heap.size := by have := hB.size; simp at this; omega
    have hBw : w.heap.size ≤ W.heap.size := by omega
    clear hBs
    gi_wp2_with (gi_at_builtin; refine wpListIn_append_own _ rfl _ _ 30 rfl (w.heap.size + 3) 9 i0 (.string ⟨#[]⟩) 1 16 Try.underlying30 hi hz0 hz1 hz2 rfl (by decide) _ _ _ rfl (hrow.alloc _) ⟨W.heap.size, 0, none⟩ 1 1 [.string x.1] rfl rfl (cell_one_new _ _ _) (by simp [Value.oneCell']) (by omega) (by omega) (by simp; omega) ?_; intro v' w1 hown' hgrow _; obtain ⟨g', cap', rfl⟩ := ownsRow_succ hown'; obtain ⟨hv1, hv2, hr2, hk2, hb2⟩ := hv.appended (by decide) (frow_lower hrow (b2 := w.heap.size) (by omega)) hBw (Nat.le_refl _) (frow_lower hown' (b2 := w.heap.size) (by omega)) hgrow; have hc1 := hv1.cell; have hf1 := hv1.frozen; have hn1 : Boxed w1 (w.heap.size + 1) 3 (.int .i64 (lastT pre)) := (hn.alloc _).kept hgrow (hn.not_row (by decide) hrow); have hc2 := hn1.cell; have hf2 := hn1.frozen)
    have hkp : KpT (w.heap.size + 1 + 1) W _ := fun u hu => fcell_app (v' := Value.slice (some ⟨g', 0, none⟩) (pre.length + 1) cap') hrow (by omega) hgrow (B := w.heap.size) (by omega) hu
    have hn2 := (hn1.other (B' := w.heap.size) (by omega) (Value.slice (some ⟨g', 0, none⟩) (pre.length + 1) cap')).set (.int .i64 x.2)
    have hr3 : w1.ownsRow (w.heap.size + 3) 9 1 (Value.slice (some ⟨g', 0, none⟩) (pre.length + 1) cap') (pre.length + 1) (List.map (fun x => Value.string x.1) pre ++ [.string x.1]) := hown'
    have hr4 := (hr3.kept (grownBy_setCell' w1 w.heap.size (Value.slice (some ⟨g', 0, none⟩) (pre.length + 1) cap')) (.inr (hv1.not_row (by decide) hr3).symm))
    have hv3 := hv2.other (B' := w.heap.size + 1) (by omega) (.int .i64 x.2)
    have hr5 := hr4.kept (grownBy_setCell' _ (w.heap.size + 1) (.int .i64 x.2)) (.inr ((hn1.other (B' := w.heap.size) (by omega) (Value.slice (some ⟨g', 0, none⟩) (pre.length + 1) cap')).not_row (by decide) hr4).symm)
    refine ⟨(hk2.trans (KeepsOthers.setCell _ _ _)).from _, fun u hu => ?_, ⟨_, hv3, by simpa using hr5, trivial⟩, by rw [lastT_snoc]; exact hn2, hB.trans (hb2.setCell (p := ⟨w.heap.size + 1, 0, none⟩) (Nat.le_succ _) _)⟩
    rw [World.cell?_setCell_other _ _ _ _ (by intro z; injection z with z; omega)]
    exact hkp u hu
  case done =>
    rintro D ys W hD rfl ⟨⟨v, hv, hrow, _⟩, hn, hB⟩ hK
    obtain ⟨A, c, rfl⟩ : ∃ A c, v = .slice A (ends 0 (wh s.data.toList).1).length c := by
      rcases hrow.2 with ⟨e, h0⟩ | ⟨g, cap, cur, e, _⟩
      · exact ⟨none, 0, by rw [e, h0]⟩
      · exact ⟨_, _, e⟩
    rw [ends_len] at hrow hv
    have hc := hv.cell
    have hc2 := hn.cell
    have hQ : Q w W := hB0.trans hB
    have hO : OwnK textK W w.heap.size A (wh s.data.toList).1.length c (wh s.data.toList).1 := by
      rw [fown_row, ← ends_fst _ 0]
      exact frow_lower hrow (by omega)
    have hE : lastT (ends 0 (wh s.data.toList).1) = (usedN s.data.toList : Int) := lastT_ends _
    rw [hE] at hc2
    have hDw : w.heap.size ≤ D := by simp at hD; omega
    have hlt := HU.out
    have hT := takeText_any (s.extract (usedN s.data.toList) s.size) 2048 W (by rw [ByteArray.size_extract]; have := HS.out; omega) (by omega) (by omega)
    rw [HX.out] at hT
    have hOn2 := HO.out
    generalize Dm.ttext (wh s.data.toList).2 2048 = r at hT hOn2
    obtain ⟨x, y, k⟩ := r
    simp only [ttR] at hT hOn2
    have hkb : ((k : Int) == 2) = on s.data.toList := by rw [hOn2, Bool.eq_iff_iff]; simp; omega
    have hbl : w.heap.size < W.heap.size := hv.lt
    have hbl2 : w.heap.size + 1 < W.heap.size := hn.lt
    clear hE hrow hv hn hB hD hOn2
    have hDlt : D < W.heap.size := by
      rcases Nat.lt_or_ge D W.heap.size with h | h
      · exact h
      · rw [Array.getElem?_eq_none h] at hK; cases hK
    gi_wp2_with (fail)
    refine ⟨trivial, ?_⟩
    refine (callsIn_wide.2 hT).mono ?_
    rintro e W2 ⟨rfl, q2⟩
    have hK2 : W2.heap[D]? = some (Obj.deferred (some [])) := (q2.below.block D hDlt).trans hK
    have hd1 := box_ q2 hc
    have hd2 := box_ q2 hc2
    have hO2 := hO.q q2
    have hQ2 := hQ.trans q2
    clear hT hK hc hc2 hO hQ q2 hbl hbl2
    gi_wp2
    gi_region
    gi_wp2
    refine ⟨by simp, .inl ⟨_, _, rfl, run_takeDeferred hK2, ?_⟩⟩
    refine ⟨_, results_tmp3 rfl _ _ _, A, c, rfl, ?_, ?_⟩
    · rw [fown_row] at hO2 ⊢
      exact ownsRow_putObj (hO2 : World.ownsRow W2.drew _ _ _ _ _ _) _ hK2 rfl
    · exact hQ2.drew.below.trans (belowK_b (w := w) (Nat.le_refl _) W2.drew D _ _ hDw hK2 rfl rfl)
  case stop =>
    rintro D c pre W _ _ h _
    exact h.elim
end Fm
end Go.Proofs.Ythcdcjidoacalaa
