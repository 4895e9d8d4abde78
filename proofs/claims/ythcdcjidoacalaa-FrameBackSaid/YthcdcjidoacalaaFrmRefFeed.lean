/- Contracts: the document's Wrap, Feed. -/
import Derived.Test.YthcdcjidoacalaaFrmFeed
import Derived.Test.YthcdcjidoacalaaFrmRefWhole
namespace Go.Proofs.Ythcdcjidoacalaa
set_option maxRecDepth 100000
open Go.RowKit
set_option linter.unusedVariables false
namespace Fm
set_option maxHeartbeats 400000 in
theorem frefWrap_any (s : ByteArray) (w : World) (hs : s.size ≤ 4611686018427387904) :
    Calls Try.prog 11 #[.string s] w fun e w' => e = .returned (wrapR s.data.toList) ∧ Q w w' := by
  unfold wrapR
  rw [size_list]
  by_cases h : 2048 < s.size
  · rw [if_pos h]
    go_enter Try.func11, Try.ntmps11
    go_wp2
    go_ret2
    exact ⟨rfl, Q.refl _⟩
  · rw [if_neg h]
    go_enter Try.func11, Try.ntmps11
    go_wp2_with fail
    refine (refText_any _ _ (by omega)).mono ?_
    rintro e w1 ⟨rfl, q1⟩
    go_wp2_with fail
    go_ret2
    refine ⟨?_, q1⟩
    unfold wrap tx
    rw [size_list]
    rfl

set_option maxHeartbeats 2000000 in
theorem frefFeed_any (b : Bf) (s : ByteArray) (w : World) (hs : b.rest.length + s.size ≤ 4611686018427387904) (hbig : (wh (b.rest ++ s.data.toList)).1.length * 16 ≤ 140737488355328) :
    Calls Try.prog 15 #[bfV b, .string s] w (RetF w (feed b s.data.toList)) := by
  obtain ⟨r, bad⟩ := b
  cases bad with
  | true =>
    have hf : feed ⟨r, true⟩ s.data.toList = (⟨r, true⟩, [], 9) := rfl
    rw [hf]
    clear hbig hs
    generalize hR : tx r = R
    unfold RetF bfV
    simp only [hR]
    go_enter Try.func15, Try.ntmps15
    go_wp2
    have hb := Bx.new (w.alloc (.cells #[.string R, .bool true] 23)) [.string R, .bool true] 23
    rw [show (w.alloc (.cells #[.string R, .bool true] 23)).heap.size = w.heap.size + 1 by simp] at hb
    have r0 := (hb 0 _ rfl).1
    have r1 := (hb 1 _ rfl).1
    refine bodyPost_ret (v := .tuple #[.agg #[.string R, .bool true], .slice none 0 0, .int .i64 9]) (by simp [results, Try.results15, go_sem, r0, r1]) rfl ?_
    exact ⟨none, 0, rfl, OwnK.nil_ _ _ _, ((Q.refl w).alloc _).alloc _⟩
  | false =>
    simp only at hs hbig
    have hL : tx r ++ s = tx (r ++ s.data.toList) := by rw [← tx_app, tx_list]
    have hf : feed ⟨r, false⟩ s.data.toList = if on (r ++ s.data.toList) = true then (⟨(wh (r ++ s.data.toList)).2, false⟩, (wh (r ++ s.data.toList)).1, 0) else (⟨[], true⟩, (wh (r ++ s.data.toList)).1, 3) := rfl
    rw [hf]
    have hsz : (tx (r ++ s.data.toList)).size = r.length + s.size := by rw [tx_size, List.length_append, size_list]
    have hW := fun w => frefWhole_any (tx (r ++ s.data.toList)) w (by unfold maxLen; omega) (by rw [list_tx]; exact hbig)
    rw [list_tx] at hW
    have hul := fused_le (r ++ s.data.toList)
    have hdu := fdrop_used (r ++ s.data.toList)
    have hrs : (tx r).size = r.length := tx_size r
    generalize r ++ s.data.toList = L at *
    have hLl : (tx L).size = L.length := tx_size L
    have hex : (tx L).extract (usedN L) (tx L).size = tx (wh L).2 := by
      rw [extract_list, ← hdu]
      show (⟨(((tx L).data.toList.take (tx L).size).drop _).toArray⟩ : ByteArray) = _
      rw [list_tx, List.take_of_length_le (by omega)]
      rfl
    have hsm : on L = true → (tx L).size - usedN L ≤ 2053 := fun h => by
      have := on_small h
      rw [← hdu, List.length_drop] at this
      omega
    clear hsm hdu hbig
    generalize hn : usedN L = n at *
    generalize (wh L).1 = l at *
    generalize (wh L).2 = rr at *
    generalize tx L = T at *
    generalize hRR : tx r = R at *
    have HW := Lib.hid hW
    have HL := Lib.hid hL
    have hadd : (R ++ s) = T := hL
    have hnT : n ≤ T.size := by omega
    have hb := Bx.new (w.alloc (.cells #[.string R, .bool false] 23)) [.string ⟨#[]⟩, .bool false] 23
    rw [show (w.alloc (.cells #[.string R, .bool false] 23)).heap.size = w.heap.size + 1 by simp] at hb
    have qb : Q w ((w.alloc (.cells #[.string R, .bool false] 23)).alloc (.cells #[.string ⟨#[]⟩, .bool false] 23)) := ((Q.refl w).alloc _).alloc _
    have hw2 : ((w.alloc (.cells #[.string R, .bool false] 23)).alloc (.cells #[.string ⟨#[]⟩, .bool false] 23)).heap.size = w.heap.size + 2 := by simp
    have HB := Lib.hid (And.intro hb (And.intro qb hw2))
    clear hW  hL hf hb qb hw2 hsz hLl hul
    cases ho : on L with
    | true =>
      rw [if_pos rfl]
      go_enter Try.func15, Try.ntmps15
      go_wp2_with fail
      refine (HW.out _).mono ?_
      rintro e w1 ⟨A, c, rfl, o1, q1⟩
      have X1 := Lib.hid (And.intro (HB.out.1.q q1) (And.intro (HB.out.2.1.trans q1) (o1.lower (b2 := w.heap.size + 2) (by rw [HB.out.2.2]; exact Nat.le_refl _))))
      clear o1 q1
      rw [ho]
      have X2 := X1
      obtain ⟨⟨p0, p1⟩, p2, p3⟩ := X2.out.1.get2
      go_wp2
      obtain ⟨⟨r0, r1⟩, _⟩ := (X2.out.1.set2 (.string (tx rr)) (.bool false)).get2
      refine bodyPost_ret (v := .tuple #[.agg #[.string (tx rr), .bool false], .slice A l.length c, .int .i64 0]) (by simp [results, Try.results15, go_sem, r0, r1]) rfl ?_
      exact ⟨A, c, rfl, (X2.out.2.2.set2 (b := w.heap.size + 1) (by omega) _ _).lower (by omega), X2.out.2.1.set2 (b := w.heap.size + 1) (by omega) _ _⟩
    | false =>
      rw [if_neg (by simp)]
      go_enter Try.func15, Try.ntmps15
      go_wp2_with fail
      refine (HW.out _).mono ?_
      rintro e w1 ⟨A, c, rfl, o1, q1⟩
      have X1 := Lib.hid (And.intro (HB.out.1.q q1) (And.intro (HB.out.2.1.trans q1) (o1.lower (b2 := w.heap.size + 2) (by rw [HB.out.2.2]; exact Nat.le_refl _))))
      clear o1 q1
      rw [ho]
      obtain ⟨⟨p0, p1⟩, p2, p3⟩ := X1.out.1.get2
      go_wp2
      obtain ⟨⟨r0, r1⟩, _⟩ := (X1.out.1.set2 (.string ⟨#[]⟩) (.bool true)).get2
      refine bodyPost_ret (v := .tuple #[.agg #[.string ⟨#[]⟩, .bool true], .slice A l.length c, .int .i64 3]) (by simp [results, Try.results15, go_sem, r0, r1]) rfl ?_
      exact ⟨A, c, rfl, (X1.out.2.2.set2 (b := w.heap.size + 1) (by omega) _ _).lower (by omega), X1.out.2.1.set2 (b := w.heap.size + 1) (by omega) _ _⟩
end Fm
end Go.Proofs.Ythcdcjidoacalaa
