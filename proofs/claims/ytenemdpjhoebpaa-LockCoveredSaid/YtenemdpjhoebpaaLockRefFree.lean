/- Contract: the document's Free. -/
import Derived.Test.YtenemdpjhoebpaaLockRefSettle
import Derived.Test.YtenemdpjhoebpaaLockFree
namespace Go.Proofs.Ytenemdpjhoebpaa
set_option maxRecDepth 100000
open Go.RowKit Prm Lm Sm
set_option linter.unusedVariables false
set_option linter.unusedSimpArgs false

theorem rows_mem {α : Type} {K : Kind α} {u : Value} : ∀ {l : List α}, u ∈ K.rows l → ∃ a ∈ l, u ∈ K.row a
  | [], h => by simp [Kind.rows] at h
  | a :: l, h => by
    rcases List.mem_append.1 h with h | h
    · exact ⟨a, by simp, h⟩
    · obtain ⟨b, hb, hu⟩ := rows_mem h
      exact ⟨b, by simp [hb], hu⟩
/-- a store into a cell that holds a slice leaves a list that holds none. -/
theorem Lst.odd {α : Type} {K : Kind α} (ho : ∀ a, ∀ u ∈ K.row a, ∀ x y z, u ≠ .slice x y z) {w : World} {A : Option Addr} {n : Nat} {l : List α} (h : Lst K w A n l) {p : Addr} {x : Option Addr} {y z : Nat} (hp : w.cell? p = some (.slice x y z)) (v : Value) : Lst K (w.setCell p v) A n l := by
  refine ⟨h.1, fun j u hu => ?_⟩
  obtain ⟨ad, e, hb, hc⟩ := h.2 j u hu
  refine ⟨ad, e, by simpa using hb, ?_⟩
  rw [World.cell?_setCell_other _ _ _ _ ?_]
  · exact hc
  · intro e2
    rw [← e2, hp] at hc
    injection hc with hc
    obtain ⟨a, _, ha⟩ := rows_mem (List.mem_of_getElem? hu)
    exact ho a u ha x y z hc.symm
theorem oddH : ∀ a, ∀ u ∈ holdK.row a, ∀ x y z, u ≠ .slice x y z := fun a u hu x y z => by simp [holdK] at hu; rcases hu with rfl | rfl | rfl | rfl <;> simp
theorem oddC : ∀ a, ∀ u ∈ claimK.row a, ∀ x y z, u ≠ .slice x y z := fun a u hu x y z => by simp [claimK] at hu; rcases hu with rfl | rfl | rfl | rfl | rfl <;> simp
theorem oddN : ∀ a, ∀ u ∈ numK.row a, ∀ x y z, u ≠ .slice x y z := fun a u hu x y z => by simp [numK] at hu; subst hu; simp
theorem stay_at {α : Type} (P : α → Bool) {l : List α} {k : Nat} (hk : k < l.length) : stay P (l.take (k + 1)) = if P l[k] = true then stay P (l.take k) else stay P (l.take k) ++ [l[k]] := by
  unfold stay
  rw [List.take_succ_eq_append_getElem hk, List.filter_append]
  cases h : P l[k] <;> simp [h]
theorem stay_len {α : Type} (P : α → Bool) (l : List α) : (stay P l).length ≤ l.length := List.length_filter_le _ _
theorem LoW.keep {l : Lo} (h : LoW l) (txn : Int) : LoW (Lm.keep l txn) := ⟨fun a ha => h.1 a (List.mem_filter.1 ha).1, fun a ha => h.2 a (List.mem_filter.1 ha).1⟩
/-- where the document's Free stands. -/
structure Fr (w : World) (A : Option Addr) (n c : Nat) (B : Option Addr) (m d : Nat) (X : Option Addr) (xn xc : Nat) (Y : Option Addr) (yn yd : Nat) (hs : List Ho) (qs : List Cl) (wr : World) : Prop where
  b1 : Bx wr w.heap.size [.slice A n c, .slice B m d]
  b3 : Bx wr (w.heap.size + 1) [.slice none 0 0, .slice none 0 0]
  bk : Bx wr (w.heap.size + 1 + 1) [.slice X xn xc, .slice Y yn yd]
  o1 : OwnK holdK wr (w.heap.size + 1 + 1 + 1) X xn xc hs
  o2 : OwnK claimK wr (w.heap.size + 1 + 1 + 1) Y yn yd qs
  q : Q w wr
section
variable {w wr w7 : World} {n c m d xn xc yn yd N c7 : Nat} {A B X Y A7 : Option Addr} {hs hs2 : List Ho} {qs qs2 : List Cl}
theorem Fr.lt (h : Fr w A n c B m d X xn xc Y yn yd hs qs wr) : w.heap.size + 1 + 1 + 1 ≤ wr.heap.size := h.bk.lt
theorem Fr.pushH (h : Fr w A n c B m d X xn xc Y yn yd hs qs wr) (o : OwnK holdK w7 (w.heap.size + 1 + 1 + 1) A7 N c7 hs2) (gr : wr.grownBy w7 (Value.slice X xn xc).ownBlock) :
    Fr w A n c B m d A7 N c7 Y yn yd hs2 qs (w7.setCell ⟨w.heap.size + 1 + 1, 0, none⟩ (.slice A7 N c7)) := by
  have hl := h.lt
  have hb := grown_below h.o1 gr hl
  exact ⟨(h.b1.below hb (by omega)).far (p := ⟨w.heap.size + 1 + 1, 0, none⟩) (by show w.heap.size + 1 + 1 ≠ w.heap.size; omega) _, (h.b3.below hb (by omega)).far (p := ⟨w.heap.size + 1 + 1, 0, none⟩) (by show w.heap.size + 1 + 1 ≠ w.heap.size + 1; omega) _,
    (h.bk.below hb (by omega)).set (k := 0) (by simp) _, o.setCell (p := ⟨w.heap.size + 1 + 1, 0, none⟩) (by show w.heap.size + 1 + 1 < _; omega) _,
    (h.o2.away gr (apt_kinds tHC h.o1 h.o2) (fun _ => trivial)).setCell (p := ⟨w.heap.size + 1 + 1, 0, none⟩) (by show w.heap.size + 1 + 1 < _; omega) _, Q.setCell (h.q.below.trans (hb.mono (by omega))) (p := ⟨w.heap.size + 1 + 1, 0, none⟩) (by show w.heap.size ≤ w.heap.size + 1 + 1; omega) _⟩
theorem Fr.pushC (h : Fr w A n c B m d X xn xc Y yn yd hs qs wr) (o : OwnK claimK w7 (w.heap.size + 1 + 1 + 1) A7 N c7 qs2) (gr : wr.grownBy w7 (Value.slice Y yn yd).ownBlock) :
    Fr w A n c B m d X xn xc A7 N c7 hs qs2 (w7.setCell ⟨w.heap.size + 1 + 1, 1, none⟩ (.slice A7 N c7)) := by
  have hl := h.lt
  have hb := grown_below h.o2 gr hl
  exact ⟨(h.b1.below hb (by omega)).far (p := ⟨w.heap.size + 1 + 1, 1, none⟩) (by show w.heap.size + 1 + 1 ≠ w.heap.size; omega) _, (h.b3.below hb (by omega)).far (p := ⟨w.heap.size + 1 + 1, 1, none⟩) (by show w.heap.size + 1 + 1 ≠ w.heap.size + 1; omega) _,
    (h.bk.below hb (by omega)).set (k := 1) (by simp) _, (h.o1.away gr (apt_kinds tHC h.o1 h.o2).symm (fun _ => trivial)).setCell (p := ⟨w.heap.size + 1 + 1, 1, none⟩) (by show w.heap.size + 1 + 1 < _; omega) _,
    o.setCell (p := ⟨w.heap.size + 1 + 1, 1, none⟩) (by show w.heap.size + 1 + 1 < _; omega) _, Q.setCell (h.q.below.trans (hb.mono (by omega))) (p := ⟨w.heap.size + 1 + 1, 1, none⟩) (by show w.heap.size ≤ w.heap.size + 1 + 1; omega) _⟩
end

set_option maxHeartbeats 16000000 in
set_option maxRecDepth 100000 in
theorem rfree_any (A B : Option Addr) (n c m d : Nat) (l : Lo) (txn : Int) (w : World) (hA : In_ holdK w A n c l.held) (hB : In_ claimK w B m d l.queue) (hw : LoW l) (hn : n + m ≤ 300000) :
    Calls Try.prog 26 #[locV A n c B m d, .int .i64 txn] w fun e w' => RetSr w (Lm.free l txn) e w' := by
  have HA := Lib.hid hA
  have HB := Lib.hid hB
  have HAl := Lib.hid hA.len
  have HBl := Lib.hid hB.len
  have HLW := Lib.hid hw
  have HR : Hid (Fr w A n c B m d none 0 0 none 0 0 [] [] (((w.alloc (.cells #[.slice A n c, .slice B m d] 25)).alloc (.cells #[.slice none 0 0, .slice none 0 0] 25)).alloc (.cells #[.slice none 0 0, .slice none 0 0] 25))) := by
    have h2 := (Bx.new (w.alloc (.cells #[.slice A n c, .slice B m d] 25)) [.slice none 0 0, .slice none 0 0] 25).alloc (.cells #[.slice none 0 0, .slice none 0 0] 25)
    have h3 := Bx.new ((w.alloc (.cells #[.slice A n c, .slice B m d] 25)).alloc (.cells #[.slice none 0 0, .slice none 0 0] 25)) [.slice none 0 0, .slice none 0 0] 25
    rw [show (w.alloc (.cells #[.slice A n c, .slice B m d] 25)).heap.size = w.heap.size + 1 by simp] at h2
    rw [show ((w.alloc (.cells #[.slice A n c, .slice B m d] 25)).alloc (.cells #[.slice none 0 0, .slice none 0 0] 25)).heap.size = w.heap.size + 1 + 1 by simp] at h3
    exact Lib.hid ⟨((Bx.new w [.slice A n c, .slice B m d] 25).alloc _).alloc _, h2, h3, OwnK.nil_ _ _ _, OwnK.nil_ _ _ _, (((Q.refl w).alloc _).alloc _).alloc _⟩
  clear hA hB hw
  go_enter Try.func26, Try.ntmps26
  go_upto_region 2 with (fail)
  generalize ((w.alloc (.cells #[.slice A n c, .slice B m d] 25)).alloc (.cells #[.slice none 0 0, .slice none 0 0] 25)).alloc (.cells #[.slice none 0 0, .slice none 0 0] 25) = W0 at HR ⊢
  obtain ⟨⟨b0, b1⟩, f0, f1⟩ := HR.out.b1.get2
  obtain ⟨⟨r0, r1⟩, g0, g1⟩ := HR.out.b3.get2
  obtain ⟨⟨k0, k1⟩, h0, h1⟩ := HR.out.bk.get2
  go_wp2
  go_loopw [7] (fun i wr => ∃ (k : Nat) (X : Option Addr) (xn xc : Nat) (hs : List Ho), k ≤ n ∧ i = .int .i64 k ∧ Fr w A n c B m d X xn xc none 0 0 hs [] wr ∧ hs = stay (isH txn) (l.held.take k)) (fun i _ => n - (intOf i).toNat)
  case atStart => exact ⟨0, none, 0, 0, [], Nat.zero_le _, rfl, HR.out, by simp [stay]⟩
  case round =>
    clear b0 b1 f0 f1 r0 r1 g0 g1 k0 k1 h0 h1 HR
    obtain ⟨k, X, xn, xc, hs, hk, rfl, hr, he⟩ := hrel
    have HR := Lib.hid hr
    have HE := Lib.hid he
    have hxl := hr.o1.len
    have hsl : xn ≤ k := by
      rw [← hxl, he]
      exact Nat.le_trans (stay_len _ _) (by rw [List.length_take]; omega)
    clear hr he hxl
    obtain ⟨⟨b0, b1⟩, f0, f1⟩ := HR.out.b1.get2
    obtain ⟨⟨r0, r1⟩, g0, g1⟩ := HR.out.b3.get2
    obtain ⟨⟨k0, k1⟩, h0, h1⟩ := HR.out.bk.get2
    by_cases hlt : k < n
    · have hkl : k < l.held.length := by have := HAl.out; omega
      have hkn : (k : Int) < (n : Int) := by omega
      have HG := Lib.hid (stay_at (isH txn) hkl)
      obtain ⟨ad, hae, hab, y0, y1, y2, y3⟩ := load_hold HA.out.lst hlt hkl
      subst hae
      generalize l.held[k] = h at y0 y1 y2 y3 HG
      have y0 := box_ HR.out.q y0
      have y1 := box_ HR.out.q y1
      have y2 := box_ HR.out.q y2
      have y3 := box_ HR.out.q y3
      have hpb : (ad.add (k * 4)).block < w.heap.size + 1 + 1 + 1 := by rw [addr_block]; omega
      have eq1 := int_eq h.txn txn
      by_cases ht : h.txn = txn
      · have HG2 := Lib.hid (show hs = stay (isH txn) (l.held.take (k + 1)) by rw [HG.out, if_pos (show isH txn h = true from decide_eq_true ht), HE.out])
        have et : (h.txn != txn) = false := by simpa using ht
        clear ht eq1
        go_wp2
        go_roundw
        case rel => exact ⟨k + 1, X, xn, xc, hs, by omega, by go_num, HR.out, HG2.out⟩
        case measure => simp [intOf]; omega
      · have HG2 := Lib.hid (show hs ++ [h] = stay (isH txn) (l.held.take (k + 1)) by rw [HG.out, if_neg (show ¬ isH txn h = true by unfold isH; simp [ht]), HE.out])
        have et : (h.txn != txn) = true := by simpa using ht
        clear ht eq1
        have HBs := Lib.hid HR.out.lt
        have pbA : w.heap.size < w.heap.size + 1 + 1 + 1 := by omega
        have pbK : w.heap.size + 1 + 1 < w.heap.size + 1 + 1 + 1 := by omega
        have NF1 := Lib.hid (show (xn + 1) * 48 ≤ 140737488355328 by omega)
        go_wp2
        refine wp_region_heldL 10 (Below (w.heap.size + 1 + 1 + 1) wr) (by kernel_rfl) ?szz0 (fun hHeld => ?rzz0)
        case szz0 =>
          exact Below.drew (Below.refl _ _)
        case' rzz0 => skip
        have OO : Hid (OwnK holdK wr.drew (w.heap.size + 1 + 1 + 1) X xn xc (hs)) := Lib.hid (HR.out.o1)
        have GG : Hid (wr.grownBy wr.drew (Value.slice X xn xc).ownBlock) := Lib.hid (grown_q ((Q.refl wr).drew) _)
        generalize hgen : wr.drew = D0 at hHeld OO GG ⊢
        clear hgen
        refine wpAnyL_take (i := 0) (oi := ?ozz1) (v := ?vzz1) ?hzz1 ?azz1 ?bzz1 ?czz1 ?kzz1 ?qzz1 ?yzz1 ?szz1 ?rzz1
        case hzz1 => simp only [List.getElem?_toArray, List.getElem?_cons_zero]; rfl
        case azz1 => kernel_rfl
        case bzz1 => kernel_rfl
        case czz1 => kernel_rfl
        case kzz1 => kernel_rfl
        case yzz1 =>
          refine Or.inl ⟨by rfl, ?_⟩
          intro w hSw
          have zb0 := box_b hSw (by exact pbA) b0; have zb1 := box_b hSw (by exact pbA) b1; have zk0 := box_b hSw (by exact pbK) k0; have zk1 := box_b hSw (by exact pbK) k1; have zy0 := box_b hSw (by exact hpb) y0; have zy1 := box_b hSw (by exact hpb) y1; have zy2 := box_b hSw (by exact hpb) y2; have zy3 := box_b hSw (by exact hpb) y3; clear hSw
          go_simp
          try with_reducible rfl
        case qzz1 => exact fun _ _ _ h => h
        case szz1 => first | assumption | trivial
        case' rzz1 => simp only [Act.put, List.setIfInBounds_toArray, List.set_cons_zero, List.set_cons_succ]
        refine wpAnyL_take (i := 1) (oi := ?ozz2) (v := ?vzz2) ?hzz2 ?azz2 ?bzz2 ?czz2 ?kzz2 ?qzz2 ?yzz2 ?szz2 ?rzz2
        case hzz2 => simp only [List.getElem?_toArray, List.getElem?_cons_zero, List.getElem?_cons_succ]; rfl
        case azz2 => kernel_rfl
        case bzz2 => kernel_rfl
        case czz2 => kernel_rfl
        case kzz2 => kernel_rfl
        case yzz2 =>
          refine Or.inl ⟨by rfl, ?_⟩
          intro w hSw
          have zb0 := box_b hSw (by exact pbA) b0; have zb1 := box_b hSw (by exact pbA) b1; have zk0 := box_b hSw (by exact pbK) k0; have zk1 := box_b hSw (by exact pbK) k1; have zy0 := box_b hSw (by exact hpb) y0; have zy1 := box_b hSw (by exact hpb) y1; have zy2 := box_b hSw (by exact hpb) y2; have zy3 := box_b hSw (by exact hpb) y3; clear hSw
          go_simp
          try with_reducible rfl
        case qzz2 => exact fun _ _ _ h => h
        case szz2 => first | assumption | trivial
        case' rzz2 => simp only [Act.put, List.setIfInBounds_toArray, List.set_cons_zero, List.set_cons_succ]
        refine wpAnyL_take (i := 2) (oi := ?ozz3) (v := ?vzz3) ?hzz3 ?azz3 ?bzz3 ?czz3 ?kzz3 ?qzz3 ?yzz3 ?szz3 ?rzz3
        case hzz3 => simp only [List.getElem?_toArray, List.getElem?_cons_zero, List.getElem?_cons_succ]; rfl
        case azz3 => kernel_rfl
        case bzz3 => kernel_rfl
        case czz3 => kernel_rfl
        case kzz3 => kernel_rfl
        case yzz3 =>
          refine Or.inl ⟨by rfl, ?_⟩
          intro w hSw
          have zb0 := box_b hSw (by exact pbA) b0; have zb1 := box_b hSw (by exact pbA) b1; have zk0 := box_b hSw (by exact pbK) k0; have zk1 := box_b hSw (by exact pbK) k1; have zy0 := box_b hSw (by exact hpb) y0; have zy1 := box_b hSw (by exact hpb) y1; have zy2 := box_b hSw (by exact hpb) y2; have zy3 := box_b hSw (by exact hpb) y3; clear hSw
          go_simp
          try with_reducible rfl
        case qzz3 => exact fun _ _ _ h => h
        case szz3 => first | assumption | trivial
        case' rzz3 => simp only [Act.put, List.setIfInBounds_toArray, List.set_cons_zero, List.set_cons_succ]
        refine wpAnyL_take (i := 3) (oi := ?ozz4) (v := ?vzz4) ?hzz4 ?azz4 ?bzz4 ?czz4 ?kzz4 ?qzz4 ?yzz4 ?szz4 ?rzz4
        case hzz4 => simp only [List.getElem?_toArray, List.getElem?_cons_zero, List.getElem?_cons_succ]; rfl
        case azz4 => kernel_rfl
        case bzz4 => kernel_rfl
        case czz4 => kernel_rfl
        case kzz4 => kernel_rfl
        case yzz4 =>
          refine Or.inl ⟨by rfl, ?_⟩
          intro w hSw
          have zb0 := box_b hSw (by exact pbA) b0; have zb1 := box_b hSw (by exact pbA) b1; have zk0 := box_b hSw (by exact pbK) k0; have zk1 := box_b hSw (by exact pbK) k1; have zy0 := box_b hSw (by exact hpb) y0; have zy1 := box_b hSw (by exact hpb) y1; have zy2 := box_b hSw (by exact hpb) y2; have zy3 := box_b hSw (by exact hpb) y3; clear hSw
          go_simp
          try with_reducible rfl
        case qzz4 => exact fun _ _ _ h => h
        case szz4 => first | assumption | trivial
        case' rzz4 => simp only [Act.put, List.setIfInBounds_toArray, List.set_cons_zero, List.set_cons_succ]
        refine wpAnyL_take (i := 4) (oi := ?ozz5) (v := ?vzz5) ?hzz5 ?azz5 ?bzz5 ?czz5 ?kzz5 ?qzz5 ?yzz5 ?szz5 ?rzz5
        case hzz5 => simp only [List.getElem?_toArray, List.getElem?_cons_zero, List.getElem?_cons_succ]; rfl
        case azz5 => kernel_rfl
        case bzz5 => kernel_rfl
        case czz5 => kernel_rfl
        case kzz5 => kernel_rfl
        case yzz5 =>
          refine Or.inl ⟨by rfl, ?_⟩
          intro w hSw
          have zb0 := box_b hSw (by exact pbA) b0; have zb1 := box_b hSw (by exact pbA) b1; have zk0 := box_b hSw (by exact pbK) k0; have zk1 := box_b hSw (by exact pbK) k1; have zy0 := box_b hSw (by exact hpb) y0; have zy1 := box_b hSw (by exact hpb) y1; have zy2 := box_b hSw (by exact hpb) y2; have zy3 := box_b hSw (by exact hpb) y3; clear hSw
          go_simp
          try with_reducible rfl
        case qzz5 => exact fun _ _ _ h => h
        case szz5 => first | assumption | trivial
        case' rzz5 => simp only [Act.put, List.setIfInBounds_toArray, List.set_cons_zero, List.set_cons_succ]
        refine wpAnyL_take (i := 5) (oi := ?ozz6) (v := ?vzz6) ?hzz6 ?azz6 ?bzz6 ?czz6 ?kzz6 ?qzz6 ?yzz6 ?szz6 ?rzz6
        case hzz6 => simp only [List.getElem?_toArray, List.getElem?_cons_zero, List.getElem?_cons_succ]; rfl
        case azz6 => kernel_rfl
        case bzz6 => kernel_rfl
        case czz6 => kernel_rfl
        case kzz6 => kernel_rfl
        case yzz6 =>
          refine Or.inl ⟨by rfl, ?_⟩
          intro w hSw
          have zb0 := box_b hSw (by exact pbA) b0; have zb1 := box_b hSw (by exact pbA) b1; have zk0 := box_b hSw (by exact pbK) k0; have zk1 := box_b hSw (by exact pbK) k1; have zy0 := box_b hSw (by exact hpb) y0; have zy1 := box_b hSw (by exact hpb) y1; have zy2 := box_b hSw (by exact hpb) y2; have zy3 := box_b hSw (by exact hpb) y3; clear hSw
          go_simp
          try with_reducible rfl
        case qzz6 => exact fun _ _ _ h => h
        case szz6 => first | assumption | trivial
        case' rzz6 => simp only [Act.put, List.setIfInBounds_toArray, List.set_cons_zero, List.set_cons_succ]
        refine wpAnyL_take (i := 6) (oi := ?ozz7) (v := ?vzz7) ?hzz7 ?azz7 ?bzz7 ?czz7 ?kzz7 ?qzz7 ?yzz7 ?szz7 ?rzz7
        case hzz7 => simp only [List.getElem?_toArray, List.getElem?_cons_zero, List.getElem?_cons_succ]; rfl
        case azz7 => kernel_rfl
        case bzz7 => kernel_rfl
        case czz7 => kernel_rfl
        case kzz7 => kernel_rfl
        case yzz7 =>
          refine Or.inl ⟨by rfl, ?_⟩
          intro w hSw
          have zb0 := box_b hSw (by exact pbA) b0; have zb1 := box_b hSw (by exact pbA) b1; have zk0 := box_b hSw (by exact pbK) k0; have zk1 := box_b hSw (by exact pbK) k1; have zy0 := box_b hSw (by exact hpb) y0; have zy1 := box_b hSw (by exact hpb) y1; have zy2 := box_b hSw (by exact hpb) y2; have zy3 := box_b hSw (by exact hpb) y3; clear hSw
          go_simp
          try with_reducible rfl
        case qzz7 => exact fun _ _ _ h => h
        case szz7 => first | assumption | trivial
        case' rzz7 => simp only [Act.put, List.setIfInBounds_toArray, List.set_cons_zero, List.set_cons_succ]
        refine wpAnyL_ready (rs := [7]) (by kernel_rfl) (by simp) ?_
        refine AllReadyL.cons (o := ?ozz11) ?hzz11 (fun K hK => ?kzz11) ?mzz11
        case hzz11 => simp only [List.getElem?_toArray, List.getElem?_cons_zero, List.getElem?_cons_succ]; rfl
        case kzz11 =>
          go_simp
          have OB : Hid (OwnK holdK (D0.alloc (.cells #[.int .i64 h.txn, .int .i64 h.w.mode, .string h.w.lo, .string h.w.hi] 52)) (w.heap.size + 1 + 1 + 1) (some ⟨D0.heap.size, 0, none⟩) 1 1 [h]) := Lib.hid (OwnK.lit1 holdK D0 (w.heap.size + 1 + 1 + 1) (Nat.le_trans HBs.out hHeld.size) h)
          have OB0 := Lib.hid (show D0.heap.size < (D0.alloc (.cells #[.int .i64 h.txn, .int .i64 h.w.mode, .string h.w.lo, .string h.w.hi] 52)).heap.size by simp)
          have qa := below_al hHeld HBs.out (.cells #[.int .i64 h.txn, .int .i64 h.w.mode, .string h.w.lo, .string h.w.hi] 52)
          have OO := Lib.hid (OO.out.alloc (.cells #[.int .i64 h.txn, .int .i64 h.w.mode, .string h.w.lo, .string h.w.hi] 52))
          have GG := Lib.hid (GG.out.trans (World.grownBy_alloc _ (.cells #[.int .i64 h.txn, .int .i64 h.w.mode, .string h.w.lo, .string h.w.hi] 52) _))
          generalize D0.alloc (.cells #[.int .i64 h.txn, .int .i64 h.w.mode, .string h.w.lo, .string h.w.hi] 52) = Y0 at OB OB0 qa OO GG ⊢
          generalize D0.heap.size = nb at OB OB0 ⊢
          refine hK.out _ _ ?Szz11 (fun hHeld => ?Rzz11)
          case Szz11 =>
            exact qa
          case Rzz11 =>
            clear hK K
            try simp only [Act.put, List.setIfInBounds_toArray, List.set_cons_zero, List.set_cons_succ]
            refine wpAnyL_ready (rs := [8]) (by kernel_rfl) (by simp) ?_
            refine AllReadyL.cons (o := ?ozz10) ?hzz10 (fun K hK => ?kzz10) ?mzz10
            case hzz10 => simp only [List.getElem?_toArray, List.getElem?_cons_zero, List.getElem?_cons_succ]; rfl
            case kzz10 =>
              refine step_appKM holdK (by rfl) _ _ _ rfl (by rfl) (w.heap.size + 1 + 1 + 1) X xn xc (hs) (by rfl) OO.out _ 1 1 [h] (by rfl) OB.out.lst (fun e => by cases e) (xn + 1) rfl (hs ++ [h]) rfl NF1.out (Nat.le_trans HBs.out hHeld.size) ?_
              intro A7 c7 w71 o7 b7 g7
              have q7 := hHeld.trans b7
              have G7 := Lib.hid (GG.out.trans g7)
              refine hK.out _ _ ?Szz10 (fun hHeld => ?Rzz10)
              case Szz10 =>
                exact q7
              case Rzz10 =>
                clear hK K
                try simp only [Act.put, List.setIfInBounds_toArray, List.set_cons_zero, List.set_cons_succ]
                refine wpAnyL_take (i := 9) (oi := ?ozz8) (v := ?vzz8) ?hzz8 ?azz8 ?bzz8 ?czz8 ?kzz8 ?qzz8 ?yzz8 ?szz8 ?rzz8
                case hzz8 => simp only [List.getElem?_toArray, List.getElem?_cons_zero, List.getElem?_cons_succ]; rfl
                case azz8 => kernel_rfl
                case bzz8 => kernel_rfl
                case czz8 => kernel_rfl
                case kzz8 => kernel_rfl
                case yzz8 =>
                  refine Or.inl ⟨by rfl, ?_⟩
                  intro w hSw
                  have zb0 := box_b hSw (by exact pbA) b0; have zb1 := box_b hSw (by exact pbA) b1; have zk0 := box_b hSw (by exact pbK) k0; have zk1 := box_b hSw (by exact pbK) k1; have zy0 := box_b hSw (by exact hpb) y0; have zy1 := box_b hSw (by exact hpb) y1; have zy2 := box_b hSw (by exact hpb) y2; have zy3 := box_b hSw (by exact hpb) y3; clear hSw
                  go_simp
                  try with_reducible rfl
                case qzz8 => exact fun _ _ _ h => h
                case szz8 => first | assumption | trivial
                case' rzz8 => simp only [Act.put, List.setIfInBounds_toArray, List.set_cons_zero, List.set_cons_succ]
                refine wpAnyL_ready (rs := [10]) (by kernel_rfl) (by simp) ?_
                refine AllReadyL.consK (o := ?ozz9) ?hzz9 ?lzz9 (fun K hK => ?kzz9) ?mzz9
                case hzz9 => simp only [List.getElem?_toArray, List.getElem?_cons_zero, List.getElem?_cons_succ]; rfl
                case lzz9 => kernel_rfl
                case kzz9 =>
                  have HZ := Lib.hid hHeld
                  have hB7 := hHeld
                  obtain ⟨⟨p0, p1⟩, p2, p3⟩ := (HR.out.bk.below hHeld (by omega)).get2
                  go_simp
                  refine hK.out _ _ ?Rzz9
                  case Rzz9 =>
                    clear hK K
                    try simp only [Act.put, List.setIfInBounds_toArray, List.set_cons_zero, List.set_cons_succ]
                    refine wpAnyH_done (by kernel_rfl) ?_ _
                    have HR7 := Lib.hid (HR.out.pushH o7 G7.out)
                    clear b0 b1 f0 f1 r0 r1 g0 g1 k0 k1 h0 h1 p0 p1 p2 p3 o7 hB7
                    go_wp2
                    go_roundw
                    case rel => exact ⟨k + 1, A7, xn + 1, c7, hs ++ [h], by omega, by go_num, HR7.out, HG2.out⟩
                    case measure => simp [intOf]; omega
                case' mzz9 => skip
                exact AllReadyL.nil
            case' mzz10 => skip
            exact AllReadyL.nil
        case' mzz11 => skip
        exact AllReadyL.nil
    · have hkn : ¬ (k : Int) < (n : Int) := by omega
      have HS1 := Lib.hid (show hs = stay (isH txn) l.held by have := HE.out; rwa [List.take_of_length_le (by have := HAl.out; omega)] at this)
      go_wp2
      clear hlt hk hsl HE
      go_loopw [8] (fun i wr => ∃ (k : Nat) (X : Option Addr) (xn xc : Nat) (Y : Option Addr) (yn yd : Nat) (hs : List Ho) (qs : List Cl), k ≤ m ∧ i = .int .i64 k ∧ Fr w A n c B m d X xn xc Y yn yd hs qs wr ∧ qs = stay (isC txn) (l.queue.take k) ∧ hs = stay (isH txn) l.held) (fun i _ => m - (intOf i).toNat)
      case atStart => exact ⟨0, X, xn, xc, none, 0, 0, hs, [], Nat.zero_le _, rfl, HR.out, by simp [stay], HS1.out⟩
      case round =>
        clear b0 b1 f0 f1 r0 r1 g0 g1 k0 k1 h0 h1 HR HS1
        obtain ⟨k, X, xn, xc, Y, yn, yd, hs, qs, hk, rfl, hr, he, hfx⟩ := hrel
        have HR := Lib.hid hr
        have HE := Lib.hid he
        have HS1 := Lib.hid hfx
        clear hfx
        have hxl := hr.o2.len
        have hsl : yn ≤ k := by
          rw [← hxl, he]
          exact Nat.le_trans (stay_len _ _) (by rw [List.length_take]; omega)
        clear hr he hxl
        obtain ⟨⟨b0, b1⟩, f0, f1⟩ := HR.out.b1.get2
        obtain ⟨⟨r0, r1⟩, g0, g1⟩ := HR.out.b3.get2
        obtain ⟨⟨k0, k1⟩, h0, h1⟩ := HR.out.bk.get2
        by_cases hlt : k < m
        · have hkl : k < l.queue.length := by have := HBl.out; omega
          have hkn : (k : Int) < (m : Int) := by omega
          have HG := Lib.hid (stay_at (isC txn) hkl)
          obtain ⟨ad, hae, hab, y0, y1, y2, y3, y4⟩ := load_claim HB.out.lst hlt hkl
          subst hae
          generalize l.queue[k] = h at y0 y1 y2 y3 y4 HG
          have y0 := box_ HR.out.q y0
          have y1 := box_ HR.out.q y1
          have y2 := box_ HR.out.q y2
          have y3 := box_ HR.out.q y3
          have y4 := box_ HR.out.q y4
          have hpb : (ad.add (k * 5)).block < w.heap.size + 1 + 1 + 1 := by rw [addr_block]; omega
          have eq1 := int_eq h.txn txn
          by_cases ht : h.txn = txn
          · have HG2 := Lib.hid (show qs = stay (isC txn) (l.queue.take (k + 1)) by rw [HG.out, if_pos (show isC txn h = true from decide_eq_true ht), HE.out])
            have et : (h.txn != txn) = false := by simpa using ht
            clear ht eq1
            go_wp2
            go_roundw
            case rel => exact ⟨k + 1, X, xn, xc, Y, yn, yd, hs, qs, by omega, by go_num, HR.out, HG2.out, HS1.out⟩
            case measure => simp [intOf]; omega
          · have HG2 := Lib.hid (show qs ++ [h] = stay (isC txn) (l.queue.take (k + 1)) by rw [HG.out, if_neg (show ¬ isC txn h = true by unfold isC; simp [ht]), HE.out])
            have et : (h.txn != txn) = true := by simpa using ht
            clear ht eq1
            have HBs := Lib.hid HR.out.lt
            have pbA : w.heap.size < w.heap.size + 1 + 1 + 1 := by omega
            have pbK : w.heap.size + 1 + 1 < w.heap.size + 1 + 1 + 1 := by omega
            have NF1 := Lib.hid (show (yn + 1) * 56 ≤ 140737488355328 by omega)
            go_wp2
            refine wp_region_heldL 10 (Below (w.heap.size + 1 + 1 + 1) wr) (by kernel_rfl) ?szz12 (fun hHeld => ?rzz12)
            case szz12 =>
              exact Below.drew (Below.refl _ _)
            case' rzz12 => skip
            have OO : Hid (OwnK claimK wr.drew (w.heap.size + 1 + 1 + 1) Y yn yd (qs)) := Lib.hid (HR.out.o2)
            have GG : Hid (wr.grownBy wr.drew (Value.slice Y yn yd).ownBlock) := Lib.hid (grown_q ((Q.refl wr).drew) _)
            generalize hgen : wr.drew = D0 at hHeld OO GG ⊢
            clear hgen
            refine wpAnyL_take (i := 0) (oi := ?ozz13) (v := ?vzz13) ?hzz13 ?azz13 ?bzz13 ?czz13 ?kzz13 ?qzz13 ?yzz13 ?szz13 ?rzz13
            case hzz13 => simp only [List.getElem?_toArray, List.getElem?_cons_zero]; rfl
            case azz13 => kernel_rfl
            case bzz13 => kernel_rfl
            case czz13 => kernel_rfl
            case kzz13 => kernel_rfl
            case yzz13 =>
              refine Or.inl ⟨by rfl, ?_⟩
              intro w hSw
              have zb0 := box_b hSw (by exact pbA) b0; have zb1 := box_b hSw (by exact pbA) b1; have zk0 := box_b hSw (by exact pbK) k0; have zk1 := box_b hSw (by exact pbK) k1; have zy0 := box_b hSw (by exact hpb) y0; have zy1 := box_b hSw (by exact hpb) y1; have zy2 := box_b hSw (by exact hpb) y2; have zy3 := box_b hSw (by exact hpb) y3; have zy4 := box_b hSw (by exact hpb) y4; clear hSw
              go_simp
              try with_reducible rfl
            case qzz13 => exact fun _ _ _ h => h
            case szz13 => first | assumption | trivial
            case' rzz13 => simp only [Act.put, List.setIfInBounds_toArray, List.set_cons_zero, List.set_cons_succ]
            refine wpAnyL_take (i := 1) (oi := ?ozz14) (v := ?vzz14) ?hzz14 ?azz14 ?bzz14 ?czz14 ?kzz14 ?qzz14 ?yzz14 ?szz14 ?rzz14
            case hzz14 => simp only [List.getElem?_toArray, List.getElem?_cons_zero, List.getElem?_cons_succ]; rfl
            case azz14 => kernel_rfl
            case bzz14 => kernel_rfl
            case czz14 => kernel_rfl
            case kzz14 => kernel_rfl
            case yzz14 =>
              refine Or.inl ⟨by rfl, ?_⟩
              intro w hSw
              have zb0 := box_b hSw (by exact pbA) b0; have zb1 := box_b hSw (by exact pbA) b1; have zk0 := box_b hSw (by exact pbK) k0; have zk1 := box_b hSw (by exact pbK) k1; have zy0 := box_b hSw (by exact hpb) y0; have zy1 := box_b hSw (by exact hpb) y1; have zy2 := box_b hSw (by exact hpb) y2; have zy3 := box_b hSw (by exact hpb) y3; have zy4 := box_b hSw (by exact hpb) y4; clear hSw
              go_simp
              try with_reducible rfl
            case qzz14 => exact fun _ _ _ h => h
            case szz14 => first | assumption | trivial
            case' rzz14 => simp only [Act.put, List.setIfInBounds_toArray, List.set_cons_zero, List.set_cons_succ]
            refine wpAnyL_take (i := 2) (oi := ?ozz15) (v := ?vzz15) ?hzz15 ?azz15 ?bzz15 ?czz15 ?kzz15 ?qzz15 ?yzz15 ?szz15 ?rzz15
            case hzz15 => simp only [List.getElem?_toArray, List.getElem?_cons_zero, List.getElem?_cons_succ]; rfl
            case azz15 => kernel_rfl
            case bzz15 => kernel_rfl
            case czz15 => kernel_rfl
            case kzz15 => kernel_rfl
            case yzz15 =>
              refine Or.inl ⟨by rfl, ?_⟩
              intro w hSw
              have zb0 := box_b hSw (by exact pbA) b0; have zb1 := box_b hSw (by exact pbA) b1; have zk0 := box_b hSw (by exact pbK) k0; have zk1 := box_b hSw (by exact pbK) k1; have zy0 := box_b hSw (by exact hpb) y0; have zy1 := box_b hSw (by exact hpb) y1; have zy2 := box_b hSw (by exact hpb) y2; have zy3 := box_b hSw (by exact hpb) y3; have zy4 := box_b hSw (by exact hpb) y4; clear hSw
              go_simp
              try with_reducible rfl
            case qzz15 => exact fun _ _ _ h => h
            case szz15 => first | assumption | trivial
            case' rzz15 => simp only [Act.put, List.setIfInBounds_toArray, List.set_cons_zero, List.set_cons_succ]
            refine wpAnyL_take (i := 3) (oi := ?ozz16) (v := ?vzz16) ?hzz16 ?azz16 ?bzz16 ?czz16 ?kzz16 ?qzz16 ?yzz16 ?szz16 ?rzz16
            case hzz16 => simp only [List.getElem?_toArray, List.getElem?_cons_zero, List.getElem?_cons_succ]; rfl
            case azz16 => kernel_rfl
            case bzz16 => kernel_rfl
            case czz16 => kernel_rfl
            case kzz16 => kernel_rfl
            case yzz16 =>
              refine Or.inl ⟨by rfl, ?_⟩
              intro w hSw
              have zb0 := box_b hSw (by exact pbA) b0; have zb1 := box_b hSw (by exact pbA) b1; have zk0 := box_b hSw (by exact pbK) k0; have zk1 := box_b hSw (by exact pbK) k1; have zy0 := box_b hSw (by exact hpb) y0; have zy1 := box_b hSw (by exact hpb) y1; have zy2 := box_b hSw (by exact hpb) y2; have zy3 := box_b hSw (by exact hpb) y3; have zy4 := box_b hSw (by exact hpb) y4; clear hSw
              go_simp
              try with_reducible rfl
            case qzz16 => exact fun _ _ _ h => h
            case szz16 => first | assumption | trivial
            case' rzz16 => simp only [Act.put, List.setIfInBounds_toArray, List.set_cons_zero, List.set_cons_succ]
            refine wpAnyL_take (i := 4) (oi := ?ozz17) (v := ?vzz17) ?hzz17 ?azz17 ?bzz17 ?czz17 ?kzz17 ?qzz17 ?yzz17 ?szz17 ?rzz17
            case hzz17 => simp only [List.getElem?_toArray, List.getElem?_cons_zero, List.getElem?_cons_succ]; rfl
            case azz17 => kernel_rfl
            case bzz17 => kernel_rfl
            case czz17 => kernel_rfl
            case kzz17 => kernel_rfl
            case yzz17 =>
              refine Or.inl ⟨by rfl, ?_⟩
              intro w hSw
              have zb0 := box_b hSw (by exact pbA) b0; have zb1 := box_b hSw (by exact pbA) b1; have zk0 := box_b hSw (by exact pbK) k0; have zk1 := box_b hSw (by exact pbK) k1; have zy0 := box_b hSw (by exact hpb) y0; have zy1 := box_b hSw (by exact hpb) y1; have zy2 := box_b hSw (by exact hpb) y2; have zy3 := box_b hSw (by exact hpb) y3; have zy4 := box_b hSw (by exact hpb) y4; clear hSw
              go_simp
              try with_reducible rfl
            case qzz17 => exact fun _ _ _ h => h
            case szz17 => first | assumption | trivial
            case' rzz17 => simp only [Act.put, List.setIfInBounds_toArray, List.set_cons_zero, List.set_cons_succ]
            refine wpAnyL_take (i := 5) (oi := ?ozz18) (v := ?vzz18) ?hzz18 ?azz18 ?bzz18 ?czz18 ?kzz18 ?qzz18 ?yzz18 ?szz18 ?rzz18
            case hzz18 => simp only [List.getElem?_toArray, List.getElem?_cons_zero, List.getElem?_cons_succ]; rfl
            case azz18 => kernel_rfl
            case bzz18 => kernel_rfl
            case czz18 => kernel_rfl
            case kzz18 => kernel_rfl
            case yzz18 =>
              refine Or.inl ⟨by rfl, ?_⟩
              intro w hSw
              have zb0 := box_b hSw (by exact pbA) b0; have zb1 := box_b hSw (by exact pbA) b1; have zk0 := box_b hSw (by exact pbK) k0; have zk1 := box_b hSw (by exact pbK) k1; have zy0 := box_b hSw (by exact hpb) y0; have zy1 := box_b hSw (by exact hpb) y1; have zy2 := box_b hSw (by exact hpb) y2; have zy3 := box_b hSw (by exact hpb) y3; have zy4 := box_b hSw (by exact hpb) y4; clear hSw
              go_simp
              try with_reducible rfl
            case qzz18 => exact fun _ _ _ h => h
            case szz18 => first | assumption | trivial
            case' rzz18 => simp only [Act.put, List.setIfInBounds_toArray, List.set_cons_zero, List.set_cons_succ]
            refine wpAnyL_take (i := 6) (oi := ?ozz19) (v := ?vzz19) ?hzz19 ?azz19 ?bzz19 ?czz19 ?kzz19 ?qzz19 ?yzz19 ?szz19 ?rzz19
            case hzz19 => simp only [List.getElem?_toArray, List.getElem?_cons_zero, List.getElem?_cons_succ]; rfl
            case azz19 => kernel_rfl
            case bzz19 => kernel_rfl
            case czz19 => kernel_rfl
            case kzz19 => kernel_rfl
            case yzz19 =>
              refine Or.inl ⟨by rfl, ?_⟩
              intro w hSw
              have zb0 := box_b hSw (by exact pbA) b0; have zb1 := box_b hSw (by exact pbA) b1; have zk0 := box_b hSw (by exact pbK) k0; have zk1 := box_b hSw (by exact pbK) k1; have zy0 := box_b hSw (by exact hpb) y0; have zy1 := box_b hSw (by exact hpb) y1; have zy2 := box_b hSw (by exact hpb) y2; have zy3 := box_b hSw (by exact hpb) y3; have zy4 := box_b hSw (by exact hpb) y4; clear hSw
              go_simp
              try with_reducible rfl
            case qzz19 => exact fun _ _ _ h => h
            case szz19 => first | assumption | trivial
            case' rzz19 => simp only [Act.put, List.setIfInBounds_toArray, List.set_cons_zero, List.set_cons_succ]
            refine wpAnyL_ready (rs := [7]) (by kernel_rfl) (by simp) ?_
            refine AllReadyL.cons (o := ?ozz23) ?hzz23 (fun K hK => ?kzz23) ?mzz23
            case hzz23 => simp only [List.getElem?_toArray, List.getElem?_cons_zero, List.getElem?_cons_succ]; rfl
            case kzz23 =>
              go_simp
              have OB : Hid (OwnK claimK (D0.alloc (.cells #[.int .i64 h.txn, .int .i64 h.w.mode, .string h.w.lo, .string h.w.hi, .int .u64 (h.til : Int)] 55)) (w.heap.size + 1 + 1 + 1) (some ⟨D0.heap.size, 0, none⟩) 1 1 [h]) := Lib.hid (OwnK.lit1 claimK D0 (w.heap.size + 1 + 1 + 1) (Nat.le_trans HBs.out hHeld.size) h)
              have OB0 := Lib.hid (show D0.heap.size < (D0.alloc (.cells #[.int .i64 h.txn, .int .i64 h.w.mode, .string h.w.lo, .string h.w.hi, .int .u64 (h.til : Int)] 55)).heap.size by simp)
              have qa := below_al hHeld HBs.out (.cells #[.int .i64 h.txn, .int .i64 h.w.mode, .string h.w.lo, .string h.w.hi, .int .u64 (h.til : Int)] 55)
              have OO := Lib.hid (OO.out.alloc (.cells #[.int .i64 h.txn, .int .i64 h.w.mode, .string h.w.lo, .string h.w.hi, .int .u64 (h.til : Int)] 55))
              have GG := Lib.hid (GG.out.trans (World.grownBy_alloc _ (.cells #[.int .i64 h.txn, .int .i64 h.w.mode, .string h.w.lo, .string h.w.hi, .int .u64 (h.til : Int)] 55) _))
              generalize D0.alloc (.cells #[.int .i64 h.txn, .int .i64 h.w.mode, .string h.w.lo, .string h.w.hi, .int .u64 (h.til : Int)] 55) = Y0 at OB OB0 qa OO GG ⊢
              generalize D0.heap.size = nb at OB OB0 ⊢
              refine hK.out _ _ ?Szz23 (fun hHeld => ?Rzz23)
              case Szz23 =>
                exact qa
              case Rzz23 =>
                clear hK K
                try simp only [Act.put, List.setIfInBounds_toArray, List.set_cons_zero, List.set_cons_succ]
                refine wpAnyL_ready (rs := [8]) (by kernel_rfl) (by simp) ?_
                refine AllReadyL.cons (o := ?ozz22) ?hzz22 (fun K hK => ?kzz22) ?mzz22
                case hzz22 => simp only [List.getElem?_toArray, List.getElem?_cons_zero, List.getElem?_cons_succ]; rfl
                case kzz22 =>
                  refine step_appKM claimK (by rfl) _ _ _ rfl (by rfl) (w.heap.size + 1 + 1 + 1) Y yn yd (qs) (by rfl) OO.out _ 1 1 [h] (by rfl) OB.out.lst (fun e => by cases e) (yn + 1) rfl (qs ++ [h]) rfl NF1.out (Nat.le_trans HBs.out hHeld.size) ?_
                  intro A7 c7 w71 o7 b7 g7
                  have q7 := hHeld.trans b7
                  have G7 := Lib.hid (GG.out.trans g7)
                  refine hK.out _ _ ?Szz22 (fun hHeld => ?Rzz22)
                  case Szz22 =>
                    exact q7
                  case Rzz22 =>
                    clear hK K
                    try simp only [Act.put, List.setIfInBounds_toArray, List.set_cons_zero, List.set_cons_succ]
                    refine wpAnyL_take (i := 9) (oi := ?ozz20) (v := ?vzz20) ?hzz20 ?azz20 ?bzz20 ?czz20 ?kzz20 ?qzz20 ?yzz20 ?szz20 ?rzz20
                    case hzz20 => simp only [List.getElem?_toArray, List.getElem?_cons_zero, List.getElem?_cons_succ]; rfl
                    case azz20 => kernel_rfl
                    case bzz20 => kernel_rfl
                    case czz20 => kernel_rfl
                    case kzz20 => kernel_rfl
                    case yzz20 =>
                      refine Or.inl ⟨by rfl, ?_⟩
                      intro w hSw
                      have zb0 := box_b hSw (by exact pbA) b0; have zb1 := box_b hSw (by exact pbA) b1; have zk0 := box_b hSw (by exact pbK) k0; have zk1 := box_b hSw (by exact pbK) k1; have zy0 := box_b hSw (by exact hpb) y0; have zy1 := box_b hSw (by exact hpb) y1; have zy2 := box_b hSw (by exact hpb) y2; have zy3 := box_b hSw (by exact hpb) y3; have zy4 := box_b hSw (by exact hpb) y4; clear hSw
                      go_simp
                      try with_reducible rfl
                    case qzz20 => exact fun _ _ _ h => h
                    case szz20 => first | assumption | trivial
                    case' rzz20 => simp only [Act.put, List.setIfInBounds_toArray, List.set_cons_zero, List.set_cons_succ]
                    refine wpAnyL_ready (rs := [10]) (by kernel_rfl) (by simp) ?_
                    refine AllReadyL.consK (o := ?ozz21) ?hzz21 ?lzz21 (fun K hK => ?kzz21) ?mzz21
                    case hzz21 => simp only [List.getElem?_toArray, List.getElem?_cons_zero, List.getElem?_cons_succ]; rfl
                    case lzz21 => kernel_rfl
                    case kzz21 =>
                      have HZ := Lib.hid hHeld
                      have hB7 := hHeld
                      obtain ⟨⟨p0, p1⟩, p2, p3⟩ := (HR.out.bk.below hHeld (by omega)).get2
                      go_simp
                      refine hK.out _ _ ?Rzz21
                      case Rzz21 =>
                        clear hK K
                        try simp only [Act.put, List.setIfInBounds_toArray, List.set_cons_zero, List.set_cons_succ]
                        refine wpAnyH_done (by kernel_rfl) ?_ _
                        have HR7 := Lib.hid (HR.out.pushC o7 G7.out)
                        clear b0 b1 f0 f1 r0 r1 g0 g1 k0 k1 h0 h1 p0 p1 p2 p3 o7 hB7
                        go_wp2
                        go_roundw
                        case rel => exact ⟨k + 1, X, xn, xc, A7, yn + 1, c7, hs, qs ++ [h], by omega, by go_num, HR7.out, HG2.out, HS1.out⟩
                        case measure => simp [intOf]; omega
                    case' mzz21 => skip
                    exact AllReadyL.nil
                case' mzz22 => skip
                exact AllReadyL.nil
            case' mzz23 => skip
            exact AllReadyL.nil
        · have hkn : ¬ (k : Int) < (m : Int) := by omega
          have HS2 := Lib.hid (show qs = stay (isC txn) l.queue by have := HE.out; rwa [List.take_of_length_le (by have := HBl.out; omega)] at this)
          have HKk := Lib.hid (show (⟨hs, qs⟩ : Lo) = Lm.keep l txn by rw [HS1.out, HS2.out, stay_H, stay_C])
          have hn1 : xn ≤ n := by
            rw [← HR.out.o1.len, HS1.out, ← HAl.out]; exact stay_len _ _
          have HI1 := Lib.hid (HR.out.o1.in_ (by show xn * 48 ≤ _; omega))
          have HI2 := Lib.hid (HR.out.o2.in_ (by show yn * 56 ≤ _; omega))
          have HLK := Lib.hid (HLW.out.keep txn)
          rw [← HKk.out] at HLK
          go_wp2_with fail
          refine (rsettle_any X Y xn xc yn yd ⟨hs, qs⟩ _ HI1.out HI2.out HLK.out (by omega)).mono ?_
          rintro e w4 ⟨A4, n4, c4, B4, m4, d4, C4, p4, q4, rfl, o5, o6, o7, y4⟩
          obtain ⟨⟨r0, r1⟩, g0, g1⟩ := (HR.out.b3.q y4).get2
          have Y1 := Lib.hid (o5.odd oddH r0 (.slice A4 n4 c4))
          have Y2 := Lib.hid (o6.odd oddC r0 (.slice A4 n4 c4))
          have Y3 := Lib.hid (o7.odd oddN r0 (.slice A4 n4 c4))
          have r1' : (w4.setCell ⟨w.heap.size + 1, 0, none⟩ (.slice A4 n4 c4)).cell? ⟨w.heap.size + 1, 1, none⟩ = some (.slice none 0 0) := (((HR.out.b3.q y4).set (k := 0) (by simp) (.slice A4 n4 c4)) 1 _ rfl).1
          have YY := Lib.hid (And.intro (Y1.out.odd oddH r1' (.slice B4 m4 d4)) (And.intro (Y2.out.odd oddC r1' (.slice B4 m4 d4)) (And.intro (Y3.out.odd oddN r1' (.slice B4 m4 d4)) ((HR.out.q.trans y4).set2 (b := w.heap.size + 1) (by omega) (.slice A4 n4 c4) (.slice B4 m4 d4)))))
          have HFr := Lib.hid (show Lm.settle ⟨hs, qs⟩ = Lm.free l txn by rw [HKk.out]; rfl)
          clear o5 o6 o7 y4 r1' b0 b1 f0 f1 k0 k1 h0 h1
          rw [HFr.out] at YY
          go_wp2
          refine bodyPost_ret (v := .tuple #[locV A4 n4 c4 B4 m4 d4, .slice C4 p4 q4]) (by simp [results, Try.results26, go_sem, r0, r1, g0, g1]) rfl ?_
          exact ⟨A4, n4, c4, B4, m4, d4, C4, p4, q4, rfl, YY.out.1, YY.out.2.1, YY.out.2.2.1, YY.out.2.2.2⟩
end Go.Proofs.Ytenemdpjhoebpaa
