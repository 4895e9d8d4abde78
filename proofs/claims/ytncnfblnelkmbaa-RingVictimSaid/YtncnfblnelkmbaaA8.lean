/- LockRefFree, Frame, Flat, KindIn, WantIn, LockIn, LockShown, LockLaw: merged. -/
import Derived.Test.YtncnfblnelkmbaaA7
import Derived.Test.YtncnfblnelkmbaaA1
import Derived.SizedLaws
import Derived.Carry
import Derived.Deep.Slices
import Derived.ChangeMaps5
import Derived.Test.YtncnfblnelkmbaaA2
/- Contract: the document's Free. -/
namespace Go.Proofs.Ytncnfblnelkmbaa
set_option maxRecDepth 100000
open Go.RowKit Prm Lm Sm
set_option linter.unusedVariables false
set_option linter.unusedSimpArgs false

theorem rows_mem {α : Type} {K : Kind α} {u : Value} : ∀ {l : List α}, u ∈ K.rows l → ∃ a ∈ l, u ∈ K.row a
  | [], h => by simp [Kind.rows] at h
  | a :: l, h => by
    rcases List.mem_append.1 h with h | h
    · exact ⟨a, by simp, h⟩
    · obtain ⟨b, hb, hu⟩ := rows_mem h
      exact ⟨b, by simp [hb], hu⟩
/-- a store into a cell that holds a slice leaves a list that holds none. -/
theorem Lst.odd {α : Type} {K : Kind α} (ho : ∀ a, ∀ u ∈ K.row a, ∀ x y z, u ≠ .slice x y z) {w : World} {A : Option Addr} {n : Nat} {l : List α} (h : Lst K w A n l) {p : Addr} {x : Option Addr} {y z : Nat} (hp : w.cell? p = some (.slice x y z)) (v : Value) : Lst K (w.setCell p v) A n l := by
  refine ⟨h.1, fun j u hu => ?_⟩
  obtain ⟨ad, e, hb, hc⟩ := h.2 j u hu
  refine ⟨ad, e, by simpa using hb, ?_⟩
  rw [World.cell?_setCell_other _ _ _ _ ?_]
  · exact hc
  · intro e2
    rw [← e2, hp] at hc
    injection hc with hc
    obtain ⟨a, _, ha⟩ := rows_mem (List.mem_of_getElem? hu)
    exact ho a u ha x y z hc.symm
theorem In_.odd {α : Type} {K : Kind α} (ho : ∀ a, ∀ u ∈ K.row a, ∀ x y z, u ≠ .slice x y z) {w : World} {A : Option Addr} {n c : Nat} {l : List α} (h : In_ K w A n c l) {p : Addr} {x : Option Addr} {y z : Nat} (hp : w.cell? p = some (.slice x y z)) (v : Value) : In_ K (w.setCell p v) A n c l :=
  ⟨h.lst.odd ho hp v, h.nil, h.le, h.cap, h.few⟩
theorem oddH : ∀ a, ∀ u ∈ holdK.row a, ∀ x y z, u ≠ .slice x y z := fun a u hu x y z => by simp [holdK] at hu; rcases hu with rfl | rfl | rfl | rfl <;> simp
theorem oddC : ∀ a, ∀ u ∈ claimK.row a, ∀ x y z, u ≠ .slice x y z := fun a u hu x y z => by simp [claimK] at hu; rcases hu with rfl | rfl | rfl | rfl | rfl <;> simp
theorem oddN : ∀ a, ∀ u ∈ numK.row a, ∀ x y z, u ≠ .slice x y z := fun a u hu x y z => by simp [numK] at hu; subst hu; simp
theorem stay_at {α : Type} (P : α → Bool) {l : List α} {k : Nat} (hk : k < l.length) : stay P (l.take (k + 1)) = if P l[k] = true then stay P (l.take k) else stay P (l.take k) ++ [l[k]] := by
  unfold stay
  rw [List.take_succ_eq_append_getElem hk, List.filter_append]
  cases h : P l[k] <;> simp [h]
theorem stay_len {α : Type} (P : α → Bool) (l : List α) : (stay P l).length ≤ l.length := List.length_filter_le _ _
theorem LoW.keep {l : Lo} (h : LoW l) (txn : Int) : LoW (Lm.keep l txn) := ⟨fun a ha => h.1 a (List.mem_filter.1 ha).1, fun a ha => h.2 a (List.mem_filter.1 ha).1⟩
/-- where the document's Free stands. -/
structure Fr (w : World) (A : Option Addr) (n c : Nat) (B : Option Addr) (m d : Nat) (X : Option Addr) (xn xc : Nat) (Y : Option Addr) (yn yd : Nat) (hs : List Ho) (qs : List Cl) (wr : World) : Prop where
  b1 : Bx wr w.heap.size [.slice A n c, .slice B m d]
  b3 : Bx wr (w.heap.size + 1) [.slice none 0 0, .slice none 0 0]
  bk : Bx wr (w.heap.size + 1 + 1) [.slice X xn xc, .slice Y yn yd]
  o1 : OwnK holdK wr (w.heap.size + 1 + 1 + 1) X xn xc hs
  o2 : OwnK claimK wr (w.heap.size + 1 + 1 + 1) Y yn yd qs
  q : Q w wr
section
variable {w wr w7 : World} {n c m d xn xc yn yd N c7 : Nat} {A B X Y A7 : Option Addr} {hs hs2 : List Ho} {qs qs2 : List Cl}
theorem Fr.lt (h : Fr w A n c B m d X xn xc Y yn yd hs qs wr) : w.heap.size + 1 + 1 + 1 ≤ wr.heap.size := h.bk.lt
theorem Fr.pushH (h : Fr w A n c B m d X xn xc Y yn yd hs qs wr) (o : OwnK holdK w7 (w.heap.size + 1 + 1 + 1) A7 N c7 hs2) (gr : wr.grownBy w7 (Value.slice X xn xc).ownBlock) :
    Fr w A n c B m d A7 N c7 Y yn yd hs2 qs (w7.setCell ⟨w.heap.size + 1 + 1, 0, none⟩ (.slice A7 N c7)) := by
  have hl := h.lt
  have hb := grown_below h.o1 gr hl
  exact ⟨(h.b1.below hb (by omega)).far (p := ⟨w.heap.size + 1 + 1, 0, none⟩) (by show w.heap.size + 1 + 1 ≠ w.heap.size; omega) _, (h.b3.below hb (by omega)).far (p := ⟨w.heap.size + 1 + 1, 0, none⟩) (by show w.heap.size + 1 + 1 ≠ w.heap.size + 1; omega) _,
    (h.bk.below hb (by omega)).set (k := 0) (by simp) _, o.setCell (p := ⟨w.heap.size + 1 + 1, 0, none⟩) (by show w.heap.size + 1 + 1 < _; omega) _,
    (h.o2.away gr (apt_kinds tHC h.o1 h.o2) (fun _ => trivial)).setCell (p := ⟨w.heap.size + 1 + 1, 0, none⟩) (by show w.heap.size + 1 + 1 < _; omega) _, Q.setCell (h.q.below.trans (hb.mono (by omega))) (p := ⟨w.heap.size + 1 + 1, 0, none⟩) (by show w.heap.size ≤ w.heap.size + 1 + 1; omega) _⟩
theorem Fr.pushC (h : Fr w A n c B m d X xn xc Y yn yd hs qs wr) (o : OwnK claimK w7 (w.heap.size + 1 + 1 + 1) A7 N c7 qs2) (gr : wr.grownBy w7 (Value.slice Y yn yd).ownBlock) :
    Fr w A n c B m d X xn xc A7 N c7 hs qs2 (w7.setCell ⟨w.heap.size + 1 + 1, 1, none⟩ (.slice A7 N c7)) := by
  have hl := h.lt
  have hb := grown_below h.o2 gr hl
  exact ⟨(h.b1.below hb (by omega)).far (p := ⟨w.heap.size + 1 + 1, 1, none⟩) (by show w.heap.size + 1 + 1 ≠ w.heap.size; omega) _, (h.b3.below hb (by omega)).far (p := ⟨w.heap.size + 1 + 1, 1, none⟩) (by show w.heap.size + 1 + 1 ≠ w.heap.size + 1; omega) _,
    (h.bk.below hb (by omega)).set (k := 1) (by simp) _, (h.o1.away gr (apt_kinds tHC h.o1 h.o2).symm (fun _ => trivial)).setCell (p := ⟨w.heap.size + 1 + 1, 1, none⟩) (by show w.heap.size + 1 + 1 < _; omega) _,
    o.setCell (p := ⟨w.heap.size + 1 + 1, 1, none⟩) (by show w.heap.size + 1 + 1 < _; omega) _, Q.setCell (h.q.below.trans (hb.mono (by omega))) (p := ⟨w.heap.size + 1 + 1, 1, none⟩) (by show w.heap.size ≤ w.heap.size + 1 + 1; omega) _⟩
end

set_option maxHeartbeats 16000000 in
set_option maxRecDepth 100000 in
theorem rfree_in (A B : Option Addr) (n c m d : Nat) (l : Lo) (txn : Int) (w : World) (hA : In_ holdK w A n c l.held) (hB : In_ claimK w B m d l.queue) (hw : LoW l) (hn : n + m ≤ 300000) :
    Calls Try.prog 20 #[locV A n c B m d, .int .i64 txn] w fun e w' => RetSi w (Lm.free l txn) e w' := by
  have HA := Lib.hid hA
  have HB := Lib.hid hB
  have HAl := Lib.hid hA.len
  have HBl := Lib.hid hB.len
  have HLW := Lib.hid hw
  have HR : Hid (Fr w A n c B m d none 0 0 none 0 0 [] [] (((w.alloc (.cells #[.slice A n c, .slice B m d] 25)).alloc (.cells #[.slice none 0 0, .slice none 0 0] 25)).alloc (.cells #[.slice none 0 0, .slice none 0 0] 25))) := by
    have h2 := (Bx.new (w.alloc (.cells #[.slice A n c, .slice B m d] 25)) [.slice none 0 0, .slice none 0 0] 25).alloc (.cells #[.slice none 0 0, .slice none 0 0] 25)
    have h3 := Bx.new ((w.alloc (.cells #[.slice A n c, .slice B m d] 25)).alloc (.cells #[.slice none 0 0, .slice none 0 0] 25)) [.slice none 0 0, .slice none 0 0] 25
    rw [show (w.alloc (.cells #[.slice A n c, .slice B m d] 25)).heap.size = w.heap.size + 1 by simp] at h2
    rw [show ((w.alloc (.cells #[.slice A n c, .slice B m d] 25)).alloc (.cells #[.slice none 0 0, .slice none 0 0] 25)).heap.size = w.heap.size + 1 + 1 by simp] at h3
    exact Lib.hid ⟨((Bx.new w [.slice A n c, .slice B m d] 25).alloc _).alloc _, h2, h3, OwnK.nil_ _ _ _, OwnK.nil_ _ _ _, (((Q.refl w).alloc _).alloc _).alloc _⟩
  clear hA hB hw
  go_enter Try.func20, Try.ntmps20
  go_upto_region 2 with (fail)
  generalize ((w.alloc (.cells #[.slice A n c, .slice B m d] 25)).alloc (.cells #[.slice none 0 0, .slice none 0 0] 25)).alloc (.cells #[.slice none 0 0, .slice none 0 0] 25) = W0 at HR ⊢
  obtain ⟨⟨b0, b1⟩, f0, f1⟩ := HR.out.b1.get2
  obtain ⟨⟨r0, r1⟩, g0, g1⟩ := HR.out.b3.get2
  obtain ⟨⟨k0, k1⟩, h0, h1⟩ := HR.out.bk.get2
  go_wp2
  go_loopw [7] (fun i wr => ∃ (k : Nat) (X : Option Addr) (xn xc : Nat) (hs : List Ho), k ≤ n ∧ i = .int .i64 k ∧ Fr w A n c B m d X xn xc none 0 0 hs [] wr ∧ hs = stay (isH txn) (l.held.take k)) (fun i _ => n - (intOf i).toNat)
  case atStart => exact ⟨0, none, 0, 0, [], Nat.zero_le _, rfl, HR.out, by simp [stay]⟩
  case round =>
    clear b0 b1 f0 f1 r0 r1 g0 g1 k0 k1 h0 h1 HR
    obtain ⟨k, X, xn, xc, hs, hk, rfl, hr, he⟩ := hrel
    have HR := Lib.hid hr
    have HE := Lib.hid he
    have hxl := hr.o1.len
    have hsl : xn ≤ k := by
      rw [← hxl, he]
      exact Nat.le_trans (stay_len _ _) (by rw [List.length_take]; omega)
    clear hr he hxl
    obtain ⟨⟨b0, b1⟩, f0, f1⟩ := HR.out.b1.get2
    obtain ⟨⟨r0, r1⟩, g0, g1⟩ := HR.out.b3.get2
    obtain ⟨⟨k0, k1⟩, h0, h1⟩ := HR.out.bk.get2
    by_cases hlt : k < n
    · have hkl : k < l.held.length := by have := HAl.out; omega
      have hkn : (k : Int) < (n : Int) := by omega
      have HG := Lib.hid (stay_at (isH txn) hkl)
      obtain ⟨ad, hae, hab, y0, y1, y2, y3⟩ := load_hold HA.out.lst hlt hkl
      subst hae
      generalize l.held[k] = h at y0 y1 y2 y3 HG
      have y0 := box_ HR.out.q y0
      have y1 := box_ HR.out.q y1
      have y2 := box_ HR.out.q y2
      have y3 := box_ HR.out.q y3
      have hpb : (ad.add (k * 4)).block < w.heap.size + 1 + 1 + 1 := by rw [addr_block]; omega
      have eq1 := int_eq h.txn txn
      by_cases ht : h.txn = txn
      · have HG2 := Lib.hid (show hs = stay (isH txn) (l.held.take (k + 1)) by rw [HG.out, if_pos (show isH txn h = true from decide_eq_true ht), HE.out])
        have et : (h.txn != txn) = false := by simpa using ht
        clear ht eq1
        go_wp2
        go_roundw
        case rel => exact ⟨k + 1, X, xn, xc, hs, by omega, by go_num, HR.out, HG2.out⟩
        case measure => simp [intOf]; omega
      · have HG2 := Lib.hid (show hs ++ [h] = stay (isH txn) (l.held.take (k + 1)) by rw [HG.out, if_neg (show ¬ isH txn h = true by unfold isH; simp [ht]), HE.out])
        have et : (h.txn != txn) = true := by simpa using ht
        clear ht eq1
        have HBs := Lib.hid HR.out.lt
        have pbA : w.heap.size < w.heap.size + 1 + 1 + 1 := by omega
        have pbK : w.heap.size + 1 + 1 < w.heap.size + 1 + 1 + 1 := by omega
        have NF1 := Lib.hid (show (xn + 1) * 48 ≤ 140737488355328 by omega)
        go_wp2
        refine wp_region_heldL 10 (Below (w.heap.size + 1 + 1 + 1) wr) (by kernel_rfl) ?szz0 (fun hHeld => ?rzz0)
        case szz0 =>
          exact Below.drew (Below.refl _ _)
        case' rzz0 => skip
        have OO : Hid (OwnK holdK wr.drew (w.heap.size + 1 + 1 + 1) X xn xc (hs)) := Lib.hid (HR.out.o1)
        have GG : Hid (wr.grownBy wr.drew (Value.slice X xn xc).ownBlock) := Lib.hid (grown_q ((Q.refl wr).drew) _)
        generalize hgen : wr.drew = D0 at hHeld OO GG ⊢
        clear hgen
        refine wpAnyL_take (i := 0) (oi := ?ozz1) (v := ?vzz1) ?hzz1 ?azz1 ?bzz1 ?czz1 ?kzz1 ?qzz1 ?yzz1 ?szz1 ?rzz1
        case hzz1 => simp only [List.getElem?_toArray, List.getElem?_cons_zero]; rfl
        case azz1 => kernel_rfl
        case bzz1 => kernel_rfl
        case czz1 => kernel_rfl
        case kzz1 => kernel_rfl
        case yzz1 =>
          refine Or.inl ⟨by rfl, ?_⟩
          intro w hSw
          have zb0 := box_b hSw (by exact pbA) b0; have zb1 := box_b hSw (by exact pbA) b1; have zk0 := box_b hSw (by exact pbK) k0; have zk1 := box_b hSw (by exact pbK) k1; have zy0 := box_b hSw (by exact hpb) y0; have zy1 := box_b hSw (by exact hpb) y1; have zy2 := box_b hSw (by exact hpb) y2; have zy3 := box_b hSw (by exact hpb) y3; clear hSw
          go_simp
          try with_reducible rfl
        case qzz1 => exact fun _ _ _ h => h
        case szz1 => first | assumption | trivial
        case' rzz1 => simp only [Act.put, List.setIfInBounds_toArray, List.set_cons_zero, List.set_cons_succ]
        refine wpAnyL_take (i := 1) (oi := ?ozz2) (v := ?vzz2) ?hzz2 ?azz2 ?bzz2 ?czz2 ?kzz2 ?qzz2 ?yzz2 ?szz2 ?rzz2
        case hzz2 => simp only [List.getElem?_toArray, List.getElem?_cons_zero, List.getElem?_cons_succ]; rfl
        case azz2 => kernel_rfl
        case bzz2 => kernel_rfl
        case czz2 => kernel_rfl
        case kzz2 => kernel_rfl
        case yzz2 =>
          refine Or.inl ⟨by rfl, ?_⟩
          intro w hSw
          have zb0 := box_b hSw (by exact pbA) b0; have zb1 := box_b hSw (by exact pbA) b1; have zk0 := box_b hSw (by exact pbK) k0; have zk1 := box_b hSw (by exact pbK) k1; have zy0 := box_b hSw (by exact hpb) y0; have zy1 := box_b hSw (by exact hpb) y1; have zy2 := box_b hSw (by exact hpb) y2; have zy3 := box_b hSw (by exact hpb) y3; clear hSw
          go_simp
          try with_reducible rfl
        case qzz2 => exact fun _ _ _ h => h
        case szz2 => first | assumption | trivial
        case' rzz2 => simp only [Act.put, List.setIfInBounds_toArray, List.set_cons_zero, List.set_cons_succ]
        refine wpAnyL_take (i := 2) (oi := ?ozz3) (v := ?vzz3) ?hzz3 ?azz3 ?bzz3 ?czz3 ?kzz3 ?qzz3 ?yzz3 ?szz3 ?rzz3
        case hzz3 => simp only [List.getElem?_toArray, List.getElem?_cons_zero, List.getElem?_cons_succ]; rfl
        case azz3 => kernel_rfl
        case bzz3 => kernel_rfl
        case czz3 => kernel_rfl
        case kzz3 => kernel_rfl
        case yzz3 =>
          refine Or.inl ⟨by rfl, ?_⟩
          intro w hSw
          have zb0 := box_b hSw (by exact pbA) b0; have zb1 := box_b hSw (by exact pbA) b1; have zk0 := box_b hSw (by exact pbK) k0; have zk1 := box_b hSw (by exact pbK) k1; have zy0 := box_b hSw (by exact hpb) y0; have zy1 := box_b hSw (by exact hpb) y1; have zy2 := box_b hSw (by exact hpb) y2; have zy3 := box_b hSw (by exact hpb) y3; clear hSw
          go_simp
          try with_reducible rfl
        case qzz3 => exact fun _ _ _ h => h
        case szz3 => first | assumption | trivial
        case' rzz3 => simp only [Act.put, List.setIfInBounds_toArray, List.set_cons_zero, List.set_cons_succ]
        refine wpAnyL_take (i := 3) (oi := ?ozz4) (v := ?vzz4) ?hzz4 ?azz4 ?bzz4 ?czz4 ?kzz4 ?qzz4 ?yzz4 ?szz4 ?rzz4
        case hzz4 => simp only [List.getElem?_toArray, List.getElem?_cons_zero, List.getElem?_cons_succ]; rfl
        case azz4 => kernel_rfl
        case bzz4 => kernel_rfl
        case czz4 => kernel_rfl
        case kzz4 => kernel_rfl
        case yzz4 =>
          refine Or.inl ⟨by rfl, ?_⟩
          intro w hSw
          have zb0 := box_b hSw (by exact pbA) b0; have zb1 := box_b hSw (by exact pbA) b1; have zk0 := box_b hSw (by exact pbK) k0; have zk1 := box_b hSw (by exact pbK) k1; have zy0 := box_b hSw (by exact hpb) y0; have zy1 := box_b hSw (by exact hpb) y1; have zy2 := box_b hSw (by exact hpb) y2; have zy3 := box_b hSw (by exact hpb) y3; clear hSw
          go_simp
          try with_reducible rfl
        case qzz4 => exact fun _ _ _ h => h
        case szz4 => first | assumption | trivial
        case' rzz4 => simp only [Act.put, List.setIfInBounds_toArray, List.set_cons_zero, List.set_cons_succ]
        refine wpAnyL_take (i := 4) (oi := ?ozz5) (v := ?vzz5) ?hzz5 ?azz5 ?bzz5 ?czz5 ?kzz5 ?qzz5 ?yzz5 ?szz5 ?rzz5
        case hzz5 => simp only [List.getElem?_toArray, List.getElem?_cons_zero, List.getElem?_cons_succ]; rfl
        case azz5 => kernel_rfl
        case bzz5 => kernel_rfl
        case czz5 => kernel_rfl
        case kzz5 => kernel_rfl
        case yzz5 =>
          refine Or.inl ⟨by rfl, ?_⟩
          intro w hSw
          have zb0 := box_b hSw (by exact pbA) b0; have zb1 := box_b hSw (by exact pbA) b1; have zk0 := box_b hSw (by exact pbK) k0; have zk1 := box_b hSw (by exact pbK) k1; have zy0 := box_b hSw (by exact hpb) y0; have zy1 := box_b hSw (by exact hpb) y1; have zy2 := box_b hSw (by exact hpb) y2; have zy3 := box_b hSw (by exact hpb) y3; clear hSw
          go_simp
          try with_reducible rfl
        case qzz5 => exact fun _ _ _ h => h
        case szz5 => first | assumption | trivial
        case' rzz5 => simp only [Act.put, List.setIfInBounds_toArray, List.set_cons_zero, List.set_cons_succ]
        refine wpAnyL_take (i := 5) (oi := ?ozz6) (v := ?vzz6) ?hzz6 ?azz6 ?bzz6 ?czz6 ?kzz6 ?qzz6 ?yzz6 ?szz6 ?rzz6
        case hzz6 => simp only [List.getElem?_toArray, List.getElem?_cons_zero, List.getElem?_cons_succ]; rfl
        case azz6 => kernel_rfl
        case bzz6 => kernel_rfl
        case czz6 => kernel_rfl
        case kzz6 => kernel_rfl
        case yzz6 =>
          refine Or.inl ⟨by rfl, ?_⟩
          intro w hSw
          have zb0 := box_b hSw (by exact pbA) b0; have zb1 := box_b hSw (by exact pbA) b1; have zk0 := box_b hSw (by exact pbK) k0; have zk1 := box_b hSw (by exact pbK) k1; have zy0 := box_b hSw (by exact hpb) y0; have zy1 := box_b hSw (by exact hpb) y1; have zy2 := box_b hSw (by exact hpb) y2; have zy3 := box_b hSw (by exact hpb) y3; clear hSw
          go_simp
          try with_reducible rfl
        case qzz6 => exact fun _ _ _ h => h
        case szz6 => first | assumption | trivial
        case' rzz6 => simp only [Act.put, List.setIfInBounds_toArray, List.set_cons_zero, List.set_cons_succ]
        refine wpAnyL_take (i := 6) (oi := ?ozz7) (v := ?vzz7) ?hzz7 ?azz7 ?bzz7 ?czz7 ?kzz7 ?qzz7 ?yzz7 ?szz7 ?rzz7
        case hzz7 => simp only [List.getElem?_toArray, List.getElem?_cons_zero, List.getElem?_cons_succ]; rfl
        case azz7 => kernel_rfl
        case bzz7 => kernel_rfl
        case czz7 => kernel_rfl
        case kzz7 => kernel_rfl
        case yzz7 =>
          refine Or.inl ⟨by rfl, ?_⟩
          intro w hSw
          have zb0 := box_b hSw (by exact pbA) b0; have zb1 := box_b hSw (by exact pbA) b1; have zk0 := box_b hSw (by exact pbK) k0; have zk1 := box_b hSw (by exact pbK) k1; have zy0 := box_b hSw (by exact hpb) y0; have zy1 := box_b hSw (by exact hpb) y1; have zy2 := box_b hSw (by exact hpb) y2; have zy3 := box_b hSw (by exact hpb) y3; clear hSw
          go_simp
          try with_reducible rfl
        case qzz7 => exact fun _ _ _ h => h
        case szz7 => first | assumption | trivial
        case' rzz7 => simp only [Act.put, List.setIfInBounds_toArray, List.set_cons_zero, List.set_cons_succ]
        refine wpAnyL_ready (rs := [7]) (by kernel_rfl) (by simp) ?_
        refine AllReadyL.cons (o := ?ozz11) ?hzz11 (fun K hK => ?kzz11) ?mzz11
        case hzz11 => simp only [List.getElem?_toArray, List.getElem?_cons_zero, List.getElem?_cons_succ]; rfl
        case kzz11 =>
          go_simp
          have OB : Hid (OwnK holdK (D0.alloc (.cells #[.int .i64 h.txn, .int .i64 h.w.mode, .string h.w.lo, .string h.w.hi] 55)) (w.heap.size + 1 + 1 + 1) (some ⟨D0.heap.size, 0, none⟩) 1 1 [h]) := Lib.hid (OwnK.lit1 holdK D0 (w.heap.size + 1 + 1 + 1) (Nat.le_trans HBs.out hHeld.size) h)
          have OB0 := Lib.hid (show D0.heap.size < (D0.alloc (.cells #[.int .i64 h.txn, .int .i64 h.w.mode, .string h.w.lo, .string h.w.hi] 55)).heap.size by simp)
          have qa := below_al hHeld HBs.out (.cells #[.int .i64 h.txn, .int .i64 h.w.mode, .string h.w.lo, .string h.w.hi] 55)
          have OO := Lib.hid (OO.out.alloc (.cells #[.int .i64 h.txn, .int .i64 h.w.mode, .string h.w.lo, .string h.w.hi] 55))
          have GG := Lib.hid (GG.out.trans (World.grownBy_alloc _ (.cells #[.int .i64 h.txn, .int .i64 h.w.mode, .string h.w.lo, .string h.w.hi] 55) _))
          generalize D0.alloc (.cells #[.int .i64 h.txn, .int .i64 h.w.mode, .string h.w.lo, .string h.w.hi] 55) = Y0 at OB OB0 qa OO GG ⊢
          generalize D0.heap.size = nb at OB OB0 ⊢
          refine hK.out _ _ ?Szz11 (fun hHeld => ?Rzz11)
          case Szz11 =>
            exact qa
          case Rzz11 =>
            clear hK K
            try simp only [Act.put, List.setIfInBounds_toArray, List.set_cons_zero, List.set_cons_succ]
            refine wpAnyL_ready (rs := [8]) (by kernel_rfl) (by simp) ?_
            refine AllReadyL.cons (o := ?ozz10) ?hzz10 (fun K hK => ?kzz10) ?mzz10
            case hzz10 => simp only [List.getElem?_toArray, List.getElem?_cons_zero, List.getElem?_cons_succ]; rfl
            case kzz10 =>
              refine step_appKM holdK (by rfl) _ _ _ rfl (by rfl) (w.heap.size + 1 + 1 + 1) X xn xc (hs) (by rfl) OO.out _ 1 1 [h] (by rfl) OB.out.lst (fun e => by cases e) (xn + 1) rfl (hs ++ [h]) rfl NF1.out (Nat.le_trans HBs.out hHeld.size) ?_
              intro A7 c7 w71 o7 b7 g7
              have q7 := hHeld.trans b7
              have G7 := Lib.hid (GG.out.trans g7)
              refine hK.out _ _ ?Szz10 (fun hHeld => ?Rzz10)
              case Szz10 =>
                exact q7
              case Rzz10 =>
                clear hK K
                try simp only [Act.put, List.setIfInBounds_toArray, List.set_cons_zero, List.set_cons_succ]
                refine wpAnyL_take (i := 9) (oi := ?ozz8) (v := ?vzz8) ?hzz8 ?azz8 ?bzz8 ?czz8 ?kzz8 ?qzz8 ?yzz8 ?szz8 ?rzz8
                case hzz8 => simp only [List.getElem?_toArray, List.getElem?_cons_zero, List.getElem?_cons_succ]; rfl
                case azz8 => kernel_rfl
                case bzz8 => kernel_rfl
                case czz8 => kernel_rfl
                case kzz8 => kernel_rfl
                case yzz8 =>
                  refine Or.inl ⟨by rfl, ?_⟩
                  intro w hSw
                  have zb0 := box_b hSw (by exact pbA) b0; have zb1 := box_b hSw (by exact pbA) b1; have zk0 := box_b hSw (by exact pbK) k0; have zk1 := box_b hSw (by exact pbK) k1; have zy0 := box_b hSw (by exact hpb) y0; have zy1 := box_b hSw (by exact hpb) y1; have zy2 := box_b hSw (by exact hpb) y2; have zy3 := box_b hSw (by exact hpb) y3; clear hSw
                  go_simp
                  try with_reducible rfl
                case qzz8 => exact fun _ _ _ h => h
                case szz8 => first | assumption | trivial
                case' rzz8 => simp only [Act.put, List.setIfInBounds_toArray, List.set_cons_zero, List.set_cons_succ]
                refine wpAnyL_ready (rs := [10]) (by kernel_rfl) (by simp) ?_
                refine AllReadyL.consK (o := ?ozz9) ?hzz9 ?lzz9 (fun K hK => ?kzz9) ?mzz9
                case hzz9 => simp only [List.getElem?_toArray, List.getElem?_cons_zero, List.getElem?_cons_succ]; rfl
                case lzz9 => kernel_rfl
                case kzz9 =>
                  have HZ := Lib.hid hHeld
                  have hB7 := hHeld
                  obtain ⟨⟨p0, p1⟩, p2, p3⟩ := (HR.out.bk.below hHeld (by omega)).get2
                  go_simp
                  refine hK.out _ _ ?Rzz9
                  case Rzz9 =>
                    clear hK K
                    try simp only [Act.put, List.setIfInBounds_toArray, List.set_cons_zero, List.set_cons_succ]
                    refine wpAnyH_done (by kernel_rfl) ?_ _
                    have HR7 := Lib.hid (HR.out.pushH o7 G7.out)
                    clear b0 b1 f0 f1 r0 r1 g0 g1 k0 k1 h0 h1 p0 p1 p2 p3 o7 hB7
                    go_wp2
                    go_roundw
                    case rel => exact ⟨k + 1, A7, xn + 1, c7, hs ++ [h], by omega, by go_num, HR7.out, HG2.out⟩
                    case measure => simp [intOf]; omega
                case' mzz9 => skip
                exact AllReadyL.nil
            case' mzz10 => skip
            exact AllReadyL.nil
        case' mzz11 => skip
        exact AllReadyL.nil
    · have hkn : ¬ (k : Int) < (n : Int) := by omega
      have HS1 := Lib.hid (show hs = stay (isH txn) l.held by have := HE.out; rwa [List.take_of_length_le (by have := HAl.out; omega)] at this)
      go_wp2
      clear hlt hk hsl HE
      go_loopw [8] (fun i wr => ∃ (k : Nat) (X : Option Addr) (xn xc : Nat) (Y : Option Addr) (yn yd : Nat) (hs : List Ho) (qs : List Cl), k ≤ m ∧ i = .int .i64 k ∧ Fr w A n c B m d X xn xc Y yn yd hs qs wr ∧ qs = stay (isC txn) (l.queue.take k) ∧ hs = stay (isH txn) l.held) (fun i _ => m - (intOf i).toNat)
      case atStart => exact ⟨0, X, xn, xc, none, 0, 0, hs, [], Nat.zero_le _, rfl, HR.out, by simp [stay], HS1.out⟩
      case round =>
        clear b0 b1 f0 f1 r0 r1 g0 g1 k0 k1 h0 h1 HR HS1
        obtain ⟨k, X, xn, xc, Y, yn, yd, hs, qs, hk, rfl, hr, he, hfx⟩ := hrel
        have HR := Lib.hid hr
        have HE := Lib.hid he
        have HS1 := Lib.hid hfx
        clear hfx
        have hxl := hr.o2.len
        have hsl : yn ≤ k := by
          rw [← hxl, he]
          exact Nat.le_trans (stay_len _ _) (by rw [List.length_take]; omega)
        clear hr he hxl
        obtain ⟨⟨b0, b1⟩, f0, f1⟩ := HR.out.b1.get2
        obtain ⟨⟨r0, r1⟩, g0, g1⟩ := HR.out.b3.get2
        obtain ⟨⟨k0, k1⟩, h0, h1⟩ := HR.out.bk.get2
        by_cases hlt : k < m
        · have hkl : k < l.queue.length := by have := HBl.out; omega
          have hkn : (k : Int) < (m : Int) := by omega
          have HG := Lib.hid (stay_at (isC txn) hkl)
          obtain ⟨ad, hae, hab, y0, y1, y2, y3, y4⟩ := load_claim HB.out.lst hlt hkl
          subst hae
          generalize l.queue[k] = h at y0 y1 y2 y3 y4 HG
          have y0 := box_ HR.out.q y0
          have y1 := box_ HR.out.q y1
          have y2 := box_ HR.out.q y2
          have y3 := box_ HR.out.q y3
          have y4 := box_ HR.out.q y4
          have hpb : (ad.add (k * 5)).block < w.heap.size + 1 + 1 + 1 := by rw [addr_block]; omega
          have eq1 := int_eq h.txn txn
          by_cases ht : h.txn = txn
          · have HG2 := Lib.hid (show qs = stay (isC txn) (l.queue.take (k + 1)) by rw [HG.out, if_pos (show isC txn h = true from decide_eq_true ht), HE.out])
            have et : (h.txn != txn) = false := by simpa using ht
            clear ht eq1
            go_wp2
            go_roundw
            case rel => exact ⟨k + 1, X, xn, xc, Y, yn, yd, hs, qs, by omega, by go_num, HR.out, HG2.out, HS1.out⟩
            case measure => simp [intOf]; omega
          · have HG2 := Lib.hid (show qs ++ [h] = stay (isC txn) (l.queue.take (k + 1)) by rw [HG.out, if_neg (show ¬ isC txn h = true by unfold isC; simp [ht]), HE.out])
            have et : (h.txn != txn) = true := by simpa using ht
            clear ht eq1
            have HBs := Lib.hid HR.out.lt
            have pbA : w.heap.size < w.heap.size + 1 + 1 + 1 := by omega
            have pbK : w.heap.size + 1 + 1 < w.heap.size + 1 + 1 + 1 := by omega
            have NF1 := Lib.hid (show (yn + 1) * 56 ≤ 140737488355328 by omega)
            go_wp2
            refine wp_region_heldL 10 (Below (w.heap.size + 1 + 1 + 1) wr) (by kernel_rfl) ?szz12 (fun hHeld => ?rzz12)
            case szz12 =>
              exact Below.drew (Below.refl _ _)
            case' rzz12 => skip
            have OO : Hid (OwnK claimK wr.drew (w.heap.size + 1 + 1 + 1) Y yn yd (qs)) := Lib.hid (HR.out.o2)
            have GG : Hid (wr.grownBy wr.drew (Value.slice Y yn yd).ownBlock) := Lib.hid (grown_q ((Q.refl wr).drew) _)
            generalize hgen : wr.drew = D0 at hHeld OO GG ⊢
            clear hgen
            refine wpAnyL_take (i := 0) (oi := ?ozz13) (v := ?vzz13) ?hzz13 ?azz13 ?bzz13 ?czz13 ?kzz13 ?qzz13 ?yzz13 ?szz13 ?rzz13
            case hzz13 => simp only [List.getElem?_toArray, List.getElem?_cons_zero]; rfl
            case azz13 => kernel_rfl
            case bzz13 => kernel_rfl
            case czz13 => kernel_rfl
            case kzz13 => kernel_rfl
            case yzz13 =>
              refine Or.inl ⟨by rfl, ?_⟩
              intro w hSw
              have zb0 := box_b hSw (by exact pbA) b0; have zb1 := box_b hSw (by exact pbA) b1; have zk0 := box_b hSw (by exact pbK) k0; have zk1 := box_b hSw (by exact pbK) k1; have zy0 := box_b hSw (by exact hpb) y0; have zy1 := box_b hSw (by exact hpb) y1; have zy2 := box_b hSw (by exact hpb) y2; have zy3 := box_b hSw (by exact hpb) y3; have zy4 := box_b hSw (by exact hpb) y4; clear hSw
              go_simp
              try with_reducible rfl
            case qzz13 => exact fun _ _ _ h => h
            case szz13 => first | assumption | trivial
            case' rzz13 => simp only [Act.put, List.setIfInBounds_toArray, List.set_cons_zero, List.set_cons_succ]
            refine wpAnyL_take (i := 1) (oi := ?ozz14) (v := ?vzz14) ?hzz14 ?azz14 ?bzz14 ?czz14 ?kzz14 ?qzz14 ?yzz14 ?szz14 ?rzz14
            case hzz14 => simp only [List.getElem?_toArray, List.getElem?_cons_zero, List.getElem?_cons_succ]; rfl
            case azz14 => kernel_rfl
            case bzz14 => kernel_rfl
            case czz14 => kernel_rfl
            case kzz14 => kernel_rfl
            case yzz14 =>
              refine Or.inl ⟨by rfl, ?_⟩
              intro w hSw
              have zb0 := box_b hSw (by exact pbA) b0; have zb1 := box_b hSw (by exact pbA) b1; have zk0 := box_b hSw (by exact pbK) k0; have zk1 := box_b hSw (by exact pbK) k1; have zy0 := box_b hSw (by exact hpb) y0; have zy1 := box_b hSw (by exact hpb) y1; have zy2 := box_b hSw (by exact hpb) y2; have zy3 := box_b hSw (by exact hpb) y3; have zy4 := box_b hSw (by exact hpb) y4; clear hSw
              go_simp
              try with_reducible rfl
            case qzz14 => exact fun _ _ _ h => h
            case szz14 => first | assumption | trivial
            case' rzz14 => simp only [Act.put, List.setIfInBounds_toArray, List.set_cons_zero, List.set_cons_succ]
            refine wpAnyL_take (i := 2) (oi := ?ozz15) (v := ?vzz15) ?hzz15 ?azz15 ?bzz15 ?czz15 ?kzz15 ?qzz15 ?yzz15 ?szz15 ?rzz15
            case hzz15 => simp only [List.getElem?_toArray, List.getElem?_cons_zero, List.getElem?_cons_succ]; rfl
            case azz15 => kernel_rfl
            case bzz15 => kernel_rfl
            case czz15 => kernel_rfl
            case kzz15 => kernel_rfl
            case yzz15 =>
              refine Or.inl ⟨by rfl, ?_⟩
              intro w hSw
              have zb0 := box_b hSw (by exact pbA) b0; have zb1 := box_b hSw (by exact pbA) b1; have zk0 := box_b hSw (by exact pbK) k0; have zk1 := box_b hSw (by exact pbK) k1; have zy0 := box_b hSw (by exact hpb) y0; have zy1 := box_b hSw (by exact hpb) y1; have zy2 := box_b hSw (by exact hpb) y2; have zy3 := box_b hSw (by exact hpb) y3; have zy4 := box_b hSw (by exact hpb) y4; clear hSw
              go_simp
              try with_reducible rfl
            case qzz15 => exact fun _ _ _ h => h
            case szz15 => first | assumption | trivial
            case' rzz15 => simp only [Act.put, List.setIfInBounds_toArray, List.set_cons_zero, List.set_cons_succ]
            refine wpAnyL_take (i := 3) (oi := ?ozz16) (v := ?vzz16) ?hzz16 ?azz16 ?bzz16 ?czz16 ?kzz16 ?qzz16 ?yzz16 ?szz16 ?rzz16
            case hzz16 => simp only [List.getElem?_toArray, List.getElem?_cons_zero, List.getElem?_cons_succ]; rfl
            case azz16 => kernel_rfl
            case bzz16 => kernel_rfl
            case czz16 => kernel_rfl
            case kzz16 => kernel_rfl
            case yzz16 =>
              refine Or.inl ⟨by rfl, ?_⟩
              intro w hSw
              have zb0 := box_b hSw (by exact pbA) b0; have zb1 := box_b hSw (by exact pbA) b1; have zk0 := box_b hSw (by exact pbK) k0; have zk1 := box_b hSw (by exact pbK) k1; have zy0 := box_b hSw (by exact hpb) y0; have zy1 := box_b hSw (by exact hpb) y1; have zy2 := box_b hSw (by exact hpb) y2; have zy3 := box_b hSw (by exact hpb) y3; have zy4 := box_b hSw (by exact hpb) y4; clear hSw
              go_simp
              try with_reducible rfl
            case qzz16 => exact fun _ _ _ h => h
            case szz16 => first | assumption | trivial
            case' rzz16 => simp only [Act.put, List.setIfInBounds_toArray, List.set_cons_zero, List.set_cons_succ]
            refine wpAnyL_take (i := 4) (oi := ?ozz17) (v := ?vzz17) ?hzz17 ?azz17 ?bzz17 ?czz17 ?kzz17 ?qzz17 ?yzz17 ?szz17 ?rzz17
            case hzz17 => simp only [List.getElem?_toArray, List.getElem?_cons_zero, List.getElem?_cons_succ]; rfl
            case azz17 => kernel_rfl
            case bzz17 => kernel_rfl
            case czz17 => kernel_rfl
            case kzz17 => kernel_rfl
            case yzz17 =>
              refine Or.inl ⟨by rfl, ?_⟩
              intro w hSw
              have zb0 := box_b hSw (by exact pbA) b0; have zb1 := box_b hSw (by exact pbA) b1; have zk0 := box_b hSw (by exact pbK) k0; have zk1 := box_b hSw (by exact pbK) k1; have zy0 := box_b hSw (by exact hpb) y0; have zy1 := box_b hSw (by exact hpb) y1; have zy2 := box_b hSw (by exact hpb) y2; have zy3 := box_b hSw (by exact hpb) y3; have zy4 := box_b hSw (by exact hpb) y4; clear hSw
              go_simp
              try with_reducible rfl
            case qzz17 => exact fun _ _ _ h => h
            case szz17 => first | assumption | trivial
            case' rzz17 => simp only [Act.put, List.setIfInBounds_toArray, List.set_cons_zero, List.set_cons_succ]
            refine wpAnyL_take (i := 5) (oi := ?ozz18) (v := ?vzz18) ?hzz18 ?azz18 ?bzz18 ?czz18 ?kzz18 ?qzz18 ?yzz18 ?szz18 ?rzz18
            case hzz18 => simp only [List.getElem?_toArray, List.getElem?_cons_zero, List.getElem?_cons_succ]; rfl
            case azz18 => kernel_rfl
            case bzz18 => kernel_rfl
            case czz18 => kernel_rfl
            case kzz18 => kernel_rfl
            case yzz18 =>
              refine Or.inl ⟨by rfl, ?_⟩
              intro w hSw
              have zb0 := box_b hSw (by exact pbA) b0; have zb1 := box_b hSw (by exact pbA) b1; have zk0 := box_b hSw (by exact pbK) k0; have zk1 := box_b hSw (by exact pbK) k1; have zy0 := box_b hSw (by exact hpb) y0; have zy1 := box_b hSw (by exact hpb) y1; have zy2 := box_b hSw (by exact hpb) y2; have zy3 := box_b hSw (by exact hpb) y3; have zy4 := box_b hSw (by exact hpb) y4; clear hSw
              go_simp
              try with_reducible rfl
            case qzz18 => exact fun _ _ _ h => h
            case szz18 => first | assumption | trivial
            case' rzz18 => simp only [Act.put, List.setIfInBounds_toArray, List.set_cons_zero, List.set_cons_succ]
            refine wpAnyL_take (i := 6) (oi := ?ozz19) (v := ?vzz19) ?hzz19 ?azz19 ?bzz19 ?czz19 ?kzz19 ?qzz19 ?yzz19 ?szz19 ?rzz19
            case hzz19 => simp only [List.getElem?_toArray, List.getElem?_cons_zero, List.getElem?_cons_succ]; rfl
            case azz19 => kernel_rfl
            case bzz19 => kernel_rfl
            case czz19 => kernel_rfl
            case kzz19 => kernel_rfl
            case yzz19 =>
              refine Or.inl ⟨by rfl, ?_⟩
              intro w hSw
              have zb0 := box_b hSw (by exact pbA) b0; have zb1 := box_b hSw (by exact pbA) b1; have zk0 := box_b hSw (by exact pbK) k0; have zk1 := box_b hSw (by exact pbK) k1; have zy0 := box_b hSw (by exact hpb) y0; have zy1 := box_b hSw (by exact hpb) y1; have zy2 := box_b hSw (by exact hpb) y2; have zy3 := box_b hSw (by exact hpb) y3; have zy4 := box_b hSw (by exact hpb) y4; clear hSw
              go_simp
              try with_reducible rfl
            case qzz19 => exact fun _ _ _ h => h
            case szz19 => first | assumption | trivial
            case' rzz19 => simp only [Act.put, List.setIfInBounds_toArray, List.set_cons_zero, List.set_cons_succ]
            refine wpAnyL_ready (rs := [7]) (by kernel_rfl) (by simp) ?_
            refine AllReadyL.cons (o := ?ozz23) ?hzz23 (fun K hK => ?kzz23) ?mzz23
            case hzz23 => simp only [List.getElem?_toArray, List.getElem?_cons_zero, List.getElem?_cons_succ]; rfl
            case kzz23 =>
              go_simp
              have OB : Hid (OwnK claimK (D0.alloc (.cells #[.int .i64 h.txn, .int .i64 h.w.mode, .string h.w.lo, .string h.w.hi, .int .u64 (h.til : Int)] 45)) (w.heap.size + 1 + 1 + 1) (some ⟨D0.heap.size, 0, none⟩) 1 1 [h]) := Lib.hid (OwnK.lit1 claimK D0 (w.heap.size + 1 + 1 + 1) (Nat.le_trans HBs.out hHeld.size) h)
              have OB0 := Lib.hid (show D0.heap.size < (D0.alloc (.cells #[.int .i64 h.txn, .int .i64 h.w.mode, .string h.w.lo, .string h.w.hi, .int .u64 (h.til : Int)] 45)).heap.size by simp)
              have qa := below_al hHeld HBs.out (.cells #[.int .i64 h.txn, .int .i64 h.w.mode, .string h.w.lo, .string h.w.hi, .int .u64 (h.til : Int)] 45)
              have OO := Lib.hid (OO.out.alloc (.cells #[.int .i64 h.txn, .int .i64 h.w.mode, .string h.w.lo, .string h.w.hi, .int .u64 (h.til : Int)] 45))
              have GG := Lib.hid (GG.out.trans (World.grownBy_alloc _ (.cells #[.int .i64 h.txn, .int .i64 h.w.mode, .string h.w.lo, .string h.w.hi, .int .u64 (h.til : Int)] 45) _))
              generalize D0.alloc (.cells #[.int .i64 h.txn, .int .i64 h.w.mode, .string h.w.lo, .string h.w.hi, .int .u64 (h.til : Int)] 45) = Y0 at OB OB0 qa OO GG ⊢
              generalize D0.heap.size = nb at OB OB0 ⊢
              refine hK.out _ _ ?Szz23 (fun hHeld => ?Rzz23)
              case Szz23 =>
                exact qa
              case Rzz23 =>
                clear hK K
                try simp only [Act.put, List.setIfInBounds_toArray, List.set_cons_zero, List.set_cons_succ]
                refine wpAnyL_ready (rs := [8]) (by kernel_rfl) (by simp) ?_
                refine AllReadyL.cons (o := ?ozz22) ?hzz22 (fun K hK => ?kzz22) ?mzz22
                case hzz22 => simp only [List.getElem?_toArray, List.getElem?_cons_zero, List.getElem?_cons_succ]; rfl
                case kzz22 =>
                  refine step_appKM claimK (by rfl) _ _ _ rfl (by rfl) (w.heap.size + 1 + 1 + 1) Y yn yd (qs) (by rfl) OO.out _ 1 1 [h] (by rfl) OB.out.lst (fun e => by cases e) (yn + 1) rfl (qs ++ [h]) rfl NF1.out (Nat.le_trans HBs.out hHeld.size) ?_
                  intro A7 c7 w71 o7 b7 g7
                  have q7 := hHeld.trans b7
                  have G7 := Lib.hid (GG.out.trans g7)
                  refine hK.out _ _ ?Szz22 (fun hHeld => ?Rzz22)
                  case Szz22 =>
                    exact q7
                  case Rzz22 =>
                    clear hK K
                    try simp only [Act.put, List.setIfInBounds_toArray, List.set_cons_zero, List.set_cons_succ]
                    refine wpAnyL_take (i := 9) (oi := ?ozz20) (v := ?vzz20) ?hzz20 ?azz20 ?bzz20 ?czz20 ?kzz20 ?qzz20 ?yzz20 ?szz20 ?rzz20
                    case hzz20 => simp only [List.getElem?_toArray, List.getElem?_cons_zero, List.getElem?_cons_succ]; rfl
                    case azz20 => kernel_rfl
                    case bzz20 => kernel_rfl
                    case czz20 => kernel_rfl
                    case kzz20 => kernel_rfl
                    case yzz20 =>
                      refine Or.inl ⟨by rfl, ?_⟩
                      intro w hSw
                      have zb0 := box_b hSw (by exact pbA) b0; have zb1 := box_b hSw (by exact pbA) b1; have zk0 := box_b hSw (by exact pbK) k0; have zk1 := box_b hSw (by exact pbK) k1; have zy0 := box_b hSw (by exact hpb) y0; have zy1 := box_b hSw (by exact hpb) y1; have zy2 := box_b hSw (by exact hpb) y2; have zy3 := box_b hSw (by exact hpb) y3; have zy4 := box_b hSw (by exact hpb) y4; clear hSw
                      go_simp
                      try with_reducible rfl
                    case qzz20 => exact fun _ _ _ h => h
                    case szz20 => first | assumption | trivial
                    case' rzz20 => simp only [Act.put, List.setIfInBounds_toArray, List.set_cons_zero, List.set_cons_succ]
                    refine wpAnyL_ready (rs := [10]) (by kernel_rfl) (by simp) ?_
                    refine AllReadyL.consK (o := ?ozz21) ?hzz21 ?lzz21 (fun K hK => ?kzz21) ?mzz21
                    case hzz21 => simp only [List.getElem?_toArray, List.getElem?_cons_zero, List.getElem?_cons_succ]; rfl
                    case lzz21 => kernel_rfl
                    case kzz21 =>
                      have HZ := Lib.hid hHeld
                      have hB7 := hHeld
                      obtain ⟨⟨p0, p1⟩, p2, p3⟩ := (HR.out.bk.below hHeld (by omega)).get2
                      go_simp
                      refine hK.out _ _ ?Rzz21
                      case Rzz21 =>
                        clear hK K
                        try simp only [Act.put, List.setIfInBounds_toArray, List.set_cons_zero, List.set_cons_succ]
                        refine wpAnyH_done (by kernel_rfl) ?_ _
                        have HR7 := Lib.hid (HR.out.pushC o7 G7.out)
                        clear b0 b1 f0 f1 r0 r1 g0 g1 k0 k1 h0 h1 p0 p1 p2 p3 o7 hB7
                        go_wp2
                        go_roundw
                        case rel => exact ⟨k + 1, X, xn, xc, A7, yn + 1, c7, hs, qs ++ [h], by omega, by go_num, HR7.out, HG2.out, HS1.out⟩
                        case measure => simp [intOf]; omega
                    case' mzz21 => skip
                    exact AllReadyL.nil
                case' mzz22 => skip
                exact AllReadyL.nil
            case' mzz23 => skip
            exact AllReadyL.nil
        · have hkn : ¬ (k : Int) < (m : Int) := by omega
          have HS2 := Lib.hid (show qs = stay (isC txn) l.queue by have := HE.out; rwa [List.take_of_length_le (by have := HBl.out; omega)] at this)
          have HKk := Lib.hid (show (⟨hs, qs⟩ : Lo) = Lm.keep l txn by rw [HS1.out, HS2.out, stay_H, stay_C])
          have hn1 : xn ≤ n := by
            rw [← HR.out.o1.len, HS1.out, ← HAl.out]; exact stay_len _ _
          have HI1 := Lib.hid (HR.out.o1.in_ (by show xn * 48 ≤ _; omega))
          have HI2 := Lib.hid (HR.out.o2.in_ (by show yn * 56 ≤ _; omega))
          have HLK := Lib.hid (HLW.out.keep txn)
          rw [← HKk.out] at HLK
          go_wp2_with fail
          refine (rsettle_in X Y xn xc yn yd ⟨hs, qs⟩ _ HI1.out HI2.out HLK.out (by omega)).mono ?_
          rintro e w4 ⟨A4, n4, c4, B4, m4, d4, C4, p4, q4, rfl, o5, o6, o7, y4⟩
          obtain ⟨⟨r0, r1⟩, g0, g1⟩ := (HR.out.b3.q y4).get2
          have Y1 := Lib.hid (o5.odd oddH r0 (.slice A4 n4 c4))
          have Y2 := Lib.hid (o6.odd oddC r0 (.slice A4 n4 c4))
          have Y3 := Lib.hid (o7.odd oddN r0 (.slice A4 n4 c4))
          have r1' : (w4.setCell ⟨w.heap.size + 1, 0, none⟩ (.slice A4 n4 c4)).cell? ⟨w.heap.size + 1, 1, none⟩ = some (.slice none 0 0) := (((HR.out.b3.q y4).set (k := 0) (by simp) (.slice A4 n4 c4)) 1 _ rfl).1
          have YY := Lib.hid (And.intro (Y1.out.odd oddH r1' (.slice B4 m4 d4)) (And.intro (Y2.out.odd oddC r1' (.slice B4 m4 d4)) (And.intro (Y3.out.odd oddN r1' (.slice B4 m4 d4)) ((HR.out.q.trans y4).set2 (b := w.heap.size + 1) (by omega) (.slice A4 n4 c4) (.slice B4 m4 d4)))))
          have HFr := Lib.hid (show Lm.settle ⟨hs, qs⟩ = Lm.free l txn by rw [HKk.out]; rfl)
          clear o5 o6 o7 y4 r1' b0 b1 f0 f1 k0 k1 h0 h1
          rw [HFr.out] at YY
          go_wp2
          refine bodyPost_ret (v := .tuple #[locV A4 n4 c4 B4 m4 d4, .slice C4 p4 q4]) (by simp [results, Try.results20, go_sem, r0, r1, g0, g1]) rfl ?_
          exact ⟨A4, n4, c4, B4, m4, d4, C4, p4, q4, rfl, YY.out.1, YY.out.2.1, YY.out.2.2.1, YY.out.2.2.2⟩
end Go.Proofs.Ytncnfblnelkmbaa

/- The frame of every law: what an argument reads as (with its sizes), opened by its type; a walk under that reading gives the given statement. -/
namespace Go.Proofs.Ytncnfblnelkmbaa
set_option maxRecDepth 100000
open Go.ChangeShapes Go.WideShapes Go.ChangeAt Go.RowKit
set_option linter.unusedVariables false

/-- the cells cs read as something of type t, and no part of it is beyond the reach. -/
def Rd (w : World) (t : TypeId) (cs : List Value) : Prop :=
  ∃ (H : Type) (enc : TypeId × Value → H) (n : Nat) (d : DataW H) (ps : List MemPlace), DataW.trod enc Try.prog w 0 (fun _ => true) true n t cs = some (d, ps) ∧ ∀ x ∈ d.weights Try.prog t, x ≤ 140737488351232

theorem Rd.int {w : World} {t : TypeId} {cs : List Value} {k : IntKind} (h : Rd w t cs) (ht : Try.prog.underlying t = some (.int k)) : ∃ n, cs = [.int k n] ∧ (Lit.int k n).wf = true := by
  obtain ⟨H, enc, n, d, ps, ht', hw⟩ := h
  obtain ⟨m, rfl, _, hm⟩ := DataW.trod_int ht ht'
  exact ⟨m, rfl, hm⟩
theorem Rd.bool {w : World} {t : TypeId} {cs : List Value} (h : Rd w t cs) (ht : Try.prog.underlying t = some .bool) : ∃ b, cs = [.bool b] := by
  obtain ⟨H, enc, n, d, ps, ht', hw⟩ := h
  obtain ⟨m, rfl, _⟩ := DataW.trod_bool ht ht'
  exact ⟨m, rfl⟩
theorem Rd.string {w : World} {t : TypeId} {cs : List Value} (h : Rd w t cs) (ht : Try.prog.underlying t = some .string) : ∃ s : ByteArray, cs = [.string s] ∧ s.size ≤ 140737488351232 := by
  obtain ⟨H, enc, n, d, ps, ht', hw⟩ := h
  obtain ⟨s, rfl, hx, hm⟩ := DataW.trod_string ht ht'
  injection hx with h1 h2
  subst h1
  have := hw s.data.toList.length (by simp [DataW.weights])
  exact ⟨s, rfl, by simpa using this⟩
theorem Rd.struct {w : World} {t : TypeId} {cs : List Value} {fs : Array Field} (h : Rd w t cs) (ht : Try.prog.underlying t = some (.struct fs)) :
    cs.length = Try.prog.cellsOf t ∧ ∀ (i : Nat) (f : Field), fs[i]? = some f → Rd w f.type ((cs.drop f.offset).take (Try.prog.cellsOf f.type)) := by
  obtain ⟨H, enc, n, d, ps, ht', hw⟩ := h
  obtain ⟨xs, m, rfl, hx, hl, hlen, hg⟩ := DataW.trod_struct ht ht'
  injection hx with h1 h2
  subst h1
  refine ⟨hl, fun i f hi => ?_⟩
  have hil : i < fs.size := (Array.getElem?_eq_some_iff.1 hi).1
  have hxi : xs[i]? = some xs[i] := List.getElem?_eq_getElem (by omega)
  refine ⟨H, enc, m, xs[i].1, xs[i].2, (hg i f hi).trans hxi, fun x hx => hw x ?_⟩
  simp only [DataW.weights, ht]
  exact DataW.weights_mem_each (j := i) (t := f.type) (d := xs[i].1) (by simp [hi]) (by simp [hxi]) x hx
theorem Rd.field {w : World} {t : TypeId} {cs : List Value} {fs : Array Field} (h : Rd w t cs) (ht : Try.prog.underlying t = some (.struct fs)) (i : Nat) {ty : TypeId} (off k : Nat) (hi : (fs[i]?).map (fun f => (f.type, f.offset)) = some (ty, off)) (hk : Try.prog.cellsOf ty = k) :
    Rd w ty ((cs.drop off).take k) := by
  obtain ⟨f, hf, he⟩ := Option.map_eq_some_iff.1 hi
  injection he with e1 e2
  subst e1 e2 hk
  exact (h.struct ht).2 i f hf
theorem weightsAll_mem {H : Type} {P : Program} {e : TypeId} {d : DataW H} : ∀ {l : List (DataW H)}, d ∈ l → ∀ x ∈ d.weights P e, x ∈ DataW.weightsAll P e l
  | d0 :: l, hd, x, hx => by
    simp only [DataW.weightsAll, List.mem_append]
    rcases List.mem_cons.1 hd with rfl | hd
    · exact .inl hx
    · exact .inr (weightsAll_mem hd x hx)
theorem Rd.slice {w : World} {t e : TypeId} {cs : List Value} (h : Rd w t cs) (ht : Try.prog.underlying t = some (.slice e)) :
    cs = [.slice none 0 0] ∨ ∃ (a : Addr) (len cap : Nat), cs = [.slice (some a) len cap] ∧ len ≤ cap ∧ cap ≤ maxLen ∧ cap * Try.prog.bytesOf e ≤ 140737488351232 ∧
      ∀ i, i < cap → ∃ cs', w.cells? 0 (a.add (i * Try.prog.cellsOf e)) (Try.prog.cellsOf e) = some cs' ∧ Rd w e cs' := by
  obtain ⟨H, enc, n, d, ps, ht', hw⟩ := h
  rcases Deep.open_slice ht ht' with ⟨h0, _⟩ | ⟨a, len, cap, m, n', D, Pl, hcs, hb, hl, hm, hmm, hx, hi⟩
  · exact .inl h0
  · right
    simp only [if_true] at hmm
    subst hmm
    injection hx with h1 h2
    subst h1
    simp only [DataW.weights, ht] at hw
    refine ⟨a, len, m, hcs, hl, hm, ?_, fun i hi' => ?_⟩
    · have := hw _ (List.mem_cons_self ..)
      simp only [List.length_map, List.length_range] at this
      rwa [show len + (m - len) = m by omega] at this
    · obtain ⟨cs', hc, htr⟩ := hi i hi'
      refine ⟨cs', hc, H, enc, n', D i, Pl i, htr, fun x hx => hw x (List.mem_cons_of_mem _ (List.mem_append.2 ?_))⟩
      by_cases hlt : i < len
      · exact .inl (weightsAll_mem (List.mem_map.2 ⟨i, by simpa using hlt, rfl⟩) x hx)
      · exact .inr (weightsAll_mem (List.mem_map.2 ⟨i - len, by simp; omega, by rw [show len + (i - len) = i by omega]⟩) x hx)

/-- the value v, an argument, reads so. -/
def RdV (w : World) (t : TypeId) (v : Value) : Prop := (∃ base, Value.okWide Try.prog w .any base t v) ∧ Rd w t v.cells.toList
theorem RdV.int {w : World} {t : TypeId} {v : Value} {k : IntKind} (h : RdV w t v) (ht : Try.prog.underlying t = some (.int k)) : ∃ n, v = .int k n ∧ (Lit.int k n).wf = true := by
  obtain ⟨⟨b, ho⟩, hr⟩ := h
  obtain ⟨n, rfl⟩ := okWide_int ht ho
  obtain ⟨m, e, hm⟩ := hr.int ht
  simp [Value.cells] at e
  subst e
  exact ⟨n, rfl, hm⟩
theorem RdV.bool {w : World} {t : TypeId} {v : Value} (h : RdV w t v) (ht : Try.prog.underlying t = some .bool) : ∃ b, v = .bool b := by
  obtain ⟨⟨b, ho⟩, hr⟩ := h
  obtain ⟨n, rfl⟩ := okWide_bool ht ho
  exact ⟨n, rfl⟩
theorem RdV.string {w : World} {t : TypeId} {v : Value} (h : RdV w t v) (ht : Try.prog.underlying t = some .string) : ∃ s : ByteArray, v = .string s ∧ s.size ≤ 140737488351232 := by
  obtain ⟨⟨b, ho⟩, hr⟩ := h
  obtain ⟨n, rfl⟩ := okWide_string ht ho
  obtain ⟨m, e, hm⟩ := hr.string ht
  simp [Value.cells] at e
  subst e
  exact ⟨n, rfl, hm⟩
theorem RdV.struct {w : World} {t : TypeId} {v : Value} {fs : Array Field} (h : RdV w t v) (ht : Try.prog.underlying t = some (.struct fs)) : ∃ cs : List Value, v = .agg cs.toArray ∧ Rd w t cs := by
  obtain ⟨⟨b, ho⟩, hr⟩ := h
  obtain ⟨cs, rfl, _⟩ := okWide_struct ht ho
  exact ⟨cs.toList, rfl, hr⟩
theorem RdV.slice {w : World} {t e : TypeId} {v : Value} (h : RdV w t v) (ht : Try.prog.underlying t = some (.slice e)) : ∃ A n c, v = .slice A n c ∧ Rd w t [.slice A n c] := by
  obtain ⟨⟨b, ho⟩, hr⟩ := h
  obtain ⟨A, n, c, rfl⟩ := okWide_slice ht ho
  exact ⟨A, n, c, rfl, hr⟩

theorem args2 {a : Array Value} (h : a.size = 2) : ∃ x y, a = #[x, y] := by
  obtain ⟨l⟩ := a
  match l, h with
  | [x, y], _ => exact ⟨x, y, rfl⟩
theorem args3 {a : Array Value} (h : a.size = 3) : ∃ x y z, a = #[x, y, z] := by
  obtain ⟨l⟩ := a
  match l, h with
  | [x, y, z], _ => exact ⟨x, y, z, rfl⟩
theorem laidOut_ : laidOutB Try.prog = true := by kernel_rfl
theorem ownKnob_ : ownKnob Try.prog.godebug = none := by kernel_rfl

theorem trodAll_keep {H : Type} {enc : TypeId × Value → H} {W W' : World} (hb : Q W W') : ∀ (ts : List TypeId) (vs : List Value) (ds : List (DataW H)) (ps : List MemPlace), (∀ t ∈ ts, Try.prog.readableRec t = true ∧ t < Try.prog.types.size) →
    DataW.TrodAll enc Try.prog W 0 (fun _ => true) true ts vs ds ps → (∀ x ∈ ps, x.block < W.heap.size) → DataW.TrodAll enc Try.prog W' 0 (fun b => decide (b < W.heap.size)) true ts vs ds ps
  | [], vs, ds, ps, _, h, _ => by
    obtain ⟨rfl, rfl, rfl⟩ := trodAll_nil h
    exact trodAll_mk0
  | t :: ts, vs, ds, ps, ht, h, hlt => by
    obtain ⟨v, vs', d, ds', p, q, rfl, rfl, rfl, h1, h2⟩ := trodAll_cons h
    exact ⟨p, q, Below.trod laidOut_ (ht t (by simp)).1 (ht t (by simp)).2 h1 hb.below (fun x hx => hlt x (by simp [hx])), trodAll_keep hb ts vs' ds' q (fun u hu => ht u (by simp [hu])) h2 (fun x hx => hlt x (by simp [hx])), rfl⟩

theorem trodAll_len {H : Type} {enc : TypeId × Value → H} {W : World} : ∀ (ts : List TypeId) (vs : List Value) (ds : List (DataW H)) (ps : List MemPlace), DataW.TrodAll enc Try.prog W 0 (fun _ => true) true ts vs ds ps → vs.length = ts.length ∧ ds.length = ts.length ∧
    ∀ (j : Nat) t v, ts[j]? = some t → vs[j]? = some v → ∃ d p, ds[j]? = some d ∧ DataW.Trod enc Try.prog W 0 (fun _ => true) true t v d p
  | [], vs, ds, ps, h => by
    obtain ⟨rfl, rfl, rfl⟩ := trodAll_nil h
    exact ⟨rfl, rfl, fun j t v hj => by simp at hj⟩
  | t :: ts, vs, ds, ps, h => by
    obtain ⟨v, vs', d, ds', p, q, rfl, rfl, rfl, h1, h2⟩ := trodAll_cons h
    obtain ⟨e1, e2, h3⟩ := trodAll_len ts vs' ds' q h2
    refine ⟨by simp [e1], by simp [e2], fun j t' v' hj hv => ?_⟩
    cases j with
    | zero =>
      simp only [List.getElem?_cons_zero, Option.some.injEq] at hj hv
      subst hj hv
      exact ⟨d, p, rfl, h1⟩
    | succ j => exact h3 j t' v' (by simpa using hj) (by simpa using hv)

/-- A walk of a law, whatever its arguments read as, gives what its row asks. -/
theorem framed {f : FuncId} {fn : Func} {s : ChangeSpec} {conds : List PathCond} (n : Nat) (hfn : Try.prog.funcs[f]? = some fn) (hn : fn.params.size = n) (hvars : s.vars = []) (hrt : fn.resultTypes = #[4])
    (noInit : Try.prog.inits.idxOf? f = none) (hread0 : fn.params.toList.all (fun t => Try.prog.readableRec t && decide (t < Try.prog.types.size)) = true)
    (hs : ∀ (H : Type) (ds : List (DataW H)), ds.length = n → (s.fn H ds).results = [.lit (.bool true)] ∧ (s.fn H ds).args = ds ∧ (s.fn H ds).vars = [])
    (walk : ∀ (W : World) (args : Array Value), args.size = n → (∀ (j : Nat) t v, fn.params[j]? = some t → args[j]? = some v → RdV W t v) → Calls Try.prog f args W fun e W' => e = .returned (.bool true) ∧ Q W W')
    (os : Os) (started : os.Started) (H : Type) (enc : TypeId × Value → H)
    (witness : ∃ (w : World) (tape : Tape) (i : Input), w.os = os ∧ (w.forCall tape i).Shaped Try.prog ∧ i.vars = [] ∧ Input.okWide Try.prog (w.forCall tape i) .any w.heap.size f i ∧
      s.pre6 enc Try.prog fn conds false (w.forCall tape i).memory i.args ∧ ({} : Assume).holds Try.prog (lone (Frame.enter Try.prog f i.args .normal) [] (w.forCall tape i))) :
    ReturnsInHanded {} Try.checked os f .any (s.pre6 enc Try.prog fn conds false) (s.post enc Try.prog fn false true false false) := by
  have hread : ∀ t ∈ fn.params.toList, Try.prog.readableRec t = true ∧ t < Try.prog.types.size := fun t ht => by
    have := List.all_eq_true.1 hread0 t ht
    simpa using this
  refine returnsInHanded_of_change_sized (C := Try.checked) ownKnob_ started noInit hfn witness ?_
  intro W base args ds gs before hval hW hcnd hsz _
  have hW' := hW
  have hlt : ∀ x ∈ before, x.block < W.heap.size := fun x hx => by simpa using hW.lt x hx
  obtain ⟨p, q, hA, hV, rfl, hfz, hnd⟩ := hW
  rw [hvars] at hV
  obtain ⟨rfl, rfl⟩ := trodVars_none hV
  obtain ⟨e1, e2, h3⟩ := trodAll_len _ _ _ _ hA
  have hps : fn.params.toList.length = n := by simpa using hn
  have hds : ds.length = n := by omega
  have hsz2 : ∀ x ∈ DataW.weightsEach Try.prog (fn.params.toList ++ s.plain.varTypes Try.prog) (ds ++ []), x ≤ 140737488351232 := fun x hx => by
    have := List.all_eq_true.1 hsz x hx
    simpa [reachBytes] using of_decide_eq_true this
  refine (walk W args (by rw [← hps, ← e1]; simp) fun j t v hj hv => ⟨⟨base, hval j t v hj hv⟩, ?_⟩).mono fun e W' ⟨he, hg⟩ => ?_
  · obtain ⟨d, p', hd, fuel, htr⟩ := h3 j t v (by simpa using hj) (by simpa using hv)
    have hjl : j < n := by
      have := (Array.getElem?_eq_some_iff.1 hj).1; omega
    refine ⟨H, enc, fuel, d, p', htr, fun x hx => hsz2 x (DataW.weights_mem_each (j := j) (t := t) (d := d) ?_ (by simpa using hd) x hx)⟩
    rw [List.getElem?_append_left (by omega)]
    simpa using hj
  · subst he
    simp only [List.append_nil] at hW' hlt
    obtain ⟨a1, a2, a3⟩ := hs H ds hds
    refine ⟨_, rfl, ds, [], p, [], p, [], hW', ?_, ?_, ?_, hg.below.frame _, fun h => by cases h⟩
    · rw [List.append_nil, a1, hrt]
      exact trodAll_mk1 (shut_bool Try.underlying4 _)
    · rw [List.append_nil, a2]
      exact trodAll_keep hg _ _ _ _ hread hA hlt
    · rw [List.append_nil, a3, hvars]
      rfl
end Go.Proofs.Ytncnfblnelkmbaa

/- Lists whose elements lie flat in memory, out of what is known of each element. -/
namespace Go.Proofs.Ytncnfblnelkmbaa
set_option maxRecDepth 100000
open Go.ChangeShapes Go.WideShapes Go.RowKit
set_option linter.unusedVariables false

theorem choose_list {α : Type} {R : Nat → α → Prop} : ∀ (n : Nat), (∀ i, i < n → ∃ a, R i a) → ∃ l : List α, l.length = n ∧ ∀ i (hi : i < l.length), R i l[i]
  | 0, _ => ⟨[], rfl, fun i hi => by simp at hi⟩
  | n + 1, h => by
    obtain ⟨l, hl, hr⟩ := choose_list n (fun i hi => h i (by omega))
    obtain ⟨a, ha⟩ := h n (by omega)
    refine ⟨l ++ [a], by simp [hl], fun i hi => ?_⟩
    by_cases hlt : i < l.length
    · rw [List.getElem_append_left hlt]; exact hr i hlt
    · have e : i = l.length := by simp at hi; omega
      subst e
      rw [List.getElem_append_right (Nat.le_refl _)]
      simpa [hl] using ha

theorem flat_at {α : Type} (g : α → List Value) (k : Nat) (hg : ∀ a, (g a).length = k) : ∀ (l : List α) (j : Nat) (u : Value), (l.flatMap g)[j]? = some u → ∃ i r, ∃ hi : i < l.length, j = i * k + r ∧ r < k ∧ (g l[i])[r]? = some u
  | [], j, u, h => by simp at h
  | a :: l, j, u, h => by
    rw [List.flatMap_cons] at h
    by_cases hj : j < k
    · rw [List.getElem?_append_left (by rw [hg]; exact hj)] at h
      exact ⟨0, j, by simp, by omega, hj, by simpa using h⟩
    · rw [List.getElem?_append_right (by rw [hg]; omega), hg] at h
      obtain ⟨i, r, hi, he, hr, hu⟩ := flat_at g k hg l (j - k) u h
      refine ⟨i + 1, r, by simpa using hi, ?_, hr, by simpa using hu⟩
      rw [Nat.succ_mul]; omega
theorem flat_len {α : Type} (g : α → List Value) (k : Nat) (hg : ∀ a, (g a).length = k) : ∀ (l : List α), (l.flatMap g).length = l.length * k
  | [] => by simp
  | a :: l => by rw [List.flatMap_cons, List.length_append, hg, flat_len g k hg l, List.length_cons, Nat.succ_mul]; omega
theorem holds_flat {α : Type} (g : α → List Value) (k : Nat) (hg : ∀ a, (g a).length = k) (w : World) (ad : Addr) (l : List α) (h : ∀ i (hi : i < l.length), w.cells? 0 (ad.add (i * k)) k = some (g l[i])) :
    Holds w w.heap.size k (some ad) l.length (l.flatMap g) := by
  refine ⟨flat_len g k hg l, fun j u hu => ?_⟩
  obtain ⟨i, r, hi, rfl, hr, hv⟩ := flat_at g k hg l j u hu
  obtain ⟨_, _, hat⟩ := World.cells?_some (h i hi)
  have hc := hat r hr
  rw [hv, addr_add] at hc
  refine ⟨ad, rfl, ?_, hc⟩
  have := block_lt_of_cell hc
  rwa [addr_block] at this

theorem wf_i64 {x : Int} (h : (Lit.int .i64 x).wf = true) : -9223372036854775808 ≤ x ∧ x ≤ 9223372036854775807 := by
  simp only [Lit.wf, Bool.and_eq_true, decide_eq_true_eq] at h
  have e1 : IntKind.i64.min = -9223372036854775808 := by decide
  have e2 : IntKind.i64.max = 9223372036854775807 := by decide
  omega
end Go.Proofs.Ytncnfblnelkmbaa

/- What comes in: a list of a kind of elements, opened out of a reading. -/
namespace Go.Proofs.Ytncnfblnelkmbaa
set_option maxRecDepth 100000
open Go.ChangeShapes Go.WideShapes Go.RowKit
set_option linter.unusedVariables false

theorem Kind.rows_flat {α : Type} (K : Kind α) (l : List α) : K.rows l = l.flatMap K.row := by
  induction l with
  | nil => rfl
  | cons f l ih => rw [Kind.rows, ih, List.flatMap_cons]
theorem open_kind {α : Type} (K : Kind α) (P : α → Prop) {w : World} (hel : ∀ cs, Rd w K.T cs → ∃ a, cs = K.row a ∧ P a) (hby : Try.prog.bytesOf K.T = K.bs) (hce : Try.prog.cellsOf K.T = K.k) {cs : List Value} (h : Rd w K.S cs) :
    ∃ A n c l, cs = [.slice A n c] ∧ In_ K w A n c l ∧ n * K.bs ≤ 140737488351232 ∧ ∀ a ∈ l, P a := by
  rcases h.slice K.und with rfl | ⟨a, len, cap, rfl, hlc, hcm, hb, hi⟩
  · exact ⟨none, 0, 0, [], rfl, In_.none_ K w, by simp, by simp⟩
  · rw [hby] at hb
    rw [hce] at hi
    have hlb : len * K.bs ≤ cap * K.bs := Nat.mul_le_mul_right _ hlc
    obtain ⟨l, hl, hr⟩ := choose_list (R := fun i (f : α) => w.cells? 0 (a.add (i * K.k)) K.k = some (K.row f) ∧ P f) len (fun i hlt => by
      obtain ⟨cs', hc, hrd⟩ := hi i (by omega)
      obtain ⟨f, rfl, hf⟩ := hel cs' hrd
      exact ⟨f, hc, hf⟩)
    refine ⟨some a, len, cap, l, rfl, ⟨?_, fun e => by (cases e), hlc, hcm, by omega⟩, by omega, fun f hf => ?_⟩
    · have := holds_flat K.row K.k K.len w a l (fun i hi => (hr i hi).1)
      rw [hl, ← K.rows_flat] at this
      exact this
    · obtain ⟨i, hi, rfl⟩ := List.getElem_of_mem hf
      exact (hr i hi).2
end Go.Proofs.Ytncnfblnelkmbaa

/- What comes in: a span. -/
namespace Go.Proofs.Ytncnfblnelkmbaa
set_option maxRecDepth 100000
open Go.ChangeShapes Go.WideShapes Go.RowKit Prm Sm
set_option linter.unusedVariables false
set_option linter.unusedSimpArgs false

theorem open_want {w : World} {cs : List Value} (h : Rd w 41 cs) : ∃ x : Wn, cs = [.int .i64 x.mode, .string x.lo, .string x.hi] ∧ x.lo.size ≤ 140737488351232 ∧ x.hi.size ≤ 140737488351232 ∧ -9223372036854775808 ≤ x.mode ∧ x.mode ≤ 9223372036854775807 := by
  obtain ⟨hl, hf⟩ := h.struct Try.underlying41
  rw [show Try.prog.cellsOf 41 = 3 by kernel_rfl] at hl
  match cs, hl with
  | [a, b, x], _ =>
    obtain ⟨k, e0, r0⟩ := (h.field Try.underlying41 0 (ty := 3) 0 1 rfl (by kernel_rfl)).int Try.underlying3
    obtain ⟨lo, e1, r1⟩ := (h.field Try.underlying41 1 (ty := 9) 1 1 rfl (by kernel_rfl)).string Try.underlying9
    obtain ⟨hi, e2, r2⟩ := (h.field Try.underlying41 2 (ty := 9) 2 1 rfl (by kernel_rfl)).string Try.underlying9
    simp at e0 e1 e2
    subst e0 e1 e2
    exact ⟨⟨k, lo, hi⟩, rfl, r1, r2, (wf_i64 r0).1, (wf_i64 r0).2⟩
theorem wns {x : Wn} (h1 : x.lo.size ≤ 140737488351232) (h2 : x.hi.size ≤ 140737488351232) : WnS x := ⟨by unfold maxLen; omega, by unfold maxLen; omega⟩
end Go.Proofs.Ytncnfblnelkmbaa

/- What comes in: spans, holds, claims, locks. -/
namespace Go.Proofs.Ytncnfblnelkmbaa
set_option maxRecDepth 100000
open Go.ChangeShapes Go.WideShapes Go.RowKit Prm Lm Sm
set_option linter.unusedVariables false
set_option linter.unusedSimpArgs false

def I64 (x : Int) : Prop := -9223372036854775808 ≤ x ∧ x ≤ 9223372036854775807
def WnIn (x : Wn) : Prop := x.lo.size ≤ 140737488351232 ∧ x.hi.size ≤ 140737488351232
def HoIn (h : Ho) : Prop := I64 h.txn ∧ WnIn h.w
def ClIn (h : Cl) : Prop := I64 h.txn ∧ WnIn h.w ∧ h.til ≤ 18446744073709551615
def LoIn (l : Lo) : Prop := (∀ h ∈ l.held, HoIn h) ∧ ∀ h ∈ l.queue, ClIn h
theorem wf_u64 {x : Int} (h : (Lit.int .u64 x).wf = true) : 0 ≤ x ∧ x ≤ 18446744073709551615 := by
  simp only [Lit.wf, Bool.and_eq_true, decide_eq_true_eq] at h
  have e1 : IntKind.u64.min = 0 := by decide
  have e2 : IntKind.u64.max = 18446744073709551615 := by decide
  omega
theorem open_hold {w : World} {cs : List Value} (h : Rd w 55 cs) : ∃ p : Ho, cs = holdK.row p ∧ HoIn p := by
  obtain ⟨hl, hf⟩ := h.struct Try.underlying55
  rw [show Try.prog.cellsOf 55 = 4 by kernel_rfl] at hl
  match cs, hl with
  | [a, b, c, d], _ =>
    obtain ⟨t, e0, r0⟩ := (h.field Try.underlying55 0 (ty := 3) 0 1 rfl (by kernel_rfl)).int Try.underlying3
    obtain ⟨x, e1, x0, x1, x2, x3⟩ := open_want (h.field Try.underlying55 1 (ty := 41) 1 3 rfl (by kernel_rfl))
    simp at e0 e1
    obtain ⟨e1, e2, e3⟩ := e1
    subst e0 e1 e2 e3
    exact ⟨⟨t, x⟩, rfl, wf_i64 r0, x0, x1⟩
theorem open_claim {w : World} {cs : List Value} (h : Rd w 45 cs) : ∃ p : Cl, cs = claimK.row p ∧ ClIn p := by
  obtain ⟨hl, hf⟩ := h.struct Try.underlying45
  rw [show Try.prog.cellsOf 45 = 5 by kernel_rfl] at hl
  match cs, hl with
  | [a, b, c, d, g], _ =>
    obtain ⟨t, e0, r0⟩ := (h.field Try.underlying45 0 (ty := 3) 0 1 rfl (by kernel_rfl)).int Try.underlying3
    obtain ⟨x, e1, x0, x1, x2, x3⟩ := open_want (h.field Try.underlying45 1 (ty := 41) 1 3 rfl (by kernel_rfl))
    obtain ⟨u, e4, r4⟩ := (h.field Try.underlying45 2 (ty := 43) 4 1 rfl (by kernel_rfl)).int Try.underlying43
    simp at e0 e1 e4
    obtain ⟨e1, e2, e3⟩ := e1
    subst e0 e1 e2 e3 e4
    obtain ⟨u0, u1⟩ := wf_u64 r4
    refine ⟨⟨t, x, u.toNat⟩, ?_, wf_i64 r0, ⟨x0, x1⟩, by show u.toNat ≤ _; omega⟩
    show _ = [Value.int .i64 t, .int .i64 x.mode, .string x.lo, .string x.hi, .int .u64 (u.toNat : Int)]
    rw [Int.toNat_of_nonneg u0]
theorem open_holds {w : World} {cs : List Value} (h : Rd w 22 cs) : ∃ A n c l, cs = [.slice A n c] ∧ In_ holdK w A n c l ∧ n * 48 ≤ 140737488351232 ∧ ∀ p ∈ l, HoIn p :=
  open_kind holdK HoIn (fun cs hc => open_hold hc) (by kernel_rfl) (by kernel_rfl) h
theorem open_claims {w : World} {cs : List Value} (h : Rd w 23 cs) : ∃ A n c l, cs = [.slice A n c] ∧ In_ claimK w A n c l ∧ n * 56 ≤ 140737488351232 ∧ ∀ p ∈ l, ClIn p :=
  open_kind claimK ClIn (fun cs hc => open_claim hc) (by kernel_rfl) (by kernel_rfl) h
/-- locks as they come in. -/
structure LIn (w : World) (A : Option Addr) (n c : Nat) (B : Option Addr) (m d : Nat) (l : Lo) : Prop where
  held : In_ holdK w A n c l.held
  queue : In_ claimK w B m d l.queue
  inn : LoIn l
theorem LIn.q {w w' : World} {A B : Option Addr} {n c m d : Nat} {l : Lo} (h : LIn w A n c B m d l) (q : Q w w') : LIn w' A n c B m d l := ⟨h.held.q q, h.queue.q q, h.inn⟩
theorem open_locks {w : World} {cs : List Value} (h : Rd w 25 cs) : ∃ A n c B m d l, cs = [.slice A n c, .slice B m d] ∧ LIn w A n c B m d l := by
  obtain ⟨hl, hf⟩ := h.struct Try.underlying25
  rw [show Try.prog.cellsOf 25 = 2 by kernel_rfl] at hl
  match cs, hl with
  | [a, b], _ =>
    obtain ⟨A, n, c, l, e0, i0, b0, p0⟩ := open_holds (h.field Try.underlying25 0 (ty := 22) 0 1 rfl (by kernel_rfl))
    obtain ⟨B, m, d, t, e1, i1, b1, p1⟩ := open_claims (h.field Try.underlying25 1 (ty := 23) 1 1 rfl (by kernel_rfl))
    simp at e0 e1
    subst e0 e1
    exact ⟨A, n, c, B, m, d, ⟨l, t⟩, rfl, i0, i1, p0, p1⟩
end Go.Proofs.Ytncnfblnelkmbaa

/- The examples of chapter 10, at the head of each law; and whether locks are few. -/
namespace Go.Proofs.Ytncnfblnelkmbaa
set_option maxRecDepth 100000
open Go.RowKit Prm Lm Sm
set_option linter.unusedVariables false
set_option linter.unusedSimpArgs false

end Go.Proofs.Ytncnfblnelkmbaa

/- What the laws of chapter 10 need of locks that come in. -/
namespace Go.Proofs.Ytncnfblnelkmbaa
set_option maxRecDepth 100000
open Go.RowKit Prm Lm Sm
set_option linter.unusedVariables false

theorem LIn.loI {w : World} {A B : Option Addr} {n c m d : Nat} {l : Lo} (h : LIn w A n c B m d l) : LoI l := ⟨fun a ha => (h.inn.1 a ha).1, fun a ha => (h.inn.2 a ha).1⟩
theorem LIn.loW {w : World} {A B : Option Addr} {n c m d : Nat} {l : Lo} (h : LIn w A n c B m d l) : LoW l := ⟨fun a ha => wns (h.inn.1 a ha).2.1 (h.inn.1 a ha).2.2, fun a ha => wns (h.inn.2 a ha).2.1.1 (h.inn.2 a ha).2.1.2⟩
theorem LIn.few {w : World} {A B : Option Addr} {n c m d : Nat} {l : Lo} (h : LIn w A n c B m d l) (hn : n ≤ 200) (hm : m ≤ 40) : Few A n c B m d l := ⟨by omega, by omega, h.loI.1, h.loI.2⟩
theorem many {n m : Nat} (h : ¬ (n ≤ 200 ∧ m ≤ 40)) : (decide (n ≤ 200) && decide (m ≤ 40)) = false := by
  by_cases h1 : n ≤ 200 <;> by_cases h2 : m ≤ 40 <;> simp [h1, h2]
  exact h ⟨h1, h2⟩
theorem few {n m : Nat} (h : n ≤ 200 ∧ m ≤ 40) : (decide (n ≤ 200) && decide (m ≤ 40)) = true := by simp [h.1, h.2]
theorem rints_same (A B : Option Addr) (n c m d : Nat) (l : List Int) (w : World) (h1 : Lst numK w A n l) (h2 : Lst numK w B m l) (hn : n ≤ maxLen) :
    Calls Try.prog 10 #[.slice A n c, .slice B m d] w fun e w' => e = .returned (.bool true) ∧ Q w w' := by
  have := rints_any A B n c m d l l w h1 h2 hn (by rw [← h2.len, h1.len]; exact hn)
  rwa [decide_eq_true rfl] at this
theorem beq_b (r : Bool) : (r == r) = true := by cases r <;> rfl
end Go.Proofs.Ytncnfblnelkmbaa
