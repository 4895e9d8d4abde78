/- For every room and texts: a segment is left as soon as it has MaxSeg bytes. No condition. -/
import Derived.Test.YtjpigehibanhgaaDoorA5
import Derived.Test.YtjpigehibanhgaaDoorA4
import Derived.Test.YtjpigehibanhgaaDoorMWalIn
namespace Go.Proofs.YtjpigehibanhgaaDoor.walRooms
set_option maxRecDepth 100000
open Go.ChangeShapes Go.WideShapes Go.ChangeAt Go.RowKit Dkm Wm
set_option linter.unusedVariables false

theorem walk_neg (room : Int) (L : Option Addr) (n c : Nat) (w : World) (hT : Tab w) (h : room < 0) :
    Calls Tryd.prog 8 #[.int .i64 room, .slice L n c] w fun e w' => e = .returned (.bool true) ∧ Q w w' := by
  go_enter Tryd.func8, Tryd.ntmps8
  go_wp2_with fail
  refine (wshown_any _ hT).mono ?_
  rintro e w1 ⟨rfl, q1⟩
  go_wp2_with fail
  refine (ref_new_neg room _ h).mono ?_
  rintro e w2 ⟨rfl, q2⟩
  go_wp2
  go_ret
  exact ⟨rfl, (q1.trans q2).alloc _⟩

theorem put_moves (d : Dk) (sg : Int) (rec : ByteArray) (hs : segOk sg) :
    segOk (putM d sg rec).2.1 ∧ ((putM d sg rec).2.1 = sg ∨ (putM d sg rec).2.1 = sg + 1) ∧ ((putM d sg rec).2.2 = 0 → ((putM d sg rec).2.1 = sg ↔ (redd (namB sg) d.fs).1.size < 256)) := by
  unfold putM
  rw [if_neg (by simpa using hs)]
  split
  · exact ⟨hs, .inl rfl, fun h => by simp at h⟩
  unfold putB
  split
  · next h => exact ⟨hs, .inl rfl, fun _ => ⟨fun _ => h, fun _ => rfl⟩⟩
  next h =>
  split
  · next h2 => exact ⟨hs, .inl rfl, fun h3 => absurd h3 h2⟩
  split
  · exact ⟨hs, .inl rfl, fun h => by simp at h⟩
  next h3 =>
  refine ⟨?_, .inr rfl, fun _ => ⟨fun h4 => ?_, fun h4 => absurd h4 h⟩⟩
  · show segOk (sg + 1)
    unfold segOk at *; omega
  · have : sg + 1 = sg := h4
    omega

def S10 (B : Nat) (A : Option Addr) (m cc : Nat) (d : Dk) (p : Addr) (s : ByteArray) (w' : World) : Prop :=
  w'.cell? ⟨B, 0, none⟩ = some (.slice A m cc) ∧ w'.cell? ⟨B, 1, none⟩ = some (.int .i64 d.room) ∧ w'.cell? ⟨B, 2, none⟩ = some (.int .i64 d.fuse) ∧ w'.cell? ⟨B, 3, none⟩ = some (.bool d.off) ∧ w'.cell? p = some (.string s)
theorem add_blk (a : Addr) (k : Nat) : (a.add k).block = a.block := by unfold Addr.add; split <;> rfl
theorem S10.q {B : Nat} {A : Option Addr} {m cc : Nat} {d : Dk} {p : Addr} {s : ByteArray} {w w' : World} (h : S10 B A m cc d p s w) (hq : Q w w') : S10 B A m cc d p s w' :=
  ⟨box_ hq h.1, box_ hq h.2.1, box_ hq h.2.2.1, box_ hq h.2.2.2.1, box_ hq h.2.2.2.2⟩
theorem S10.far4 {B : Nat} {A : Option Addr} {m cc : Nat} {d : Dk} {p : Addr} {s : ByteArray} {w : World} (h : S10 B A m cc d p s w) {b : Nat} (h1 : b ≠ B) (h2 : b ≠ p.block) (x y z u : Value) :
    S10 B A m cc d p s ((((w.setCell ⟨b, 0, none⟩ x).setCell ⟨b, 1, none⟩ y).setCell ⟨b, 2, none⟩ z).setCell ⟨b, 3, none⟩ u) := by
  obtain ⟨a0, a1, a2, a3, a4⟩ := h
  refine ⟨?_, ?_, ?_, ?_, ?_⟩ <;> (repeat rw [World.cell?_setCell_far _ _ _ _ (by first | exact h1 | exact h2)]) <;> assumption
/-- behind 'k, next, e := wal.Put(d, ..)'. -/
def Cu3 (w : World) (r : Dk) (nx er : Int) (s12 s13 s14 : Value) (wx : World) : Prop :=
  ∃ g A n c, s12 = .pointer (some ⟨g, 0, none⟩) ∧ s13 = .int .i64 nx ∧ s14 = .int .i64 er ∧ w.heap.size ≤ g ∧ DV wx g A n c r ∧ (∀ ad, A = some ad → w.heap.size ≤ ad.block) ∧ Q w wx
theorem leaf_c {w pre w4 : World} {r : Dk} {nx er : Int} {A4 : Option Addr} {n4 c4 : Nat} (hq : Q w pre) (q4 : Q pre w4) (hd : Dsk w4 A4 n4 c4 r.fs) (hf : ∀ ad, A4 = some ad → pre.heap.size ≤ ad.block) :
    Cu3 w r nx er (.pointer (some ⟨w4.heap.size, 0, none⟩)) (.int .i64 nx) (.int .i64 er) (w4.alloc (.cells #[.slice A4 n4 c4, .int .i64 r.room, .int .i64 r.fuse, .bool r.off] 31)) :=
  ⟨_, A4, n4, c4, rfl, rfl, rfl, (hq.trans q4).size, DV.new hd, fun ad e => Nat.le_trans hq.size (hf ad e), (hq.trans q4).alloc _⟩
theorem leaf_b {w pre w4 : World} {b : Nat} {r : Dk} {nx er : Int} {A4 : Option Addr} {n4 c4 : Nat} {x y z u : Value} (hb : Bx pre b [x, y, z, u]) (hbw : w.heap.size ≤ b) (hq : Q w pre) (q4 : Q pre w4) (hd : Dsk w4 A4 n4 c4 r.fs) (hf : ∀ ad, A4 = some ad → pre.heap.size ≤ ad.block) :
    Cu3 w r nx er (.pointer (some ⟨b, 0, none⟩)) (.int .i64 nx) (.int .i64 er) ((((w4.setCell ⟨b, 0, none⟩ (.slice A4 n4 c4)).setCell ⟨b, 1, none⟩ (.int .i64 r.room)).setCell ⟨b, 2, none⟩ (.int .i64 r.fuse)).setCell ⟨b, 3, none⟩ (.bool r.off)) := by
  have hlt := hb.lt
  have haw : ∀ ad, A4 = some ad → ad.block ≠ b := fun ad e => by have := hf ad e; omega
  exact ⟨b, A4, n4, c4, rfl, rfl, rfl, hbw, ⟨(hb.q q4).put4 _ _ _ _, (((hd.away haw 0 _).away haw 1 _).away haw 2 _).away haw 3 _⟩, fun ad e => Nat.le_trans hq.size (hf ad e), (hq.trans q4).set4 hbw _ _ _ _⟩

def Rl (w : World) (B : Nat) (wr : World) : Prop := ∃ A n c d, DVA wr B A n c d ∧ Bnd 2305843009213693952 d ∧ Q w wr

set_option maxRecDepth 100000 in
set_option maxHeartbeats 6000000 in
theorem walk_main (room : Int) (L : Option Addr) (n c : Nat) (rs : List (List UInt8)) (w : World) (hT : Tab w) (h0 : 0 ≤ room) (h1 : room ≤ 9223372036854775807) (hl : Strs w L n rs) (hn : n * 16 ≤ 140737488351232) (hr : ∀ r ∈ rs, r.length ≤ maxLen) :
    Calls Tryd.prog 8 #[.int .i64 room, .slice L n c] w fun e w' => e = .returned (.bool true) ∧ Q w w' := by
  have HT := Lib.hid hT
  have HL := Lib.hid hl
  have HN := Lib.hid hl.len
  have HR := Lib.hid hr
  clear hT hl hr
  go_enter Tryd.func8, Tryd.ntmps8
  go_wp2_with fail
  refine (wshown_any _ HT.out).mono ?_
  rintro e w1 ⟨rfl, q1⟩
  go_wp2_with fail
  refine (ref_new_any room _ h0).mono ?_
  rintro e w2 ⟨rfl, q2⟩
  have V := Lib.hid (And.intro (DVA.mk (DV.new (W := w2) (d := ⟨[], room, -1, false⟩) (dsk_nil w2)) (fun ad e => by cases e)) ((q1.trans q2).alloc (.cells #[.slice none 0 0, .int .i64 room, .int .i64 (-1), .bool false] 31)))
  have zB : w.heap.size ≤ w2.heap.size := (q1.trans q2).size
  clear q1 q2
  go_wp2
  generalize (w2.alloc (.cells #[.slice none 0 0, .int .i64 room, .int .i64 (-1), .bool false] 31)) = W at V ⊢
  generalize w2.heap.size = B at V zB ⊢
  go_loopw [8, 9] (fun s i wr => ∃ k : Nat, ∃ sg : Int, k ≤ n ∧ k ≤ 100 ∧ s = .int .i64 sg ∧ i = .int .i64 (k : Nat) ∧ segOk sg ∧ Rl w B wr) (fun _ i _ => n - (intOf i).toNat)
  case atStart => exact ⟨0, 1, Nat.zero_le _, by omega, rfl, rfl, by unfold segOk; omega, none, 0, 0, ⟨[], room, -1, false⟩, V.out.1, bnd0 ⟨by omega, by omega⟩, V.out.2⟩
  case round =>
    obtain ⟨k, sg, hk, hk3, rfl, rfl, hsg, A, m, cc, d, hv, hB, hq⟩ := hrel
    have HV := Lib.hid hv
    have HJ := Lib.hid (And.intro hB hq)
    have HS := Lib.hid hsg
    clear hv hB hq V
    by_cases hlt : k < n ∧ k < 100
    · obtain ⟨hlt, hlt3⟩ := hlt
      have hkl : k < rs.length := by have := HN.out; omega
      have KN := Lib.hid (name_any sg)
      have KR := Lib.hid (fun w hf => ref_read (namB sg) A m cc d.room d.fuse d.off d.fs w hf HV.out.dv.dsk.max (fun f hf => Nat.le_trans (HJ.out.1.sum f hf) (by unfold maxLen; omega)))
      have KP := Lib.hid (fun w hT hd => put_any sg (bs rs[k]) A m cc d w hT hd HJ.out.1 (by rw [bs_size]; exact HR.out _ (List.getElem_mem hkl)))
      have HM := Lib.hid (put_moves d sg (bs rs[k]) HS.out)
      have HB2 := Lib.hid (HJ.out.1.putM (by omega) sg (bs rs[k]))
      have HS2 := Lib.hid (HL.out.q HJ.out.2)
      have q4 : (k : Int) < (n : Int) := by omega
      have q5 : 0 ≤ (k : Int) := by omega
      have hs1 : -9223372036854775808 ≤ sg + 1 ∧ sg + 1 ≤ 9223372036854775807 := by unfold segOk at hsg; omega
      have hss : ¬ (sg + 1 = sg) := by omega
      clear hsg
      generalize putM d sg (bs rs[k]) = r at KP HM HB2
      generalize hsx : bs rs[k] = s at KP
      have HX := Lib.hid hsx
      clear hsx
      obtain ⟨r, nx, er⟩ := r
      dsimp only at KP HM HB2
      generalize redd (namB sg) d.fs = b at KR HM
      obtain ⟨b, be⟩ := b
      dsimp only at KR HM
      obtain ⟨⟨e0, e1, e2, e3⟩, f0, f1, f2', f3⟩ := HV.out.dv.get
      go_upto_region 9 with (fail)
      go_region_held3 (fun w' => w'.cell? ⟨B, 0, none⟩ = some (.slice A m cc) ∧ w'.cell? ⟨B, 1, none⟩ = some (.int .i64 d.room) ∧ w'.cell? ⟨B, 2, none⟩ = some (.int .i64 d.fuse) ∧ w'.cell? ⟨B, 3, none⟩ = some (.bool d.off))
        (first
          | go_keep
          | (go_split_ands
             (repeat' apply And.intro) <;> exact box_ ‹Q _ _› (by assumption)))
        (first
          | (go_at_call 13
             (with_reducible refine (KN.out _ (HT.out.q (HJ.out.2.trans (Q.refl _).drew))).mono ?_)
             rintro e w2 ⟨rfl, q2⟩)
          | (go_at_call 26
             (with_reducible refine (KR.out _ (HV.out.dv.dsk.files.q ((Q.refl _).drew.trans q2))).mono ?_)
             rintro e w3 ⟨rfl, q3⟩))
      have Q3 := Lib.hid (((Q.refl wr).drew.trans q2).trans q3)
      have HV3 := Lib.hid (HV.out.q Q3.out)
      clear q2 q3 e0 e1 e2 e3 f0 f1 f2' f3
      obtain ⟨⟨e0, e1, e2, e3⟩, f0, f1, f2', f3⟩ := HV3.out.dv.get
      obtain ⟨ad, hA, hb, hc⟩ := (HS2.out.q Q3.out).load hkl
      rw [HX.out] at hc
      subst hA
      go_upto_region 10 with (fail)
      have zB2 : B < w3.heap.size := HV3.out.dv.box.lt
      have zk : ad.block < w3.heap.size := by have := block_lt_of_cell hc; rwa [add_blk] at this
      have BA : Hid (Bx (w3.alloc (.cells #[.slice none 0 0, .int .i64 0, .int .i64 0, .bool false] 31)) w3.heap.size [.slice none 0 0, .int .i64 0, .int .i64 0, .bool false]) := Lib.hid (Bx.new w3 [.slice none 0 0, .int .i64 0, .int .i64 0, .bool false] 31)
      go_cut [12, 13, 14] (fun s12 s13 s14 wx => Cu3 w3 r nx er s12 s13 s14 wx)
      case first =>
        refine wp_region_held_drew (S := S10 B A m cc d (ad.add k) s) (by kernel_rfl) ?_ (fun hHeld => ?_)
        · exact ⟨e0, e1, e2, e3, hc⟩
        have hS0 : S10 B A m cc d (ad.add k) s w3 := ⟨e0, e1, e2, e3, hc⟩
        refine wpAnyH_take (i := 0) (oi := ?ozz0) (v := ?vzz0) ?hzz0 ?azz0 ?bzz0 ?czz0 ?qzz0 ?yzz0 ?szz0 ?rzz0
        case hzz0 => simp only [List.getElem?_toArray, List.getElem?_cons_zero]; rfl
        case azz0 => kernel_rfl
        case bzz0 => kernel_rfl
        case czz0 => kernel_rfl
        case yzz0 =>
          refine Or.inl ⟨by rfl, ?_⟩
          intro w hSw
          obtain ⟨s0, s1, s2, s3, s4⟩ := hSw
          go_simp
          try with_reducible rfl
        case qzz0 => exact fun _ _ _ h => h
        case szz0 => first | assumption | trivial
        case' rzz0 => simp only [Act.put, List.setIfInBounds_toArray, List.set_cons_zero, List.set_cons_succ]
        refine wpAnyH_take (i := 1) (oi := ?ozz1) (v := ?vzz1) ?hzz1 ?azz1 ?bzz1 ?czz1 ?qzz1 ?yzz1 ?szz1 ?rzz1
        case hzz1 => simp only [List.getElem?_toArray, List.getElem?_cons_zero, List.getElem?_cons_succ]; rfl
        case azz1 => kernel_rfl
        case bzz1 => kernel_rfl
        case czz1 => kernel_rfl
        case yzz1 =>
          refine Or.inl ⟨by rfl, ?_⟩
          intro w hSw
          obtain ⟨s0, s1, s2, s3, s4⟩ := hSw
          go_simp
          try with_reducible rfl
        case qzz1 => exact fun _ _ _ h => h
        case szz1 => first | assumption | trivial
        case' rzz1 => simp only [Act.put, List.setIfInBounds_toArray, List.set_cons_zero, List.set_cons_succ]
        refine wpAnyH_take (i := 2) (oi := ?ozz2) (v := ?vzz2) ?hzz2 ?azz2 ?bzz2 ?czz2 ?qzz2 ?yzz2 ?szz2 ?rzz2
        case hzz2 => simp only [List.getElem?_toArray, List.getElem?_cons_zero, List.getElem?_cons_succ]; rfl
        case azz2 => kernel_rfl
        case bzz2 => kernel_rfl
        case czz2 => kernel_rfl
        case yzz2 =>
          refine Or.inl ⟨by rfl, ?_⟩
          intro w hSw
          obtain ⟨s0, s1, s2, s3, s4⟩ := hSw
          go_simp
          try with_reducible rfl
        case qzz2 => exact fun _ _ _ h => h
        case szz2 => first | assumption | trivial
        case' rzz2 => simp only [Act.put, List.setIfInBounds_toArray, List.set_cons_zero, List.set_cons_succ]
        refine wpAnyH_take (i := 3) (oi := ?ozz3) (v := ?vzz3) ?hzz3 ?azz3 ?bzz3 ?czz3 ?qzz3 ?yzz3 ?szz3 ?rzz3
        case hzz3 => simp only [List.getElem?_toArray, List.getElem?_cons_zero, List.getElem?_cons_succ]; rfl
        case azz3 => kernel_rfl
        case bzz3 => kernel_rfl
        case czz3 => kernel_rfl
        case yzz3 =>
          refine Or.inl ⟨by rfl, ?_⟩
          intro w hSw
          obtain ⟨s0, s1, s2, s3, s4⟩ := hSw
          go_simp
          try with_reducible rfl
        case qzz3 => exact fun _ _ _ h => h
        case szz3 => first | assumption | trivial
        case' rzz3 => simp only [Act.put, List.setIfInBounds_toArray, List.set_cons_zero, List.set_cons_succ]
        refine wpAnyH_take (i := 4) (oi := ?ozz4) (v := ?vzz4) ?hzz4 ?azz4 ?bzz4 ?czz4 ?qzz4 ?yzz4 ?szz4 ?rzz4
        case hzz4 => simp only [List.getElem?_toArray, List.getElem?_cons_zero, List.getElem?_cons_succ]; rfl
        case azz4 => kernel_rfl
        case bzz4 => kernel_rfl
        case czz4 => kernel_rfl
        case yzz4 =>
          refine Or.inl ⟨by rfl, ?_⟩
          intro w hSw
          obtain ⟨s0, s1, s2, s3, s4⟩ := hSw
          go_simp
          try with_reducible rfl
        case qzz4 => exact fun _ _ _ h => h
        case szz4 => first | assumption | trivial
        case' rzz4 => simp only [Act.put, List.setIfInBounds_toArray, List.set_cons_zero, List.set_cons_succ]
        refine wpAnyH_take (i := 5) (oi := ?ozz5) (v := ?vzz5) ?hzz5 ?azz5 ?bzz5 ?czz5 ?qzz5 ?yzz5 ?szz5 ?rzz5
        case hzz5 => simp only [List.getElem?_toArray, List.getElem?_cons_zero, List.getElem?_cons_succ]; rfl
        case azz5 => kernel_rfl
        case bzz5 => kernel_rfl
        case czz5 => kernel_rfl
        case yzz5 =>
          refine Or.inl ⟨by rfl, ?_⟩
          intro w hSw
          obtain ⟨s0, s1, s2, s3, s4⟩ := hSw
          go_simp
          try with_reducible rfl
        case qzz5 => exact fun _ _ _ h => h
        case szz5 => first | assumption | trivial
        case' rzz5 => simp only [Act.put, List.setIfInBounds_toArray, List.set_cons_zero, List.set_cons_succ]
        refine wpAnyH_ready (rs := [6, 11]) (by kernel_rfl) (by simp) ?_
        refine AllReadyH.cons (o := ?ozz22) ?hzz22 (fun K hK => ?kzz22) ?mzz22
        case hzz22 => simp only [List.getElem?_toArray, List.getElem?_cons_zero, List.getElem?_cons_succ]; rfl
        case kzz22 =>
          go_simp
          refine (KP.out _ (HT.out.q (HJ.out.2.trans (Q3.out.trans (by repeat (first | exact Q.refl _ | refine Q.drew ?_ | refine Q.alloc ?_ _))))) (HV3.out.dv.dsk.q (by repeat (first | exact Q.refl _ | refine Q.drew ?_ | refine Q.alloc ?_ _)))).mono ?_
          rintro e w4 ⟨A4, n4, c4, rfl, d4, a4, q4'⟩
          go_wp2_with fail
          refine hK.out _ _ ?Szz22 (fun hHeld => ?Rzz22)
          case Szz22 =>
            exact hHeld.q q4'
          case Rzz22 =>
            clear hK K
            try simp only [Act.put, List.setIfInBounds_toArray, List.set_cons_zero, List.set_cons_succ]
            refine wpAnyH_take (i := 7) (oi := ?ozz6) (v := ?vzz6) ?hzz6 ?azz6 ?bzz6 ?czz6 ?qzz6 ?yzz6 ?szz6 ?rzz6
            case hzz6 => simp only [List.getElem?_toArray, List.getElem?_cons_zero, List.getElem?_cons_succ]; rfl
            case azz6 => kernel_rfl
            case bzz6 => kernel_rfl
            case czz6 => kernel_rfl
            case yzz6 =>
              refine Or.inl ⟨by rfl, ?_⟩
              intro w hSw
              obtain ⟨s0, s1, s2, s3, s4⟩ := hSw
              go_simp
              try with_reducible rfl
            case qzz6 => exact fun _ _ _ h => h
            case szz6 => first | assumption | trivial
            case' rzz6 => simp only [Act.put, List.setIfInBounds_toArray, List.set_cons_zero, List.set_cons_succ]
            refine wpAnyH_take (i := 8) (oi := ?ozz7) (v := ?vzz7) ?hzz7 ?azz7 ?bzz7 ?czz7 ?qzz7 ?yzz7 ?szz7 ?rzz7
            case hzz7 => simp only [List.getElem?_toArray, List.getElem?_cons_zero, List.getElem?_cons_succ]; rfl
            case azz7 => kernel_rfl
            case bzz7 => kernel_rfl
            case czz7 => kernel_rfl
            case yzz7 =>
              refine Or.inl ⟨by rfl, ?_⟩
              intro w hSw
              obtain ⟨s0, s1, s2, s3, s4⟩ := hSw
              go_simp
              try with_reducible rfl
            case qzz7 => exact fun _ _ _ h => h
            case szz7 => first | assumption | trivial
            case' rzz7 => simp only [Act.put, List.setIfInBounds_toArray, List.set_cons_zero, List.set_cons_succ]
            refine wpAnyH_take (i := 9) (oi := ?ozz8) (v := ?vzz8) ?hzz8 ?azz8 ?bzz8 ?czz8 ?qzz8 ?yzz8 ?szz8 ?rzz8
            case hzz8 => simp only [List.getElem?_toArray, List.getElem?_cons_zero, List.getElem?_cons_succ]; rfl
            case azz8 => kernel_rfl
            case bzz8 => kernel_rfl
            case czz8 => kernel_rfl
            case yzz8 =>
              refine Or.inl ⟨by rfl, ?_⟩
              intro w hSw
              obtain ⟨s0, s1, s2, s3, s4⟩ := hSw
              go_simp
              try with_reducible rfl
            case qzz8 => exact fun _ _ _ h => h
            case szz8 => first | assumption | trivial
            case' rzz8 => simp only [Act.put, List.setIfInBounds_toArray, List.set_cons_zero, List.set_cons_succ]
            refine wpAnyH_take (i := 10) (oi := ?ozz9) (v := ?vzz9) ?hzz9 ?azz9 ?bzz9 ?czz9 ?qzz9 ?yzz9 ?szz9 ?rzz9
            case hzz9 => simp only [List.getElem?_toArray, List.getElem?_cons_zero, List.getElem?_cons_succ]; rfl
            case azz9 => kernel_rfl
            case bzz9 => kernel_rfl
            case czz9 => kernel_rfl
            case yzz9 =>
              refine Or.inl ⟨by rfl, ?_⟩
              intro w hSw
              obtain ⟨s0, s1, s2, s3, s4⟩ := hSw
              go_simp
              try with_reducible rfl
            case qzz9 => exact fun _ _ _ h => h
            case szz9 => first | assumption | trivial
            case' rzz9 => simp only [Act.put, List.setIfInBounds_toArray, List.set_cons_zero, List.set_cons_succ]
            have hC := hHeld
            refine wpAnyH_ready (rs := [11]) (by kernel_rfl) (by simp) ?_
            refine AllReadyH.cons (o := ?ozz13) ?hzz13 (fun K hK => ?kzz13) ?mzz13
            case hzz13 => simp only [List.getElem?_toArray, List.getElem?_cons_zero, List.getElem?_cons_succ]; rfl
            case kzz13 =>
              go_simp
              refine hK.out _ _ ?Szz13 (fun hHeld => ?Rzz13)
              case Szz13 =>
                exact hC.q ((Q.refl _).alloc _)
              case Rzz13 =>
                clear hK K
                try simp only [Act.put, List.setIfInBounds_toArray, List.set_cons_zero, List.set_cons_succ]
                refine wpAnyH_ready (rs := [12]) (by kernel_rfl) (by simp) ?_
                refine AllReadyH.cons (o := ?ozz12) ?hzz12 (fun K hK => ?kzz12) ?mzz12
                case hzz12 => simp only [List.getElem?_toArray, List.getElem?_cons_zero, List.getElem?_cons_succ]; rfl
                case kzz12 =>
                  go_simp
                  refine hK.out _ _ ?Szz12 (fun hHeld => ?Rzz12)
                  case Szz12 =>
                    exact hC.q ((Q.refl _).alloc _)
                  case Rzz12 =>
                    clear hK K
                    try simp only [Act.put, List.setIfInBounds_toArray, List.set_cons_zero, List.set_cons_succ]
                    refine wpAnyH_take (i := 13) (oi := ?ozz10) (v := ?vzz10) ?hzz10 ?azz10 ?bzz10 ?czz10 ?qzz10 ?yzz10 ?szz10 ?rzz10
                    case hzz10 => simp only [List.getElem?_toArray, List.getElem?_cons_zero, List.getElem?_cons_succ]; rfl
                    case azz10 => kernel_rfl
                    case bzz10 => kernel_rfl
                    case czz10 => kernel_rfl
                    case yzz10 =>
                      refine Or.inl ⟨by rfl, ?_⟩
                      intro w hSw
                      obtain ⟨s0, s1, s2, s3, s4⟩ := hSw
                      go_simp
                      try with_reducible rfl
                    case qzz10 => exact fun _ _ _ h => h
                    case szz10 => first | assumption | trivial
                    case' rzz10 => simp only [Act.put, List.setIfInBounds_toArray, List.set_cons_zero, List.set_cons_succ]
                    refine wpAnyH_take (i := 14) (oi := ?ozz11) (v := ?vzz11) ?hzz11 ?azz11 ?bzz11 ?czz11 ?qzz11 ?yzz11 ?szz11 ?rzz11
                    case hzz11 => simp only [List.getElem?_toArray, List.getElem?_cons_zero, List.getElem?_cons_succ]; rfl
                    case azz11 => kernel_rfl
                    case bzz11 => kernel_rfl
                    case czz11 => kernel_rfl
                    case yzz11 =>
                      refine Or.inl ⟨by rfl, ?_⟩
                      intro w hSw
                      obtain ⟨s0, s1, s2, s3, s4⟩ := hSw
                      go_simp
                      try with_reducible rfl
                    case qzz11 => exact fun _ _ _ h => h
                    case szz11 => first | assumption | trivial
                    case' rzz11 => simp only [Act.put, List.setIfInBounds_toArray, List.set_cons_zero, List.set_cons_succ]
                    refine wpAnyH_done (by kernel_rfl) ?_ _
                    go_wp2_with fail
                    go_meet
                    exact leaf_c (by repeat (first | exact Q.refl _ | refine Q.drew ?_ | refine Q.alloc ?_ _)) q4' d4 a4
                case' mzz12 => skip
                exact AllReadyH.nil
            case' mzz13 => skip
            exact AllReadyH.nil
        case' mzz22 => skip
        refine AllReadyH.cons (o := ?ozz23) ?hzz23 (fun K hK => ?kzz23) ?mzz23
        case hzz23 => simp only [List.getElem?_toArray, List.getElem?_cons_zero, List.getElem?_cons_succ]; rfl
        case kzz23 =>
          go_simp
          refine hK.out _ _ ?Szz23 (fun hHeld => ?Rzz23)
          case Szz23 =>
            exact hS0.q (by repeat (first | exact Q.refl _ | refine Q.drew ?_ | refine Q.alloc ?_ _))
          case Rzz23 =>
            clear hK K
            try simp only [Act.put, List.setIfInBounds_toArray, List.set_cons_zero, List.set_cons_succ]
            refine wpAnyH_ready (rs := [6]) (by kernel_rfl) (by simp) ?_
            refine AllReadyH.cons (o := ?ozz21) ?hzz21 (fun K hK => ?kzz21) ?mzz21
            case hzz21 => simp only [List.getElem?_toArray, List.getElem?_cons_zero, List.getElem?_cons_succ]; rfl
            case kzz21 =>
              go_simp
              refine (KP.out _ (HT.out.q (HJ.out.2.trans (Q3.out.trans (by repeat (first | exact Q.refl _ | refine Q.drew ?_ | refine Q.alloc ?_ _))))) (HV3.out.dv.dsk.q (by repeat (first | exact Q.refl _ | refine Q.drew ?_ | refine Q.alloc ?_ _)))).mono ?_
              rintro e w4 ⟨A4, n4, c4, rfl, d4, a4, q4'⟩
              obtain ⟨⟨b0, b1, b2, b3⟩, y0, y1, y2, y3⟩ := (BA.out.drew.q q4').get4
              go_wp2_with fail
              refine hK.out _ _ ?Szz21 (fun hHeld => ?Rzz21)
              case Szz21 =>
                exact hHeld.q q4'
              case Rzz21 =>
                clear hK K
                try simp only [Act.put, List.setIfInBounds_toArray, List.set_cons_zero, List.set_cons_succ]
                refine wpAnyH_take (i := 7) (oi := ?ozz14) (v := ?vzz14) ?hzz14 ?azz14 ?bzz14 ?czz14 ?qzz14 ?yzz14 ?szz14 ?rzz14
                case hzz14 => simp only [List.getElem?_toArray, List.getElem?_cons_zero, List.getElem?_cons_succ]; rfl
                case azz14 => kernel_rfl
                case bzz14 => kernel_rfl
                case czz14 => kernel_rfl
                case yzz14 =>
                  refine Or.inl ⟨by rfl, ?_⟩
                  intro w hSw
                  obtain ⟨s0, s1, s2, s3, s4⟩ := hSw
                  go_simp
                  try with_reducible rfl
                case qzz14 => exact fun _ _ _ h => h
                case szz14 => first | assumption | trivial
                case' rzz14 => simp only [Act.put, List.setIfInBounds_toArray, List.set_cons_zero, List.set_cons_succ]
                refine wpAnyH_take (i := 8) (oi := ?ozz15) (v := ?vzz15) ?hzz15 ?azz15 ?bzz15 ?czz15 ?qzz15 ?yzz15 ?szz15 ?rzz15
                case hzz15 => simp only [List.getElem?_toArray, List.getElem?_cons_zero, List.getElem?_cons_succ]; rfl
                case azz15 => kernel_rfl
                case bzz15 => kernel_rfl
                case czz15 => kernel_rfl
                case yzz15 =>
                  refine Or.inl ⟨by rfl, ?_⟩
                  intro w hSw
                  obtain ⟨s0, s1, s2, s3, s4⟩ := hSw
                  go_simp
                  try with_reducible rfl
                case qzz15 => exact fun _ _ _ h => h
                case szz15 => first | assumption | trivial
                case' rzz15 => simp only [Act.put, List.setIfInBounds_toArray, List.set_cons_zero, List.set_cons_succ]
                refine wpAnyH_take (i := 9) (oi := ?ozz16) (v := ?vzz16) ?hzz16 ?azz16 ?bzz16 ?czz16 ?qzz16 ?yzz16 ?szz16 ?rzz16
                case hzz16 => simp only [List.getElem?_toArray, List.getElem?_cons_zero, List.getElem?_cons_succ]; rfl
                case azz16 => kernel_rfl
                case bzz16 => kernel_rfl
                case czz16 => kernel_rfl
                case yzz16 =>
                  refine Or.inl ⟨by rfl, ?_⟩
                  intro w hSw
                  obtain ⟨s0, s1, s2, s3, s4⟩ := hSw
                  go_simp
                  try with_reducible rfl
                case qzz16 => exact fun _ _ _ h => h
                case szz16 => first | assumption | trivial
                case' rzz16 => simp only [Act.put, List.setIfInBounds_toArray, List.set_cons_zero, List.set_cons_succ]
                refine wpAnyH_take (i := 10) (oi := ?ozz17) (v := ?vzz17) ?hzz17 ?azz17 ?bzz17 ?czz17 ?qzz17 ?yzz17 ?szz17 ?rzz17
                case hzz17 => simp only [List.getElem?_toArray, List.getElem?_cons_zero, List.getElem?_cons_succ]; rfl
                case azz17 => kernel_rfl
                case bzz17 => kernel_rfl
                case czz17 => kernel_rfl
                case yzz17 =>
                  refine Or.inl ⟨by rfl, ?_⟩
                  intro w hSw
                  obtain ⟨s0, s1, s2, s3, s4⟩ := hSw
                  go_simp
                  try with_reducible rfl
                case qzz17 => exact fun _ _ _ h => h
                case szz17 => first | assumption | trivial
                case' rzz17 => simp only [Act.put, List.setIfInBounds_toArray, List.set_cons_zero, List.set_cons_succ]
                refine wpAnyH_ready (rs := [12]) (by kernel_rfl) (by simp) ?_
                refine AllReadyH.cons (o := ?ozz20) ?hzz20 (fun K hK => ?kzz20) ?mzz20
                case hzz20 => simp only [List.getElem?_toArray, List.getElem?_cons_zero, List.getElem?_cons_succ]; rfl
                case kzz20 =>
                  go_simp
                  refine hK.out _ _ ?Szz20 (fun hHeld => ?Rzz20)
                  case Szz20 =>
                    exact hHeld.far4 (by omega) (by rw [add_blk]; omega) _ _ _ _
                  case Rzz20 =>
                    clear hK K
                    try simp only [Act.put, List.setIfInBounds_toArray, List.set_cons_zero, List.set_cons_succ]
                    refine wpAnyH_take (i := 13) (oi := ?ozz18) (v := ?vzz18) ?hzz18 ?azz18 ?bzz18 ?czz18 ?qzz18 ?yzz18 ?szz18 ?rzz18
                    case hzz18 => simp only [List.getElem?_toArray, List.getElem?_cons_zero, List.getElem?_cons_succ]; rfl
                    case azz18 => kernel_rfl
                    case bzz18 => kernel_rfl
                    case czz18 => kernel_rfl
                    case yzz18 =>
                      refine Or.inl ⟨by rfl, ?_⟩
                      intro w hSw
                      obtain ⟨s0, s1, s2, s3, s4⟩ := hSw
                      go_simp
                      try with_reducible rfl
                    case qzz18 => exact fun _ _ _ h => h
                    case szz18 => first | assumption | trivial
                    case' rzz18 => simp only [Act.put, List.setIfInBounds_toArray, List.set_cons_zero, List.set_cons_succ]
                    refine wpAnyH_take (i := 14) (oi := ?ozz19) (v := ?vzz19) ?hzz19 ?azz19 ?bzz19 ?czz19 ?qzz19 ?yzz19 ?szz19 ?rzz19
                    case hzz19 => simp only [List.getElem?_toArray, List.getElem?_cons_zero, List.getElem?_cons_succ]; rfl
                    case azz19 => kernel_rfl
                    case bzz19 => kernel_rfl
                    case czz19 => kernel_rfl
                    case yzz19 =>
                      refine Or.inl ⟨by rfl, ?_⟩
                      intro w hSw
                      obtain ⟨s0, s1, s2, s3, s4⟩ := hSw
                      go_simp
                      try with_reducible rfl
                    case qzz19 => exact fun _ _ _ h => h
                    case szz19 => first | assumption | trivial
                    case' rzz19 => simp only [Act.put, List.setIfInBounds_toArray, List.set_cons_zero, List.set_cons_succ]
                    refine wpAnyH_done (by kernel_rfl) ?_ _
                    go_wp2_with fail
                    go_meet
                    exact leaf_b BA.out.drew (Nat.le_refl _) (by repeat (first | exact Q.refl _ | refine Q.drew ?_ | refine Q.alloc ?_ _)) q4' d4 a4
                case' mzz20 => skip
                exact AllReadyH.nil
            case' mzz21 => skip
            exact AllReadyH.nil
        case' mzz23 => skip
        exact AllReadyH.nil
      case rest =>
        obtain ⟨g, A2, n2, c2, rfl, rfl, rfl, hg, vg, hf, qx⟩ := hcut
        have HV4 := Lib.hid (HV3.out.put (d' := r) qx vg.dsk (.inr hf))
        have QZ := Lib.hid ((HJ.out.2.trans (Q3.out.trans qx)).set4 zB (.slice A2 n2 c2) (.int .i64 r.room) (.int .i64 r.fuse) (.bool r.off))
        have VG := Lib.hid vg
        have VB := Lib.hid (HV3.out.q qx)
        have QY := Lib.hid (HJ.out.2.trans (Q3.out.trans qx))
        clear hg vg hf qx e0 e1 e2 e3 f0 f1 f2' f3 hc BA KP KN KR HV HS2 HX
        obtain ⟨⟨e0, e1, e2, e3⟩, f0, f1, f2', f3⟩ := VB.out.dv.get
        obtain ⟨⟨g0, g1, g2, g3⟩, _⟩ := VG.out.get
        obtain ⟨hseg, hnx, hm⟩ := HM.out
        have HSG := Lib.hid hseg
        clear hseg HM
        by_cases her : er = 0
        · have hb := hm her
          subst her
          rcases hnx with rfl | rfl
          · have hbs : b.size < 256 := hb.1 rfl
            have hd : (!decide ((b.size : Int) < 256)) = false := by simp; omega
            clear hm hb
            go_wp2
            go_roundw
            case rel => exact ⟨k + 1, _, by omega, by omega, rfl, by go_num, HSG.out, A2, n2, c2, r, HV4.out, HB2.out, QZ.out⟩
            case measure => simp [intOf]; omega
          · have hbs : ¬ b.size < 256 := fun h => hss (hb.2 h)
            have hd : (!(sg + 1 == sg) == decide ((b.size : Int) < 256)) = false := by
              have h1 : (sg + 1 == sg) = false := by simpa using hss
              have h2 : decide ((b.size : Int) < 256) = false := decide_eq_false (by omega)
              rw [h1, h2]; rfl
            clear hm hb
            go_wp2
            go_roundw
            case rel => exact ⟨k + 1, _, by omega, by omega, rfl, by go_num, HSG.out, A2, n2, c2, r, HV4.out, HB2.out, QZ.out⟩
            case measure => simp [intOf]; omega
        · have b1 : (er == 0) = false := by simpa using her
          clear hm
          rcases hnx with rfl | rfl
          · go_wp2
            go_roundw
            case rel => exact ⟨k + 1, _, by omega, by omega, rfl, by go_num, HSG.out, A2, n2, c2, r, HV4.out, HB2.out, QZ.out⟩
            case measure => simp [intOf]; omega
          · go_wp2
            go_roundw
            case rel => exact ⟨k + 1, _, by omega, by omega, rfl, by go_num, HSG.out, A2, n2, c2, r, HV4.out, HB2.out, QZ.out⟩
            case measure => simp [intOf]; omega
    · obtain ⟨⟨e0, e1, e2, e3⟩, f0, f1, f2, f3⟩ := HV.out.dv.get
      by_cases hkn : k < n
      case' pos =>
        have hk300 : ¬ k < 100 := fun h => hlt ⟨hkn, h⟩
        clear hlt
      case' neg => clear hlt
      all_goals
        go_wp2
        go_ret
        exact ⟨rfl, HJ.out.2⟩

theorem opened (W : World) (args : Array Value) (hn : args.size = 2) (h : ∀ (j : Nat) t v, Tryd.f8.params[j]? = some t → args[j]? = some v → RdV W t v ∧ (false = true → RdU W t v.cells.toList)) (hL : laidMetH Tryd.prog Rows.walRoomsRow.laid W) :
    Calls Tryd.prog 8 args W fun e W' => e = .returned (.bool true) ∧ Q W W' := by
  obtain ⟨a, b, rfl⟩ := args2 hn
  rw [Tryd.params8] at h
  obtain ⟨room, rfl, hk⟩ := (h 0 3 a rfl rfl).1.int Tryd.underlying3
  obtain ⟨A, n, c0, rfl, h0⟩ := (h 1 23 b rfl rfl).1.slice Tryd.underlying23
  obtain ⟨A2, n2, c2, rs, e, hs, hn16, hnc, hrs⟩ := open_strs h0
  simp only [List.cons.injEq, Value.slice.injEq, and_true] at e
  obtain ⟨rfl, rfl, rfl⟩ := e
  have hT := tab_laid (by kernel_rfl) hL
  by_cases hr : room < 0
  · exact walk_neg room A n c0 W hT hr
  · exact walk_main room A n c0 rs W hT (by omega) (wf_i64 hk).2 hs hn16 (fun r hr => Nat.le_trans (hrs r hr) (by unfold maxLen; omega))

theorem start_met (os : Os) : laidMetH Tryd.prog Rows.walRoomsRow.laid ((World.doorLaid Tryd.prog 24 os).forCall (fun _ _ => 0) ⟨#[], #[.int .i64 0, .slice none 0 0], []⟩).memory :=
  laidMetH_of_parts3 (fuel := 8) (laidMet_of_run' 8 (by kernel_rfl) (by kernel_rfl)) (by kernel_rfl) (by kernel_rfl)
theorem reads (os : Os) {H : Type} (enc : TypeId × Value → H) : ∃ places, DataW.whole enc Tryd.prog ((World.doorLaid Tryd.prog 24 os).forCall (fun _ _ => 0) ⟨#[], #[.int .i64 0, .slice none 0 0], []⟩).memory Tryd.f8.params.toList Rows.walRoomsSpec.vars false (#[.int .i64 0, .slice none 0 0] : Array Value).toList 8 = some ([.lit (.int .i64 0), .nil], [], places) :=
  ⟨[], by kernel_rfl⟩

set_option maxRecDepth 100000 in
theorem lifted (os : Os) (started : os.Started) (H : Type) (enc : TypeId × Value → H) (F : Stop.Interp) :
    ReturnsInHanded {} Tryd.checked os 8 .any ((OpenSpec.ofChange Rows.walRoomsSpec).preRow enc Tryd.prog Tryd.f8 Rows.walRoomsRow.domain false Rows.walRoomsRow.laid) (((OpenSpec.ofChange Rows.walRoomsSpec).at F).post enc Tryd.prog Tryd.f8 false true false false) := by
  obtain ⟨places, hx⟩ := reads os enc
  refine returnsInHanded_of_row (C := Tryd.checked) (s := OpenSpec.ofChange Rows.walRoomsSpec) ownKnob_ started (by kernel_rfl) Tryd.func8
    (witness_row_atRef (enc := enc) (C := Tryd.checked) false (World.doorLaid Tryd.prog 24 os) #[.int .i64 0, .slice none 0 0] rfl (by kernel_rfl) (by kernel_rfl) (by kernel_rfl)
      (OpenSpec.preRow_of_cond 8 hx (by kernel_rfl) (fun k hk => by cases hk) (by kernel_rfl) (start_met os))) ?_
  intro W base args ds gs before hval hW _ hcond hsz hL _ _
  exact framedC (s := Rows.walRoomsSpec) false Rows.walRoomsRow.laid 2 (by rw [Tryd.params8]; rfl) rfl (by kernel_rfl) (by kernel_rfl)
    (fun H ds h => by match ds, h with | [d0, d1], _ => exact ⟨rfl, rfl, rfl⟩)
    opened H enc W base args ds gs before hval hW (fun h => by cases h) hsz hL

theorem over : Rows.WalRoomsSaid :=
  OpenClaim.holds_of_cond 8 Tryd.f8 rfl rfl rfl rfl rfl rfl rfl ⟨rfl, rfl, rfl, rfl, rfl⟩ rfl rfl rfl rfl rfl (by kernel_rfl) Tryd.func8 (by kernel_rfl)
    (of_decide_eq_true (by kernel_rfl)) (by unfold Func.isWrapper; first | (rw [if_pos (by decide +kernel)]; kernel_rfl) | (rw [if_neg (by decide +kernel)]; exact ⟨rfl, rfl⟩))
    (fun os started H enc _ F => by rw [OpenClaim.pre_eq_preRow]; exact lifted os started H enc F)

/-- No parameter wants a stand-in; the program's own looks are as the card says. -/
theorem plain (f : FuncId) (fn : Func) (hf : Tryd.pinned.checked.prog.funcNamed "stanchion/stanchionlaw04.WalRooms" = some f) (hfn : Tryd.pinned.checked.prog.funcs[f]? = some fn) :
    false = Tryd.pinned.checked.prog.looks [] ∧ ∀ (j : Nat) t, fn.params[j]? = some t → Tryd.pinned.checked.prog.wantsStandIn t = false := by
  obtain rfl : f = 8 := Option.some.inj ((show Tryd.prog.funcNamed "stanchion/stanchionlaw04.WalRooms" = some 8 by kernel_rfl).symm.trans hf) |>.symm
  obtain rfl : fn = Tryd.f8 := (Option.some.inj (Tryd.func8.symm.trans hfn)).symm
  refine ⟨by kernel_rfl, fun j t ht => ?_⟩
  have h0 : (Tryd.f8.params.toList.all fun t => !(Tryd.prog.wantsStandIn t)) = true := by kernel_rfl
  have h1 := List.all_eq_true.1 h0 t (by rw [← Array.getElem?_toList] at ht; exact List.mem_of_getElem? ht)
  exact (by simpa using h1 : Tryd.prog.wantsStandIn t = false)

theorem proved : Rows.WalRoomsCardSaid :=
  Claim7.holds_tied_plain_at .later [] _ _ _ _ over (fun _ h => by cases h) (by kernel_rfl) (fun _ h => by cases h) walRooms_row_tie rfl ⟨rfl, rfl⟩ (by kernel_rfl) rfl plain (by kernel_rfl)
end Go.Proofs.YtjpigehibanhgaaDoor.walRooms
