/- For every bytes and every cuts, of at most 1048576 each: however bytes are cut into pieces, the same texts are told, in order, and the buffer is the same. -/
import Derived.Test.YthcdcjidoacalaaFrmIn
import Derived.Test.YthcdcjidoacalaaFrameU
import Derived.Test.YthcdcjidoacalaaHeldL
import Derived.Test.YthcdcjidoacalaaAppK
import Derived.Deep.DeepCutAuto
namespace Go.Proofs.Ythcdcjidoacalaa.framePiecesUpto
set_option maxRecDepth 100000
open Go.ChangeShapes Go.WideShapes Go.ChangeAt Go.RowKit Fm
set_option linter.unusedVariables false
set_option linter.unusedSimpArgs false

theorem feed_step (p m : List UInt8) : ∃ j t, feed (of p) m = (of (p ++ m), t, j) ∧ (wh (p ++ m)).1 = (wh p).1 ++ t ∧ (j = 0 ↔ on (p ++ m) = true) := by
  obtain ⟨h1, h2, h3⟩ := feed_of p m
  refine ⟨(feed (of p) m).2.2, (feed (of p) m).2.1, ?_, h2, h3⟩
  rw [← h1]
theorem step_bool {j : Nat} {o : Bool} (h : j = 0 ↔ o = true) : ((j : Int) == 0) = o := by
  rw [Bool.eq_iff_iff, ← h]
  simp
theorem box_grown {w w' : World} {b : Nat} {vs : List Value} {row : Option Nat} (h : Bx w b vs) (hg : w.grownBy w' row) (hne : some b ≠ row) : Bx w' b vs := fun j v hj => by
  have hb : b < w.heap.size := block_lt_of_cell (h j v hj).1
  have e : w'.heap[b]? = w.heap[b]? := hg.block b hb hne
  exact ⟨(World.cell?_of_block (w := w) (a := ⟨b, j, none⟩) e).trans (h j v hj).1, (World.frozen?_of_block (w := w) (a := ⟨b, j, none⟩) e).trans (h j v hj).2⟩
theorem own_ne {α : Type} {K : Kind α} {v : World} {base : Nat} {A : Option Addr} {n c : Nat} {l : List α} (o : OwnK K v base A n c l) {b : Nat} (h : b < base ∨ v.heap.size ≤ b) : ∀ ad, A = some ad → ad.block ≠ b := by
  rintro ad rfl
  rcases o.parts with ⟨h0, _⟩ | ⟨g, cur, h0, _⟩
  · cases h0
  · injection h0 with h0
    subst h0
    have := o.block_lt
    show g ≠ b
    omega
theorem own_row_ne {α : Type} {K : Kind α} {v : World} {base : Nat} {A : Option Addr} {n c : Nat} {l : List α} (o : OwnK K v base A n c l) {b : Nat} (h : b < base ∨ v.heap.size ≤ b) : (Value.slice A n c).ownBlock ≠ some b := by
  rcases o.parts with ⟨rfl, _⟩ | ⟨g, cur, rfl, _⟩
  · intro e; cases e
  · intro e
    have := o.block_lt
    simp only [Value.ownBlock, Option.some.injEq] at e
    omega
/-- a list lies as it lay behind stores into a box that is not its row. -/
theorem lst_far {α : Type} {K : Kind α} {V : World} {A : Option Addr} {n : Nat} {l : List α} (h : Lst K V A n l) {b : Nat} (hne : ∀ ad, A = some ad → ad.block ≠ b) (x y : Value) :
    Lst K ((V.setCell ⟨b, 0, none⟩ x).setCell ⟨b, 1, none⟩ y) A n l := by
  refine ⟨h.1, fun j u hu => ?_⟩
  obtain ⟨ad, e, hb, hx⟩ := h.2 j u hu
  have hn : (ad.add j).block ≠ b := by rw [addr_block]; exact hne ad e
  refine ⟨ad, e, by simpa [World.setCell] using hb, ?_⟩
  rw [World.cell?_setCell_other _ _ _ _ (fun q => hn (by rw [← q])), World.cell?_setCell_other _ _ _ _ (fun q => hn (by rw [← q]))]
  exact hx
def Fed (wr : World) (n9 : Nat) (V : List Value) (m : List (List UInt8)) (j : Nat) (s13 s14 s15 : Value) (wx : World) : Prop :=
  ∃ nb A3 c3, s13 = .pointer (some ⟨nb, 0, none⟩) ∧ s14 = .slice A3 m.length c3 ∧ s15 = .int .i64 (j : Int) ∧ wr.heap.size ≤ nb ∧ Bx wx nb V ∧ Q wr wx ∧ Lst textK wx A3 m.length m ∧ (∀ ad, A3 = some ad → ad.block ≠ n9) ∧ (A3 = none → m.length = 0 ∧ c3 = 0)
theorem take_piece (S : List UInt8) (f d : Nat) : S.take f ++ (S.take (f + d)).drop f = S.take (f + d) := by
  conv => rhs; rw [← List.take_append_drop f (S.take (f + d))]
  rw [List.take_take, Nat.min_eq_left (Nat.le_add_right f d)]
set_option maxHeartbeats 8000000 in
theorem walk (s : ByteArray) (A : Option Addr) (n c : Nat) (cuts : List Int) (w : World) (s0 : s.size ≤ 140737488351232) (hd : In_ numK w A n c cuts) (hb : n * 8 ≤ 140737488351232) (hp : ∀ x ∈ cuts, (Lit.int .i64 x).wf = true) (u0 : s.size ≤ 1048576) (u1 : n ≤ 1048576) :
    Calls Try.prog 4 #[.string s, .slice A n c] w fun e w' => e = .returned (.bool true) ∧ Q w w' := by
  have K0 := Lib.hid (fun W => fshown_any W)
  have KF := Lib.hid (fun (x : Bf) (m : ByteArray) (W : World) (h : x.rest.length ≤ 2053) (hm : m.size ≤ 1048576) => ffeed_any x m W (by omega) (by
    have := wh_count (x.rest ++ m.data.toList)
    rw [List.length_append, size_list] at this; omega))
  have HD := Lib.hid hd
  have HL := Lib.hid hd.len
  have HP := Lib.hid hp
  have hls : s.data.toList.length = s.size := size_list s
  obtain ⟨j0, t0, hj0, ht0, hjb0⟩ := feed_step [] s.data.toList
  rw [List.nil_append] at hj0 ht0 hjb0
  rw [of_nil] at hj0
  have htt : t0 = (wh s.data.toList).1 := by rw [ht0, wh_nil]; rfl
  subst htt
  have K1 := Lib.hid (fun W => KF.out ⟨[], false⟩ s W (by simp) u0)
  rw [hj0] at K1
  have hjj0 := step_bool hjb0
  clear hj0
  have K3 := Lib.hid (fun A B n c m d l W h1 h2 hn => same_self A B n c m d l W h1 h2 hn)
  have hcnt := wh_count s.data.toList
  rw [hls] at hcnt
  have HCN := Lib.hid hcnt
  generalize hO : of s.data.toList = O at K1
  have HO := Lib.hid hO
  obtain ⟨Og, Oq⟩ := O
  generalize hob : on s.data.toList = ob at hjj0
  have HOB := Lib.hid hob
  generalize hall : (wh s.data.toList).1 = all at *
  have HALL := Lib.hid hall
  unfold RetF bfV at K1
  simp only at K1
  generalize hR : tx Og = R at K1
  have HR := Lib.hid hR
  clear hd hp hO hob hall hR ht0 hjb0 hcnt
  have Hj0 := Lib.hid hjj0
  clear hjj0
  go_enter Try.func4, Try.ntmps4
  go_wp2_with fail
  refine (K0.out _).mono ?_
  rintro e w1 ⟨rfl, q1⟩
  go_wp2_with fail
  refine (K1.out _).mono ?_
  rintro e w2 ⟨A1, c1, rfl, o1, q2⟩
  have B1 := Lib.hid (And.intro ((q1.trans q2).alloc (.cells #[.string R, .bool Oq] 23)) (And.intro (Bx.new w2 [.string R, .bool Oq] 23) o1.lst))
  have hw2 : w.heap.size ≤ w2.heap.size := (q1.trans q2).size
  clear q1 q2 o1
  go_upto_region 3 with (fail)
  change Hid (_ ∧ Bx (w2.alloc (.cells #[.string R, .bool Oq] 23)) _ _ ∧ _) at B1
  have hw3 : (w2.alloc (.cells #[.string R, .bool Oq] 23)).heap.size = w2.heap.size + 1 := by simp
  generalize w2.heap.size = n6 at B1 hw2 hw3 ⊢
  have B2 := Lib.hid (And.intro B1.out.1 (And.intro B1.out.2.1 (Holds.carry (B' := n6 + 1) B1.out.2.2 (by have := hw3; simp at this; omega) fun p hp => ((Q.refl w2).alloc (.cells #[.string R, .bool Oq] 23)).below.cell hp)))
  clear B1
  generalize (w2.alloc (.cells #[.string R, .bool Oq] 23)) = w3 at B2 hw3 ⊢
  have hn6 : n6 < w3.heap.size := by omega
  have B3 := Lib.hid (And.intro (B2.out.1.alloc (.cells #[.string ⟨#[]⟩, .bool false] 23)) (And.intro (B2.out.2.1.alloc (.cells #[.string ⟨#[]⟩, .bool false] 23)) (And.intro (Holds.carry (B' := w3.heap.size) B2.out.2.2 (by omega) fun p hp => ((Q.refl w3).alloc (.cells #[.string ⟨#[]⟩, .bool false] 23)).below.cell (by omega)) (Bx.new w3 [.string ⟨#[]⟩, .bool false] 23))))
  have hw4 : (w3.alloc (.cells #[.string ⟨#[]⟩, .bool false] 23)).heap.size = w3.heap.size + 1 := by simp
  have hw39 : w.heap.size ≤ w3.heap.size := by omega
  clear B2 hw3
  go_upto_region 7 with (fail)
  change Hid (_ ∧ _ ∧ Holds (w3.alloc (.cells #[.string ⟨#[]⟩, .bool false] 23)) _ _ _ _ _ ∧ Bx (w3.alloc (.cells #[.string ⟨#[]⟩, .bool false] 23)) _ _) at B3
  generalize w3.heap.size = n9 at B3 hw4 hw39 hn6 ⊢
  generalize (w3.alloc (.cells #[.string ⟨#[]⟩, .bool false] 23)) = W0 at B3 hw4 ⊢
  go_loopw [10, 11, 12] (fun lv fv iv wr => ∃ (k f : Nat) (A2 : Option Addr) (c2 : Nat), k ≤ n ∧ k ≤ 100 ∧ iv = .int .i64 (k : Nat) ∧ fv = .int .i64 (f : Nat) ∧ f ≤ s.size ∧ lv = .slice A2 (wh (s.data.toList.take f)).1.length c2 ∧
    OwnK textK wr (n9 + 1) A2 (wh (s.data.toList.take f)).1.length c2 (wh (s.data.toList.take f)).1 ∧ Bx wr n9 [.string (tx (of (s.data.toList.take f)).rest), .bool (of (s.data.toList.take f)).bad] ∧ Below n9 W0 wr) (fun _ _ i _ => n - (intOf i).toNat)
  case atStart => exact ⟨0, 0, none, 0, Nat.zero_le _, by omega, rfl, rfl, Nat.zero_le _, rfl, OwnK.nil_ _ _ _, by rw [List.take_zero, of_nil]; exact B3.out.2.2.2, Below.refl _ _⟩
  case round =>
    obtain ⟨k, f, A2, c2, hk, hk100, rfl, rfl, hf, rfl, ho, hx, hbl⟩ := hrel
    have hqw : Q w wr := B3.out.1.below.trans (hbl.mono hw39)
    have HQ := Lib.hid hqw
    have HO2 := Lib.hid ho
    have XB := Lib.hid hx
    have HBL := Lib.hid hbl
    have hpl : (wh (s.data.toList.take f)).1.length * 2 ≤ s.size := by
      have h1 := wh_count (s.data.toList.take f)
      have h2 := List.length_take_le f s.data.toList
      have h3 := List.length_take (i := f) (l := s.data.toList)
      rw [hls] at h3; omega
    have hrs := of_small (s.data.toList.take f)
    clear ho hx hbl hqw
    by_cases hlt2 : k < n ∧ k < 100
    case neg =>
      go_upto_region 7 with (fail)
      go_cut [36] (fun s36 wx => s36 = .bool false ∧ wr = wx)
      case first =>
        by_cases hlt : k < n
        · have hkn : (k : Int) < (n : Int) := by omega
          have hkn2 : ¬ (k : Int) < 100 := by omega
          go_wp2_with (fail)
          go_meet
          exact ⟨rfl, rfl⟩
        · have hkn : ¬ (k : Int) < (n : Int) := by omega
          go_wp2_with (fail)
          go_meet
          exact ⟨rfl, rfl⟩
      case rest =>
        obtain ⟨rfl, rfl⟩ := hcut
        have hgp : s.data.toList.take f ++ s.data.toList.drop f = s.data.toList := List.take_append_drop f _
        obtain ⟨j, m, hfe, hwe, hjb⟩ := feed_step (s.data.toList.take f) (s.data.toList.drop f)
        rw [hgp] at hfe hwe hjb
        have hjj := step_bool hjb
        rw [HOB.out] at hjj
        have hex : (s.extract f s.size).data.toList = s.data.toList.drop f := by
          rw [extract_list]
          show (s.data.toList.take s.size).drop f = _
          rw [List.take_of_length_le (by omega)]
        have hes : (s.extract f s.size).size ≤ 1048576 := by rw [ByteArray.size_extract]; omega
        have K4 := Lib.hid (fun W => KF.out (of (s.data.toList.take f)) (s.extract f s.size) W hrs hes)
        rw [hex, hfe, HO.out] at K4
        rw [HALL.out] at hwe
        have hml : all.length = (wh (s.data.toList.take f)).1.length + m.length := by rw [hwe, List.length_append]
        have hcn := HCN.out
        generalize (wh (s.data.toList.take f)).1 = l0 at *
        have HW := Lib.hid hwe
        generalize of (s.data.toList.take f) = x at *
        obtain ⟨xr, xb⟩ := x
        unfold RetF bfV at K4
        simp only at K4 XB
        rw [HR.out] at K4
        generalize tx xr = X at *
        generalize hEE : s.extract f s.size = E at *
        have hll : (l0.length + m.length) * 16 ≤ 140737488355328 := by omega
        have hlm : l0.length + m.length ≤ maxLen := by unfold maxLen; omega
        have hHj := Hj0.out
        have HJJ := Lib.hid (And.intro hHj hjj)
        clear hfe hwe hjb hex hes hml hcn hrs hpl hgp hHj hjj
        obtain ⟨⟨e0, e1⟩, e2, e3⟩ := XB.out.get2
        go_upto_region 14 with (fail)
        go_cut [16, 17, 18] (fun s16 s17 s18 wx => Fed wr n9 [.string R, .bool Oq] m j s16 s17 s18 wx)
        case first =>
          refine wp_region_heldL 10 (Q wr) (by kernel_rfl) ?szz110 (fun hHeld => ?rzz110)
          case szz110 =>
            exact (Q.refl wr).drew
          case' rzz110 => skip
          generalize hgen : wr.drew = D0 at hHeld ⊢
          clear hgen
          refine wpAnyL_take (i := 0) (oi := ?ozz111) (v := ?vzz111) ?hzz111 ?azz111 ?bzz111 ?czz111 ?kzz111 ?qzz111 ?yzz111 ?szz111 ?rzz111
          case hzz111 => simp only [List.getElem?_toArray, List.getElem?_cons_zero]; rfl
          case azz111 => kernel_rfl
          case bzz111 => kernel_rfl
          case czz111 => kernel_rfl
          case kzz111 => kernel_rfl
          case yzz111 =>
            refine Or.inl ⟨by rfl, ?_⟩
            intro w hSw
            have y0 := box_ hSw e0; have y1 := box_ hSw e1; clear hSw
            go_simp
            try with_reducible rfl
          case qzz111 => exact fun _ _ _ h => h
          case szz111 => first | assumption | trivial
          case' rzz111 => simp only [Act.put, List.setIfInBounds_toArray, List.set_cons_zero, List.set_cons_succ]
          refine wpAnyL_take (i := 1) (oi := ?ozz112) (v := ?vzz112) ?hzz112 ?azz112 ?bzz112 ?czz112 ?kzz112 ?qzz112 ?yzz112 ?szz112 ?rzz112
          case hzz112 => simp only [List.getElem?_toArray, List.getElem?_cons_zero, List.getElem?_cons_succ]; rfl
          case azz112 => kernel_rfl
          case bzz112 => kernel_rfl
          case czz112 => kernel_rfl
          case kzz112 => kernel_rfl
          case yzz112 =>
            refine Or.inl ⟨by rfl, ?_⟩
            intro w hSw
            skip
            go_simp
            try with_reducible rfl
          case qzz112 => exact fun _ _ _ h => h
          case szz112 => first | assumption | trivial
          case' rzz112 => simp only [Act.put, List.setIfInBounds_toArray, List.set_cons_zero, List.set_cons_succ]
          refine wpAnyL_take (i := 2) (oi := ?ozz113) (v := ?vzz113) ?hzz113 ?azz113 ?bzz113 ?czz113 ?kzz113 ?qzz113 ?yzz113 ?szz113 ?rzz113
          case hzz113 => simp only [List.getElem?_toArray, List.getElem?_cons_zero, List.getElem?_cons_succ]; rfl
          case azz113 => kernel_rfl
          case bzz113 => kernel_rfl
          case czz113 => kernel_rfl
          case kzz113 => kernel_rfl
          case yzz113 =>
            refine Or.inl ⟨by rfl, ?_⟩
            intro w hSw
            skip
            go_simp
            try with_reducible rfl
          case qzz113 => exact fun _ _ _ h => h
          case szz113 => first | assumption | trivial
          case' rzz113 => simp only [Act.put, List.setIfInBounds_toArray, List.set_cons_zero, List.set_cons_succ]
          refine wpAnyL_take (i := 3) (oi := ?ozz114) (v := ?vzz114) ?hzz114 ?azz114 ?bzz114 ?czz114 ?kzz114 ?qzz114 ?yzz114 ?szz114 ?rzz114
          case hzz114 => simp only [List.getElem?_toArray, List.getElem?_cons_zero, List.getElem?_cons_succ]; rfl
          case azz114 => kernel_rfl
          case bzz114 => kernel_rfl
          case czz114 => kernel_rfl
          case kzz114 => kernel_rfl
          case yzz114 =>
            refine Or.inl ⟨by rfl, ?_⟩
            intro w hSw
            skip
            go_simp
            try with_reducible rfl
          case qzz114 => exact fun _ _ _ h => h
          case szz114 => first | assumption | trivial
          case' rzz114 => simp only [Act.put, List.setIfInBounds_toArray, List.set_cons_zero, List.set_cons_succ]
          refine wpAnyL_ready (rs := [4, 9]) (by kernel_rfl) (by simp) ?_
          refine AllReadyL.cons (o := ?ozz212) ?hzz212 (fun K hK => ?kzz212) ?mzz212
          case hzz212 => simp only [List.getElem?_toArray, List.getElem?_cons_zero, List.getElem?_cons_succ]; rfl
          case kzz212 =>
            go_simp
            refine (K4.out _).mono ?_
            rintro e v2 ⟨A3, c3, rfl, o3, q3⟩
            have hcl := hHeld.size
            try have hlt2 := BX.out.lt
            go_wp2_with fail
            refine hK.out _ _ ?Szz212 (fun hHeld => ?Rzz212)
            case Szz212 =>
              exact hHeld.trans q3
            case Rzz212 =>
              clear hK K
              try simp only [Act.put, List.setIfInBounds_toArray, List.set_cons_zero, List.set_cons_succ]
              refine wpAnyL_take (i := 5) (oi := ?ozz115) (v := ?vzz115) ?hzz115 ?azz115 ?bzz115 ?czz115 ?kzz115 ?qzz115 ?yzz115 ?szz115 ?rzz115
              case hzz115 => simp only [List.getElem?_toArray, List.getElem?_cons_zero, List.getElem?_cons_succ]; rfl
              case azz115 => kernel_rfl
              case bzz115 => kernel_rfl
              case czz115 => kernel_rfl
              case kzz115 => kernel_rfl
              case yzz115 =>
                refine Or.inl ⟨by rfl, ?_⟩
                intro w hSw
                skip
                go_simp
                try with_reducible rfl
              case qzz115 => exact fun _ _ _ h => h
              case szz115 => first | assumption | trivial
              case' rzz115 => simp only [Act.put, List.setIfInBounds_toArray, List.set_cons_zero, List.set_cons_succ]
              refine wpAnyL_take (i := 6) (oi := ?ozz116) (v := ?vzz116) ?hzz116 ?azz116 ?bzz116 ?czz116 ?kzz116 ?qzz116 ?yzz116 ?szz116 ?rzz116
              case hzz116 => simp only [List.getElem?_toArray, List.getElem?_cons_zero, List.getElem?_cons_succ]; rfl
              case azz116 => kernel_rfl
              case bzz116 => kernel_rfl
              case czz116 => kernel_rfl
              case kzz116 => kernel_rfl
              case yzz116 =>
                refine Or.inl ⟨by rfl, ?_⟩
                intro w hSw
                skip
                go_simp
                try with_reducible rfl
              case qzz116 => exact fun _ _ _ h => h
              case szz116 => first | assumption | trivial
              case' rzz116 => simp only [Act.put, List.setIfInBounds_toArray, List.set_cons_zero, List.set_cons_succ]
              refine wpAnyL_ready (rs := [7, 8, 9]) (by kernel_rfl) (by simp) ?_
              refine AllReadyL.cons (o := ?ozz177) ?hzz177 (fun K hK => ?kzz177) ?mzz177
              case hzz177 => simp only [List.getElem?_toArray, List.getElem?_cons_zero, List.getElem?_cons_succ]; rfl
              case kzz177 =>
                go_simp
                refine hK.out _ _ ?Szz177 (fun hHeld => ?Rzz177)
                case Szz177 =>
                  first | exact hHeld | trivial
                case Rzz177 =>
                  clear hK K
                  try simp only [Act.put, List.setIfInBounds_toArray, List.set_cons_zero, List.set_cons_succ]
                  refine wpAnyL_ready (rs := [8, 9]) (by kernel_rfl) (by simp) ?_
                  refine AllReadyL.cons (o := ?ozz132) ?hzz132 (fun K hK => ?kzz132) ?mzz132
                  case hzz132 => simp only [List.getElem?_toArray, List.getElem?_cons_zero, List.getElem?_cons_succ]; rfl
                  case kzz132 =>
                    go_simp
                    refine hK.out _ _ ?Szz132 (fun hHeld => ?Rzz132)
                    case Szz132 =>
                      first | exact hHeld | trivial
                    case Rzz132 =>
                      clear hK K
                      try simp only [Act.put, List.setIfInBounds_toArray, List.set_cons_zero, List.set_cons_succ]
                      refine wpAnyL_ready (rs := [9]) (by kernel_rfl) (by simp) ?_
                      refine AllReadyL.cons (o := ?ozz120) ?hzz120 (fun K hK => ?kzz120) ?mzz120
                      case hzz120 => simp only [List.getElem?_toArray, List.getElem?_cons_zero, List.getElem?_cons_succ]; rfl
                      case kzz120 =>
                        go_simp
                        have BX := Lib.hid (Bx.new v2 [.string ⟨#[]⟩, .bool false] 23)
                        have hnb : wr.heap.size ≤ v2.heap.size := hHeld.size
                        have qa := (Q.refl v2).alloc (.cells #[.string ⟨#[]⟩, .bool false] 23)
                        have BX : Hid (Bx (v2.alloc (.cells #[.string ⟨#[]⟩, .bool false] 23)) v2.heap.size [.string ⟨#[]⟩, .bool false]) := Lib.hid BX.out
                        generalize v2.alloc (.cells #[.string ⟨#[]⟩, .bool false] 23) = Y0 at BX qa ⊢
                        generalize hnbe : v2.heap.size = nb at BX hnb ⊢
                        have hnw := Lib.hid (Nat.le_of_eq hnbe)
                        clear hnbe
                        refine hK.out _ _ ?Szz120 (fun hHeld => ?Rzz120)
                        case Szz120 =>
                          exact hHeld.trans qa
                        case Rzz120 =>
                          clear hK K
                          try simp only [Act.put, List.setIfInBounds_toArray, List.set_cons_zero, List.set_cons_succ]
                          refine wpAnyL_ready (rs := [10]) (by kernel_rfl) (by simp) ?_
                          refine AllReadyL.consK (o := ?ozz119) ?hzz119 ?lzz119 (fun K hK => ?kzz119) ?mzz119
                          case hzz119 => simp only [List.getElem?_toArray, List.getElem?_cons_zero, List.getElem?_cons_succ]; rfl
                          case lzz119 => kernel_rfl
                          case kzz119 =>
                            have HZ := Lib.hid hHeld
                            obtain ⟨⟨st0, st1⟩, st2, st3⟩ := BX.out.get2
                            go_simp
                            clear st0 st1 st2 st3
                            refine hK.out _ _ ?Rzz119
                            case Rzz119 =>
                              clear hK K
                              try simp only [Act.put, List.setIfInBounds_toArray, List.set_cons_zero, List.set_cons_succ]
                              refine wpAnyH_take (i := 11) (oi := ?ozz117) (v := ?vzz117) ?hzz117 ?azz117 ?bzz117 ?czz117 ?qzz117 ?yzz117 ?szz117 ?rzz117
                              case hzz117 => simp only [List.getElem?_toArray, List.getElem?_cons_zero, List.getElem?_cons_succ]; rfl
                              case azz117 => kernel_rfl
                              case bzz117 => kernel_rfl
                              case czz117 => kernel_rfl
                              case yzz117 =>
                                refine Or.inl ⟨by rfl, ?_⟩
                                intro w hSw
                                skip
                                go_simp
                                try with_reducible rfl
                              case qzz117 => exact fun _ _ _ h => h
                              case szz117 => first | assumption | trivial
                              case' rzz117 => simp only [Act.put, List.setIfInBounds_toArray, List.set_cons_zero, List.set_cons_succ]
                              refine wpAnyH_take (i := 12) (oi := ?ozz118) (v := ?vzz118) ?hzz118 ?azz118 ?bzz118 ?czz118 ?qzz118 ?yzz118 ?szz118 ?rzz118
                              case hzz118 => simp only [List.getElem?_toArray, List.getElem?_cons_zero, List.getElem?_cons_succ]; rfl
                              case azz118 => kernel_rfl
                              case bzz118 => kernel_rfl
                              case czz118 => kernel_rfl
                              case yzz118 =>
                                refine Or.inl ⟨by rfl, ?_⟩
                                intro w hSw
                                skip
                                go_simp
                                try with_reducible rfl
                              case qzz118 => exact fun _ _ _ h => h
                              case szz118 => first | assumption | trivial
                              case' rzz118 => simp only [Act.put, List.setIfInBounds_toArray, List.set_cons_zero, List.set_cons_succ]
                              refine wpAnyH_done (by kernel_rfl) ?_ _
                              have HT9 : Hid (Lst textK ((Y0.setCell ⟨nb, 0, none⟩ (.string R)).setCell ⟨nb, 1, none⟩ (.bool Oq)) A3 m.length m ∧ (∀ ad, A3 = some ad → ad.block ≠ n9) ∧ (A3 = none → m.length = 0 ∧ c3 = 0)) := Lib.hid (by
                                have hxl := XB.out.lt
                                have hnil := (o3.in_ (by show m.length * 16 ≤ _; omega)).nil
                                first
                                | exact ⟨lst_far (o3.q qa).lst (own_ne o3 (.inr hnw.out)) _ _, own_ne o3 (.inl (Nat.lt_of_lt_of_le hxl hcl)), hnil⟩
                                | exact ⟨lst_far o3.lst (own_ne o3 (.inl hlt2)) _ _, own_ne o3 (.inl (Nat.lt_of_lt_of_le hxl hcl)), hnil⟩)
                              go_wp2_with fail
                              go_meet
                              exact ⟨nb, A3, c3, rfl, rfl, rfl, hnb, BX.out.set2 _ _, HZ.out.set2 hnb _ _, HT9.out.1, HT9.out.2.1, HT9.out.2.2⟩
                          case' mzz119 => skip
                          exact AllReadyL.nil
                      case' mzz120 => skip
                      exact AllReadyL.nil
                  case' mzz132 => skip
                  refine AllReadyL.cons (o := ?ozz133) ?hzz133 (fun K hK => ?kzz133) ?mzz133
                  case hzz133 => simp only [List.getElem?_toArray, List.getElem?_cons_zero, List.getElem?_cons_succ]; rfl
                  case kzz133 =>
                    go_simp
                    have BX := Lib.hid (Bx.new v2 [.string ⟨#[]⟩, .bool false] 23)
                    have hnb : wr.heap.size ≤ v2.heap.size := hHeld.size
                    have qa := (Q.refl v2).alloc (.cells #[.string ⟨#[]⟩, .bool false] 23)
                    have BX : Hid (Bx (v2.alloc (.cells #[.string ⟨#[]⟩, .bool false] 23)) v2.heap.size [.string ⟨#[]⟩, .bool false]) := Lib.hid BX.out
                    generalize v2.alloc (.cells #[.string ⟨#[]⟩, .bool false] 23) = Y1 at BX qa ⊢
                    generalize hnbe : v2.heap.size = nb at BX hnb ⊢
                    have hnw := Lib.hid (Nat.le_of_eq hnbe)
                    clear hnbe
                    refine hK.out _ _ ?Szz133 (fun hHeld => ?Rzz133)
                    case Szz133 =>
                      exact hHeld.trans qa
                    case Rzz133 =>
                      clear hK K
                      try simp only [Act.put, List.setIfInBounds_toArray, List.set_cons_zero, List.set_cons_succ]
                      refine wpAnyL_ready (rs := [8, 10]) (by kernel_rfl) (by simp) ?_
                      refine AllReadyL.cons (o := ?ozz130) ?hzz130 (fun K hK => ?kzz130) ?mzz130
                      case hzz130 => simp only [List.getElem?_toArray, List.getElem?_cons_zero, List.getElem?_cons_succ]; rfl
                      case kzz130 =>
                        go_simp
                        refine hK.out _ _ ?Szz130 (fun hHeld => ?Rzz130)
                        case Szz130 =>
                          first | exact hHeld | trivial
                        case Rzz130 =>
                          clear hK K
                          try simp only [Act.put, List.setIfInBounds_toArray, List.set_cons_zero, List.set_cons_succ]
                          refine wpAnyL_ready (rs := [10]) (by kernel_rfl) (by simp) ?_
                          refine AllReadyL.consK (o := ?ozz123) ?hzz123 ?lzz123 (fun K hK => ?kzz123) ?mzz123
                          case hzz123 => simp only [List.getElem?_toArray, List.getElem?_cons_zero, List.getElem?_cons_succ]; rfl
                          case lzz123 => kernel_rfl
                          case kzz123 =>
                            have HZ := Lib.hid hHeld
                            obtain ⟨⟨st0, st1⟩, st2, st3⟩ := BX.out.get2
                            go_simp
                            clear st0 st1 st2 st3
                            refine hK.out _ _ ?Rzz123
                            case Rzz123 =>
                              clear hK K
                              try simp only [Act.put, List.setIfInBounds_toArray, List.set_cons_zero, List.set_cons_succ]
                              refine wpAnyH_take (i := 11) (oi := ?ozz121) (v := ?vzz121) ?hzz121 ?azz121 ?bzz121 ?czz121 ?qzz121 ?yzz121 ?szz121 ?rzz121
                              case hzz121 => simp only [List.getElem?_toArray, List.getElem?_cons_zero, List.getElem?_cons_succ]; rfl
                              case azz121 => kernel_rfl
                              case bzz121 => kernel_rfl
                              case czz121 => kernel_rfl
                              case yzz121 =>
                                refine Or.inl ⟨by rfl, ?_⟩
                                intro w hSw
                                skip
                                go_simp
                                try with_reducible rfl
                              case qzz121 => exact fun _ _ _ h => h
                              case szz121 => first | assumption | trivial
                              case' rzz121 => simp only [Act.put, List.setIfInBounds_toArray, List.set_cons_zero, List.set_cons_succ]
                              refine wpAnyH_take (i := 12) (oi := ?ozz122) (v := ?vzz122) ?hzz122 ?azz122 ?bzz122 ?czz122 ?qzz122 ?yzz122 ?szz122 ?rzz122
                              case hzz122 => simp only [List.getElem?_toArray, List.getElem?_cons_zero, List.getElem?_cons_succ]; rfl
                              case azz122 => kernel_rfl
                              case bzz122 => kernel_rfl
                              case czz122 => kernel_rfl
                              case yzz122 =>
                                refine Or.inl ⟨by rfl, ?_⟩
                                intro w hSw
                                skip
                                go_simp
                                try with_reducible rfl
                              case qzz122 => exact fun _ _ _ h => h
                              case szz122 => first | assumption | trivial
                              case' rzz122 => simp only [Act.put, List.setIfInBounds_toArray, List.set_cons_zero, List.set_cons_succ]
                              refine wpAnyH_done (by kernel_rfl) ?_ _
                              have HT9 : Hid (Lst textK ((Y1.setCell ⟨nb, 0, none⟩ (.string R)).setCell ⟨nb, 1, none⟩ (.bool Oq)) A3 m.length m ∧ (∀ ad, A3 = some ad → ad.block ≠ n9) ∧ (A3 = none → m.length = 0 ∧ c3 = 0)) := Lib.hid (by
                                have hxl := XB.out.lt
                                have hnil := (o3.in_ (by show m.length * 16 ≤ _; omega)).nil
                                first
                                | exact ⟨lst_far (o3.q qa).lst (own_ne o3 (.inr hnw.out)) _ _, own_ne o3 (.inl (Nat.lt_of_lt_of_le hxl hcl)), hnil⟩
                                | exact ⟨lst_far o3.lst (own_ne o3 (.inl hlt2)) _ _, own_ne o3 (.inl (Nat.lt_of_lt_of_le hxl hcl)), hnil⟩)
                              go_wp2_with fail
                              go_meet
                              exact ⟨nb, A3, c3, rfl, rfl, rfl, hnb, BX.out.set2 _ _, HZ.out.set2 hnb _ _, HT9.out.1, HT9.out.2.1, HT9.out.2.2⟩
                          case' mzz123 => skip
                          exact AllReadyL.nil
                      case' mzz130 => skip
                      refine AllReadyL.consK (o := ?ozz131) ?hzz131 ?lzz131 (fun K hK => ?kzz131) ?mzz131
                      case hzz131 => simp only [List.getElem?_toArray, List.getElem?_cons_zero, List.getElem?_cons_succ]; rfl
                      case lzz131 => kernel_rfl
                      case kzz131 =>
                        have HZ := Lib.hid hHeld
                        obtain ⟨⟨st0, st1⟩, st2, st3⟩ := BX.out.get2
                        go_simp
                        clear st0 st1 st2 st3
                        refine hK.out _ _ ?Rzz131
                        case Rzz131 =>
                          clear hK K
                          try simp only [Act.put, List.setIfInBounds_toArray, List.set_cons_zero, List.set_cons_succ]
                          refine wpAnyH_ready (rs := [8, 11]) (by kernel_rfl) (by simp) ?_
                          refine AllReadyH.cons (o := ?ozz128) ?hzz128 (fun K hK => ?kzz128) ?mzz128
                          case hzz128 => simp only [List.getElem?_toArray, List.getElem?_cons_zero, List.getElem?_cons_succ]; rfl
                          case kzz128 =>
                            go_simp
                            refine hK.out _ _ ?Szz128 (fun hHeld => ?Rzz128)
                            case Szz128 =>
                              first | exact hHeld | trivial
                            case Rzz128 =>
                              clear hK K
                              try simp only [Act.put, List.setIfInBounds_toArray, List.set_cons_zero, List.set_cons_succ]
                              refine wpAnyH_take (i := 11) (oi := ?ozz124) (v := ?vzz124) ?hzz124 ?azz124 ?bzz124 ?czz124 ?qzz124 ?yzz124 ?szz124 ?rzz124
                              case hzz124 => simp only [List.getElem?_toArray, List.getElem?_cons_zero, List.getElem?_cons_succ]; rfl
                              case azz124 => kernel_rfl
                              case bzz124 => kernel_rfl
                              case czz124 => kernel_rfl
                              case yzz124 =>
                                refine Or.inl ⟨by rfl, ?_⟩
                                intro w hSw
                                skip
                                go_simp
                                try with_reducible rfl
                              case qzz124 => exact fun _ _ _ h => h
                              case szz124 => first | assumption | trivial
                              case' rzz124 => simp only [Act.put, List.setIfInBounds_toArray, List.set_cons_zero, List.set_cons_succ]
                              refine wpAnyH_take (i := 12) (oi := ?ozz125) (v := ?vzz125) ?hzz125 ?azz125 ?bzz125 ?czz125 ?qzz125 ?yzz125 ?szz125 ?rzz125
                              case hzz125 => simp only [List.getElem?_toArray, List.getElem?_cons_zero, List.getElem?_cons_succ]; rfl
                              case azz125 => kernel_rfl
                              case bzz125 => kernel_rfl
                              case czz125 => kernel_rfl
                              case yzz125 =>
                                refine Or.inl ⟨by rfl, ?_⟩
                                intro w hSw
                                skip
                                go_simp
                                try with_reducible rfl
                              case qzz125 => exact fun _ _ _ h => h
                              case szz125 => first | assumption | trivial
                              case' rzz125 => simp only [Act.put, List.setIfInBounds_toArray, List.set_cons_zero, List.set_cons_succ]
                              refine wpAnyH_done (by kernel_rfl) ?_ _
                              have HT9 : Hid (Lst textK ((Y1.setCell ⟨nb, 0, none⟩ (.string R)).setCell ⟨nb, 1, none⟩ (.bool Oq)) A3 m.length m ∧ (∀ ad, A3 = some ad → ad.block ≠ n9) ∧ (A3 = none → m.length = 0 ∧ c3 = 0)) := Lib.hid (by
                                have hxl := XB.out.lt
                                have hnil := (o3.in_ (by show m.length * 16 ≤ _; omega)).nil
                                first
                                | exact ⟨lst_far (o3.q qa).lst (own_ne o3 (.inr hnw.out)) _ _, own_ne o3 (.inl (Nat.lt_of_lt_of_le hxl hcl)), hnil⟩
                                | exact ⟨lst_far o3.lst (own_ne o3 (.inl hlt2)) _ _, own_ne o3 (.inl (Nat.lt_of_lt_of_le hxl hcl)), hnil⟩)
                              go_wp2_with fail
                              go_meet
                              exact ⟨nb, A3, c3, rfl, rfl, rfl, hnb, BX.out.set2 _ _, HZ.out.set2 hnb _ _, HT9.out.1, HT9.out.2.1, HT9.out.2.2⟩
                          case' mzz128 => skip
                          refine AllReadyH.cons (o := ?ozz129) ?hzz129 (fun K hK => ?kzz129) ?mzz129
                          case hzz129 => simp only [List.getElem?_toArray, List.getElem?_cons_zero, List.getElem?_cons_succ]; rfl
                          case kzz129 =>
                            go_simp
                            refine hK.out _ _ ?Szz129 (fun hHeld => ?Rzz129)
                            case Szz129 =>
                              first | exact hHeld | trivial
                            case Rzz129 =>
                              clear hK K
                              try simp only [Act.put, List.setIfInBounds_toArray, List.set_cons_zero, List.set_cons_succ]
                              refine wpAnyH_take (i := 8) (oi := ?ozz126) (v := ?vzz126) ?hzz126 ?azz126 ?bzz126 ?czz126 ?qzz126 ?yzz126 ?szz126 ?rzz126
                              case hzz126 => simp only [List.getElem?_toArray, List.getElem?_cons_zero, List.getElem?_cons_succ]; rfl
                              case azz126 => kernel_rfl
                              case bzz126 => kernel_rfl
                              case czz126 => kernel_rfl
                              case yzz126 =>
                                refine Or.inl ⟨by rfl, ?_⟩
                                intro w hSw
                                skip
                                go_simp
                                try with_reducible rfl
                              case qzz126 => exact fun _ _ _ h => h
                              case szz126 => first | assumption | trivial
                              case' rzz126 => simp only [Act.put, List.setIfInBounds_toArray, List.set_cons_zero, List.set_cons_succ]
                              refine wpAnyH_take (i := 12) (oi := ?ozz127) (v := ?vzz127) ?hzz127 ?azz127 ?bzz127 ?czz127 ?qzz127 ?yzz127 ?szz127 ?rzz127
                              case hzz127 => simp only [List.getElem?_toArray, List.getElem?_cons_zero, List.getElem?_cons_succ]; rfl
                              case azz127 => kernel_rfl
                              case bzz127 => kernel_rfl
                              case czz127 => kernel_rfl
                              case yzz127 =>
                                refine Or.inl ⟨by rfl, ?_⟩
                                intro w hSw
                                skip
                                go_simp
                                try with_reducible rfl
                              case qzz127 => exact fun _ _ _ h => h
                              case szz127 => first | assumption | trivial
                              case' rzz127 => simp only [Act.put, List.setIfInBounds_toArray, List.set_cons_zero, List.set_cons_succ]
                              refine wpAnyH_done (by kernel_rfl) ?_ _
                              have HT9 : Hid (Lst textK ((Y1.setCell ⟨nb, 0, none⟩ (.string R)).setCell ⟨nb, 1, none⟩ (.bool Oq)) A3 m.length m ∧ (∀ ad, A3 = some ad → ad.block ≠ n9) ∧ (A3 = none → m.length = 0 ∧ c3 = 0)) := Lib.hid (by
                                have hxl := XB.out.lt
                                have hnil := (o3.in_ (by show m.length * 16 ≤ _; omega)).nil
                                first
                                | exact ⟨lst_far (o3.q qa).lst (own_ne o3 (.inr hnw.out)) _ _, own_ne o3 (.inl (Nat.lt_of_lt_of_le hxl hcl)), hnil⟩
                                | exact ⟨lst_far o3.lst (own_ne o3 (.inl hlt2)) _ _, own_ne o3 (.inl (Nat.lt_of_lt_of_le hxl hcl)), hnil⟩)
                              go_wp2_with fail
                              go_meet
                              exact ⟨nb, A3, c3, rfl, rfl, rfl, hnb, BX.out.set2 _ _, HZ.out.set2 hnb _ _, HT9.out.1, HT9.out.2.1, HT9.out.2.2⟩
                          case' mzz129 => skip
                          exact AllReadyH.nil
                      case' mzz131 => skip
                      exact AllReadyL.nil
                  case' mzz133 => skip
                  exact AllReadyL.nil
              case' mzz177 => skip
              refine AllReadyL.cons (o := ?ozz178) ?hzz178 (fun K hK => ?kzz178) ?mzz178
              case hzz178 => simp only [List.getElem?_toArray, List.getElem?_cons_zero, List.getElem?_cons_succ]; rfl
              case kzz178 =>
                go_simp
                refine hK.out _ _ ?Szz178 (fun hHeld => ?Rzz178)
                case Szz178 =>
                  first | exact hHeld | trivial
                case Rzz178 =>
                  clear hK K
                  try simp only [Act.put, List.setIfInBounds_toArray, List.set_cons_zero, List.set_cons_succ]
                  refine wpAnyL_ready (rs := [7, 9]) (by kernel_rfl) (by simp) ?_
                  refine AllReadyL.cons (o := ?ozz146) ?hzz146 (fun K hK => ?kzz146) ?mzz146
                  case hzz146 => simp only [List.getElem?_toArray, List.getElem?_cons_zero, List.getElem?_cons_succ]; rfl
                  case kzz146 =>
                    go_simp
                    refine hK.out _ _ ?Szz146 (fun hHeld => ?Rzz146)
                    case Szz146 =>
                      first | exact hHeld | trivial
                    case Rzz146 =>
                      clear hK K
                      try simp only [Act.put, List.setIfInBounds_toArray, List.set_cons_zero, List.set_cons_succ]
                      refine wpAnyL_ready (rs := [9]) (by kernel_rfl) (by simp) ?_
                      refine AllReadyL.cons (o := ?ozz137) ?hzz137 (fun K hK => ?kzz137) ?mzz137
                      case hzz137 => simp only [List.getElem?_toArray, List.getElem?_cons_zero, List.getElem?_cons_succ]; rfl
                      case kzz137 =>
                        go_simp
                        have BX := Lib.hid (Bx.new v2 [.string ⟨#[]⟩, .bool false] 23)
                        have hnb : wr.heap.size ≤ v2.heap.size := hHeld.size
                        have qa := (Q.refl v2).alloc (.cells #[.string ⟨#[]⟩, .bool false] 23)
                        have BX : Hid (Bx (v2.alloc (.cells #[.string ⟨#[]⟩, .bool false] 23)) v2.heap.size [.string ⟨#[]⟩, .bool false]) := Lib.hid BX.out
                        generalize v2.alloc (.cells #[.string ⟨#[]⟩, .bool false] 23) = Y2 at BX qa ⊢
                        generalize hnbe : v2.heap.size = nb at BX hnb ⊢
                        have hnw := Lib.hid (Nat.le_of_eq hnbe)
                        clear hnbe
                        refine hK.out _ _ ?Szz137 (fun hHeld => ?Rzz137)
                        case Szz137 =>
                          exact hHeld.trans qa
                        case Rzz137 =>
                          clear hK K
                          try simp only [Act.put, List.setIfInBounds_toArray, List.set_cons_zero, List.set_cons_succ]
                          refine wpAnyL_ready (rs := [10]) (by kernel_rfl) (by simp) ?_
                          refine AllReadyL.consK (o := ?ozz136) ?hzz136 ?lzz136 (fun K hK => ?kzz136) ?mzz136
                          case hzz136 => simp only [List.getElem?_toArray, List.getElem?_cons_zero, List.getElem?_cons_succ]; rfl
                          case lzz136 => kernel_rfl
                          case kzz136 =>
                            have HZ := Lib.hid hHeld
                            obtain ⟨⟨st0, st1⟩, st2, st3⟩ := BX.out.get2
                            go_simp
                            clear st0 st1 st2 st3
                            refine hK.out _ _ ?Rzz136
                            case Rzz136 =>
                              clear hK K
                              try simp only [Act.put, List.setIfInBounds_toArray, List.set_cons_zero, List.set_cons_succ]
                              refine wpAnyH_take (i := 11) (oi := ?ozz134) (v := ?vzz134) ?hzz134 ?azz134 ?bzz134 ?czz134 ?qzz134 ?yzz134 ?szz134 ?rzz134
                              case hzz134 => simp only [List.getElem?_toArray, List.getElem?_cons_zero, List.getElem?_cons_succ]; rfl
                              case azz134 => kernel_rfl
                              case bzz134 => kernel_rfl
                              case czz134 => kernel_rfl
                              case yzz134 =>
                                refine Or.inl ⟨by rfl, ?_⟩
                                intro w hSw
                                skip
                                go_simp
                                try with_reducible rfl
                              case qzz134 => exact fun _ _ _ h => h
                              case szz134 => first | assumption | trivial
                              case' rzz134 => simp only [Act.put, List.setIfInBounds_toArray, List.set_cons_zero, List.set_cons_succ]
                              refine wpAnyH_take (i := 12) (oi := ?ozz135) (v := ?vzz135) ?hzz135 ?azz135 ?bzz135 ?czz135 ?qzz135 ?yzz135 ?szz135 ?rzz135
                              case hzz135 => simp only [List.getElem?_toArray, List.getElem?_cons_zero, List.getElem?_cons_succ]; rfl
                              case azz135 => kernel_rfl
                              case bzz135 => kernel_rfl
                              case czz135 => kernel_rfl
                              case yzz135 =>
                                refine Or.inl ⟨by rfl, ?_⟩
                                intro w hSw
                                skip
                                go_simp
                                try with_reducible rfl
                              case qzz135 => exact fun _ _ _ h => h
                              case szz135 => first | assumption | trivial
                              case' rzz135 => simp only [Act.put, List.setIfInBounds_toArray, List.set_cons_zero, List.set_cons_succ]
                              refine wpAnyH_done (by kernel_rfl) ?_ _
                              have HT9 : Hid (Lst textK ((Y2.setCell ⟨nb, 0, none⟩ (.string R)).setCell ⟨nb, 1, none⟩ (.bool Oq)) A3 m.length m ∧ (∀ ad, A3 = some ad → ad.block ≠ n9) ∧ (A3 = none → m.length = 0 ∧ c3 = 0)) := Lib.hid (by
                                have hxl := XB.out.lt
                                have hnil := (o3.in_ (by show m.length * 16 ≤ _; omega)).nil
                                first
                                | exact ⟨lst_far (o3.q qa).lst (own_ne o3 (.inr hnw.out)) _ _, own_ne o3 (.inl (Nat.lt_of_lt_of_le hxl hcl)), hnil⟩
                                | exact ⟨lst_far o3.lst (own_ne o3 (.inl hlt2)) _ _, own_ne o3 (.inl (Nat.lt_of_lt_of_le hxl hcl)), hnil⟩)
                              go_wp2_with fail
                              go_meet
                              exact ⟨nb, A3, c3, rfl, rfl, rfl, hnb, BX.out.set2 _ _, HZ.out.set2 hnb _ _, HT9.out.1, HT9.out.2.1, HT9.out.2.2⟩
                          case' mzz136 => skip
                          exact AllReadyL.nil
                      case' mzz137 => skip
                      exact AllReadyL.nil
                  case' mzz146 => skip
                  refine AllReadyL.cons (o := ?ozz147) ?hzz147 (fun K hK => ?kzz147) ?mzz147
                  case hzz147 => simp only [List.getElem?_toArray, List.getElem?_cons_zero, List.getElem?_cons_succ]; rfl
                  case kzz147 =>
                    go_simp
                    have BX := Lib.hid (Bx.new v2 [.string ⟨#[]⟩, .bool false] 23)
                    have hnb : wr.heap.size ≤ v2.heap.size := hHeld.size
                    have qa := (Q.refl v2).alloc (.cells #[.string ⟨#[]⟩, .bool false] 23)
                    have BX : Hid (Bx (v2.alloc (.cells #[.string ⟨#[]⟩, .bool false] 23)) v2.heap.size [.string ⟨#[]⟩, .bool false]) := Lib.hid BX.out
                    generalize v2.alloc (.cells #[.string ⟨#[]⟩, .bool false] 23) = Y3 at BX qa ⊢
                    generalize hnbe : v2.heap.size = nb at BX hnb ⊢
                    have hnw := Lib.hid (Nat.le_of_eq hnbe)
                    clear hnbe
                    refine hK.out _ _ ?Szz147 (fun hHeld => ?Rzz147)
                    case Szz147 =>
                      exact hHeld.trans qa
                    case Rzz147 =>
                      clear hK K
                      try simp only [Act.put, List.setIfInBounds_toArray, List.set_cons_zero, List.set_cons_succ]
                      refine wpAnyL_ready (rs := [7, 10]) (by kernel_rfl) (by simp) ?_
                      refine AllReadyL.cons (o := ?ozz144) ?hzz144 (fun K hK => ?kzz144) ?mzz144
                      case hzz144 => simp only [List.getElem?_toArray, List.getElem?_cons_zero, List.getElem?_cons_succ]; rfl
                      case kzz144 =>
                        go_simp
                        refine hK.out _ _ ?Szz144 (fun hHeld => ?Rzz144)
                        case Szz144 =>
                          first | exact hHeld | trivial
                        case Rzz144 =>
                          clear hK K
                          try simp only [Act.put, List.setIfInBounds_toArray, List.set_cons_zero, List.set_cons_succ]
                          refine wpAnyL_ready (rs := [10]) (by kernel_rfl) (by simp) ?_
                          refine AllReadyL.consK (o := ?ozz140) ?hzz140 ?lzz140 (fun K hK => ?kzz140) ?mzz140
                          case hzz140 => simp only [List.getElem?_toArray, List.getElem?_cons_zero, List.getElem?_cons_succ]; rfl
                          case lzz140 => kernel_rfl
                          case kzz140 =>
                            have HZ := Lib.hid hHeld
                            obtain ⟨⟨st0, st1⟩, st2, st3⟩ := BX.out.get2
                            go_simp
                            clear st0 st1 st2 st3
                            refine hK.out _ _ ?Rzz140
                            case Rzz140 =>
                              clear hK K
                              try simp only [Act.put, List.setIfInBounds_toArray, List.set_cons_zero, List.set_cons_succ]
                              refine wpAnyH_take (i := 11) (oi := ?ozz138) (v := ?vzz138) ?hzz138 ?azz138 ?bzz138 ?czz138 ?qzz138 ?yzz138 ?szz138 ?rzz138
                              case hzz138 => simp only [List.getElem?_toArray, List.getElem?_cons_zero, List.getElem?_cons_succ]; rfl
                              case azz138 => kernel_rfl
                              case bzz138 => kernel_rfl
                              case czz138 => kernel_rfl
                              case yzz138 =>
                                refine Or.inl ⟨by rfl, ?_⟩
                                intro w hSw
                                skip
                                go_simp
                                try with_reducible rfl
                              case qzz138 => exact fun _ _ _ h => h
                              case szz138 => first | assumption | trivial
                              case' rzz138 => simp only [Act.put, List.setIfInBounds_toArray, List.set_cons_zero, List.set_cons_succ]
                              refine wpAnyH_take (i := 12) (oi := ?ozz139) (v := ?vzz139) ?hzz139 ?azz139 ?bzz139 ?czz139 ?qzz139 ?yzz139 ?szz139 ?rzz139
                              case hzz139 => simp only [List.getElem?_toArray, List.getElem?_cons_zero, List.getElem?_cons_succ]; rfl
                              case azz139 => kernel_rfl
                              case bzz139 => kernel_rfl
                              case czz139 => kernel_rfl
                              case yzz139 =>
                                refine Or.inl ⟨by rfl, ?_⟩
                                intro w hSw
                                skip
                                go_simp
                                try with_reducible rfl
                              case qzz139 => exact fun _ _ _ h => h
                              case szz139 => first | assumption | trivial
                              case' rzz139 => simp only [Act.put, List.setIfInBounds_toArray, List.set_cons_zero, List.set_cons_succ]
                              refine wpAnyH_done (by kernel_rfl) ?_ _
                              have HT9 : Hid (Lst textK ((Y3.setCell ⟨nb, 0, none⟩ (.string R)).setCell ⟨nb, 1, none⟩ (.bool Oq)) A3 m.length m ∧ (∀ ad, A3 = some ad → ad.block ≠ n9) ∧ (A3 = none → m.length = 0 ∧ c3 = 0)) := Lib.hid (by
                                have hxl := XB.out.lt
                                have hnil := (o3.in_ (by show m.length * 16 ≤ _; omega)).nil
                                first
                                | exact ⟨lst_far (o3.q qa).lst (own_ne o3 (.inr hnw.out)) _ _, own_ne o3 (.inl (Nat.lt_of_lt_of_le hxl hcl)), hnil⟩
                                | exact ⟨lst_far o3.lst (own_ne o3 (.inl hlt2)) _ _, own_ne o3 (.inl (Nat.lt_of_lt_of_le hxl hcl)), hnil⟩)
                              go_wp2_with fail
                              go_meet
                              exact ⟨nb, A3, c3, rfl, rfl, rfl, hnb, BX.out.set2 _ _, HZ.out.set2 hnb _ _, HT9.out.1, HT9.out.2.1, HT9.out.2.2⟩
                          case' mzz140 => skip
                          exact AllReadyL.nil
                      case' mzz144 => skip
                      refine AllReadyL.consK (o := ?ozz145) ?hzz145 ?lzz145 (fun K hK => ?kzz145) ?mzz145
                      case hzz145 => simp only [List.getElem?_toArray, List.getElem?_cons_zero, List.getElem?_cons_succ]; rfl
                      case lzz145 => kernel_rfl
                      case kzz145 =>
                        have HZ := Lib.hid hHeld
                        obtain ⟨⟨st0, st1⟩, st2, st3⟩ := BX.out.get2
                        go_simp
                        clear st0 st1 st2 st3
                        refine hK.out _ _ ?Rzz145
                        case Rzz145 =>
                          clear hK K
                          try simp only [Act.put, List.setIfInBounds_toArray, List.set_cons_zero, List.set_cons_succ]
                          refine wpAnyH_take (i := 7) (oi := ?ozz141) (v := ?vzz141) ?hzz141 ?azz141 ?bzz141 ?czz141 ?qzz141 ?yzz141 ?szz141 ?rzz141
                          case hzz141 => simp only [List.getElem?_toArray, List.getElem?_cons_zero, List.getElem?_cons_succ]; rfl
                          case azz141 => kernel_rfl
                          case bzz141 => kernel_rfl
                          case czz141 => kernel_rfl
                          case yzz141 =>
                            refine Or.inl ⟨by rfl, ?_⟩
                            intro w hSw
                            skip
                            go_simp
                            try with_reducible rfl
                          case qzz141 => exact fun _ _ _ h => h
                          case szz141 => first | assumption | trivial
                          case' rzz141 => simp only [Act.put, List.setIfInBounds_toArray, List.set_cons_zero, List.set_cons_succ]
                          refine wpAnyH_take (i := 11) (oi := ?ozz142) (v := ?vzz142) ?hzz142 ?azz142 ?bzz142 ?czz142 ?qzz142 ?yzz142 ?szz142 ?rzz142
                          case hzz142 => simp only [List.getElem?_toArray, List.getElem?_cons_zero, List.getElem?_cons_succ]; rfl
                          case azz142 => kernel_rfl
                          case bzz142 => kernel_rfl
                          case czz142 => kernel_rfl
                          case yzz142 =>
                            refine Or.inl ⟨by rfl, ?_⟩
                            intro w hSw
                            skip
                            go_simp
                            try with_reducible rfl
                          case qzz142 => exact fun _ _ _ h => h
                          case szz142 => first | assumption | trivial
                          case' rzz142 => simp only [Act.put, List.setIfInBounds_toArray, List.set_cons_zero, List.set_cons_succ]
                          refine wpAnyH_take (i := 12) (oi := ?ozz143) (v := ?vzz143) ?hzz143 ?azz143 ?bzz143 ?czz143 ?qzz143 ?yzz143 ?szz143 ?rzz143
                          case hzz143 => simp only [List.getElem?_toArray, List.getElem?_cons_zero, List.getElem?_cons_succ]; rfl
                          case azz143 => kernel_rfl
                          case bzz143 => kernel_rfl
                          case czz143 => kernel_rfl
                          case yzz143 =>
                            refine Or.inl ⟨by rfl, ?_⟩
                            intro w hSw
                            skip
                            go_simp
                            try with_reducible rfl
                          case qzz143 => exact fun _ _ _ h => h
                          case szz143 => first | assumption | trivial
                          case' rzz143 => simp only [Act.put, List.setIfInBounds_toArray, List.set_cons_zero, List.set_cons_succ]
                          refine wpAnyH_done (by kernel_rfl) ?_ _
                          have HT9 : Hid (Lst textK ((Y3.setCell ⟨nb, 0, none⟩ (.string R)).setCell ⟨nb, 1, none⟩ (.bool Oq)) A3 m.length m ∧ (∀ ad, A3 = some ad → ad.block ≠ n9) ∧ (A3 = none → m.length = 0 ∧ c3 = 0)) := Lib.hid (by
                            have hxl := XB.out.lt
                            have hnil := (o3.in_ (by show m.length * 16 ≤ _; omega)).nil
                            first
                            | exact ⟨lst_far (o3.q qa).lst (own_ne o3 (.inr hnw.out)) _ _, own_ne o3 (.inl (Nat.lt_of_lt_of_le hxl hcl)), hnil⟩
                            | exact ⟨lst_far o3.lst (own_ne o3 (.inl hlt2)) _ _, own_ne o3 (.inl (Nat.lt_of_lt_of_le hxl hcl)), hnil⟩)
                          go_wp2_with fail
                          go_meet
                          exact ⟨nb, A3, c3, rfl, rfl, rfl, hnb, BX.out.set2 _ _, HZ.out.set2 hnb _ _, HT9.out.1, HT9.out.2.1, HT9.out.2.2⟩
                      case' mzz145 => skip
                      exact AllReadyL.nil
                  case' mzz147 => skip
                  exact AllReadyL.nil
              case' mzz178 => skip
              refine AllReadyL.cons (o := ?ozz179) ?hzz179 (fun K hK => ?kzz179) ?mzz179
              case hzz179 => simp only [List.getElem?_toArray, List.getElem?_cons_zero, List.getElem?_cons_succ]; rfl
              case kzz179 =>
                go_simp
                have BX := Lib.hid (Bx.new v2 [.string ⟨#[]⟩, .bool false] 23)
                have hnb : wr.heap.size ≤ v2.heap.size := hHeld.size
                have qa := (Q.refl v2).alloc (.cells #[.string ⟨#[]⟩, .bool false] 23)
                have BX : Hid (Bx (v2.alloc (.cells #[.string ⟨#[]⟩, .bool false] 23)) v2.heap.size [.string ⟨#[]⟩, .bool false]) := Lib.hid BX.out
                generalize v2.alloc (.cells #[.string ⟨#[]⟩, .bool false] 23) = Y4 at BX qa ⊢
                generalize hnbe : v2.heap.size = nb at BX hnb ⊢
                have hnw := Lib.hid (Nat.le_of_eq hnbe)
                clear hnbe
                refine hK.out _ _ ?Szz179 (fun hHeld => ?Rzz179)
                case Szz179 =>
                  exact hHeld.trans qa
                case Rzz179 =>
                  clear hK K
                  try simp only [Act.put, List.setIfInBounds_toArray, List.set_cons_zero, List.set_cons_succ]
                  refine wpAnyL_ready (rs := [7, 8, 10]) (by kernel_rfl) (by simp) ?_
                  refine AllReadyL.cons (o := ?ozz174) ?hzz174 (fun K hK => ?kzz174) ?mzz174
                  case hzz174 => simp only [List.getElem?_toArray, List.getElem?_cons_zero, List.getElem?_cons_succ]; rfl
                  case kzz174 =>
                    go_simp
                    refine hK.out _ _ ?Szz174 (fun hHeld => ?Rzz174)
                    case Szz174 =>
                      first | exact hHeld | trivial
                    case Rzz174 =>
                      clear hK K
                      try simp only [Act.put, List.setIfInBounds_toArray, List.set_cons_zero, List.set_cons_succ]
                      refine wpAnyL_ready (rs := [8, 10]) (by kernel_rfl) (by simp) ?_
                      refine AllReadyL.cons (o := ?ozz157) ?hzz157 (fun K hK => ?kzz157) ?mzz157
                      case hzz157 => simp only [List.getElem?_toArray, List.getElem?_cons_zero, List.getElem?_cons_succ]; rfl
                      case kzz157 =>
                        go_simp
                        refine hK.out _ _ ?Szz157 (fun hHeld => ?Rzz157)
                        case Szz157 =>
                          first | exact hHeld | trivial
                        case Rzz157 =>
                          clear hK K
                          try simp only [Act.put, List.setIfInBounds_toArray, List.set_cons_zero, List.set_cons_succ]
                          refine wpAnyL_ready (rs := [10]) (by kernel_rfl) (by simp) ?_
                          refine AllReadyL.consK (o := ?ozz150) ?hzz150 ?lzz150 (fun K hK => ?kzz150) ?mzz150
                          case hzz150 => simp only [List.getElem?_toArray, List.getElem?_cons_zero, List.getElem?_cons_succ]; rfl
                          case lzz150 => kernel_rfl
                          case kzz150 =>
                            have HZ := Lib.hid hHeld
                            obtain ⟨⟨st0, st1⟩, st2, st3⟩ := BX.out.get2
                            go_simp
                            clear st0 st1 st2 st3
                            refine hK.out _ _ ?Rzz150
                            case Rzz150 =>
                              clear hK K
                              try simp only [Act.put, List.setIfInBounds_toArray, List.set_cons_zero, List.set_cons_succ]
                              refine wpAnyH_take (i := 11) (oi := ?ozz148) (v := ?vzz148) ?hzz148 ?azz148 ?bzz148 ?czz148 ?qzz148 ?yzz148 ?szz148 ?rzz148
                              case hzz148 => simp only [List.getElem?_toArray, List.getElem?_cons_zero, List.getElem?_cons_succ]; rfl
                              case azz148 => kernel_rfl
                              case bzz148 => kernel_rfl
                              case czz148 => kernel_rfl
                              case yzz148 =>
                                refine Or.inl ⟨by rfl, ?_⟩
                                intro w hSw
                                skip
                                go_simp
                                try with_reducible rfl
                              case qzz148 => exact fun _ _ _ h => h
                              case szz148 => first | assumption | trivial
                              case' rzz148 => simp only [Act.put, List.setIfInBounds_toArray, List.set_cons_zero, List.set_cons_succ]
                              refine wpAnyH_take (i := 12) (oi := ?ozz149) (v := ?vzz149) ?hzz149 ?azz149 ?bzz149 ?czz149 ?qzz149 ?yzz149 ?szz149 ?rzz149
                              case hzz149 => simp only [List.getElem?_toArray, List.getElem?_cons_zero, List.getElem?_cons_succ]; rfl
                              case azz149 => kernel_rfl
                              case bzz149 => kernel_rfl
                              case czz149 => kernel_rfl
                              case yzz149 =>
                                refine Or.inl ⟨by rfl, ?_⟩
                                intro w hSw
                                skip
                                go_simp
                                try with_reducible rfl
                              case qzz149 => exact fun _ _ _ h => h
                              case szz149 => first | assumption | trivial
                              case' rzz149 => simp only [Act.put, List.setIfInBounds_toArray, List.set_cons_zero, List.set_cons_succ]
                              refine wpAnyH_done (by kernel_rfl) ?_ _
                              have HT9 : Hid (Lst textK ((Y4.setCell ⟨nb, 0, none⟩ (.string R)).setCell ⟨nb, 1, none⟩ (.bool Oq)) A3 m.length m ∧ (∀ ad, A3 = some ad → ad.block ≠ n9) ∧ (A3 = none → m.length = 0 ∧ c3 = 0)) := Lib.hid (by
                                have hxl := XB.out.lt
                                have hnil := (o3.in_ (by show m.length * 16 ≤ _; omega)).nil
                                first
                                | exact ⟨lst_far (o3.q qa).lst (own_ne o3 (.inr hnw.out)) _ _, own_ne o3 (.inl (Nat.lt_of_lt_of_le hxl hcl)), hnil⟩
                                | exact ⟨lst_far o3.lst (own_ne o3 (.inl hlt2)) _ _, own_ne o3 (.inl (Nat.lt_of_lt_of_le hxl hcl)), hnil⟩)
                              go_wp2_with fail
                              go_meet
                              exact ⟨nb, A3, c3, rfl, rfl, rfl, hnb, BX.out.set2 _ _, HZ.out.set2 hnb _ _, HT9.out.1, HT9.out.2.1, HT9.out.2.2⟩
                          case' mzz150 => skip
                          exact AllReadyL.nil
                      case' mzz157 => skip
                      refine AllReadyL.consK (o := ?ozz158) ?hzz158 ?lzz158 (fun K hK => ?kzz158) ?mzz158
                      case hzz158 => simp only [List.getElem?_toArray, List.getElem?_cons_zero, List.getElem?_cons_succ]; rfl
                      case lzz158 => kernel_rfl
                      case kzz158 =>
                        have HZ := Lib.hid hHeld
                        obtain ⟨⟨st0, st1⟩, st2, st3⟩ := BX.out.get2
                        go_simp
                        clear st0 st1 st2 st3
                        refine hK.out _ _ ?Rzz158
                        case Rzz158 =>
                          clear hK K
                          try simp only [Act.put, List.setIfInBounds_toArray, List.set_cons_zero, List.set_cons_succ]
                          refine wpAnyH_ready (rs := [8, 11]) (by kernel_rfl) (by simp) ?_
                          refine AllReadyH.cons (o := ?ozz155) ?hzz155 (fun K hK => ?kzz155) ?mzz155
                          case hzz155 => simp only [List.getElem?_toArray, List.getElem?_cons_zero, List.getElem?_cons_succ]; rfl
                          case kzz155 =>
                            go_simp
                            refine hK.out _ _ ?Szz155 (fun hHeld => ?Rzz155)
                            case Szz155 =>
                              first | exact hHeld | trivial
                            case Rzz155 =>
                              clear hK K
                              try simp only [Act.put, List.setIfInBounds_toArray, List.set_cons_zero, List.set_cons_succ]
                              refine wpAnyH_take (i := 11) (oi := ?ozz151) (v := ?vzz151) ?hzz151 ?azz151 ?bzz151 ?czz151 ?qzz151 ?yzz151 ?szz151 ?rzz151
                              case hzz151 => simp only [List.getElem?_toArray, List.getElem?_cons_zero, List.getElem?_cons_succ]; rfl
                              case azz151 => kernel_rfl
                              case bzz151 => kernel_rfl
                              case czz151 => kernel_rfl
                              case yzz151 =>
                                refine Or.inl ⟨by rfl, ?_⟩
                                intro w hSw
                                skip
                                go_simp
                                try with_reducible rfl
                              case qzz151 => exact fun _ _ _ h => h
                              case szz151 => first | assumption | trivial
                              case' rzz151 => simp only [Act.put, List.setIfInBounds_toArray, List.set_cons_zero, List.set_cons_succ]
                              refine wpAnyH_take (i := 12) (oi := ?ozz152) (v := ?vzz152) ?hzz152 ?azz152 ?bzz152 ?czz152 ?qzz152 ?yzz152 ?szz152 ?rzz152
                              case hzz152 => simp only [List.getElem?_toArray, List.getElem?_cons_zero, List.getElem?_cons_succ]; rfl
                              case azz152 => kernel_rfl
                              case bzz152 => kernel_rfl
                              case czz152 => kernel_rfl
                              case yzz152 =>
                                refine Or.inl ⟨by rfl, ?_⟩
                                intro w hSw
                                skip
                                go_simp
                                try with_reducible rfl
                              case qzz152 => exact fun _ _ _ h => h
                              case szz152 => first | assumption | trivial
                              case' rzz152 => simp only [Act.put, List.setIfInBounds_toArray, List.set_cons_zero, List.set_cons_succ]
                              refine wpAnyH_done (by kernel_rfl) ?_ _
                              have HT9 : Hid (Lst textK ((Y4.setCell ⟨nb, 0, none⟩ (.string R)).setCell ⟨nb, 1, none⟩ (.bool Oq)) A3 m.length m ∧ (∀ ad, A3 = some ad → ad.block ≠ n9) ∧ (A3 = none → m.length = 0 ∧ c3 = 0)) := Lib.hid (by
                                have hxl := XB.out.lt
                                have hnil := (o3.in_ (by show m.length * 16 ≤ _; omega)).nil
                                first
                                | exact ⟨lst_far (o3.q qa).lst (own_ne o3 (.inr hnw.out)) _ _, own_ne o3 (.inl (Nat.lt_of_lt_of_le hxl hcl)), hnil⟩
                                | exact ⟨lst_far o3.lst (own_ne o3 (.inl hlt2)) _ _, own_ne o3 (.inl (Nat.lt_of_lt_of_le hxl hcl)), hnil⟩)
                              go_wp2_with fail
                              go_meet
                              exact ⟨nb, A3, c3, rfl, rfl, rfl, hnb, BX.out.set2 _ _, HZ.out.set2 hnb _ _, HT9.out.1, HT9.out.2.1, HT9.out.2.2⟩
                          case' mzz155 => skip
                          refine AllReadyH.cons (o := ?ozz156) ?hzz156 (fun K hK => ?kzz156) ?mzz156
                          case hzz156 => simp only [List.getElem?_toArray, List.getElem?_cons_zero, List.getElem?_cons_succ]; rfl
                          case kzz156 =>
                            go_simp
                            refine hK.out _ _ ?Szz156 (fun hHeld => ?Rzz156)
                            case Szz156 =>
                              first | exact hHeld | trivial
                            case Rzz156 =>
                              clear hK K
                              try simp only [Act.put, List.setIfInBounds_toArray, List.set_cons_zero, List.set_cons_succ]
                              refine wpAnyH_take (i := 8) (oi := ?ozz153) (v := ?vzz153) ?hzz153 ?azz153 ?bzz153 ?czz153 ?qzz153 ?yzz153 ?szz153 ?rzz153
                              case hzz153 => simp only [List.getElem?_toArray, List.getElem?_cons_zero, List.getElem?_cons_succ]; rfl
                              case azz153 => kernel_rfl
                              case bzz153 => kernel_rfl
                              case czz153 => kernel_rfl
                              case yzz153 =>
                                refine Or.inl ⟨by rfl, ?_⟩
                                intro w hSw
                                skip
                                go_simp
                                try with_reducible rfl
                              case qzz153 => exact fun _ _ _ h => h
                              case szz153 => first | assumption | trivial
                              case' rzz153 => simp only [Act.put, List.setIfInBounds_toArray, List.set_cons_zero, List.set_cons_succ]
                              refine wpAnyH_take (i := 12) (oi := ?ozz154) (v := ?vzz154) ?hzz154 ?azz154 ?bzz154 ?czz154 ?qzz154 ?yzz154 ?szz154 ?rzz154
                              case hzz154 => simp only [List.getElem?_toArray, List.getElem?_cons_zero, List.getElem?_cons_succ]; rfl
                              case azz154 => kernel_rfl
                              case bzz154 => kernel_rfl
                              case czz154 => kernel_rfl
                              case yzz154 =>
                                refine Or.inl ⟨by rfl, ?_⟩
                                intro w hSw
                                skip
                                go_simp
                                try with_reducible rfl
                              case qzz154 => exact fun _ _ _ h => h
                              case szz154 => first | assumption | trivial
                              case' rzz154 => simp only [Act.put, List.setIfInBounds_toArray, List.set_cons_zero, List.set_cons_succ]
                              refine wpAnyH_done (by kernel_rfl) ?_ _
                              have HT9 : Hid (Lst textK ((Y4.setCell ⟨nb, 0, none⟩ (.string R)).setCell ⟨nb, 1, none⟩ (.bool Oq)) A3 m.length m ∧ (∀ ad, A3 = some ad → ad.block ≠ n9) ∧ (A3 = none → m.length = 0 ∧ c3 = 0)) := Lib.hid (by
                                have hxl := XB.out.lt
                                have hnil := (o3.in_ (by show m.length * 16 ≤ _; omega)).nil
                                first
                                | exact ⟨lst_far (o3.q qa).lst (own_ne o3 (.inr hnw.out)) _ _, own_ne o3 (.inl (Nat.lt_of_lt_of_le hxl hcl)), hnil⟩
                                | exact ⟨lst_far o3.lst (own_ne o3 (.inl hlt2)) _ _, own_ne o3 (.inl (Nat.lt_of_lt_of_le hxl hcl)), hnil⟩)
                              go_wp2_with fail
                              go_meet
                              exact ⟨nb, A3, c3, rfl, rfl, rfl, hnb, BX.out.set2 _ _, HZ.out.set2 hnb _ _, HT9.out.1, HT9.out.2.1, HT9.out.2.2⟩
                          case' mzz156 => skip
                          exact AllReadyH.nil
                      case' mzz158 => skip
                      exact AllReadyL.nil
                  case' mzz174 => skip
                  refine AllReadyL.cons (o := ?ozz175) ?hzz175 (fun K hK => ?kzz175) ?mzz175
                  case hzz175 => simp only [List.getElem?_toArray, List.getElem?_cons_zero, List.getElem?_cons_succ]; rfl
                  case kzz175 =>
                    go_simp
                    refine hK.out _ _ ?Szz175 (fun hHeld => ?Rzz175)
                    case Szz175 =>
                      first | exact hHeld | trivial
                    case Rzz175 =>
                      clear hK K
                      try simp only [Act.put, List.setIfInBounds_toArray, List.set_cons_zero, List.set_cons_succ]
                      refine wpAnyL_ready (rs := [7, 10]) (by kernel_rfl) (by simp) ?_
                      refine AllReadyL.cons (o := ?ozz165) ?hzz165 (fun K hK => ?kzz165) ?mzz165
                      case hzz165 => simp only [List.getElem?_toArray, List.getElem?_cons_zero, List.getElem?_cons_succ]; rfl
                      case kzz165 =>
                        go_simp
                        refine hK.out _ _ ?Szz165 (fun hHeld => ?Rzz165)
                        case Szz165 =>
                          first | exact hHeld | trivial
                        case Rzz165 =>
                          clear hK K
                          try simp only [Act.put, List.setIfInBounds_toArray, List.set_cons_zero, List.set_cons_succ]
                          refine wpAnyL_ready (rs := [10]) (by kernel_rfl) (by simp) ?_
                          refine AllReadyL.consK (o := ?ozz161) ?hzz161 ?lzz161 (fun K hK => ?kzz161) ?mzz161
                          case hzz161 => simp only [List.getElem?_toArray, List.getElem?_cons_zero, List.getElem?_cons_succ]; rfl
                          case lzz161 => kernel_rfl
                          case kzz161 =>
                            have HZ := Lib.hid hHeld
                            obtain ⟨⟨st0, st1⟩, st2, st3⟩ := BX.out.get2
                            go_simp
                            clear st0 st1 st2 st3
                            refine hK.out _ _ ?Rzz161
                            case Rzz161 =>
                              clear hK K
                              try simp only [Act.put, List.setIfInBounds_toArray, List.set_cons_zero, List.set_cons_succ]
                              refine wpAnyH_take (i := 11) (oi := ?ozz159) (v := ?vzz159) ?hzz159 ?azz159 ?bzz159 ?czz159 ?qzz159 ?yzz159 ?szz159 ?rzz159
                              case hzz159 => simp only [List.getElem?_toArray, List.getElem?_cons_zero, List.getElem?_cons_succ]; rfl
                              case azz159 => kernel_rfl
                              case bzz159 => kernel_rfl
                              case czz159 => kernel_rfl
                              case yzz159 =>
                                refine Or.inl ⟨by rfl, ?_⟩
                                intro w hSw
                                skip
                                go_simp
                                try with_reducible rfl
                              case qzz159 => exact fun _ _ _ h => h
                              case szz159 => first | assumption | trivial
                              case' rzz159 => simp only [Act.put, List.setIfInBounds_toArray, List.set_cons_zero, List.set_cons_succ]
                              refine wpAnyH_take (i := 12) (oi := ?ozz160) (v := ?vzz160) ?hzz160 ?azz160 ?bzz160 ?czz160 ?qzz160 ?yzz160 ?szz160 ?rzz160
                              case hzz160 => simp only [List.getElem?_toArray, List.getElem?_cons_zero, List.getElem?_cons_succ]; rfl
                              case azz160 => kernel_rfl
                              case bzz160 => kernel_rfl
                              case czz160 => kernel_rfl
                              case yzz160 =>
                                refine Or.inl ⟨by rfl, ?_⟩
                                intro w hSw
                                skip
                                go_simp
                                try with_reducible rfl
                              case qzz160 => exact fun _ _ _ h => h
                              case szz160 => first | assumption | trivial
                              case' rzz160 => simp only [Act.put, List.setIfInBounds_toArray, List.set_cons_zero, List.set_cons_succ]
                              refine wpAnyH_done (by kernel_rfl) ?_ _
                              have HT9 : Hid (Lst textK ((Y4.setCell ⟨nb, 0, none⟩ (.string R)).setCell ⟨nb, 1, none⟩ (.bool Oq)) A3 m.length m ∧ (∀ ad, A3 = some ad → ad.block ≠ n9) ∧ (A3 = none → m.length = 0 ∧ c3 = 0)) := Lib.hid (by
                                have hxl := XB.out.lt
                                have hnil := (o3.in_ (by show m.length * 16 ≤ _; omega)).nil
                                first
                                | exact ⟨lst_far (o3.q qa).lst (own_ne o3 (.inr hnw.out)) _ _, own_ne o3 (.inl (Nat.lt_of_lt_of_le hxl hcl)), hnil⟩
                                | exact ⟨lst_far o3.lst (own_ne o3 (.inl hlt2)) _ _, own_ne o3 (.inl (Nat.lt_of_lt_of_le hxl hcl)), hnil⟩)
                              go_wp2_with fail
                              go_meet
                              exact ⟨nb, A3, c3, rfl, rfl, rfl, hnb, BX.out.set2 _ _, HZ.out.set2 hnb _ _, HT9.out.1, HT9.out.2.1, HT9.out.2.2⟩
                          case' mzz161 => skip
                          exact AllReadyL.nil
                      case' mzz165 => skip
                      refine AllReadyL.consK (o := ?ozz166) ?hzz166 ?lzz166 (fun K hK => ?kzz166) ?mzz166
                      case hzz166 => simp only [List.getElem?_toArray, List.getElem?_cons_zero, List.getElem?_cons_succ]; rfl
                      case lzz166 => kernel_rfl
                      case kzz166 =>
                        have HZ := Lib.hid hHeld
                        obtain ⟨⟨st0, st1⟩, st2, st3⟩ := BX.out.get2
                        go_simp
                        clear st0 st1 st2 st3
                        refine hK.out _ _ ?Rzz166
                        case Rzz166 =>
                          clear hK K
                          try simp only [Act.put, List.setIfInBounds_toArray, List.set_cons_zero, List.set_cons_succ]
                          refine wpAnyH_take (i := 7) (oi := ?ozz162) (v := ?vzz162) ?hzz162 ?azz162 ?bzz162 ?czz162 ?qzz162 ?yzz162 ?szz162 ?rzz162
                          case hzz162 => simp only [List.getElem?_toArray, List.getElem?_cons_zero, List.getElem?_cons_succ]; rfl
                          case azz162 => kernel_rfl
                          case bzz162 => kernel_rfl
                          case czz162 => kernel_rfl
                          case yzz162 =>
                            refine Or.inl ⟨by rfl, ?_⟩
                            intro w hSw
                            skip
                            go_simp
                            try with_reducible rfl
                          case qzz162 => exact fun _ _ _ h => h
                          case szz162 => first | assumption | trivial
                          case' rzz162 => simp only [Act.put, List.setIfInBounds_toArray, List.set_cons_zero, List.set_cons_succ]
                          refine wpAnyH_take (i := 11) (oi := ?ozz163) (v := ?vzz163) ?hzz163 ?azz163 ?bzz163 ?czz163 ?qzz163 ?yzz163 ?szz163 ?rzz163
                          case hzz163 => simp only [List.getElem?_toArray, List.getElem?_cons_zero, List.getElem?_cons_succ]; rfl
                          case azz163 => kernel_rfl
                          case bzz163 => kernel_rfl
                          case czz163 => kernel_rfl
                          case yzz163 =>
                            refine Or.inl ⟨by rfl, ?_⟩
                            intro w hSw
                            skip
                            go_simp
                            try with_reducible rfl
                          case qzz163 => exact fun _ _ _ h => h
                          case szz163 => first | assumption | trivial
                          case' rzz163 => simp only [Act.put, List.setIfInBounds_toArray, List.set_cons_zero, List.set_cons_succ]
                          refine wpAnyH_take (i := 12) (oi := ?ozz164) (v := ?vzz164) ?hzz164 ?azz164 ?bzz164 ?czz164 ?qzz164 ?yzz164 ?szz164 ?rzz164
                          case hzz164 => simp only [List.getElem?_toArray, List.getElem?_cons_zero, List.getElem?_cons_succ]; rfl
                          case azz164 => kernel_rfl
                          case bzz164 => kernel_rfl
                          case czz164 => kernel_rfl
                          case yzz164 =>
                            refine Or.inl ⟨by rfl, ?_⟩
                            intro w hSw
                            skip
                            go_simp
                            try with_reducible rfl
                          case qzz164 => exact fun _ _ _ h => h
                          case szz164 => first | assumption | trivial
                          case' rzz164 => simp only [Act.put, List.setIfInBounds_toArray, List.set_cons_zero, List.set_cons_succ]
                          refine wpAnyH_done (by kernel_rfl) ?_ _
                          have HT9 : Hid (Lst textK ((Y4.setCell ⟨nb, 0, none⟩ (.string R)).setCell ⟨nb, 1, none⟩ (.bool Oq)) A3 m.length m ∧ (∀ ad, A3 = some ad → ad.block ≠ n9) ∧ (A3 = none → m.length = 0 ∧ c3 = 0)) := Lib.hid (by
                            have hxl := XB.out.lt
                            have hnil := (o3.in_ (by show m.length * 16 ≤ _; omega)).nil
                            first
                            | exact ⟨lst_far (o3.q qa).lst (own_ne o3 (.inr hnw.out)) _ _, own_ne o3 (.inl (Nat.lt_of_lt_of_le hxl hcl)), hnil⟩
                            | exact ⟨lst_far o3.lst (own_ne o3 (.inl hlt2)) _ _, own_ne o3 (.inl (Nat.lt_of_lt_of_le hxl hcl)), hnil⟩)
                          go_wp2_with fail
                          go_meet
                          exact ⟨nb, A3, c3, rfl, rfl, rfl, hnb, BX.out.set2 _ _, HZ.out.set2 hnb _ _, HT9.out.1, HT9.out.2.1, HT9.out.2.2⟩
                      case' mzz166 => skip
                      exact AllReadyL.nil
                  case' mzz175 => skip
                  refine AllReadyL.consK (o := ?ozz176) ?hzz176 ?lzz176 (fun K hK => ?kzz176) ?mzz176
                  case hzz176 => simp only [List.getElem?_toArray, List.getElem?_cons_zero, List.getElem?_cons_succ]; rfl
                  case lzz176 => kernel_rfl
                  case kzz176 =>
                    have HZ := Lib.hid hHeld
                    obtain ⟨⟨st0, st1⟩, st2, st3⟩ := BX.out.get2
                    go_simp
                    clear st0 st1 st2 st3
                    refine hK.out _ _ ?Rzz176
                    case Rzz176 =>
                      clear hK K
                      try simp only [Act.put, List.setIfInBounds_toArray, List.set_cons_zero, List.set_cons_succ]
                      refine wpAnyH_take (i := 7) (oi := ?ozz167) (v := ?vzz167) ?hzz167 ?azz167 ?bzz167 ?czz167 ?qzz167 ?yzz167 ?szz167 ?rzz167
                      case hzz167 => simp only [List.getElem?_toArray, List.getElem?_cons_zero, List.getElem?_cons_succ]; rfl
                      case azz167 => kernel_rfl
                      case bzz167 => kernel_rfl
                      case czz167 => kernel_rfl
                      case yzz167 =>
                        refine Or.inl ⟨by rfl, ?_⟩
                        intro w hSw
                        skip
                        go_simp
                        try with_reducible rfl
                      case qzz167 => exact fun _ _ _ h => h
                      case szz167 => first | assumption | trivial
                      case' rzz167 => simp only [Act.put, List.setIfInBounds_toArray, List.set_cons_zero, List.set_cons_succ]
                      refine wpAnyH_ready (rs := [8, 11]) (by kernel_rfl) (by simp) ?_
                      refine AllReadyH.cons (o := ?ozz172) ?hzz172 (fun K hK => ?kzz172) ?mzz172
                      case hzz172 => simp only [List.getElem?_toArray, List.getElem?_cons_zero, List.getElem?_cons_succ]; rfl
                      case kzz172 =>
                        go_simp
                        refine hK.out _ _ ?Szz172 (fun hHeld => ?Rzz172)
                        case Szz172 =>
                          first | exact hHeld | trivial
                        case Rzz172 =>
                          clear hK K
                          try simp only [Act.put, List.setIfInBounds_toArray, List.set_cons_zero, List.set_cons_succ]
                          refine wpAnyH_take (i := 11) (oi := ?ozz168) (v := ?vzz168) ?hzz168 ?azz168 ?bzz168 ?czz168 ?qzz168 ?yzz168 ?szz168 ?rzz168
                          case hzz168 => simp only [List.getElem?_toArray, List.getElem?_cons_zero, List.getElem?_cons_succ]; rfl
                          case azz168 => kernel_rfl
                          case bzz168 => kernel_rfl
                          case czz168 => kernel_rfl
                          case yzz168 =>
                            refine Or.inl ⟨by rfl, ?_⟩
                            intro w hSw
                            skip
                            go_simp
                            try with_reducible rfl
                          case qzz168 => exact fun _ _ _ h => h
                          case szz168 => first | assumption | trivial
                          case' rzz168 => simp only [Act.put, List.setIfInBounds_toArray, List.set_cons_zero, List.set_cons_succ]
                          refine wpAnyH_take (i := 12) (oi := ?ozz169) (v := ?vzz169) ?hzz169 ?azz169 ?bzz169 ?czz169 ?qzz169 ?yzz169 ?szz169 ?rzz169
                          case hzz169 => simp only [List.getElem?_toArray, List.getElem?_cons_zero, List.getElem?_cons_succ]; rfl
                          case azz169 => kernel_rfl
                          case bzz169 => kernel_rfl
                          case czz169 => kernel_rfl
                          case yzz169 =>
                            refine Or.inl ⟨by rfl, ?_⟩
                            intro w hSw
                            skip
                            go_simp
                            try with_reducible rfl
                          case qzz169 => exact fun _ _ _ h => h
                          case szz169 => first | assumption | trivial
                          case' rzz169 => simp only [Act.put, List.setIfInBounds_toArray, List.set_cons_zero, List.set_cons_succ]
                          refine wpAnyH_done (by kernel_rfl) ?_ _
                          have HT9 : Hid (Lst textK ((Y4.setCell ⟨nb, 0, none⟩ (.string R)).setCell ⟨nb, 1, none⟩ (.bool Oq)) A3 m.length m ∧ (∀ ad, A3 = some ad → ad.block ≠ n9) ∧ (A3 = none → m.length = 0 ∧ c3 = 0)) := Lib.hid (by
                            have hxl := XB.out.lt
                            have hnil := (o3.in_ (by show m.length * 16 ≤ _; omega)).nil
                            first
                            | exact ⟨lst_far (o3.q qa).lst (own_ne o3 (.inr hnw.out)) _ _, own_ne o3 (.inl (Nat.lt_of_lt_of_le hxl hcl)), hnil⟩
                            | exact ⟨lst_far o3.lst (own_ne o3 (.inl hlt2)) _ _, own_ne o3 (.inl (Nat.lt_of_lt_of_le hxl hcl)), hnil⟩)
                          go_wp2_with fail
                          go_meet
                          exact ⟨nb, A3, c3, rfl, rfl, rfl, hnb, BX.out.set2 _ _, HZ.out.set2 hnb _ _, HT9.out.1, HT9.out.2.1, HT9.out.2.2⟩
                      case' mzz172 => skip
                      refine AllReadyH.cons (o := ?ozz173) ?hzz173 (fun K hK => ?kzz173) ?mzz173
                      case hzz173 => simp only [List.getElem?_toArray, List.getElem?_cons_zero, List.getElem?_cons_succ]; rfl
                      case kzz173 =>
                        go_simp
                        refine hK.out _ _ ?Szz173 (fun hHeld => ?Rzz173)
                        case Szz173 =>
                          first | exact hHeld | trivial
                        case Rzz173 =>
                          clear hK K
                          try simp only [Act.put, List.setIfInBounds_toArray, List.set_cons_zero, List.set_cons_succ]
                          refine wpAnyH_take (i := 8) (oi := ?ozz170) (v := ?vzz170) ?hzz170 ?azz170 ?bzz170 ?czz170 ?qzz170 ?yzz170 ?szz170 ?rzz170
                          case hzz170 => simp only [List.getElem?_toArray, List.getElem?_cons_zero, List.getElem?_cons_succ]; rfl
                          case azz170 => kernel_rfl
                          case bzz170 => kernel_rfl
                          case czz170 => kernel_rfl
                          case yzz170 =>
                            refine Or.inl ⟨by rfl, ?_⟩
                            intro w hSw
                            skip
                            go_simp
                            try with_reducible rfl
                          case qzz170 => exact fun _ _ _ h => h
                          case szz170 => first | assumption | trivial
                          case' rzz170 => simp only [Act.put, List.setIfInBounds_toArray, List.set_cons_zero, List.set_cons_succ]
                          refine wpAnyH_take (i := 12) (oi := ?ozz171) (v := ?vzz171) ?hzz171 ?azz171 ?bzz171 ?czz171 ?qzz171 ?yzz171 ?szz171 ?rzz171
                          case hzz171 => simp only [List.getElem?_toArray, List.getElem?_cons_zero, List.getElem?_cons_succ]; rfl
                          case azz171 => kernel_rfl
                          case bzz171 => kernel_rfl
                          case czz171 => kernel_rfl
                          case yzz171 =>
                            refine Or.inl ⟨by rfl, ?_⟩
                            intro w hSw
                            skip
                            go_simp
                            try with_reducible rfl
                          case qzz171 => exact fun _ _ _ h => h
                          case szz171 => first | assumption | trivial
                          case' rzz171 => simp only [Act.put, List.setIfInBounds_toArray, List.set_cons_zero, List.set_cons_succ]
                          refine wpAnyH_done (by kernel_rfl) ?_ _
                          have HT9 : Hid (Lst textK ((Y4.setCell ⟨nb, 0, none⟩ (.string R)).setCell ⟨nb, 1, none⟩ (.bool Oq)) A3 m.length m ∧ (∀ ad, A3 = some ad → ad.block ≠ n9) ∧ (A3 = none → m.length = 0 ∧ c3 = 0)) := Lib.hid (by
                            have hxl := XB.out.lt
                            have hnil := (o3.in_ (by show m.length * 16 ≤ _; omega)).nil
                            first
                            | exact ⟨lst_far (o3.q qa).lst (own_ne o3 (.inr hnw.out)) _ _, own_ne o3 (.inl (Nat.lt_of_lt_of_le hxl hcl)), hnil⟩
                            | exact ⟨lst_far o3.lst (own_ne o3 (.inl hlt2)) _ _, own_ne o3 (.inl (Nat.lt_of_lt_of_le hxl hcl)), hnil⟩)
                          go_wp2_with fail
                          go_meet
                          exact ⟨nb, A3, c3, rfl, rfl, rfl, hnb, BX.out.set2 _ _, HZ.out.set2 hnb _ _, HT9.out.1, HT9.out.2.1, HT9.out.2.2⟩
                      case' mzz173 => skip
                      exact AllReadyH.nil
                  case' mzz176 => skip
                  exact AllReadyL.nil
              case' mzz179 => skip
              exact AllReadyL.nil
          case' mzz212 => skip
          refine AllReadyL.cons (o := ?ozz213) ?hzz213 (fun K hK => ?kzz213) ?mzz213
          case hzz213 => simp only [List.getElem?_toArray, List.getElem?_cons_zero, List.getElem?_cons_succ]; rfl
          case kzz213 =>
            go_simp
            have BX := Lib.hid (Bx.new D0 [.string ⟨#[]⟩, .bool false] 23)
            have hnb : wr.heap.size ≤ D0.heap.size := hHeld.size
            have qa := (Q.refl D0).alloc (.cells #[.string ⟨#[]⟩, .bool false] 23)
            have BX : Hid (Bx (D0.alloc (.cells #[.string ⟨#[]⟩, .bool false] 23)) D0.heap.size [.string ⟨#[]⟩, .bool false]) := Lib.hid BX.out
            generalize D0.alloc (.cells #[.string ⟨#[]⟩, .bool false] 23) = Y5 at BX qa ⊢
            generalize hnbe : D0.heap.size = nb at BX hnb ⊢
            have hnw := Lib.hid (Nat.le_of_eq hnbe)
            clear hnbe
            refine hK.out _ _ ?Szz213 (fun hHeld => ?Rzz213)
            case Szz213 =>
              exact hHeld.trans qa
            case Rzz213 =>
              clear hK K
              try simp only [Act.put, List.setIfInBounds_toArray, List.set_cons_zero, List.set_cons_succ]
              refine wpAnyL_ready (rs := [4]) (by kernel_rfl) (by simp) ?_
              refine AllReadyL.cons (o := ?ozz211) ?hzz211 (fun K hK => ?kzz211) ?mzz211
              case hzz211 => simp only [List.getElem?_toArray, List.getElem?_cons_zero, List.getElem?_cons_succ]; rfl
              case kzz211 =>
                go_simp
                refine (K4.out _).mono ?_
                rintro e v2 ⟨A3, c3, rfl, o3, q3⟩
                have hcl := hHeld.size
                try have hlt2 := BX.out.lt
                have BX := Lib.hid (BX.out.q q3)
                go_wp2_with fail
                refine hK.out _ _ ?Szz211 (fun hHeld => ?Rzz211)
                case Szz211 =>
                  exact hHeld.trans q3
                case Rzz211 =>
                  clear hK K
                  try simp only [Act.put, List.setIfInBounds_toArray, List.set_cons_zero, List.set_cons_succ]
                  refine wpAnyL_take (i := 5) (oi := ?ozz180) (v := ?vzz180) ?hzz180 ?azz180 ?bzz180 ?czz180 ?kzz180 ?qzz180 ?yzz180 ?szz180 ?rzz180
                  case hzz180 => simp only [List.getElem?_toArray, List.getElem?_cons_zero, List.getElem?_cons_succ]; rfl
                  case azz180 => kernel_rfl
                  case bzz180 => kernel_rfl
                  case czz180 => kernel_rfl
                  case kzz180 => kernel_rfl
                  case yzz180 =>
                    refine Or.inl ⟨by rfl, ?_⟩
                    intro w hSw
                    skip
                    go_simp
                    try with_reducible rfl
                  case qzz180 => exact fun _ _ _ h => h
                  case szz180 => first | assumption | trivial
                  case' rzz180 => simp only [Act.put, List.setIfInBounds_toArray, List.set_cons_zero, List.set_cons_succ]
                  refine wpAnyL_take (i := 6) (oi := ?ozz181) (v := ?vzz181) ?hzz181 ?azz181 ?bzz181 ?czz181 ?kzz181 ?qzz181 ?yzz181 ?szz181 ?rzz181
                  case hzz181 => simp only [List.getElem?_toArray, List.getElem?_cons_zero, List.getElem?_cons_succ]; rfl
                  case azz181 => kernel_rfl
                  case bzz181 => kernel_rfl
                  case czz181 => kernel_rfl
                  case kzz181 => kernel_rfl
                  case yzz181 =>
                    refine Or.inl ⟨by rfl, ?_⟩
                    intro w hSw
                    skip
                    go_simp
                    try with_reducible rfl
                  case qzz181 => exact fun _ _ _ h => h
                  case szz181 => first | assumption | trivial
                  case' rzz181 => simp only [Act.put, List.setIfInBounds_toArray, List.set_cons_zero, List.set_cons_succ]
                  refine wpAnyL_ready (rs := [7, 8, 10]) (by kernel_rfl) (by simp) ?_
                  refine AllReadyL.cons (o := ?ozz208) ?hzz208 (fun K hK => ?kzz208) ?mzz208
                  case hzz208 => simp only [List.getElem?_toArray, List.getElem?_cons_zero, List.getElem?_cons_succ]; rfl
                  case kzz208 =>
                    go_simp
                    refine hK.out _ _ ?Szz208 (fun hHeld => ?Rzz208)
                    case Szz208 =>
                      first | exact hHeld | trivial
                    case Rzz208 =>
                      clear hK K
                      try simp only [Act.put, List.setIfInBounds_toArray, List.set_cons_zero, List.set_cons_succ]
                      refine wpAnyL_ready (rs := [8, 10]) (by kernel_rfl) (by simp) ?_
                      refine AllReadyL.cons (o := ?ozz191) ?hzz191 (fun K hK => ?kzz191) ?mzz191
                      case hzz191 => simp only [List.getElem?_toArray, List.getElem?_cons_zero, List.getElem?_cons_succ]; rfl
                      case kzz191 =>
                        go_simp
                        refine hK.out _ _ ?Szz191 (fun hHeld => ?Rzz191)
                        case Szz191 =>
                          first | exact hHeld | trivial
                        case Rzz191 =>
                          clear hK K
                          try simp only [Act.put, List.setIfInBounds_toArray, List.set_cons_zero, List.set_cons_succ]
                          refine wpAnyL_ready (rs := [10]) (by kernel_rfl) (by simp) ?_
                          refine AllReadyL.consK (o := ?ozz184) ?hzz184 ?lzz184 (fun K hK => ?kzz184) ?mzz184
                          case hzz184 => simp only [List.getElem?_toArray, List.getElem?_cons_zero, List.getElem?_cons_succ]; rfl
                          case lzz184 => kernel_rfl
                          case kzz184 =>
                            have HZ := Lib.hid hHeld
                            obtain ⟨⟨st0, st1⟩, st2, st3⟩ := BX.out.get2
                            go_simp
                            clear st0 st1 st2 st3
                            refine hK.out _ _ ?Rzz184
                            case Rzz184 =>
                              clear hK K
                              try simp only [Act.put, List.setIfInBounds_toArray, List.set_cons_zero, List.set_cons_succ]
                              refine wpAnyH_take (i := 11) (oi := ?ozz182) (v := ?vzz182) ?hzz182 ?azz182 ?bzz182 ?czz182 ?qzz182 ?yzz182 ?szz182 ?rzz182
                              case hzz182 => simp only [List.getElem?_toArray, List.getElem?_cons_zero, List.getElem?_cons_succ]; rfl
                              case azz182 => kernel_rfl
                              case bzz182 => kernel_rfl
                              case czz182 => kernel_rfl
                              case yzz182 =>
                                refine Or.inl ⟨by rfl, ?_⟩
                                intro w hSw
                                skip
                                go_simp
                                try with_reducible rfl
                              case qzz182 => exact fun _ _ _ h => h
                              case szz182 => first | assumption | trivial
                              case' rzz182 => simp only [Act.put, List.setIfInBounds_toArray, List.set_cons_zero, List.set_cons_succ]
                              refine wpAnyH_take (i := 12) (oi := ?ozz183) (v := ?vzz183) ?hzz183 ?azz183 ?bzz183 ?czz183 ?qzz183 ?yzz183 ?szz183 ?rzz183
                              case hzz183 => simp only [List.getElem?_toArray, List.getElem?_cons_zero, List.getElem?_cons_succ]; rfl
                              case azz183 => kernel_rfl
                              case bzz183 => kernel_rfl
                              case czz183 => kernel_rfl
                              case yzz183 =>
                                refine Or.inl ⟨by rfl, ?_⟩
                                intro w hSw
                                skip
                                go_simp
                                try with_reducible rfl
                              case qzz183 => exact fun _ _ _ h => h
                              case szz183 => first | assumption | trivial
                              case' rzz183 => simp only [Act.put, List.setIfInBounds_toArray, List.set_cons_zero, List.set_cons_succ]
                              refine wpAnyH_done (by kernel_rfl) ?_ _
                              have HT9 : Hid (Lst textK ((v2.setCell ⟨nb, 0, none⟩ (.string R)).setCell ⟨nb, 1, none⟩ (.bool Oq)) A3 m.length m ∧ (∀ ad, A3 = some ad → ad.block ≠ n9) ∧ (A3 = none → m.length = 0 ∧ c3 = 0)) := Lib.hid (by
                                have hxl := XB.out.lt
                                have hnil := (o3.in_ (by show m.length * 16 ≤ _; omega)).nil
                                first
                                | exact ⟨lst_far (o3.q qa).lst (own_ne o3 (.inr hnw.out)) _ _, own_ne o3 (.inl (Nat.lt_of_lt_of_le hxl hcl)), hnil⟩
                                | exact ⟨lst_far o3.lst (own_ne o3 (.inl hlt2)) _ _, own_ne o3 (.inl (Nat.lt_of_lt_of_le hxl hcl)), hnil⟩)
                              go_wp2_with fail
                              go_meet
                              exact ⟨nb, A3, c3, rfl, rfl, rfl, hnb, BX.out.set2 _ _, HZ.out.set2 hnb _ _, HT9.out.1, HT9.out.2.1, HT9.out.2.2⟩
                          case' mzz184 => skip
                          exact AllReadyL.nil
                      case' mzz191 => skip
                      refine AllReadyL.consK (o := ?ozz192) ?hzz192 ?lzz192 (fun K hK => ?kzz192) ?mzz192
                      case hzz192 => simp only [List.getElem?_toArray, List.getElem?_cons_zero, List.getElem?_cons_succ]; rfl
                      case lzz192 => kernel_rfl
                      case kzz192 =>
                        have HZ := Lib.hid hHeld
                        obtain ⟨⟨st0, st1⟩, st2, st3⟩ := BX.out.get2
                        go_simp
                        clear st0 st1 st2 st3
                        refine hK.out _ _ ?Rzz192
                        case Rzz192 =>
                          clear hK K
                          try simp only [Act.put, List.setIfInBounds_toArray, List.set_cons_zero, List.set_cons_succ]
                          refine wpAnyH_ready (rs := [8, 11]) (by kernel_rfl) (by simp) ?_
                          refine AllReadyH.cons (o := ?ozz189) ?hzz189 (fun K hK => ?kzz189) ?mzz189
                          case hzz189 => simp only [List.getElem?_toArray, List.getElem?_cons_zero, List.getElem?_cons_succ]; rfl
                          case kzz189 =>
                            go_simp
                            refine hK.out _ _ ?Szz189 (fun hHeld => ?Rzz189)
                            case Szz189 =>
                              first | exact hHeld | trivial
                            case Rzz189 =>
                              clear hK K
                              try simp only [Act.put, List.setIfInBounds_toArray, List.set_cons_zero, List.set_cons_succ]
                              refine wpAnyH_take (i := 11) (oi := ?ozz185) (v := ?vzz185) ?hzz185 ?azz185 ?bzz185 ?czz185 ?qzz185 ?yzz185 ?szz185 ?rzz185
                              case hzz185 => simp only [List.getElem?_toArray, List.getElem?_cons_zero, List.getElem?_cons_succ]; rfl
                              case azz185 => kernel_rfl
                              case bzz185 => kernel_rfl
                              case czz185 => kernel_rfl
                              case yzz185 =>
                                refine Or.inl ⟨by rfl, ?_⟩
                                intro w hSw
                                skip
                                go_simp
                                try with_reducible rfl
                              case qzz185 => exact fun _ _ _ h => h
                              case szz185 => first | assumption | trivial
                              case' rzz185 => simp only [Act.put, List.setIfInBounds_toArray, List.set_cons_zero, List.set_cons_succ]
                              refine wpAnyH_take (i := 12) (oi := ?ozz186) (v := ?vzz186) ?hzz186 ?azz186 ?bzz186 ?czz186 ?qzz186 ?yzz186 ?szz186 ?rzz186
                              case hzz186 => simp only [List.getElem?_toArray, List.getElem?_cons_zero, List.getElem?_cons_succ]; rfl
                              case azz186 => kernel_rfl
                              case bzz186 => kernel_rfl
                              case czz186 => kernel_rfl
                              case yzz186 =>
                                refine Or.inl ⟨by rfl, ?_⟩
                                intro w hSw
                                skip
                                go_simp
                                try with_reducible rfl
                              case qzz186 => exact fun _ _ _ h => h
                              case szz186 => first | assumption | trivial
                              case' rzz186 => simp only [Act.put, List.setIfInBounds_toArray, List.set_cons_zero, List.set_cons_succ]
                              refine wpAnyH_done (by kernel_rfl) ?_ _
                              have HT9 : Hid (Lst textK ((v2.setCell ⟨nb, 0, none⟩ (.string R)).setCell ⟨nb, 1, none⟩ (.bool Oq)) A3 m.length m ∧ (∀ ad, A3 = some ad → ad.block ≠ n9) ∧ (A3 = none → m.length = 0 ∧ c3 = 0)) := Lib.hid (by
                                have hxl := XB.out.lt
                                have hnil := (o3.in_ (by show m.length * 16 ≤ _; omega)).nil
                                first
                                | exact ⟨lst_far (o3.q qa).lst (own_ne o3 (.inr hnw.out)) _ _, own_ne o3 (.inl (Nat.lt_of_lt_of_le hxl hcl)), hnil⟩
                                | exact ⟨lst_far o3.lst (own_ne o3 (.inl hlt2)) _ _, own_ne o3 (.inl (Nat.lt_of_lt_of_le hxl hcl)), hnil⟩)
                              go_wp2_with fail
                              go_meet
                              exact ⟨nb, A3, c3, rfl, rfl, rfl, hnb, BX.out.set2 _ _, HZ.out.set2 hnb _ _, HT9.out.1, HT9.out.2.1, HT9.out.2.2⟩
                          case' mzz189 => skip
                          refine AllReadyH.cons (o := ?ozz190) ?hzz190 (fun K hK => ?kzz190) ?mzz190
                          case hzz190 => simp only [List.getElem?_toArray, List.getElem?_cons_zero, List.getElem?_cons_succ]; rfl
                          case kzz190 =>
                            go_simp
                            refine hK.out _ _ ?Szz190 (fun hHeld => ?Rzz190)
                            case Szz190 =>
                              first | exact hHeld | trivial
                            case Rzz190 =>
                              clear hK K
                              try simp only [Act.put, List.setIfInBounds_toArray, List.set_cons_zero, List.set_cons_succ]
                              refine wpAnyH_take (i := 8) (oi := ?ozz187) (v := ?vzz187) ?hzz187 ?azz187 ?bzz187 ?czz187 ?qzz187 ?yzz187 ?szz187 ?rzz187
                              case hzz187 => simp only [List.getElem?_toArray, List.getElem?_cons_zero, List.getElem?_cons_succ]; rfl
                              case azz187 => kernel_rfl
                              case bzz187 => kernel_rfl
                              case czz187 => kernel_rfl
                              case yzz187 =>
                                refine Or.inl ⟨by rfl, ?_⟩
                                intro w hSw
                                skip
                                go_simp
                                try with_reducible rfl
                              case qzz187 => exact fun _ _ _ h => h
                              case szz187 => first | assumption | trivial
                              case' rzz187 => simp only [Act.put, List.setIfInBounds_toArray, List.set_cons_zero, List.set_cons_succ]
                              refine wpAnyH_take (i := 12) (oi := ?ozz188) (v := ?vzz188) ?hzz188 ?azz188 ?bzz188 ?czz188 ?qzz188 ?yzz188 ?szz188 ?rzz188
                              case hzz188 => simp only [List.getElem?_toArray, List.getElem?_cons_zero, List.getElem?_cons_succ]; rfl
                              case azz188 => kernel_rfl
                              case bzz188 => kernel_rfl
                              case czz188 => kernel_rfl
                              case yzz188 =>
                                refine Or.inl ⟨by rfl, ?_⟩
                                intro w hSw
                                skip
                                go_simp
                                try with_reducible rfl
                              case qzz188 => exact fun _ _ _ h => h
                              case szz188 => first | assumption | trivial
                              case' rzz188 => simp only [Act.put, List.setIfInBounds_toArray, List.set_cons_zero, List.set_cons_succ]
                              refine wpAnyH_done (by kernel_rfl) ?_ _
                              have HT9 : Hid (Lst textK ((v2.setCell ⟨nb, 0, none⟩ (.string R)).setCell ⟨nb, 1, none⟩ (.bool Oq)) A3 m.length m ∧ (∀ ad, A3 = some ad → ad.block ≠ n9) ∧ (A3 = none → m.length = 0 ∧ c3 = 0)) := Lib.hid (by
                                have hxl := XB.out.lt
                                have hnil := (o3.in_ (by show m.length * 16 ≤ _; omega)).nil
                                first
                                | exact ⟨lst_far (o3.q qa).lst (own_ne o3 (.inr hnw.out)) _ _, own_ne o3 (.inl (Nat.lt_of_lt_of_le hxl hcl)), hnil⟩
                                | exact ⟨lst_far o3.lst (own_ne o3 (.inl hlt2)) _ _, own_ne o3 (.inl (Nat.lt_of_lt_of_le hxl hcl)), hnil⟩)
                              go_wp2_with fail
                              go_meet
                              exact ⟨nb, A3, c3, rfl, rfl, rfl, hnb, BX.out.set2 _ _, HZ.out.set2 hnb _ _, HT9.out.1, HT9.out.2.1, HT9.out.2.2⟩
                          case' mzz190 => skip
                          exact AllReadyH.nil
                      case' mzz192 => skip
                      exact AllReadyL.nil
                  case' mzz208 => skip
                  refine AllReadyL.cons (o := ?ozz209) ?hzz209 (fun K hK => ?kzz209) ?mzz209
                  case hzz209 => simp only [List.getElem?_toArray, List.getElem?_cons_zero, List.getElem?_cons_succ]; rfl
                  case kzz209 =>
                    go_simp
                    refine hK.out _ _ ?Szz209 (fun hHeld => ?Rzz209)
                    case Szz209 =>
                      first | exact hHeld | trivial
                    case Rzz209 =>
                      clear hK K
                      try simp only [Act.put, List.setIfInBounds_toArray, List.set_cons_zero, List.set_cons_succ]
                      refine wpAnyL_ready (rs := [7, 10]) (by kernel_rfl) (by simp) ?_
                      refine AllReadyL.cons (o := ?ozz199) ?hzz199 (fun K hK => ?kzz199) ?mzz199
                      case hzz199 => simp only [List.getElem?_toArray, List.getElem?_cons_zero, List.getElem?_cons_succ]; rfl
                      case kzz199 =>
                        go_simp
                        refine hK.out _ _ ?Szz199 (fun hHeld => ?Rzz199)
                        case Szz199 =>
                          first | exact hHeld | trivial
                        case Rzz199 =>
                          clear hK K
                          try simp only [Act.put, List.setIfInBounds_toArray, List.set_cons_zero, List.set_cons_succ]
                          refine wpAnyL_ready (rs := [10]) (by kernel_rfl) (by simp) ?_
                          refine AllReadyL.consK (o := ?ozz195) ?hzz195 ?lzz195 (fun K hK => ?kzz195) ?mzz195
                          case hzz195 => simp only [List.getElem?_toArray, List.getElem?_cons_zero, List.getElem?_cons_succ]; rfl
                          case lzz195 => kernel_rfl
                          case kzz195 =>
                            have HZ := Lib.hid hHeld
                            obtain ⟨⟨st0, st1⟩, st2, st3⟩ := BX.out.get2
                            go_simp
                            clear st0 st1 st2 st3
                            refine hK.out _ _ ?Rzz195
                            case Rzz195 =>
                              clear hK K
                              try simp only [Act.put, List.setIfInBounds_toArray, List.set_cons_zero, List.set_cons_succ]
                              refine wpAnyH_take (i := 11) (oi := ?ozz193) (v := ?vzz193) ?hzz193 ?azz193 ?bzz193 ?czz193 ?qzz193 ?yzz193 ?szz193 ?rzz193
                              case hzz193 => simp only [List.getElem?_toArray, List.getElem?_cons_zero, List.getElem?_cons_succ]; rfl
                              case azz193 => kernel_rfl
                              case bzz193 => kernel_rfl
                              case czz193 => kernel_rfl
                              case yzz193 =>
                                refine Or.inl ⟨by rfl, ?_⟩
                                intro w hSw
                                skip
                                go_simp
                                try with_reducible rfl
                              case qzz193 => exact fun _ _ _ h => h
                              case szz193 => first | assumption | trivial
                              case' rzz193 => simp only [Act.put, List.setIfInBounds_toArray, List.set_cons_zero, List.set_cons_succ]
                              refine wpAnyH_take (i := 12) (oi := ?ozz194) (v := ?vzz194) ?hzz194 ?azz194 ?bzz194 ?czz194 ?qzz194 ?yzz194 ?szz194 ?rzz194
                              case hzz194 => simp only [List.getElem?_toArray, List.getElem?_cons_zero, List.getElem?_cons_succ]; rfl
                              case azz194 => kernel_rfl
                              case bzz194 => kernel_rfl
                              case czz194 => kernel_rfl
                              case yzz194 =>
                                refine Or.inl ⟨by rfl, ?_⟩
                                intro w hSw
                                skip
                                go_simp
                                try with_reducible rfl
                              case qzz194 => exact fun _ _ _ h => h
                              case szz194 => first | assumption | trivial
                              case' rzz194 => simp only [Act.put, List.setIfInBounds_toArray, List.set_cons_zero, List.set_cons_succ]
                              refine wpAnyH_done (by kernel_rfl) ?_ _
                              have HT9 : Hid (Lst textK ((v2.setCell ⟨nb, 0, none⟩ (.string R)).setCell ⟨nb, 1, none⟩ (.bool Oq)) A3 m.length m ∧ (∀ ad, A3 = some ad → ad.block ≠ n9) ∧ (A3 = none → m.length = 0 ∧ c3 = 0)) := Lib.hid (by
                                have hxl := XB.out.lt
                                have hnil := (o3.in_ (by show m.length * 16 ≤ _; omega)).nil
                                first
                                | exact ⟨lst_far (o3.q qa).lst (own_ne o3 (.inr hnw.out)) _ _, own_ne o3 (.inl (Nat.lt_of_lt_of_le hxl hcl)), hnil⟩
                                | exact ⟨lst_far o3.lst (own_ne o3 (.inl hlt2)) _ _, own_ne o3 (.inl (Nat.lt_of_lt_of_le hxl hcl)), hnil⟩)
                              go_wp2_with fail
                              go_meet
                              exact ⟨nb, A3, c3, rfl, rfl, rfl, hnb, BX.out.set2 _ _, HZ.out.set2 hnb _ _, HT9.out.1, HT9.out.2.1, HT9.out.2.2⟩
                          case' mzz195 => skip
                          exact AllReadyL.nil
                      case' mzz199 => skip
                      refine AllReadyL.consK (o := ?ozz200) ?hzz200 ?lzz200 (fun K hK => ?kzz200) ?mzz200
                      case hzz200 => simp only [List.getElem?_toArray, List.getElem?_cons_zero, List.getElem?_cons_succ]; rfl
                      case lzz200 => kernel_rfl
                      case kzz200 =>
                        have HZ := Lib.hid hHeld
                        obtain ⟨⟨st0, st1⟩, st2, st3⟩ := BX.out.get2
                        go_simp
                        clear st0 st1 st2 st3
                        refine hK.out _ _ ?Rzz200
                        case Rzz200 =>
                          clear hK K
                          try simp only [Act.put, List.setIfInBounds_toArray, List.set_cons_zero, List.set_cons_succ]
                          refine wpAnyH_take (i := 7) (oi := ?ozz196) (v := ?vzz196) ?hzz196 ?azz196 ?bzz196 ?czz196 ?qzz196 ?yzz196 ?szz196 ?rzz196
                          case hzz196 => simp only [List.getElem?_toArray, List.getElem?_cons_zero, List.getElem?_cons_succ]; rfl
                          case azz196 => kernel_rfl
                          case bzz196 => kernel_rfl
                          case czz196 => kernel_rfl
                          case yzz196 =>
                            refine Or.inl ⟨by rfl, ?_⟩
                            intro w hSw
                            skip
                            go_simp
                            try with_reducible rfl
                          case qzz196 => exact fun _ _ _ h => h
                          case szz196 => first | assumption | trivial
                          case' rzz196 => simp only [Act.put, List.setIfInBounds_toArray, List.set_cons_zero, List.set_cons_succ]
                          refine wpAnyH_take (i := 11) (oi := ?ozz197) (v := ?vzz197) ?hzz197 ?azz197 ?bzz197 ?czz197 ?qzz197 ?yzz197 ?szz197 ?rzz197
                          case hzz197 => simp only [List.getElem?_toArray, List.getElem?_cons_zero, List.getElem?_cons_succ]; rfl
                          case azz197 => kernel_rfl
                          case bzz197 => kernel_rfl
                          case czz197 => kernel_rfl
                          case yzz197 =>
                            refine Or.inl ⟨by rfl, ?_⟩
                            intro w hSw
                            skip
                            go_simp
                            try with_reducible rfl
                          case qzz197 => exact fun _ _ _ h => h
                          case szz197 => first | assumption | trivial
                          case' rzz197 => simp only [Act.put, List.setIfInBounds_toArray, List.set_cons_zero, List.set_cons_succ]
                          refine wpAnyH_take (i := 12) (oi := ?ozz198) (v := ?vzz198) ?hzz198 ?azz198 ?bzz198 ?czz198 ?qzz198 ?yzz198 ?szz198 ?rzz198
                          case hzz198 => simp only [List.getElem?_toArray, List.getElem?_cons_zero, List.getElem?_cons_succ]; rfl
                          case azz198 => kernel_rfl
                          case bzz198 => kernel_rfl
                          case czz198 => kernel_rfl
                          case yzz198 =>
                            refine Or.inl ⟨by rfl, ?_⟩
                            intro w hSw
                            skip
                            go_simp
                            try with_reducible rfl
                          case qzz198 => exact fun _ _ _ h => h
                          case szz198 => first | assumption | trivial
                          case' rzz198 => simp only [Act.put, List.setIfInBounds_toArray, List.set_cons_zero, List.set_cons_succ]
                          refine wpAnyH_done (by kernel_rfl) ?_ _
                          have HT9 : Hid (Lst textK ((v2.setCell ⟨nb, 0, none⟩ (.string R)).setCell ⟨nb, 1, none⟩ (.bool Oq)) A3 m.length m ∧ (∀ ad, A3 = some ad → ad.block ≠ n9) ∧ (A3 = none → m.length = 0 ∧ c3 = 0)) := Lib.hid (by
                            have hxl := XB.out.lt
                            have hnil := (o3.in_ (by show m.length * 16 ≤ _; omega)).nil
                            first
                            | exact ⟨lst_far (o3.q qa).lst (own_ne o3 (.inr hnw.out)) _ _, own_ne o3 (.inl (Nat.lt_of_lt_of_le hxl hcl)), hnil⟩
                            | exact ⟨lst_far o3.lst (own_ne o3 (.inl hlt2)) _ _, own_ne o3 (.inl (Nat.lt_of_lt_of_le hxl hcl)), hnil⟩)
                          go_wp2_with fail
                          go_meet
                          exact ⟨nb, A3, c3, rfl, rfl, rfl, hnb, BX.out.set2 _ _, HZ.out.set2 hnb _ _, HT9.out.1, HT9.out.2.1, HT9.out.2.2⟩
                      case' mzz200 => skip
                      exact AllReadyL.nil
                  case' mzz209 => skip
                  refine AllReadyL.consK (o := ?ozz210) ?hzz210 ?lzz210 (fun K hK => ?kzz210) ?mzz210
                  case hzz210 => simp only [List.getElem?_toArray, List.getElem?_cons_zero, List.getElem?_cons_succ]; rfl
                  case lzz210 => kernel_rfl
                  case kzz210 =>
                    have HZ := Lib.hid hHeld
                    obtain ⟨⟨st0, st1⟩, st2, st3⟩ := BX.out.get2
                    go_simp
                    clear st0 st1 st2 st3
                    refine hK.out _ _ ?Rzz210
                    case Rzz210 =>
                      clear hK K
                      try simp only [Act.put, List.setIfInBounds_toArray, List.set_cons_zero, List.set_cons_succ]
                      refine wpAnyH_take (i := 7) (oi := ?ozz201) (v := ?vzz201) ?hzz201 ?azz201 ?bzz201 ?czz201 ?qzz201 ?yzz201 ?szz201 ?rzz201
                      case hzz201 => simp only [List.getElem?_toArray, List.getElem?_cons_zero, List.getElem?_cons_succ]; rfl
                      case azz201 => kernel_rfl
                      case bzz201 => kernel_rfl
                      case czz201 => kernel_rfl
                      case yzz201 =>
                        refine Or.inl ⟨by rfl, ?_⟩
                        intro w hSw
                        skip
                        go_simp
                        try with_reducible rfl
                      case qzz201 => exact fun _ _ _ h => h
                      case szz201 => first | assumption | trivial
                      case' rzz201 => simp only [Act.put, List.setIfInBounds_toArray, List.set_cons_zero, List.set_cons_succ]
                      refine wpAnyH_ready (rs := [8, 11]) (by kernel_rfl) (by simp) ?_
                      refine AllReadyH.cons (o := ?ozz206) ?hzz206 (fun K hK => ?kzz206) ?mzz206
                      case hzz206 => simp only [List.getElem?_toArray, List.getElem?_cons_zero, List.getElem?_cons_succ]; rfl
                      case kzz206 =>
                        go_simp
                        refine hK.out _ _ ?Szz206 (fun hHeld => ?Rzz206)
                        case Szz206 =>
                          first | exact hHeld | trivial
                        case Rzz206 =>
                          clear hK K
                          try simp only [Act.put, List.setIfInBounds_toArray, List.set_cons_zero, List.set_cons_succ]
                          refine wpAnyH_take (i := 11) (oi := ?ozz202) (v := ?vzz202) ?hzz202 ?azz202 ?bzz202 ?czz202 ?qzz202 ?yzz202 ?szz202 ?rzz202
                          case hzz202 => simp only [List.getElem?_toArray, List.getElem?_cons_zero, List.getElem?_cons_succ]; rfl
                          case azz202 => kernel_rfl
                          case bzz202 => kernel_rfl
                          case czz202 => kernel_rfl
                          case yzz202 =>
                            refine Or.inl ⟨by rfl, ?_⟩
                            intro w hSw
                            skip
                            go_simp
                            try with_reducible rfl
                          case qzz202 => exact fun _ _ _ h => h
                          case szz202 => first | assumption | trivial
                          case' rzz202 => simp only [Act.put, List.setIfInBounds_toArray, List.set_cons_zero, List.set_cons_succ]
                          refine wpAnyH_take (i := 12) (oi := ?ozz203) (v := ?vzz203) ?hzz203 ?azz203 ?bzz203 ?czz203 ?qzz203 ?yzz203 ?szz203 ?rzz203
                          case hzz203 => simp only [List.getElem?_toArray, List.getElem?_cons_zero, List.getElem?_cons_succ]; rfl
                          case azz203 => kernel_rfl
                          case bzz203 => kernel_rfl
                          case czz203 => kernel_rfl
                          case yzz203 =>
                            refine Or.inl ⟨by rfl, ?_⟩
                            intro w hSw
                            skip
                            go_simp
                            try with_reducible rfl
                          case qzz203 => exact fun _ _ _ h => h
                          case szz203 => first | assumption | trivial
                          case' rzz203 => simp only [Act.put, List.setIfInBounds_toArray, List.set_cons_zero, List.set_cons_succ]
                          refine wpAnyH_done (by kernel_rfl) ?_ _
                          have HT9 : Hid (Lst textK ((v2.setCell ⟨nb, 0, none⟩ (.string R)).setCell ⟨nb, 1, none⟩ (.bool Oq)) A3 m.length m ∧ (∀ ad, A3 = some ad → ad.block ≠ n9) ∧ (A3 = none → m.length = 0 ∧ c3 = 0)) := Lib.hid (by
                            have hxl := XB.out.lt
                            have hnil := (o3.in_ (by show m.length * 16 ≤ _; omega)).nil
                            first
                            | exact ⟨lst_far (o3.q qa).lst (own_ne o3 (.inr hnw.out)) _ _, own_ne o3 (.inl (Nat.lt_of_lt_of_le hxl hcl)), hnil⟩
                            | exact ⟨lst_far o3.lst (own_ne o3 (.inl hlt2)) _ _, own_ne o3 (.inl (Nat.lt_of_lt_of_le hxl hcl)), hnil⟩)
                          go_wp2_with fail
                          go_meet
                          exact ⟨nb, A3, c3, rfl, rfl, rfl, hnb, BX.out.set2 _ _, HZ.out.set2 hnb _ _, HT9.out.1, HT9.out.2.1, HT9.out.2.2⟩
                      case' mzz206 => skip
                      refine AllReadyH.cons (o := ?ozz207) ?hzz207 (fun K hK => ?kzz207) ?mzz207
                      case hzz207 => simp only [List.getElem?_toArray, List.getElem?_cons_zero, List.getElem?_cons_succ]; rfl
                      case kzz207 =>
                        go_simp
                        refine hK.out _ _ ?Szz207 (fun hHeld => ?Rzz207)
                        case Szz207 =>
                          first | exact hHeld | trivial
                        case Rzz207 =>
                          clear hK K
                          try simp only [Act.put, List.setIfInBounds_toArray, List.set_cons_zero, List.set_cons_succ]
                          refine wpAnyH_take (i := 8) (oi := ?ozz204) (v := ?vzz204) ?hzz204 ?azz204 ?bzz204 ?czz204 ?qzz204 ?yzz204 ?szz204 ?rzz204
                          case hzz204 => simp only [List.getElem?_toArray, List.getElem?_cons_zero, List.getElem?_cons_succ]; rfl
                          case azz204 => kernel_rfl
                          case bzz204 => kernel_rfl
                          case czz204 => kernel_rfl
                          case yzz204 =>
                            refine Or.inl ⟨by rfl, ?_⟩
                            intro w hSw
                            skip
                            go_simp
                            try with_reducible rfl
                          case qzz204 => exact fun _ _ _ h => h
                          case szz204 => first | assumption | trivial
                          case' rzz204 => simp only [Act.put, List.setIfInBounds_toArray, List.set_cons_zero, List.set_cons_succ]
                          refine wpAnyH_take (i := 12) (oi := ?ozz205) (v := ?vzz205) ?hzz205 ?azz205 ?bzz205 ?czz205 ?qzz205 ?yzz205 ?szz205 ?rzz205
                          case hzz205 => simp only [List.getElem?_toArray, List.getElem?_cons_zero, List.getElem?_cons_succ]; rfl
                          case azz205 => kernel_rfl
                          case bzz205 => kernel_rfl
                          case czz205 => kernel_rfl
                          case yzz205 =>
                            refine Or.inl ⟨by rfl, ?_⟩
                            intro w hSw
                            skip
                            go_simp
                            try with_reducible rfl
                          case qzz205 => exact fun _ _ _ h => h
                          case szz205 => first | assumption | trivial
                          case' rzz205 => simp only [Act.put, List.setIfInBounds_toArray, List.set_cons_zero, List.set_cons_succ]
                          refine wpAnyH_done (by kernel_rfl) ?_ _
                          have HT9 : Hid (Lst textK ((v2.setCell ⟨nb, 0, none⟩ (.string R)).setCell ⟨nb, 1, none⟩ (.bool Oq)) A3 m.length m ∧ (∀ ad, A3 = some ad → ad.block ≠ n9) ∧ (A3 = none → m.length = 0 ∧ c3 = 0)) := Lib.hid (by
                            have hxl := XB.out.lt
                            have hnil := (o3.in_ (by show m.length * 16 ≤ _; omega)).nil
                            first
                            | exact ⟨lst_far (o3.q qa).lst (own_ne o3 (.inr hnw.out)) _ _, own_ne o3 (.inl (Nat.lt_of_lt_of_le hxl hcl)), hnil⟩
                            | exact ⟨lst_far o3.lst (own_ne o3 (.inl hlt2)) _ _, own_ne o3 (.inl (Nat.lt_of_lt_of_le hxl hcl)), hnil⟩)
                          go_wp2_with fail
                          go_meet
                          exact ⟨nb, A3, c3, rfl, rfl, rfl, hnb, BX.out.set2 _ _, HZ.out.set2 hnb _ _, HT9.out.1, HT9.out.2.1, HT9.out.2.2⟩
                      case' mzz207 => skip
                      exact AllReadyH.nil
                  case' mzz210 => skip
                  exact AllReadyL.nil
              case' mzz211 => skip
              exact AllReadyL.nil
          case' mzz213 => skip
          exact AllReadyL.nil
        case rest =>
          obtain ⟨nb, A3, c3, rfl, rfl, rfl, hnb, z1, z4, ht1, ht2, ht3⟩ := hcut
          clear e0 e1 e2 e3
          have Z1 := Lib.hid z1
          have Z4 := Lib.hid z4
          have HT9 := Lib.hid (And.intro ht1 (And.intro ht2 ht3))
          clear z1 z4 ht1 ht2 ht3
          have BL9 := Lib.hid (HBL.out.trans (Z4.out.below.mono (Nat.le_of_lt XB.out.lt)))
          have OL := Lib.hid (HO2.out.q Z4.out)
          have hrow : some nb ≠ (Value.slice A2 l0.length c2).ownBlock := Ne.symm (own_row_ne HO2.out (.inr hnb))
          have HROW := Lib.hid hrow
          clear hrow
          have hsz : n9 + 1 ≤ wc.heap.size := by have := BL9.out.size; omega
          go_wp2_with (at_builtin
                       refine wpl_appKG textK rfl (.tmp 89) (.tmp 90) 30 rfl rfl (n9 + 1) A2 l0.length c2 l0 rfl OL.out A3 m.length c3 m rfl HT9.out.1 HT9.out.2.2 hll hsz ?_
                       intro A5 c5 w5 o5 g5 t5
                       have L5 := Lib.hid (And.intro o5 (And.intro (BL9.out.trans ((grown_below OL.out g5 hsz).mono (Nat.le_succ n9))) (box_grown Z1.out g5 HROW.out)))
                       clear o5 g5 t5)
          refine (K3.out _ _ _ _ _ _ all _ (by rw [HW.out]; exact L5.out.1.lst) (Holds.carry (B' := w5.heap.size) B3.out.2.2.1 (Nat.le_trans (Nat.le_trans (Nat.le_succ n9) (Nat.le_of_eq hw4.symm)) L5.out.2.1.size) fun p hp => L5.out.2.1.cell hp) hlm).mono ?_
          rintro e w6 ⟨rfl, q6⟩
          have Q6 := Lib.hid (And.intro ((B3.out.1.below.trans (L5.out.2.1.mono hw39)).trans (q6.below.mono (Q.size (B3.out.1.below.trans (L5.out.2.1.mono hw39) : Q w w5)))) (And.intro (L5.out.2.2.q q6) ((B3.out.2.1.below L5.out.2.1 hn6).q q6)))
          clear q6
          obtain ⟨⟨a0, a1⟩, _⟩ := Q6.out.2.1.get2
          obtain ⟨⟨b0, b1⟩, _⟩ := Q6.out.2.2.get2
          obtain ⟨hj1, hj2⟩ := HJJ.out
          go_wp2
          go_ret
          exact ⟨rfl, Q6.out.1⟩

    obtain ⟨hlt, h100⟩ := hlt2
    have hkl : k < cuts.length := by rw [HL.out]; omega
    obtain ⟨ad, rfl, hab, x00⟩ := load_num HD.out.lst hlt hkl
    have hz := bounds_i64 (HP.out cuts[k] (List.getElem_mem hkl))
    generalize cuts[k] = z at x00 hz
    have x0 := box_ HQ.out x00
    have X00 := Lib.hid x00
    clear x00
    obtain ⟨hz0, hz1⟩ := hz
    have hk2 : (k : Int) < (n : Int) := by omega
    have hk3 : (k : Int) < 100 := by omega
    clear hkl hab
    by_cases hneg : z < 0
    · go_wp2
      go_roundw
      case rel => exact ⟨k + 1, f, A2, c2, by omega, by omega, by go_num, rfl, hf, rfl, HO2.out, XB.out, HBL.out⟩
      case measure => simp [intOf]; omega
    by_cases hbig : (s.size : Int) - (f : Int) < z
    · go_wp2
      go_roundw
      case rel => exact ⟨k + 1, f, A2, c2, by omega, by omega, by go_num, rfl, hf, rfl, HO2.out, XB.out, HBL.out⟩
      case measure => simp [intOf]; omega
    obtain ⟨d, rfl⟩ : ∃ d : Nat, z = (d : Int) := ⟨z.toNat, by omega⟩
    obtain ⟨g, hg⟩ : ∃ g, g = f + d := ⟨_, rfl⟩
    have hfd : g ≤ s.size := by omega
    have hfg : f ≤ g := by omega
    have hwr : IntKind.i64.wrap ((f : Int) + (d : Int)) = (g : Int) := by rw [IntKind.wrap_i64]; omega
    have hgp : s.data.toList.take f ++ (s.data.toList.take g).drop f = s.data.toList.take g := by rw [hg]; exact take_piece _ _ _
    clear hg
    obtain ⟨j, m, hfe, hwe, hjb⟩ := feed_step (s.data.toList.take f) ((s.data.toList.take g).drop f)
    rw [hgp] at hfe hwe
    have hex : (s.extract f g).data.toList = (s.data.toList.take g).drop f := by rw [extract_list]
    have hes : (s.extract f g).size ≤ 1048576 := by rw [ByteArray.size_extract]; omega
    have K4 := Lib.hid (fun W => KF.out (of (s.data.toList.take f)) (s.extract f g) W hrs hes)
    rw [hex, hfe] at K4
    have hml : (wh (s.data.toList.take g)).1.length = (wh (s.data.toList.take f)).1.length + m.length := by rw [hwe, List.length_append]
    have hml2 : (wh (s.data.toList.take g)).1.length * 2 ≤ s.size := by
      have h1 := wh_count (s.data.toList.take g)
      have h3 := List.length_take (i := g) (l := s.data.toList)
      rw [hls] at h3; omega
    have HNX := Lib.hid (And.intro hwe hml)
    generalize (wh (s.data.toList.take f)).1 = l0 at *
    generalize hY1 : of (s.data.toList.take g) = y at K4
    have HY1 := Lib.hid hY1
    generalize of (s.data.toList.take f) = x at *
    obtain ⟨xr, xb⟩ := x
    obtain ⟨yr, yb⟩ := y
    unfold RetF bfV at K4
    simp only at K4 XB
    generalize hY : tx yr = Y at *
    have HYR := Lib.hid hY
    generalize tx xr = X at *
    generalize hEE : s.extract f g = E at *
    have hll : (l0.length + m.length) * 16 ≤ 140737488355328 := by omega
    clear hfe hwe hjb hex hes hml hml2 hY1 hY hrs hpl hgp
    obtain ⟨⟨e0, e1⟩, e2, e3⟩ := XB.out.get2
    go_upto_region 10 with (fail)
    go_cut [13, 14, 15] (fun s13 s14 s15 wx => Fed wr n9 [.string Y, .bool yb] m j s13 s14 s15 wx)
    case first =>
      refine wp_region_heldL 16 (Q wr) (by kernel_rfl) ?szz0 (fun hHeld => ?rzz0)
      case szz0 =>
        exact (Q.refl wr).drew
      case' rzz0 => skip
      generalize hgen : wr.drew = D0 at hHeld ⊢
      clear hgen
      refine wpAnyL_take (i := 0) (oi := ?ozz1) (v := ?vzz1) ?hzz1 ?azz1 ?bzz1 ?czz1 ?kzz1 ?qzz1 ?yzz1 ?szz1 ?rzz1
      case hzz1 => simp only [List.getElem?_toArray, List.getElem?_cons_zero]; rfl
      case azz1 => kernel_rfl
      case bzz1 => kernel_rfl
      case czz1 => kernel_rfl
      case kzz1 => kernel_rfl
      case yzz1 =>
        refine Or.inl ⟨by rfl, ?_⟩
        intro w hSw
        have y0 := box_ hSw e0; have y1 := box_ hSw e1; clear hSw
        go_simp
        try with_reducible rfl
      case qzz1 => exact fun _ _ _ h => h
      case szz1 => first | assumption | trivial
      case' rzz1 => simp only [Act.put, List.setIfInBounds_toArray, List.set_cons_zero, List.set_cons_succ]
      refine wpAnyL_take (i := 1) (oi := ?ozz2) (v := ?vzz2) ?hzz2 ?azz2 ?bzz2 ?czz2 ?kzz2 ?qzz2 ?yzz2 ?szz2 ?rzz2
      case hzz2 => simp only [List.getElem?_toArray, List.getElem?_cons_zero, List.getElem?_cons_succ]; rfl
      case azz2 => kernel_rfl
      case bzz2 => kernel_rfl
      case czz2 => kernel_rfl
      case kzz2 => kernel_rfl
      case yzz2 =>
        refine Or.inl ⟨by rfl, ?_⟩
        intro w hSw
        skip
        go_simp
        try with_reducible rfl
      case qzz2 => exact fun _ _ _ h => h
      case szz2 => first | assumption | trivial
      case' rzz2 => simp only [Act.put, List.setIfInBounds_toArray, List.set_cons_zero, List.set_cons_succ]
      refine wpAnyL_take (i := 2) (oi := ?ozz3) (v := ?vzz3) ?hzz3 ?azz3 ?bzz3 ?czz3 ?kzz3 ?qzz3 ?yzz3 ?szz3 ?rzz3
      case hzz3 => simp only [List.getElem?_toArray, List.getElem?_cons_zero, List.getElem?_cons_succ]; rfl
      case azz3 => kernel_rfl
      case bzz3 => kernel_rfl
      case czz3 => kernel_rfl
      case kzz3 => kernel_rfl
      case yzz3 =>
        refine Or.inl ⟨by rfl, ?_⟩
        intro w hSw
        skip
        go_simp
        try with_reducible rfl
      case qzz3 => exact fun _ _ _ h => h
      case szz3 => first | assumption | trivial
      case' rzz3 => simp only [Act.put, List.setIfInBounds_toArray, List.set_cons_zero, List.set_cons_succ]
      refine wpAnyL_take (i := 3) (oi := ?ozz4) (v := ?vzz4) ?hzz4 ?azz4 ?bzz4 ?czz4 ?kzz4 ?qzz4 ?yzz4 ?szz4 ?rzz4
      case hzz4 => simp only [List.getElem?_toArray, List.getElem?_cons_zero, List.getElem?_cons_succ]; rfl
      case azz4 => kernel_rfl
      case bzz4 => kernel_rfl
      case czz4 => kernel_rfl
      case kzz4 => kernel_rfl
      case yzz4 =>
        refine Or.inl ⟨by rfl, ?_⟩
        intro w hSw
        skip
        go_simp
        try with_reducible rfl
      case qzz4 => exact fun _ _ _ h => h
      case szz4 => first | assumption | trivial
      case' rzz4 => simp only [Act.put, List.setIfInBounds_toArray, List.set_cons_zero, List.set_cons_succ]
      refine wpAnyL_take (i := 4) (oi := ?ozz5) (v := ?vzz5) ?hzz5 ?azz5 ?bzz5 ?czz5 ?kzz5 ?qzz5 ?yzz5 ?szz5 ?rzz5
      case hzz5 => simp only [List.getElem?_toArray, List.getElem?_cons_zero, List.getElem?_cons_succ]; rfl
      case azz5 => kernel_rfl
      case bzz5 => kernel_rfl
      case czz5 => kernel_rfl
      case kzz5 => kernel_rfl
      case yzz5 =>
        refine Or.inl ⟨by rfl, ?_⟩
        intro w hSw
        skip
        go_simp
        try with_reducible rfl
      case qzz5 => exact fun _ _ _ h => h
      case szz5 => first | assumption | trivial
      case' rzz5 => simp only [Act.put, List.setIfInBounds_toArray, List.set_cons_zero, List.set_cons_succ]
      refine wpAnyL_take (i := 5) (oi := ?ozz6) (v := ?vzz6) ?hzz6 ?azz6 ?bzz6 ?czz6 ?kzz6 ?qzz6 ?yzz6 ?szz6 ?rzz6
      case hzz6 => simp only [List.getElem?_toArray, List.getElem?_cons_zero, List.getElem?_cons_succ]; rfl
      case azz6 => kernel_rfl
      case bzz6 => kernel_rfl
      case czz6 => kernel_rfl
      case kzz6 => kernel_rfl
      case yzz6 =>
        refine Or.inl ⟨by rfl, ?_⟩
        intro w hSw
        skip
        go_simp
        try with_reducible rfl
      case qzz6 => exact fun _ _ _ h => h
      case szz6 => first | assumption | trivial
      case' rzz6 => simp only [Act.put, List.setIfInBounds_toArray, List.set_cons_zero, List.set_cons_succ]
      refine wpAnyL_take (i := 6) (oi := ?ozz7) (v := ?vzz7) ?hzz7 ?azz7 ?bzz7 ?czz7 ?kzz7 ?qzz7 ?yzz7 ?szz7 ?rzz7
      case hzz7 => simp only [List.getElem?_toArray, List.getElem?_cons_zero, List.getElem?_cons_succ]; rfl
      case azz7 => kernel_rfl
      case bzz7 => kernel_rfl
      case czz7 => kernel_rfl
      case kzz7 => kernel_rfl
      case yzz7 =>
        refine Or.inl ⟨by rfl, ?_⟩
        intro w hSw
        skip
        go_simp
        try with_reducible rfl
      case qzz7 => exact fun _ _ _ h => h
      case szz7 => first | assumption | trivial
      case' rzz7 => simp only [Act.put, List.setIfInBounds_toArray, List.set_cons_zero, List.set_cons_succ]
      refine wpAnyL_take (i := 7) (oi := ?ozz8) (v := ?vzz8) ?hzz8 ?azz8 ?bzz8 ?czz8 ?kzz8 ?qzz8 ?yzz8 ?szz8 ?rzz8
      case hzz8 => simp only [List.getElem?_toArray, List.getElem?_cons_zero, List.getElem?_cons_succ]; rfl
      case azz8 => kernel_rfl
      case bzz8 => kernel_rfl
      case czz8 => kernel_rfl
      case kzz8 => kernel_rfl
      case yzz8 =>
        refine Or.inl ⟨by rfl, ?_⟩
        intro w hSw
        have y4 := box_ hSw x0; clear hSw
        go_simp
        try with_reducible rfl
      case qzz8 => exact fun _ _ _ h => h
      case szz8 => first | assumption | trivial
      case' rzz8 => simp only [Act.put, List.setIfInBounds_toArray, List.set_cons_zero, List.set_cons_succ]
      refine wpAnyL_take (i := 8) (oi := ?ozz9) (v := ?vzz9) ?hzz9 ?azz9 ?bzz9 ?czz9 ?kzz9 ?qzz9 ?yzz9 ?szz9 ?rzz9
      case hzz9 => simp only [List.getElem?_toArray, List.getElem?_cons_zero, List.getElem?_cons_succ]; rfl
      case azz9 => kernel_rfl
      case bzz9 => kernel_rfl
      case czz9 => kernel_rfl
      case kzz9 => kernel_rfl
      case yzz9 =>
        refine Or.inl ⟨by rfl, ?_⟩
        intro w hSw
        skip
        go_simp
        try with_reducible rfl
      case qzz9 => exact fun _ _ _ h => h
      case szz9 => first | assumption | trivial
      case' rzz9 => simp only [Act.put, List.setIfInBounds_toArray, List.set_cons_zero, List.set_cons_succ]
      refine wpAnyL_take (i := 9) (oi := ?ozz10) (v := ?vzz10) ?hzz10 ?azz10 ?bzz10 ?czz10 ?kzz10 ?qzz10 ?yzz10 ?szz10 ?rzz10
      case hzz10 => simp only [List.getElem?_toArray, List.getElem?_cons_zero, List.getElem?_cons_succ]; rfl
      case azz10 => kernel_rfl
      case bzz10 => kernel_rfl
      case czz10 => kernel_rfl
      case kzz10 => kernel_rfl
      case yzz10 =>
        refine Or.inl ⟨by rfl, ?_⟩
        intro w hSw
        skip
        go_simp
        try with_reducible rfl
      case qzz10 => exact fun _ _ _ h => h
      case szz10 => first | assumption | trivial
      case' rzz10 => simp only [Act.put, List.setIfInBounds_toArray, List.set_cons_zero, List.set_cons_succ]
      refine wpAnyL_ready (rs := [10, 15]) (by kernel_rfl) (by simp) ?_
      refine AllReadyL.cons (o := ?ozz108) ?hzz108 (fun K hK => ?kzz108) ?mzz108
      case hzz108 => simp only [List.getElem?_toArray, List.getElem?_cons_zero, List.getElem?_cons_succ]; rfl
      case kzz108 =>
        go_simp
        refine (K4.out _).mono ?_
        rintro e v2 ⟨A3, c3, rfl, o3, q3⟩
        have hcl := hHeld.size
        try have hlt2 := BX.out.lt
        go_wp2_with fail
        refine hK.out _ _ ?Szz108 (fun hHeld => ?Rzz108)
        case Szz108 =>
          exact hHeld.trans q3
        case Rzz108 =>
          clear hK K
          try simp only [Act.put, List.setIfInBounds_toArray, List.set_cons_zero, List.set_cons_succ]
          refine wpAnyL_take (i := 11) (oi := ?ozz11) (v := ?vzz11) ?hzz11 ?azz11 ?bzz11 ?czz11 ?kzz11 ?qzz11 ?yzz11 ?szz11 ?rzz11
          case hzz11 => simp only [List.getElem?_toArray, List.getElem?_cons_zero, List.getElem?_cons_succ]; rfl
          case azz11 => kernel_rfl
          case bzz11 => kernel_rfl
          case czz11 => kernel_rfl
          case kzz11 => kernel_rfl
          case yzz11 =>
            refine Or.inl ⟨by rfl, ?_⟩
            intro w hSw
            skip
            go_simp
            try with_reducible rfl
          case qzz11 => exact fun _ _ _ h => h
          case szz11 => first | assumption | trivial
          case' rzz11 => simp only [Act.put, List.setIfInBounds_toArray, List.set_cons_zero, List.set_cons_succ]
          refine wpAnyL_take (i := 12) (oi := ?ozz12) (v := ?vzz12) ?hzz12 ?azz12 ?bzz12 ?czz12 ?kzz12 ?qzz12 ?yzz12 ?szz12 ?rzz12
          case hzz12 => simp only [List.getElem?_toArray, List.getElem?_cons_zero, List.getElem?_cons_succ]; rfl
          case azz12 => kernel_rfl
          case bzz12 => kernel_rfl
          case czz12 => kernel_rfl
          case kzz12 => kernel_rfl
          case yzz12 =>
            refine Or.inl ⟨by rfl, ?_⟩
            intro w hSw
            skip
            go_simp
            try with_reducible rfl
          case qzz12 => exact fun _ _ _ h => h
          case szz12 => first | assumption | trivial
          case' rzz12 => simp only [Act.put, List.setIfInBounds_toArray, List.set_cons_zero, List.set_cons_succ]
          refine wpAnyL_ready (rs := [13, 14, 15]) (by kernel_rfl) (by simp) ?_
          refine AllReadyL.cons (o := ?ozz73) ?hzz73 (fun K hK => ?kzz73) ?mzz73
          case hzz73 => simp only [List.getElem?_toArray, List.getElem?_cons_zero, List.getElem?_cons_succ]; rfl
          case kzz73 =>
            go_simp
            refine hK.out _ _ ?Szz73 (fun hHeld => ?Rzz73)
            case Szz73 =>
              first | exact hHeld | trivial
            case Rzz73 =>
              clear hK K
              try simp only [Act.put, List.setIfInBounds_toArray, List.set_cons_zero, List.set_cons_succ]
              refine wpAnyL_ready (rs := [14, 15]) (by kernel_rfl) (by simp) ?_
              refine AllReadyL.cons (o := ?ozz28) ?hzz28 (fun K hK => ?kzz28) ?mzz28
              case hzz28 => simp only [List.getElem?_toArray, List.getElem?_cons_zero, List.getElem?_cons_succ]; rfl
              case kzz28 =>
                go_simp
                refine hK.out _ _ ?Szz28 (fun hHeld => ?Rzz28)
                case Szz28 =>
                  first | exact hHeld | trivial
                case Rzz28 =>
                  clear hK K
                  try simp only [Act.put, List.setIfInBounds_toArray, List.set_cons_zero, List.set_cons_succ]
                  refine wpAnyL_ready (rs := [15]) (by kernel_rfl) (by simp) ?_
                  refine AllReadyL.cons (o := ?ozz16) ?hzz16 (fun K hK => ?kzz16) ?mzz16
                  case hzz16 => simp only [List.getElem?_toArray, List.getElem?_cons_zero, List.getElem?_cons_succ]; rfl
                  case kzz16 =>
                    go_simp
                    have BX := Lib.hid (Bx.new v2 [.string ⟨#[]⟩, .bool false] 23)
                    have hnb : wr.heap.size ≤ v2.heap.size := hHeld.size
                    have qa := (Q.refl v2).alloc (.cells #[.string ⟨#[]⟩, .bool false] 23)
                    have BX : Hid (Bx (v2.alloc (.cells #[.string ⟨#[]⟩, .bool false] 23)) v2.heap.size [.string ⟨#[]⟩, .bool false]) := Lib.hid BX.out
                    generalize v2.alloc (.cells #[.string ⟨#[]⟩, .bool false] 23) = Y0 at BX qa ⊢
                    generalize hnbe : v2.heap.size = nb at BX hnb ⊢
                    have hnw := Lib.hid (Nat.le_of_eq hnbe)
                    clear hnbe
                    refine hK.out _ _ ?Szz16 (fun hHeld => ?Rzz16)
                    case Szz16 =>
                      exact hHeld.trans qa
                    case Rzz16 =>
                      clear hK K
                      try simp only [Act.put, List.setIfInBounds_toArray, List.set_cons_zero, List.set_cons_succ]
                      refine wpAnyL_ready (rs := [16]) (by kernel_rfl) (by simp) ?_
                      refine AllReadyL.consK (o := ?ozz15) ?hzz15 ?lzz15 (fun K hK => ?kzz15) ?mzz15
                      case hzz15 => simp only [List.getElem?_toArray, List.getElem?_cons_zero, List.getElem?_cons_succ]; rfl
                      case lzz15 => kernel_rfl
                      case kzz15 =>
                        have HZ := Lib.hid hHeld
                        obtain ⟨⟨st0, st1⟩, st2, st3⟩ := BX.out.get2
                        go_simp
                        clear st0 st1 st2 st3
                        refine hK.out _ _ ?Rzz15
                        case Rzz15 =>
                          clear hK K
                          try simp only [Act.put, List.setIfInBounds_toArray, List.set_cons_zero, List.set_cons_succ]
                          refine wpAnyH_take (i := 17) (oi := ?ozz13) (v := ?vzz13) ?hzz13 ?azz13 ?bzz13 ?czz13 ?qzz13 ?yzz13 ?szz13 ?rzz13
                          case hzz13 => simp only [List.getElem?_toArray, List.getElem?_cons_zero, List.getElem?_cons_succ]; rfl
                          case azz13 => kernel_rfl
                          case bzz13 => kernel_rfl
                          case czz13 => kernel_rfl
                          case yzz13 =>
                            refine Or.inl ⟨by rfl, ?_⟩
                            intro w hSw
                            skip
                            go_simp
                            try with_reducible rfl
                          case qzz13 => exact fun _ _ _ h => h
                          case szz13 => first | assumption | trivial
                          case' rzz13 => simp only [Act.put, List.setIfInBounds_toArray, List.set_cons_zero, List.set_cons_succ]
                          refine wpAnyH_take (i := 18) (oi := ?ozz14) (v := ?vzz14) ?hzz14 ?azz14 ?bzz14 ?czz14 ?qzz14 ?yzz14 ?szz14 ?rzz14
                          case hzz14 => simp only [List.getElem?_toArray, List.getElem?_cons_zero, List.getElem?_cons_succ]; rfl
                          case azz14 => kernel_rfl
                          case bzz14 => kernel_rfl
                          case czz14 => kernel_rfl
                          case yzz14 =>
                            refine Or.inl ⟨by rfl, ?_⟩
                            intro w hSw
                            skip
                            go_simp
                            try with_reducible rfl
                          case qzz14 => exact fun _ _ _ h => h
                          case szz14 => first | assumption | trivial
                          case' rzz14 => simp only [Act.put, List.setIfInBounds_toArray, List.set_cons_zero, List.set_cons_succ]
                          refine wpAnyH_done (by kernel_rfl) ?_ _
                          have HT9 : Hid (Lst textK ((Y0.setCell ⟨nb, 0, none⟩ (.string Y)).setCell ⟨nb, 1, none⟩ (.bool yb)) A3 m.length m ∧ (∀ ad, A3 = some ad → ad.block ≠ n9) ∧ (A3 = none → m.length = 0 ∧ c3 = 0)) := Lib.hid (by
                            have hxl := XB.out.lt
                            have hnil := (o3.in_ (by show m.length * 16 ≤ _; omega)).nil
                            first
                            | exact ⟨lst_far (o3.q qa).lst (own_ne o3 (.inr hnw.out)) _ _, own_ne o3 (.inl (Nat.lt_of_lt_of_le hxl hcl)), hnil⟩
                            | exact ⟨lst_far o3.lst (own_ne o3 (.inl hlt2)) _ _, own_ne o3 (.inl (Nat.lt_of_lt_of_le hxl hcl)), hnil⟩)
                          go_wp2_with fail
                          go_meet
                          exact ⟨nb, A3, c3, rfl, rfl, rfl, hnb, BX.out.set2 _ _, HZ.out.set2 hnb _ _, HT9.out.1, HT9.out.2.1, HT9.out.2.2⟩
                      case' mzz15 => skip
                      exact AllReadyL.nil
                  case' mzz16 => skip
                  exact AllReadyL.nil
              case' mzz28 => skip
              refine AllReadyL.cons (o := ?ozz29) ?hzz29 (fun K hK => ?kzz29) ?mzz29
              case hzz29 => simp only [List.getElem?_toArray, List.getElem?_cons_zero, List.getElem?_cons_succ]; rfl
              case kzz29 =>
                go_simp
                have BX := Lib.hid (Bx.new v2 [.string ⟨#[]⟩, .bool false] 23)
                have hnb : wr.heap.size ≤ v2.heap.size := hHeld.size
                have qa := (Q.refl v2).alloc (.cells #[.string ⟨#[]⟩, .bool false] 23)
                have BX : Hid (Bx (v2.alloc (.cells #[.string ⟨#[]⟩, .bool false] 23)) v2.heap.size [.string ⟨#[]⟩, .bool false]) := Lib.hid BX.out
                generalize v2.alloc (.cells #[.string ⟨#[]⟩, .bool false] 23) = Y1 at BX qa ⊢
                generalize hnbe : v2.heap.size = nb at BX hnb ⊢
                have hnw := Lib.hid (Nat.le_of_eq hnbe)
                clear hnbe
                refine hK.out _ _ ?Szz29 (fun hHeld => ?Rzz29)
                case Szz29 =>
                  exact hHeld.trans qa
                case Rzz29 =>
                  clear hK K
                  try simp only [Act.put, List.setIfInBounds_toArray, List.set_cons_zero, List.set_cons_succ]
                  refine wpAnyL_ready (rs := [14, 16]) (by kernel_rfl) (by simp) ?_
                  refine AllReadyL.cons (o := ?ozz26) ?hzz26 (fun K hK => ?kzz26) ?mzz26
                  case hzz26 => simp only [List.getElem?_toArray, List.getElem?_cons_zero, List.getElem?_cons_succ]; rfl
                  case kzz26 =>
                    go_simp
                    refine hK.out _ _ ?Szz26 (fun hHeld => ?Rzz26)
                    case Szz26 =>
                      first | exact hHeld | trivial
                    case Rzz26 =>
                      clear hK K
                      try simp only [Act.put, List.setIfInBounds_toArray, List.set_cons_zero, List.set_cons_succ]
                      refine wpAnyL_ready (rs := [16]) (by kernel_rfl) (by simp) ?_
                      refine AllReadyL.consK (o := ?ozz19) ?hzz19 ?lzz19 (fun K hK => ?kzz19) ?mzz19
                      case hzz19 => simp only [List.getElem?_toArray, List.getElem?_cons_zero, List.getElem?_cons_succ]; rfl
                      case lzz19 => kernel_rfl
                      case kzz19 =>
                        have HZ := Lib.hid hHeld
                        obtain ⟨⟨st0, st1⟩, st2, st3⟩ := BX.out.get2
                        go_simp
                        clear st0 st1 st2 st3
                        refine hK.out _ _ ?Rzz19
                        case Rzz19 =>
                          clear hK K
                          try simp only [Act.put, List.setIfInBounds_toArray, List.set_cons_zero, List.set_cons_succ]
                          refine wpAnyH_take (i := 17) (oi := ?ozz17) (v := ?vzz17) ?hzz17 ?azz17 ?bzz17 ?czz17 ?qzz17 ?yzz17 ?szz17 ?rzz17
                          case hzz17 => simp only [List.getElem?_toArray, List.getElem?_cons_zero, List.getElem?_cons_succ]; rfl
                          case azz17 => kernel_rfl
                          case bzz17 => kernel_rfl
                          case czz17 => kernel_rfl
                          case yzz17 =>
                            refine Or.inl ⟨by rfl, ?_⟩
                            intro w hSw
                            skip
                            go_simp
                            try with_reducible rfl
                          case qzz17 => exact fun _ _ _ h => h
                          case szz17 => first | assumption | trivial
                          case' rzz17 => simp only [Act.put, List.setIfInBounds_toArray, List.set_cons_zero, List.set_cons_succ]
                          refine wpAnyH_take (i := 18) (oi := ?ozz18) (v := ?vzz18) ?hzz18 ?azz18 ?bzz18 ?czz18 ?qzz18 ?yzz18 ?szz18 ?rzz18
                          case hzz18 => simp only [List.getElem?_toArray, List.getElem?_cons_zero, List.getElem?_cons_succ]; rfl
                          case azz18 => kernel_rfl
                          case bzz18 => kernel_rfl
                          case czz18 => kernel_rfl
                          case yzz18 =>
                            refine Or.inl ⟨by rfl, ?_⟩
                            intro w hSw
                            skip
                            go_simp
                            try with_reducible rfl
                          case qzz18 => exact fun _ _ _ h => h
                          case szz18 => first | assumption | trivial
                          case' rzz18 => simp only [Act.put, List.setIfInBounds_toArray, List.set_cons_zero, List.set_cons_succ]
                          refine wpAnyH_done (by kernel_rfl) ?_ _
                          have HT9 : Hid (Lst textK ((Y1.setCell ⟨nb, 0, none⟩ (.string Y)).setCell ⟨nb, 1, none⟩ (.bool yb)) A3 m.length m ∧ (∀ ad, A3 = some ad → ad.block ≠ n9) ∧ (A3 = none → m.length = 0 ∧ c3 = 0)) := Lib.hid (by
                            have hxl := XB.out.lt
                            have hnil := (o3.in_ (by show m.length * 16 ≤ _; omega)).nil
                            first
                            | exact ⟨lst_far (o3.q qa).lst (own_ne o3 (.inr hnw.out)) _ _, own_ne o3 (.inl (Nat.lt_of_lt_of_le hxl hcl)), hnil⟩
                            | exact ⟨lst_far o3.lst (own_ne o3 (.inl hlt2)) _ _, own_ne o3 (.inl (Nat.lt_of_lt_of_le hxl hcl)), hnil⟩)
                          go_wp2_with fail
                          go_meet
                          exact ⟨nb, A3, c3, rfl, rfl, rfl, hnb, BX.out.set2 _ _, HZ.out.set2 hnb _ _, HT9.out.1, HT9.out.2.1, HT9.out.2.2⟩
                      case' mzz19 => skip
                      exact AllReadyL.nil
                  case' mzz26 => skip
                  refine AllReadyL.consK (o := ?ozz27) ?hzz27 ?lzz27 (fun K hK => ?kzz27) ?mzz27
                  case hzz27 => simp only [List.getElem?_toArray, List.getElem?_cons_zero, List.getElem?_cons_succ]; rfl
                  case lzz27 => kernel_rfl
                  case kzz27 =>
                    have HZ := Lib.hid hHeld
                    obtain ⟨⟨st0, st1⟩, st2, st3⟩ := BX.out.get2
                    go_simp
                    clear st0 st1 st2 st3
                    refine hK.out _ _ ?Rzz27
                    case Rzz27 =>
                      clear hK K
                      try simp only [Act.put, List.setIfInBounds_toArray, List.set_cons_zero, List.set_cons_succ]
                      refine wpAnyH_ready (rs := [14, 17]) (by kernel_rfl) (by simp) ?_
                      refine AllReadyH.cons (o := ?ozz24) ?hzz24 (fun K hK => ?kzz24) ?mzz24
                      case hzz24 => simp only [List.getElem?_toArray, List.getElem?_cons_zero, List.getElem?_cons_succ]; rfl
                      case kzz24 =>
                        go_simp
                        refine hK.out _ _ ?Szz24 (fun hHeld => ?Rzz24)
                        case Szz24 =>
                          first | exact hHeld | trivial
                        case Rzz24 =>
                          clear hK K
                          try simp only [Act.put, List.setIfInBounds_toArray, List.set_cons_zero, List.set_cons_succ]
                          refine wpAnyH_take (i := 17) (oi := ?ozz20) (v := ?vzz20) ?hzz20 ?azz20 ?bzz20 ?czz20 ?qzz20 ?yzz20 ?szz20 ?rzz20
                          case hzz20 => simp only [List.getElem?_toArray, List.getElem?_cons_zero, List.getElem?_cons_succ]; rfl
                          case azz20 => kernel_rfl
                          case bzz20 => kernel_rfl
                          case czz20 => kernel_rfl
                          case yzz20 =>
                            refine Or.inl ⟨by rfl, ?_⟩
                            intro w hSw
                            skip
                            go_simp
                            try with_reducible rfl
                          case qzz20 => exact fun _ _ _ h => h
                          case szz20 => first | assumption | trivial
                          case' rzz20 => simp only [Act.put, List.setIfInBounds_toArray, List.set_cons_zero, List.set_cons_succ]
                          refine wpAnyH_take (i := 18) (oi := ?ozz21) (v := ?vzz21) ?hzz21 ?azz21 ?bzz21 ?czz21 ?qzz21 ?yzz21 ?szz21 ?rzz21
                          case hzz21 => simp only [List.getElem?_toArray, List.getElem?_cons_zero, List.getElem?_cons_succ]; rfl
                          case azz21 => kernel_rfl
                          case bzz21 => kernel_rfl
                          case czz21 => kernel_rfl
                          case yzz21 =>
                            refine Or.inl ⟨by rfl, ?_⟩
                            intro w hSw
                            skip
                            go_simp
                            try with_reducible rfl
                          case qzz21 => exact fun _ _ _ h => h
                          case szz21 => first | assumption | trivial
                          case' rzz21 => simp only [Act.put, List.setIfInBounds_toArray, List.set_cons_zero, List.set_cons_succ]
                          refine wpAnyH_done (by kernel_rfl) ?_ _
                          have HT9 : Hid (Lst textK ((Y1.setCell ⟨nb, 0, none⟩ (.string Y)).setCell ⟨nb, 1, none⟩ (.bool yb)) A3 m.length m ∧ (∀ ad, A3 = some ad → ad.block ≠ n9) ∧ (A3 = none → m.length = 0 ∧ c3 = 0)) := Lib.hid (by
                            have hxl := XB.out.lt
                            have hnil := (o3.in_ (by show m.length * 16 ≤ _; omega)).nil
                            first
                            | exact ⟨lst_far (o3.q qa).lst (own_ne o3 (.inr hnw.out)) _ _, own_ne o3 (.inl (Nat.lt_of_lt_of_le hxl hcl)), hnil⟩
                            | exact ⟨lst_far o3.lst (own_ne o3 (.inl hlt2)) _ _, own_ne o3 (.inl (Nat.lt_of_lt_of_le hxl hcl)), hnil⟩)
                          go_wp2_with fail
                          go_meet
                          exact ⟨nb, A3, c3, rfl, rfl, rfl, hnb, BX.out.set2 _ _, HZ.out.set2 hnb _ _, HT9.out.1, HT9.out.2.1, HT9.out.2.2⟩
                      case' mzz24 => skip
                      refine AllReadyH.cons (o := ?ozz25) ?hzz25 (fun K hK => ?kzz25) ?mzz25
                      case hzz25 => simp only [List.getElem?_toArray, List.getElem?_cons_zero, List.getElem?_cons_succ]; rfl
                      case kzz25 =>
                        go_simp
                        refine hK.out _ _ ?Szz25 (fun hHeld => ?Rzz25)
                        case Szz25 =>
                          first | exact hHeld | trivial
                        case Rzz25 =>
                          clear hK K
                          try simp only [Act.put, List.setIfInBounds_toArray, List.set_cons_zero, List.set_cons_succ]
                          refine wpAnyH_take (i := 14) (oi := ?ozz22) (v := ?vzz22) ?hzz22 ?azz22 ?bzz22 ?czz22 ?qzz22 ?yzz22 ?szz22 ?rzz22
                          case hzz22 => simp only [List.getElem?_toArray, List.getElem?_cons_zero, List.getElem?_cons_succ]; rfl
                          case azz22 => kernel_rfl
                          case bzz22 => kernel_rfl
                          case czz22 => kernel_rfl
                          case yzz22 =>
                            refine Or.inl ⟨by rfl, ?_⟩
                            intro w hSw
                            skip
                            go_simp
                            try with_reducible rfl
                          case qzz22 => exact fun _ _ _ h => h
                          case szz22 => first | assumption | trivial
                          case' rzz22 => simp only [Act.put, List.setIfInBounds_toArray, List.set_cons_zero, List.set_cons_succ]
                          refine wpAnyH_take (i := 18) (oi := ?ozz23) (v := ?vzz23) ?hzz23 ?azz23 ?bzz23 ?czz23 ?qzz23 ?yzz23 ?szz23 ?rzz23
                          case hzz23 => simp only [List.getElem?_toArray, List.getElem?_cons_zero, List.getElem?_cons_succ]; rfl
                          case azz23 => kernel_rfl
                          case bzz23 => kernel_rfl
                          case czz23 => kernel_rfl
                          case yzz23 =>
                            refine Or.inl ⟨by rfl, ?_⟩
                            intro w hSw
                            skip
                            go_simp
                            try with_reducible rfl
                          case qzz23 => exact fun _ _ _ h => h
                          case szz23 => first | assumption | trivial
                          case' rzz23 => simp only [Act.put, List.setIfInBounds_toArray, List.set_cons_zero, List.set_cons_succ]
                          refine wpAnyH_done (by kernel_rfl) ?_ _
                          have HT9 : Hid (Lst textK ((Y1.setCell ⟨nb, 0, none⟩ (.string Y)).setCell ⟨nb, 1, none⟩ (.bool yb)) A3 m.length m ∧ (∀ ad, A3 = some ad → ad.block ≠ n9) ∧ (A3 = none → m.length = 0 ∧ c3 = 0)) := Lib.hid (by
                            have hxl := XB.out.lt
                            have hnil := (o3.in_ (by show m.length * 16 ≤ _; omega)).nil
                            first
                            | exact ⟨lst_far (o3.q qa).lst (own_ne o3 (.inr hnw.out)) _ _, own_ne o3 (.inl (Nat.lt_of_lt_of_le hxl hcl)), hnil⟩
                            | exact ⟨lst_far o3.lst (own_ne o3 (.inl hlt2)) _ _, own_ne o3 (.inl (Nat.lt_of_lt_of_le hxl hcl)), hnil⟩)
                          go_wp2_with fail
                          go_meet
                          exact ⟨nb, A3, c3, rfl, rfl, rfl, hnb, BX.out.set2 _ _, HZ.out.set2 hnb _ _, HT9.out.1, HT9.out.2.1, HT9.out.2.2⟩
                      case' mzz25 => skip
                      exact AllReadyH.nil
                  case' mzz27 => skip
                  exact AllReadyL.nil
              case' mzz29 => skip
              exact AllReadyL.nil
          case' mzz73 => skip
          refine AllReadyL.cons (o := ?ozz74) ?hzz74 (fun K hK => ?kzz74) ?mzz74
          case hzz74 => simp only [List.getElem?_toArray, List.getElem?_cons_zero, List.getElem?_cons_succ]; rfl
          case kzz74 =>
            go_simp
            refine hK.out _ _ ?Szz74 (fun hHeld => ?Rzz74)
            case Szz74 =>
              first | exact hHeld | trivial
            case Rzz74 =>
              clear hK K
              try simp only [Act.put, List.setIfInBounds_toArray, List.set_cons_zero, List.set_cons_succ]
              refine wpAnyL_ready (rs := [13, 15]) (by kernel_rfl) (by simp) ?_
              refine AllReadyL.cons (o := ?ozz42) ?hzz42 (fun K hK => ?kzz42) ?mzz42
              case hzz42 => simp only [List.getElem?_toArray, List.getElem?_cons_zero, List.getElem?_cons_succ]; rfl
              case kzz42 =>
                go_simp
                refine hK.out _ _ ?Szz42 (fun hHeld => ?Rzz42)
                case Szz42 =>
                  first | exact hHeld | trivial
                case Rzz42 =>
                  clear hK K
                  try simp only [Act.put, List.setIfInBounds_toArray, List.set_cons_zero, List.set_cons_succ]
                  refine wpAnyL_ready (rs := [15]) (by kernel_rfl) (by simp) ?_
                  refine AllReadyL.cons (o := ?ozz33) ?hzz33 (fun K hK => ?kzz33) ?mzz33
                  case hzz33 => simp only [List.getElem?_toArray, List.getElem?_cons_zero, List.getElem?_cons_succ]; rfl
                  case kzz33 =>
                    go_simp
                    have BX := Lib.hid (Bx.new v2 [.string ⟨#[]⟩, .bool false] 23)
                    have hnb : wr.heap.size ≤ v2.heap.size := hHeld.size
                    have qa := (Q.refl v2).alloc (.cells #[.string ⟨#[]⟩, .bool false] 23)
                    have BX : Hid (Bx (v2.alloc (.cells #[.string ⟨#[]⟩, .bool false] 23)) v2.heap.size [.string ⟨#[]⟩, .bool false]) := Lib.hid BX.out
                    generalize v2.alloc (.cells #[.string ⟨#[]⟩, .bool false] 23) = Y2 at BX qa ⊢
                    generalize hnbe : v2.heap.size = nb at BX hnb ⊢
                    have hnw := Lib.hid (Nat.le_of_eq hnbe)
                    clear hnbe
                    refine hK.out _ _ ?Szz33 (fun hHeld => ?Rzz33)
                    case Szz33 =>
                      exact hHeld.trans qa
                    case Rzz33 =>
                      clear hK K
                      try simp only [Act.put, List.setIfInBounds_toArray, List.set_cons_zero, List.set_cons_succ]
                      refine wpAnyL_ready (rs := [16]) (by kernel_rfl) (by simp) ?_
                      refine AllReadyL.consK (o := ?ozz32) ?hzz32 ?lzz32 (fun K hK => ?kzz32) ?mzz32
                      case hzz32 => simp only [List.getElem?_toArray, List.getElem?_cons_zero, List.getElem?_cons_succ]; rfl
                      case lzz32 => kernel_rfl
                      case kzz32 =>
                        have HZ := Lib.hid hHeld
                        obtain ⟨⟨st0, st1⟩, st2, st3⟩ := BX.out.get2
                        go_simp
                        clear st0 st1 st2 st3
                        refine hK.out _ _ ?Rzz32
                        case Rzz32 =>
                          clear hK K
                          try simp only [Act.put, List.setIfInBounds_toArray, List.set_cons_zero, List.set_cons_succ]
                          refine wpAnyH_take (i := 17) (oi := ?ozz30) (v := ?vzz30) ?hzz30 ?azz30 ?bzz30 ?czz30 ?qzz30 ?yzz30 ?szz30 ?rzz30
                          case hzz30 => simp only [List.getElem?_toArray, List.getElem?_cons_zero, List.getElem?_cons_succ]; rfl
                          case azz30 => kernel_rfl
                          case bzz30 => kernel_rfl
                          case czz30 => kernel_rfl
                          case yzz30 =>
                            refine Or.inl ⟨by rfl, ?_⟩
                            intro w hSw
                            skip
                            go_simp
                            try with_reducible rfl
                          case qzz30 => exact fun _ _ _ h => h
                          case szz30 => first | assumption | trivial
                          case' rzz30 => simp only [Act.put, List.setIfInBounds_toArray, List.set_cons_zero, List.set_cons_succ]
                          refine wpAnyH_take (i := 18) (oi := ?ozz31) (v := ?vzz31) ?hzz31 ?azz31 ?bzz31 ?czz31 ?qzz31 ?yzz31 ?szz31 ?rzz31
                          case hzz31 => simp only [List.getElem?_toArray, List.getElem?_cons_zero, List.getElem?_cons_succ]; rfl
                          case azz31 => kernel_rfl
                          case bzz31 => kernel_rfl
                          case czz31 => kernel_rfl
                          case yzz31 =>
                            refine Or.inl ⟨by rfl, ?_⟩
                            intro w hSw
                            skip
                            go_simp
                            try with_reducible rfl
                          case qzz31 => exact fun _ _ _ h => h
                          case szz31 => first | assumption | trivial
                          case' rzz31 => simp only [Act.put, List.setIfInBounds_toArray, List.set_cons_zero, List.set_cons_succ]
                          refine wpAnyH_done (by kernel_rfl) ?_ _
                          have HT9 : Hid (Lst textK ((Y2.setCell ⟨nb, 0, none⟩ (.string Y)).setCell ⟨nb, 1, none⟩ (.bool yb)) A3 m.length m ∧ (∀ ad, A3 = some ad → ad.block ≠ n9) ∧ (A3 = none → m.length = 0 ∧ c3 = 0)) := Lib.hid (by
                            have hxl := XB.out.lt
                            have hnil := (o3.in_ (by show m.length * 16 ≤ _; omega)).nil
                            first
                            | exact ⟨lst_far (o3.q qa).lst (own_ne o3 (.inr hnw.out)) _ _, own_ne o3 (.inl (Nat.lt_of_lt_of_le hxl hcl)), hnil⟩
                            | exact ⟨lst_far o3.lst (own_ne o3 (.inl hlt2)) _ _, own_ne o3 (.inl (Nat.lt_of_lt_of_le hxl hcl)), hnil⟩)
                          go_wp2_with fail
                          go_meet
                          exact ⟨nb, A3, c3, rfl, rfl, rfl, hnb, BX.out.set2 _ _, HZ.out.set2 hnb _ _, HT9.out.1, HT9.out.2.1, HT9.out.2.2⟩
                      case' mzz32 => skip
                      exact AllReadyL.nil
                  case' mzz33 => skip
                  exact AllReadyL.nil
              case' mzz42 => skip
              refine AllReadyL.cons (o := ?ozz43) ?hzz43 (fun K hK => ?kzz43) ?mzz43
              case hzz43 => simp only [List.getElem?_toArray, List.getElem?_cons_zero, List.getElem?_cons_succ]; rfl
              case kzz43 =>
                go_simp
                have BX := Lib.hid (Bx.new v2 [.string ⟨#[]⟩, .bool false] 23)
                have hnb : wr.heap.size ≤ v2.heap.size := hHeld.size
                have qa := (Q.refl v2).alloc (.cells #[.string ⟨#[]⟩, .bool false] 23)
                have BX : Hid (Bx (v2.alloc (.cells #[.string ⟨#[]⟩, .bool false] 23)) v2.heap.size [.string ⟨#[]⟩, .bool false]) := Lib.hid BX.out
                generalize v2.alloc (.cells #[.string ⟨#[]⟩, .bool false] 23) = Y3 at BX qa ⊢
                generalize hnbe : v2.heap.size = nb at BX hnb ⊢
                have hnw := Lib.hid (Nat.le_of_eq hnbe)
                clear hnbe
                refine hK.out _ _ ?Szz43 (fun hHeld => ?Rzz43)
                case Szz43 =>
                  exact hHeld.trans qa
                case Rzz43 =>
                  clear hK K
                  try simp only [Act.put, List.setIfInBounds_toArray, List.set_cons_zero, List.set_cons_succ]
                  refine wpAnyL_ready (rs := [13, 16]) (by kernel_rfl) (by simp) ?_
                  refine AllReadyL.cons (o := ?ozz40) ?hzz40 (fun K hK => ?kzz40) ?mzz40
                  case hzz40 => simp only [List.getElem?_toArray, List.getElem?_cons_zero, List.getElem?_cons_succ]; rfl
                  case kzz40 =>
                    go_simp
                    refine hK.out _ _ ?Szz40 (fun hHeld => ?Rzz40)
                    case Szz40 =>
                      first | exact hHeld | trivial
                    case Rzz40 =>
                      clear hK K
                      try simp only [Act.put, List.setIfInBounds_toArray, List.set_cons_zero, List.set_cons_succ]
                      refine wpAnyL_ready (rs := [16]) (by kernel_rfl) (by simp) ?_
                      refine AllReadyL.consK (o := ?ozz36) ?hzz36 ?lzz36 (fun K hK => ?kzz36) ?mzz36
                      case hzz36 => simp only [List.getElem?_toArray, List.getElem?_cons_zero, List.getElem?_cons_succ]; rfl
                      case lzz36 => kernel_rfl
                      case kzz36 =>
                        have HZ := Lib.hid hHeld
                        obtain ⟨⟨st0, st1⟩, st2, st3⟩ := BX.out.get2
                        go_simp
                        clear st0 st1 st2 st3
                        refine hK.out _ _ ?Rzz36
                        case Rzz36 =>
                          clear hK K
                          try simp only [Act.put, List.setIfInBounds_toArray, List.set_cons_zero, List.set_cons_succ]
                          refine wpAnyH_take (i := 17) (oi := ?ozz34) (v := ?vzz34) ?hzz34 ?azz34 ?bzz34 ?czz34 ?qzz34 ?yzz34 ?szz34 ?rzz34
                          case hzz34 => simp only [List.getElem?_toArray, List.getElem?_cons_zero, List.getElem?_cons_succ]; rfl
                          case azz34 => kernel_rfl
                          case bzz34 => kernel_rfl
                          case czz34 => kernel_rfl
                          case yzz34 =>
                            refine Or.inl ⟨by rfl, ?_⟩
                            intro w hSw
                            skip
                            go_simp
                            try with_reducible rfl
                          case qzz34 => exact fun _ _ _ h => h
                          case szz34 => first | assumption | trivial
                          case' rzz34 => simp only [Act.put, List.setIfInBounds_toArray, List.set_cons_zero, List.set_cons_succ]
                          refine wpAnyH_take (i := 18) (oi := ?ozz35) (v := ?vzz35) ?hzz35 ?azz35 ?bzz35 ?czz35 ?qzz35 ?yzz35 ?szz35 ?rzz35
                          case hzz35 => simp only [List.getElem?_toArray, List.getElem?_cons_zero, List.getElem?_cons_succ]; rfl
                          case azz35 => kernel_rfl
                          case bzz35 => kernel_rfl
                          case czz35 => kernel_rfl
                          case yzz35 =>
                            refine Or.inl ⟨by rfl, ?_⟩
                            intro w hSw
                            skip
                            go_simp
                            try with_reducible rfl
                          case qzz35 => exact fun _ _ _ h => h
                          case szz35 => first | assumption | trivial
                          case' rzz35 => simp only [Act.put, List.setIfInBounds_toArray, List.set_cons_zero, List.set_cons_succ]
                          refine wpAnyH_done (by kernel_rfl) ?_ _
                          have HT9 : Hid (Lst textK ((Y3.setCell ⟨nb, 0, none⟩ (.string Y)).setCell ⟨nb, 1, none⟩ (.bool yb)) A3 m.length m ∧ (∀ ad, A3 = some ad → ad.block ≠ n9) ∧ (A3 = none → m.length = 0 ∧ c3 = 0)) := Lib.hid (by
                            have hxl := XB.out.lt
                            have hnil := (o3.in_ (by show m.length * 16 ≤ _; omega)).nil
                            first
                            | exact ⟨lst_far (o3.q qa).lst (own_ne o3 (.inr hnw.out)) _ _, own_ne o3 (.inl (Nat.lt_of_lt_of_le hxl hcl)), hnil⟩
                            | exact ⟨lst_far o3.lst (own_ne o3 (.inl hlt2)) _ _, own_ne o3 (.inl (Nat.lt_of_lt_of_le hxl hcl)), hnil⟩)
                          go_wp2_with fail
                          go_meet
                          exact ⟨nb, A3, c3, rfl, rfl, rfl, hnb, BX.out.set2 _ _, HZ.out.set2 hnb _ _, HT9.out.1, HT9.out.2.1, HT9.out.2.2⟩
                      case' mzz36 => skip
                      exact AllReadyL.nil
                  case' mzz40 => skip
                  refine AllReadyL.consK (o := ?ozz41) ?hzz41 ?lzz41 (fun K hK => ?kzz41) ?mzz41
                  case hzz41 => simp only [List.getElem?_toArray, List.getElem?_cons_zero, List.getElem?_cons_succ]; rfl
                  case lzz41 => kernel_rfl
                  case kzz41 =>
                    have HZ := Lib.hid hHeld
                    obtain ⟨⟨st0, st1⟩, st2, st3⟩ := BX.out.get2
                    go_simp
                    clear st0 st1 st2 st3
                    refine hK.out _ _ ?Rzz41
                    case Rzz41 =>
                      clear hK K
                      try simp only [Act.put, List.setIfInBounds_toArray, List.set_cons_zero, List.set_cons_succ]
                      refine wpAnyH_take (i := 13) (oi := ?ozz37) (v := ?vzz37) ?hzz37 ?azz37 ?bzz37 ?czz37 ?qzz37 ?yzz37 ?szz37 ?rzz37
                      case hzz37 => simp only [List.getElem?_toArray, List.getElem?_cons_zero, List.getElem?_cons_succ]; rfl
                      case azz37 => kernel_rfl
                      case bzz37 => kernel_rfl
                      case czz37 => kernel_rfl
                      case yzz37 =>
                        refine Or.inl ⟨by rfl, ?_⟩
                        intro w hSw
                        skip
                        go_simp
                        try with_reducible rfl
                      case qzz37 => exact fun _ _ _ h => h
                      case szz37 => first | assumption | trivial
                      case' rzz37 => simp only [Act.put, List.setIfInBounds_toArray, List.set_cons_zero, List.set_cons_succ]
                      refine wpAnyH_take (i := 17) (oi := ?ozz38) (v := ?vzz38) ?hzz38 ?azz38 ?bzz38 ?czz38 ?qzz38 ?yzz38 ?szz38 ?rzz38
                      case hzz38 => simp only [List.getElem?_toArray, List.getElem?_cons_zero, List.getElem?_cons_succ]; rfl
                      case azz38 => kernel_rfl
                      case bzz38 => kernel_rfl
                      case czz38 => kernel_rfl
                      case yzz38 =>
                        refine Or.inl ⟨by rfl, ?_⟩
                        intro w hSw
                        skip
                        go_simp
                        try with_reducible rfl
                      case qzz38 => exact fun _ _ _ h => h
                      case szz38 => first | assumption | trivial
                      case' rzz38 => simp only [Act.put, List.setIfInBounds_toArray, List.set_cons_zero, List.set_cons_succ]
                      refine wpAnyH_take (i := 18) (oi := ?ozz39) (v := ?vzz39) ?hzz39 ?azz39 ?bzz39 ?czz39 ?qzz39 ?yzz39 ?szz39 ?rzz39
                      case hzz39 => simp only [List.getElem?_toArray, List.getElem?_cons_zero, List.getElem?_cons_succ]; rfl
                      case azz39 => kernel_rfl
                      case bzz39 => kernel_rfl
                      case czz39 => kernel_rfl
                      case yzz39 =>
                        refine Or.inl ⟨by rfl, ?_⟩
                        intro w hSw
                        skip
                        go_simp
                        try with_reducible rfl
                      case qzz39 => exact fun _ _ _ h => h
                      case szz39 => first | assumption | trivial
                      case' rzz39 => simp only [Act.put, List.setIfInBounds_toArray, List.set_cons_zero, List.set_cons_succ]
                      refine wpAnyH_done (by kernel_rfl) ?_ _
                      have HT9 : Hid (Lst textK ((Y3.setCell ⟨nb, 0, none⟩ (.string Y)).setCell ⟨nb, 1, none⟩ (.bool yb)) A3 m.length m ∧ (∀ ad, A3 = some ad → ad.block ≠ n9) ∧ (A3 = none → m.length = 0 ∧ c3 = 0)) := Lib.hid (by
                        have hxl := XB.out.lt
                        have hnil := (o3.in_ (by show m.length * 16 ≤ _; omega)).nil
                        first
                        | exact ⟨lst_far (o3.q qa).lst (own_ne o3 (.inr hnw.out)) _ _, own_ne o3 (.inl (Nat.lt_of_lt_of_le hxl hcl)), hnil⟩
                        | exact ⟨lst_far o3.lst (own_ne o3 (.inl hlt2)) _ _, own_ne o3 (.inl (Nat.lt_of_lt_of_le hxl hcl)), hnil⟩)
                      go_wp2_with fail
                      go_meet
                      exact ⟨nb, A3, c3, rfl, rfl, rfl, hnb, BX.out.set2 _ _, HZ.out.set2 hnb _ _, HT9.out.1, HT9.out.2.1, HT9.out.2.2⟩
                  case' mzz41 => skip
                  exact AllReadyL.nil
              case' mzz43 => skip
              exact AllReadyL.nil
          case' mzz74 => skip
          refine AllReadyL.cons (o := ?ozz75) ?hzz75 (fun K hK => ?kzz75) ?mzz75
          case hzz75 => simp only [List.getElem?_toArray, List.getElem?_cons_zero, List.getElem?_cons_succ]; rfl
          case kzz75 =>
            go_simp
            have BX := Lib.hid (Bx.new v2 [.string ⟨#[]⟩, .bool false] 23)
            have hnb : wr.heap.size ≤ v2.heap.size := hHeld.size
            have qa := (Q.refl v2).alloc (.cells #[.string ⟨#[]⟩, .bool false] 23)
            have BX : Hid (Bx (v2.alloc (.cells #[.string ⟨#[]⟩, .bool false] 23)) v2.heap.size [.string ⟨#[]⟩, .bool false]) := Lib.hid BX.out
            generalize v2.alloc (.cells #[.string ⟨#[]⟩, .bool false] 23) = Y4 at BX qa ⊢
            generalize hnbe : v2.heap.size = nb at BX hnb ⊢
            have hnw := Lib.hid (Nat.le_of_eq hnbe)
            clear hnbe
            refine hK.out _ _ ?Szz75 (fun hHeld => ?Rzz75)
            case Szz75 =>
              exact hHeld.trans qa
            case Rzz75 =>
              clear hK K
              try simp only [Act.put, List.setIfInBounds_toArray, List.set_cons_zero, List.set_cons_succ]
              refine wpAnyL_ready (rs := [13, 14, 16]) (by kernel_rfl) (by simp) ?_
              refine AllReadyL.cons (o := ?ozz70) ?hzz70 (fun K hK => ?kzz70) ?mzz70
              case hzz70 => simp only [List.getElem?_toArray, List.getElem?_cons_zero, List.getElem?_cons_succ]; rfl
              case kzz70 =>
                go_simp
                refine hK.out _ _ ?Szz70 (fun hHeld => ?Rzz70)
                case Szz70 =>
                  first | exact hHeld | trivial
                case Rzz70 =>
                  clear hK K
                  try simp only [Act.put, List.setIfInBounds_toArray, List.set_cons_zero, List.set_cons_succ]
                  refine wpAnyL_ready (rs := [14, 16]) (by kernel_rfl) (by simp) ?_
                  refine AllReadyL.cons (o := ?ozz53) ?hzz53 (fun K hK => ?kzz53) ?mzz53
                  case hzz53 => simp only [List.getElem?_toArray, List.getElem?_cons_zero, List.getElem?_cons_succ]; rfl
                  case kzz53 =>
                    go_simp
                    refine hK.out _ _ ?Szz53 (fun hHeld => ?Rzz53)
                    case Szz53 =>
                      first | exact hHeld | trivial
                    case Rzz53 =>
                      clear hK K
                      try simp only [Act.put, List.setIfInBounds_toArray, List.set_cons_zero, List.set_cons_succ]
                      refine wpAnyL_ready (rs := [16]) (by kernel_rfl) (by simp) ?_
                      refine AllReadyL.consK (o := ?ozz46) ?hzz46 ?lzz46 (fun K hK => ?kzz46) ?mzz46
                      case hzz46 => simp only [List.getElem?_toArray, List.getElem?_cons_zero, List.getElem?_cons_succ]; rfl
                      case lzz46 => kernel_rfl
                      case kzz46 =>
                        have HZ := Lib.hid hHeld
                        obtain ⟨⟨st0, st1⟩, st2, st3⟩ := BX.out.get2
                        go_simp
                        clear st0 st1 st2 st3
                        refine hK.out _ _ ?Rzz46
                        case Rzz46 =>
                          clear hK K
                          try simp only [Act.put, List.setIfInBounds_toArray, List.set_cons_zero, List.set_cons_succ]
                          refine wpAnyH_take (i := 17) (oi := ?ozz44) (v := ?vzz44) ?hzz44 ?azz44 ?bzz44 ?czz44 ?qzz44 ?yzz44 ?szz44 ?rzz44
                          case hzz44 => simp only [List.getElem?_toArray, List.getElem?_cons_zero, List.getElem?_cons_succ]; rfl
                          case azz44 => kernel_rfl
                          case bzz44 => kernel_rfl
                          case czz44 => kernel_rfl
                          case yzz44 =>
                            refine Or.inl ⟨by rfl, ?_⟩
                            intro w hSw
                            skip
                            go_simp
                            try with_reducible rfl
                          case qzz44 => exact fun _ _ _ h => h
                          case szz44 => first | assumption | trivial
                          case' rzz44 => simp only [Act.put, List.setIfInBounds_toArray, List.set_cons_zero, List.set_cons_succ]
                          refine wpAnyH_take (i := 18) (oi := ?ozz45) (v := ?vzz45) ?hzz45 ?azz45 ?bzz45 ?czz45 ?qzz45 ?yzz45 ?szz45 ?rzz45
                          case hzz45 => simp only [List.getElem?_toArray, List.getElem?_cons_zero, List.getElem?_cons_succ]; rfl
                          case azz45 => kernel_rfl
                          case bzz45 => kernel_rfl
                          case czz45 => kernel_rfl
                          case yzz45 =>
                            refine Or.inl ⟨by rfl, ?_⟩
                            intro w hSw
                            skip
                            go_simp
                            try with_reducible rfl
                          case qzz45 => exact fun _ _ _ h => h
                          case szz45 => first | assumption | trivial
                          case' rzz45 => simp only [Act.put, List.setIfInBounds_toArray, List.set_cons_zero, List.set_cons_succ]
                          refine wpAnyH_done (by kernel_rfl) ?_ _
                          have HT9 : Hid (Lst textK ((Y4.setCell ⟨nb, 0, none⟩ (.string Y)).setCell ⟨nb, 1, none⟩ (.bool yb)) A3 m.length m ∧ (∀ ad, A3 = some ad → ad.block ≠ n9) ∧ (A3 = none → m.length = 0 ∧ c3 = 0)) := Lib.hid (by
                            have hxl := XB.out.lt
                            have hnil := (o3.in_ (by show m.length * 16 ≤ _; omega)).nil
                            first
                            | exact ⟨lst_far (o3.q qa).lst (own_ne o3 (.inr hnw.out)) _ _, own_ne o3 (.inl (Nat.lt_of_lt_of_le hxl hcl)), hnil⟩
                            | exact ⟨lst_far o3.lst (own_ne o3 (.inl hlt2)) _ _, own_ne o3 (.inl (Nat.lt_of_lt_of_le hxl hcl)), hnil⟩)
                          go_wp2_with fail
                          go_meet
                          exact ⟨nb, A3, c3, rfl, rfl, rfl, hnb, BX.out.set2 _ _, HZ.out.set2 hnb _ _, HT9.out.1, HT9.out.2.1, HT9.out.2.2⟩
                      case' mzz46 => skip
                      exact AllReadyL.nil
                  case' mzz53 => skip
                  refine AllReadyL.consK (o := ?ozz54) ?hzz54 ?lzz54 (fun K hK => ?kzz54) ?mzz54
                  case hzz54 => simp only [List.getElem?_toArray, List.getElem?_cons_zero, List.getElem?_cons_succ]; rfl
                  case lzz54 => kernel_rfl
                  case kzz54 =>
                    have HZ := Lib.hid hHeld
                    obtain ⟨⟨st0, st1⟩, st2, st3⟩ := BX.out.get2
                    go_simp
                    clear st0 st1 st2 st3
                    refine hK.out _ _ ?Rzz54
                    case Rzz54 =>
                      clear hK K
                      try simp only [Act.put, List.setIfInBounds_toArray, List.set_cons_zero, List.set_cons_succ]
                      refine wpAnyH_ready (rs := [14, 17]) (by kernel_rfl) (by simp) ?_
                      refine AllReadyH.cons (o := ?ozz51) ?hzz51 (fun K hK => ?kzz51) ?mzz51
                      case hzz51 => simp only [List.getElem?_toArray, List.getElem?_cons_zero, List.getElem?_cons_succ]; rfl
                      case kzz51 =>
                        go_simp
                        refine hK.out _ _ ?Szz51 (fun hHeld => ?Rzz51)
                        case Szz51 =>
                          first | exact hHeld | trivial
                        case Rzz51 =>
                          clear hK K
                          try simp only [Act.put, List.setIfInBounds_toArray, List.set_cons_zero, List.set_cons_succ]
                          refine wpAnyH_take (i := 17) (oi := ?ozz47) (v := ?vzz47) ?hzz47 ?azz47 ?bzz47 ?czz47 ?qzz47 ?yzz47 ?szz47 ?rzz47
                          case hzz47 => simp only [List.getElem?_toArray, List.getElem?_cons_zero, List.getElem?_cons_succ]; rfl
                          case azz47 => kernel_rfl
                          case bzz47 => kernel_rfl
                          case czz47 => kernel_rfl
                          case yzz47 =>
                            refine Or.inl ⟨by rfl, ?_⟩
                            intro w hSw
                            skip
                            go_simp
                            try with_reducible rfl
                          case qzz47 => exact fun _ _ _ h => h
                          case szz47 => first | assumption | trivial
                          case' rzz47 => simp only [Act.put, List.setIfInBounds_toArray, List.set_cons_zero, List.set_cons_succ]
                          refine wpAnyH_take (i := 18) (oi := ?ozz48) (v := ?vzz48) ?hzz48 ?azz48 ?bzz48 ?czz48 ?qzz48 ?yzz48 ?szz48 ?rzz48
                          case hzz48 => simp only [List.getElem?_toArray, List.getElem?_cons_zero, List.getElem?_cons_succ]; rfl
                          case azz48 => kernel_rfl
                          case bzz48 => kernel_rfl
                          case czz48 => kernel_rfl
                          case yzz48 =>
                            refine Or.inl ⟨by rfl, ?_⟩
                            intro w hSw
                            skip
                            go_simp
                            try with_reducible rfl
                          case qzz48 => exact fun _ _ _ h => h
                          case szz48 => first | assumption | trivial
                          case' rzz48 => simp only [Act.put, List.setIfInBounds_toArray, List.set_cons_zero, List.set_cons_succ]
                          refine wpAnyH_done (by kernel_rfl) ?_ _
                          have HT9 : Hid (Lst textK ((Y4.setCell ⟨nb, 0, none⟩ (.string Y)).setCell ⟨nb, 1, none⟩ (.bool yb)) A3 m.length m ∧ (∀ ad, A3 = some ad → ad.block ≠ n9) ∧ (A3 = none → m.length = 0 ∧ c3 = 0)) := Lib.hid (by
                            have hxl := XB.out.lt
                            have hnil := (o3.in_ (by show m.length * 16 ≤ _; omega)).nil
                            first
                            | exact ⟨lst_far (o3.q qa).lst (own_ne o3 (.inr hnw.out)) _ _, own_ne o3 (.inl (Nat.lt_of_lt_of_le hxl hcl)), hnil⟩
                            | exact ⟨lst_far o3.lst (own_ne o3 (.inl hlt2)) _ _, own_ne o3 (.inl (Nat.lt_of_lt_of_le hxl hcl)), hnil⟩)
                          go_wp2_with fail
                          go_meet
                          exact ⟨nb, A3, c3, rfl, rfl, rfl, hnb, BX.out.set2 _ _, HZ.out.set2 hnb _ _, HT9.out.1, HT9.out.2.1, HT9.out.2.2⟩
                      case' mzz51 => skip
                      refine AllReadyH.cons (o := ?ozz52) ?hzz52 (fun K hK => ?kzz52) ?mzz52
                      case hzz52 => simp only [List.getElem?_toArray, List.getElem?_cons_zero, List.getElem?_cons_succ]; rfl
                      case kzz52 =>
                        go_simp
                        refine hK.out _ _ ?Szz52 (fun hHeld => ?Rzz52)
                        case Szz52 =>
                          first | exact hHeld | trivial
                        case Rzz52 =>
                          clear hK K
                          try simp only [Act.put, List.setIfInBounds_toArray, List.set_cons_zero, List.set_cons_succ]
                          refine wpAnyH_take (i := 14) (oi := ?ozz49) (v := ?vzz49) ?hzz49 ?azz49 ?bzz49 ?czz49 ?qzz49 ?yzz49 ?szz49 ?rzz49
                          case hzz49 => simp only [List.getElem?_toArray, List.getElem?_cons_zero, List.getElem?_cons_succ]; rfl
                          case azz49 => kernel_rfl
                          case bzz49 => kernel_rfl
                          case czz49 => kernel_rfl
                          case yzz49 =>
                            refine Or.inl ⟨by rfl, ?_⟩
                            intro w hSw
                            skip
                            go_simp
                            try with_reducible rfl
                          case qzz49 => exact fun _ _ _ h => h
                          case szz49 => first | assumption | trivial
                          case' rzz49 => simp only [Act.put, List.setIfInBounds_toArray, List.set_cons_zero, List.set_cons_succ]
                          refine wpAnyH_take (i := 18) (oi := ?ozz50) (v := ?vzz50) ?hzz50 ?azz50 ?bzz50 ?czz50 ?qzz50 ?yzz50 ?szz50 ?rzz50
                          case hzz50 => simp only [List.getElem?_toArray, List.getElem?_cons_zero, List.getElem?_cons_succ]; rfl
                          case azz50 => kernel_rfl
                          case bzz50 => kernel_rfl
                          case czz50 => kernel_rfl
                          case yzz50 =>
                            refine Or.inl ⟨by rfl, ?_⟩
                            intro w hSw
                            skip
                            go_simp
                            try with_reducible rfl
                          case qzz50 => exact fun _ _ _ h => h
                          case szz50 => first | assumption | trivial
                          case' rzz50 => simp only [Act.put, List.setIfInBounds_toArray, List.set_cons_zero, List.set_cons_succ]
                          refine wpAnyH_done (by kernel_rfl) ?_ _
                          have HT9 : Hid (Lst textK ((Y4.setCell ⟨nb, 0, none⟩ (.string Y)).setCell ⟨nb, 1, none⟩ (.bool yb)) A3 m.length m ∧ (∀ ad, A3 = some ad → ad.block ≠ n9) ∧ (A3 = none → m.length = 0 ∧ c3 = 0)) := Lib.hid (by
                            have hxl := XB.out.lt
                            have hnil := (o3.in_ (by show m.length * 16 ≤ _; omega)).nil
                            first
                            | exact ⟨lst_far (o3.q qa).lst (own_ne o3 (.inr hnw.out)) _ _, own_ne o3 (.inl (Nat.lt_of_lt_of_le hxl hcl)), hnil⟩
                            | exact ⟨lst_far o3.lst (own_ne o3 (.inl hlt2)) _ _, own_ne o3 (.inl (Nat.lt_of_lt_of_le hxl hcl)), hnil⟩)
                          go_wp2_with fail
                          go_meet
                          exact ⟨nb, A3, c3, rfl, rfl, rfl, hnb, BX.out.set2 _ _, HZ.out.set2 hnb _ _, HT9.out.1, HT9.out.2.1, HT9.out.2.2⟩
                      case' mzz52 => skip
                      exact AllReadyH.nil
                  case' mzz54 => skip
                  exact AllReadyL.nil
              case' mzz70 => skip
              refine AllReadyL.cons (o := ?ozz71) ?hzz71 (fun K hK => ?kzz71) ?mzz71
              case hzz71 => simp only [List.getElem?_toArray, List.getElem?_cons_zero, List.getElem?_cons_succ]; rfl
              case kzz71 =>
                go_simp
                refine hK.out _ _ ?Szz71 (fun hHeld => ?Rzz71)
                case Szz71 =>
                  first | exact hHeld | trivial
                case Rzz71 =>
                  clear hK K
                  try simp only [Act.put, List.setIfInBounds_toArray, List.set_cons_zero, List.set_cons_succ]
                  refine wpAnyL_ready (rs := [13, 16]) (by kernel_rfl) (by simp) ?_
                  refine AllReadyL.cons (o := ?ozz61) ?hzz61 (fun K hK => ?kzz61) ?mzz61
                  case hzz61 => simp only [List.getElem?_toArray, List.getElem?_cons_zero, List.getElem?_cons_succ]; rfl
                  case kzz61 =>
                    go_simp
                    refine hK.out _ _ ?Szz61 (fun hHeld => ?Rzz61)
                    case Szz61 =>
                      first | exact hHeld | trivial
                    case Rzz61 =>
                      clear hK K
                      try simp only [Act.put, List.setIfInBounds_toArray, List.set_cons_zero, List.set_cons_succ]
                      refine wpAnyL_ready (rs := [16]) (by kernel_rfl) (by simp) ?_
                      refine AllReadyL.consK (o := ?ozz57) ?hzz57 ?lzz57 (fun K hK => ?kzz57) ?mzz57
                      case hzz57 => simp only [List.getElem?_toArray, List.getElem?_cons_zero, List.getElem?_cons_succ]; rfl
                      case lzz57 => kernel_rfl
                      case kzz57 =>
                        have HZ := Lib.hid hHeld
                        obtain ⟨⟨st0, st1⟩, st2, st3⟩ := BX.out.get2
                        go_simp
                        clear st0 st1 st2 st3
                        refine hK.out _ _ ?Rzz57
                        case Rzz57 =>
                          clear hK K
                          try simp only [Act.put, List.setIfInBounds_toArray, List.set_cons_zero, List.set_cons_succ]
                          refine wpAnyH_take (i := 17) (oi := ?ozz55) (v := ?vzz55) ?hzz55 ?azz55 ?bzz55 ?czz55 ?qzz55 ?yzz55 ?szz55 ?rzz55
                          case hzz55 => simp only [List.getElem?_toArray, List.getElem?_cons_zero, List.getElem?_cons_succ]; rfl
                          case azz55 => kernel_rfl
                          case bzz55 => kernel_rfl
                          case czz55 => kernel_rfl
                          case yzz55 =>
                            refine Or.inl ⟨by rfl, ?_⟩
                            intro w hSw
                            skip
                            go_simp
                            try with_reducible rfl
                          case qzz55 => exact fun _ _ _ h => h
                          case szz55 => first | assumption | trivial
                          case' rzz55 => simp only [Act.put, List.setIfInBounds_toArray, List.set_cons_zero, List.set_cons_succ]
                          refine wpAnyH_take (i := 18) (oi := ?ozz56) (v := ?vzz56) ?hzz56 ?azz56 ?bzz56 ?czz56 ?qzz56 ?yzz56 ?szz56 ?rzz56
                          case hzz56 => simp only [List.getElem?_toArray, List.getElem?_cons_zero, List.getElem?_cons_succ]; rfl
                          case azz56 => kernel_rfl
                          case bzz56 => kernel_rfl
                          case czz56 => kernel_rfl
                          case yzz56 =>
                            refine Or.inl ⟨by rfl, ?_⟩
                            intro w hSw
                            skip
                            go_simp
                            try with_reducible rfl
                          case qzz56 => exact fun _ _ _ h => h
                          case szz56 => first | assumption | trivial
                          case' rzz56 => simp only [Act.put, List.setIfInBounds_toArray, List.set_cons_zero, List.set_cons_succ]
                          refine wpAnyH_done (by kernel_rfl) ?_ _
                          have HT9 : Hid (Lst textK ((Y4.setCell ⟨nb, 0, none⟩ (.string Y)).setCell ⟨nb, 1, none⟩ (.bool yb)) A3 m.length m ∧ (∀ ad, A3 = some ad → ad.block ≠ n9) ∧ (A3 = none → m.length = 0 ∧ c3 = 0)) := Lib.hid (by
                            have hxl := XB.out.lt
                            have hnil := (o3.in_ (by show m.length * 16 ≤ _; omega)).nil
                            first
                            | exact ⟨lst_far (o3.q qa).lst (own_ne o3 (.inr hnw.out)) _ _, own_ne o3 (.inl (Nat.lt_of_lt_of_le hxl hcl)), hnil⟩
                            | exact ⟨lst_far o3.lst (own_ne o3 (.inl hlt2)) _ _, own_ne o3 (.inl (Nat.lt_of_lt_of_le hxl hcl)), hnil⟩)
                          go_wp2_with fail
                          go_meet
                          exact ⟨nb, A3, c3, rfl, rfl, rfl, hnb, BX.out.set2 _ _, HZ.out.set2 hnb _ _, HT9.out.1, HT9.out.2.1, HT9.out.2.2⟩
                      case' mzz57 => skip
                      exact AllReadyL.nil
                  case' mzz61 => skip
                  refine AllReadyL.consK (o := ?ozz62) ?hzz62 ?lzz62 (fun K hK => ?kzz62) ?mzz62
                  case hzz62 => simp only [List.getElem?_toArray, List.getElem?_cons_zero, List.getElem?_cons_succ]; rfl
                  case lzz62 => kernel_rfl
                  case kzz62 =>
                    have HZ := Lib.hid hHeld
                    obtain ⟨⟨st0, st1⟩, st2, st3⟩ := BX.out.get2
                    go_simp
                    clear st0 st1 st2 st3
                    refine hK.out _ _ ?Rzz62
                    case Rzz62 =>
                      clear hK K
                      try simp only [Act.put, List.setIfInBounds_toArray, List.set_cons_zero, List.set_cons_succ]
                      refine wpAnyH_take (i := 13) (oi := ?ozz58) (v := ?vzz58) ?hzz58 ?azz58 ?bzz58 ?czz58 ?qzz58 ?yzz58 ?szz58 ?rzz58
                      case hzz58 => simp only [List.getElem?_toArray, List.getElem?_cons_zero, List.getElem?_cons_succ]; rfl
                      case azz58 => kernel_rfl
                      case bzz58 => kernel_rfl
                      case czz58 => kernel_rfl
                      case yzz58 =>
                        refine Or.inl ⟨by rfl, ?_⟩
                        intro w hSw
                        skip
                        go_simp
                        try with_reducible rfl
                      case qzz58 => exact fun _ _ _ h => h
                      case szz58 => first | assumption | trivial
                      case' rzz58 => simp only [Act.put, List.setIfInBounds_toArray, List.set_cons_zero, List.set_cons_succ]
                      refine wpAnyH_take (i := 17) (oi := ?ozz59) (v := ?vzz59) ?hzz59 ?azz59 ?bzz59 ?czz59 ?qzz59 ?yzz59 ?szz59 ?rzz59
                      case hzz59 => simp only [List.getElem?_toArray, List.getElem?_cons_zero, List.getElem?_cons_succ]; rfl
                      case azz59 => kernel_rfl
                      case bzz59 => kernel_rfl
                      case czz59 => kernel_rfl
                      case yzz59 =>
                        refine Or.inl ⟨by rfl, ?_⟩
                        intro w hSw
                        skip
                        go_simp
                        try with_reducible rfl
                      case qzz59 => exact fun _ _ _ h => h
                      case szz59 => first | assumption | trivial
                      case' rzz59 => simp only [Act.put, List.setIfInBounds_toArray, List.set_cons_zero, List.set_cons_succ]
                      refine wpAnyH_take (i := 18) (oi := ?ozz60) (v := ?vzz60) ?hzz60 ?azz60 ?bzz60 ?czz60 ?qzz60 ?yzz60 ?szz60 ?rzz60
                      case hzz60 => simp only [List.getElem?_toArray, List.getElem?_cons_zero, List.getElem?_cons_succ]; rfl
                      case azz60 => kernel_rfl
                      case bzz60 => kernel_rfl
                      case czz60 => kernel_rfl
                      case yzz60 =>
                        refine Or.inl ⟨by rfl, ?_⟩
                        intro w hSw
                        skip
                        go_simp
                        try with_reducible rfl
                      case qzz60 => exact fun _ _ _ h => h
                      case szz60 => first | assumption | trivial
                      case' rzz60 => simp only [Act.put, List.setIfInBounds_toArray, List.set_cons_zero, List.set_cons_succ]
                      refine wpAnyH_done (by kernel_rfl) ?_ _
                      have HT9 : Hid (Lst textK ((Y4.setCell ⟨nb, 0, none⟩ (.string Y)).setCell ⟨nb, 1, none⟩ (.bool yb)) A3 m.length m ∧ (∀ ad, A3 = some ad → ad.block ≠ n9) ∧ (A3 = none → m.length = 0 ∧ c3 = 0)) := Lib.hid (by
                        have hxl := XB.out.lt
                        have hnil := (o3.in_ (by show m.length * 16 ≤ _; omega)).nil
                        first
                        | exact ⟨lst_far (o3.q qa).lst (own_ne o3 (.inr hnw.out)) _ _, own_ne o3 (.inl (Nat.lt_of_lt_of_le hxl hcl)), hnil⟩
                        | exact ⟨lst_far o3.lst (own_ne o3 (.inl hlt2)) _ _, own_ne o3 (.inl (Nat.lt_of_lt_of_le hxl hcl)), hnil⟩)
                      go_wp2_with fail
                      go_meet
                      exact ⟨nb, A3, c3, rfl, rfl, rfl, hnb, BX.out.set2 _ _, HZ.out.set2 hnb _ _, HT9.out.1, HT9.out.2.1, HT9.out.2.2⟩
                  case' mzz62 => skip
                  exact AllReadyL.nil
              case' mzz71 => skip
              refine AllReadyL.consK (o := ?ozz72) ?hzz72 ?lzz72 (fun K hK => ?kzz72) ?mzz72
              case hzz72 => simp only [List.getElem?_toArray, List.getElem?_cons_zero, List.getElem?_cons_succ]; rfl
              case lzz72 => kernel_rfl
              case kzz72 =>
                have HZ := Lib.hid hHeld
                obtain ⟨⟨st0, st1⟩, st2, st3⟩ := BX.out.get2
                go_simp
                clear st0 st1 st2 st3
                refine hK.out _ _ ?Rzz72
                case Rzz72 =>
                  clear hK K
                  try simp only [Act.put, List.setIfInBounds_toArray, List.set_cons_zero, List.set_cons_succ]
                  refine wpAnyH_take (i := 13) (oi := ?ozz63) (v := ?vzz63) ?hzz63 ?azz63 ?bzz63 ?czz63 ?qzz63 ?yzz63 ?szz63 ?rzz63
                  case hzz63 => simp only [List.getElem?_toArray, List.getElem?_cons_zero, List.getElem?_cons_succ]; rfl
                  case azz63 => kernel_rfl
                  case bzz63 => kernel_rfl
                  case czz63 => kernel_rfl
                  case yzz63 =>
                    refine Or.inl ⟨by rfl, ?_⟩
                    intro w hSw
                    skip
                    go_simp
                    try with_reducible rfl
                  case qzz63 => exact fun _ _ _ h => h
                  case szz63 => first | assumption | trivial
                  case' rzz63 => simp only [Act.put, List.setIfInBounds_toArray, List.set_cons_zero, List.set_cons_succ]
                  refine wpAnyH_ready (rs := [14, 17]) (by kernel_rfl) (by simp) ?_
                  refine AllReadyH.cons (o := ?ozz68) ?hzz68 (fun K hK => ?kzz68) ?mzz68
                  case hzz68 => simp only [List.getElem?_toArray, List.getElem?_cons_zero, List.getElem?_cons_succ]; rfl
                  case kzz68 =>
                    go_simp
                    refine hK.out _ _ ?Szz68 (fun hHeld => ?Rzz68)
                    case Szz68 =>
                      first | exact hHeld | trivial
                    case Rzz68 =>
                      clear hK K
                      try simp only [Act.put, List.setIfInBounds_toArray, List.set_cons_zero, List.set_cons_succ]
                      refine wpAnyH_take (i := 17) (oi := ?ozz64) (v := ?vzz64) ?hzz64 ?azz64 ?bzz64 ?czz64 ?qzz64 ?yzz64 ?szz64 ?rzz64
                      case hzz64 => simp only [List.getElem?_toArray, List.getElem?_cons_zero, List.getElem?_cons_succ]; rfl
                      case azz64 => kernel_rfl
                      case bzz64 => kernel_rfl
                      case czz64 => kernel_rfl
                      case yzz64 =>
                        refine Or.inl ⟨by rfl, ?_⟩
                        intro w hSw
                        skip
                        go_simp
                        try with_reducible rfl
                      case qzz64 => exact fun _ _ _ h => h
                      case szz64 => first | assumption | trivial
                      case' rzz64 => simp only [Act.put, List.setIfInBounds_toArray, List.set_cons_zero, List.set_cons_succ]
                      refine wpAnyH_take (i := 18) (oi := ?ozz65) (v := ?vzz65) ?hzz65 ?azz65 ?bzz65 ?czz65 ?qzz65 ?yzz65 ?szz65 ?rzz65
                      case hzz65 => simp only [List.getElem?_toArray, List.getElem?_cons_zero, List.getElem?_cons_succ]; rfl
                      case azz65 => kernel_rfl
                      case bzz65 => kernel_rfl
                      case czz65 => kernel_rfl
                      case yzz65 =>
                        refine Or.inl ⟨by rfl, ?_⟩
                        intro w hSw
                        skip
                        go_simp
                        try with_reducible rfl
                      case qzz65 => exact fun _ _ _ h => h
                      case szz65 => first | assumption | trivial
                      case' rzz65 => simp only [Act.put, List.setIfInBounds_toArray, List.set_cons_zero, List.set_cons_succ]
                      refine wpAnyH_done (by kernel_rfl) ?_ _
                      have HT9 : Hid (Lst textK ((Y4.setCell ⟨nb, 0, none⟩ (.string Y)).setCell ⟨nb, 1, none⟩ (.bool yb)) A3 m.length m ∧ (∀ ad, A3 = some ad → ad.block ≠ n9) ∧ (A3 = none → m.length = 0 ∧ c3 = 0)) := Lib.hid (by
                        have hxl := XB.out.lt
                        have hnil := (o3.in_ (by show m.length * 16 ≤ _; omega)).nil
                        first
                        | exact ⟨lst_far (o3.q qa).lst (own_ne o3 (.inr hnw.out)) _ _, own_ne o3 (.inl (Nat.lt_of_lt_of_le hxl hcl)), hnil⟩
                        | exact ⟨lst_far o3.lst (own_ne o3 (.inl hlt2)) _ _, own_ne o3 (.inl (Nat.lt_of_lt_of_le hxl hcl)), hnil⟩)
                      go_wp2_with fail
                      go_meet
                      exact ⟨nb, A3, c3, rfl, rfl, rfl, hnb, BX.out.set2 _ _, HZ.out.set2 hnb _ _, HT9.out.1, HT9.out.2.1, HT9.out.2.2⟩
                  case' mzz68 => skip
                  refine AllReadyH.cons (o := ?ozz69) ?hzz69 (fun K hK => ?kzz69) ?mzz69
                  case hzz69 => simp only [List.getElem?_toArray, List.getElem?_cons_zero, List.getElem?_cons_succ]; rfl
                  case kzz69 =>
                    go_simp
                    refine hK.out _ _ ?Szz69 (fun hHeld => ?Rzz69)
                    case Szz69 =>
                      first | exact hHeld | trivial
                    case Rzz69 =>
                      clear hK K
                      try simp only [Act.put, List.setIfInBounds_toArray, List.set_cons_zero, List.set_cons_succ]
                      refine wpAnyH_take (i := 14) (oi := ?ozz66) (v := ?vzz66) ?hzz66 ?azz66 ?bzz66 ?czz66 ?qzz66 ?yzz66 ?szz66 ?rzz66
                      case hzz66 => simp only [List.getElem?_toArray, List.getElem?_cons_zero, List.getElem?_cons_succ]; rfl
                      case azz66 => kernel_rfl
                      case bzz66 => kernel_rfl
                      case czz66 => kernel_rfl
                      case yzz66 =>
                        refine Or.inl ⟨by rfl, ?_⟩
                        intro w hSw
                        skip
                        go_simp
                        try with_reducible rfl
                      case qzz66 => exact fun _ _ _ h => h
                      case szz66 => first | assumption | trivial
                      case' rzz66 => simp only [Act.put, List.setIfInBounds_toArray, List.set_cons_zero, List.set_cons_succ]
                      refine wpAnyH_take (i := 18) (oi := ?ozz67) (v := ?vzz67) ?hzz67 ?azz67 ?bzz67 ?czz67 ?qzz67 ?yzz67 ?szz67 ?rzz67
                      case hzz67 => simp only [List.getElem?_toArray, List.getElem?_cons_zero, List.getElem?_cons_succ]; rfl
                      case azz67 => kernel_rfl
                      case bzz67 => kernel_rfl
                      case czz67 => kernel_rfl
                      case yzz67 =>
                        refine Or.inl ⟨by rfl, ?_⟩
                        intro w hSw
                        skip
                        go_simp
                        try with_reducible rfl
                      case qzz67 => exact fun _ _ _ h => h
                      case szz67 => first | assumption | trivial
                      case' rzz67 => simp only [Act.put, List.setIfInBounds_toArray, List.set_cons_zero, List.set_cons_succ]
                      refine wpAnyH_done (by kernel_rfl) ?_ _
                      have HT9 : Hid (Lst textK ((Y4.setCell ⟨nb, 0, none⟩ (.string Y)).setCell ⟨nb, 1, none⟩ (.bool yb)) A3 m.length m ∧ (∀ ad, A3 = some ad → ad.block ≠ n9) ∧ (A3 = none → m.length = 0 ∧ c3 = 0)) := Lib.hid (by
                        have hxl := XB.out.lt
                        have hnil := (o3.in_ (by show m.length * 16 ≤ _; omega)).nil
                        first
                        | exact ⟨lst_far (o3.q qa).lst (own_ne o3 (.inr hnw.out)) _ _, own_ne o3 (.inl (Nat.lt_of_lt_of_le hxl hcl)), hnil⟩
                        | exact ⟨lst_far o3.lst (own_ne o3 (.inl hlt2)) _ _, own_ne o3 (.inl (Nat.lt_of_lt_of_le hxl hcl)), hnil⟩)
                      go_wp2_with fail
                      go_meet
                      exact ⟨nb, A3, c3, rfl, rfl, rfl, hnb, BX.out.set2 _ _, HZ.out.set2 hnb _ _, HT9.out.1, HT9.out.2.1, HT9.out.2.2⟩
                  case' mzz69 => skip
                  exact AllReadyH.nil
              case' mzz72 => skip
              exact AllReadyL.nil
          case' mzz75 => skip
          exact AllReadyL.nil
      case' mzz108 => skip
      refine AllReadyL.cons (o := ?ozz109) ?hzz109 (fun K hK => ?kzz109) ?mzz109
      case hzz109 => simp only [List.getElem?_toArray, List.getElem?_cons_zero, List.getElem?_cons_succ]; rfl
      case kzz109 =>
        go_simp
        have BX := Lib.hid (Bx.new D0 [.string ⟨#[]⟩, .bool false] 23)
        have hnb : wr.heap.size ≤ D0.heap.size := hHeld.size
        have qa := (Q.refl D0).alloc (.cells #[.string ⟨#[]⟩, .bool false] 23)
        have BX : Hid (Bx (D0.alloc (.cells #[.string ⟨#[]⟩, .bool false] 23)) D0.heap.size [.string ⟨#[]⟩, .bool false]) := Lib.hid BX.out
        generalize D0.alloc (.cells #[.string ⟨#[]⟩, .bool false] 23) = Y5 at BX qa ⊢
        generalize hnbe : D0.heap.size = nb at BX hnb ⊢
        have hnw := Lib.hid (Nat.le_of_eq hnbe)
        clear hnbe
        refine hK.out _ _ ?Szz109 (fun hHeld => ?Rzz109)
        case Szz109 =>
          exact hHeld.trans qa
        case Rzz109 =>
          clear hK K
          try simp only [Act.put, List.setIfInBounds_toArray, List.set_cons_zero, List.set_cons_succ]
          refine wpAnyL_ready (rs := [10]) (by kernel_rfl) (by simp) ?_
          refine AllReadyL.cons (o := ?ozz107) ?hzz107 (fun K hK => ?kzz107) ?mzz107
          case hzz107 => simp only [List.getElem?_toArray, List.getElem?_cons_zero, List.getElem?_cons_succ]; rfl
          case kzz107 =>
            go_simp
            refine (K4.out _).mono ?_
            rintro e v2 ⟨A3, c3, rfl, o3, q3⟩
            have hcl := hHeld.size
            try have hlt2 := BX.out.lt
            have BX := Lib.hid (BX.out.q q3)
            go_wp2_with fail
            refine hK.out _ _ ?Szz107 (fun hHeld => ?Rzz107)
            case Szz107 =>
              exact hHeld.trans q3
            case Rzz107 =>
              clear hK K
              try simp only [Act.put, List.setIfInBounds_toArray, List.set_cons_zero, List.set_cons_succ]
              refine wpAnyL_take (i := 11) (oi := ?ozz76) (v := ?vzz76) ?hzz76 ?azz76 ?bzz76 ?czz76 ?kzz76 ?qzz76 ?yzz76 ?szz76 ?rzz76
              case hzz76 => simp only [List.getElem?_toArray, List.getElem?_cons_zero, List.getElem?_cons_succ]; rfl
              case azz76 => kernel_rfl
              case bzz76 => kernel_rfl
              case czz76 => kernel_rfl
              case kzz76 => kernel_rfl
              case yzz76 =>
                refine Or.inl ⟨by rfl, ?_⟩
                intro w hSw
                skip
                go_simp
                try with_reducible rfl
              case qzz76 => exact fun _ _ _ h => h
              case szz76 => first | assumption | trivial
              case' rzz76 => simp only [Act.put, List.setIfInBounds_toArray, List.set_cons_zero, List.set_cons_succ]
              refine wpAnyL_take (i := 12) (oi := ?ozz77) (v := ?vzz77) ?hzz77 ?azz77 ?bzz77 ?czz77 ?kzz77 ?qzz77 ?yzz77 ?szz77 ?rzz77
              case hzz77 => simp only [List.getElem?_toArray, List.getElem?_cons_zero, List.getElem?_cons_succ]; rfl
              case azz77 => kernel_rfl
              case bzz77 => kernel_rfl
              case czz77 => kernel_rfl
              case kzz77 => kernel_rfl
              case yzz77 =>
                refine Or.inl ⟨by rfl, ?_⟩
                intro w hSw
                skip
                go_simp
                try with_reducible rfl
              case qzz77 => exact fun _ _ _ h => h
              case szz77 => first | assumption | trivial
              case' rzz77 => simp only [Act.put, List.setIfInBounds_toArray, List.set_cons_zero, List.set_cons_succ]
              refine wpAnyL_ready (rs := [13, 14, 16]) (by kernel_rfl) (by simp) ?_
              refine AllReadyL.cons (o := ?ozz104) ?hzz104 (fun K hK => ?kzz104) ?mzz104
              case hzz104 => simp only [List.getElem?_toArray, List.getElem?_cons_zero, List.getElem?_cons_succ]; rfl
              case kzz104 =>
                go_simp
                refine hK.out _ _ ?Szz104 (fun hHeld => ?Rzz104)
                case Szz104 =>
                  first | exact hHeld | trivial
                case Rzz104 =>
                  clear hK K
                  try simp only [Act.put, List.setIfInBounds_toArray, List.set_cons_zero, List.set_cons_succ]
                  refine wpAnyL_ready (rs := [14, 16]) (by kernel_rfl) (by simp) ?_
                  refine AllReadyL.cons (o := ?ozz87) ?hzz87 (fun K hK => ?kzz87) ?mzz87
                  case hzz87 => simp only [List.getElem?_toArray, List.getElem?_cons_zero, List.getElem?_cons_succ]; rfl
                  case kzz87 =>
                    go_simp
                    refine hK.out _ _ ?Szz87 (fun hHeld => ?Rzz87)
                    case Szz87 =>
                      first | exact hHeld | trivial
                    case Rzz87 =>
                      clear hK K
                      try simp only [Act.put, List.setIfInBounds_toArray, List.set_cons_zero, List.set_cons_succ]
                      refine wpAnyL_ready (rs := [16]) (by kernel_rfl) (by simp) ?_
                      refine AllReadyL.consK (o := ?ozz80) ?hzz80 ?lzz80 (fun K hK => ?kzz80) ?mzz80
                      case hzz80 => simp only [List.getElem?_toArray, List.getElem?_cons_zero, List.getElem?_cons_succ]; rfl
                      case lzz80 => kernel_rfl
                      case kzz80 =>
                        have HZ := Lib.hid hHeld
                        obtain ⟨⟨st0, st1⟩, st2, st3⟩ := BX.out.get2
                        go_simp
                        clear st0 st1 st2 st3
                        refine hK.out _ _ ?Rzz80
                        case Rzz80 =>
                          clear hK K
                          try simp only [Act.put, List.setIfInBounds_toArray, List.set_cons_zero, List.set_cons_succ]
                          refine wpAnyH_take (i := 17) (oi := ?ozz78) (v := ?vzz78) ?hzz78 ?azz78 ?bzz78 ?czz78 ?qzz78 ?yzz78 ?szz78 ?rzz78
                          case hzz78 => simp only [List.getElem?_toArray, List.getElem?_cons_zero, List.getElem?_cons_succ]; rfl
                          case azz78 => kernel_rfl
                          case bzz78 => kernel_rfl
                          case czz78 => kernel_rfl
                          case yzz78 =>
                            refine Or.inl ⟨by rfl, ?_⟩
                            intro w hSw
                            skip
                            go_simp
                            try with_reducible rfl
                          case qzz78 => exact fun _ _ _ h => h
                          case szz78 => first | assumption | trivial
                          case' rzz78 => simp only [Act.put, List.setIfInBounds_toArray, List.set_cons_zero, List.set_cons_succ]
                          refine wpAnyH_take (i := 18) (oi := ?ozz79) (v := ?vzz79) ?hzz79 ?azz79 ?bzz79 ?czz79 ?qzz79 ?yzz79 ?szz79 ?rzz79
                          case hzz79 => simp only [List.getElem?_toArray, List.getElem?_cons_zero, List.getElem?_cons_succ]; rfl
                          case azz79 => kernel_rfl
                          case bzz79 => kernel_rfl
                          case czz79 => kernel_rfl
                          case yzz79 =>
                            refine Or.inl ⟨by rfl, ?_⟩
                            intro w hSw
                            skip
                            go_simp
                            try with_reducible rfl
                          case qzz79 => exact fun _ _ _ h => h
                          case szz79 => first | assumption | trivial
                          case' rzz79 => simp only [Act.put, List.setIfInBounds_toArray, List.set_cons_zero, List.set_cons_succ]
                          refine wpAnyH_done (by kernel_rfl) ?_ _
                          have HT9 : Hid (Lst textK ((v2.setCell ⟨nb, 0, none⟩ (.string Y)).setCell ⟨nb, 1, none⟩ (.bool yb)) A3 m.length m ∧ (∀ ad, A3 = some ad → ad.block ≠ n9) ∧ (A3 = none → m.length = 0 ∧ c3 = 0)) := Lib.hid (by
                            have hxl := XB.out.lt
                            have hnil := (o3.in_ (by show m.length * 16 ≤ _; omega)).nil
                            first
                            | exact ⟨lst_far (o3.q qa).lst (own_ne o3 (.inr hnw.out)) _ _, own_ne o3 (.inl (Nat.lt_of_lt_of_le hxl hcl)), hnil⟩
                            | exact ⟨lst_far o3.lst (own_ne o3 (.inl hlt2)) _ _, own_ne o3 (.inl (Nat.lt_of_lt_of_le hxl hcl)), hnil⟩)
                          go_wp2_with fail
                          go_meet
                          exact ⟨nb, A3, c3, rfl, rfl, rfl, hnb, BX.out.set2 _ _, HZ.out.set2 hnb _ _, HT9.out.1, HT9.out.2.1, HT9.out.2.2⟩
                      case' mzz80 => skip
                      exact AllReadyL.nil
                  case' mzz87 => skip
                  refine AllReadyL.consK (o := ?ozz88) ?hzz88 ?lzz88 (fun K hK => ?kzz88) ?mzz88
                  case hzz88 => simp only [List.getElem?_toArray, List.getElem?_cons_zero, List.getElem?_cons_succ]; rfl
                  case lzz88 => kernel_rfl
                  case kzz88 =>
                    have HZ := Lib.hid hHeld
                    obtain ⟨⟨st0, st1⟩, st2, st3⟩ := BX.out.get2
                    go_simp
                    clear st0 st1 st2 st3
                    refine hK.out _ _ ?Rzz88
                    case Rzz88 =>
                      clear hK K
                      try simp only [Act.put, List.setIfInBounds_toArray, List.set_cons_zero, List.set_cons_succ]
                      refine wpAnyH_ready (rs := [14, 17]) (by kernel_rfl) (by simp) ?_
                      refine AllReadyH.cons (o := ?ozz85) ?hzz85 (fun K hK => ?kzz85) ?mzz85
                      case hzz85 => simp only [List.getElem?_toArray, List.getElem?_cons_zero, List.getElem?_cons_succ]; rfl
                      case kzz85 =>
                        go_simp
                        refine hK.out _ _ ?Szz85 (fun hHeld => ?Rzz85)
                        case Szz85 =>
                          first | exact hHeld | trivial
                        case Rzz85 =>
                          clear hK K
                          try simp only [Act.put, List.setIfInBounds_toArray, List.set_cons_zero, List.set_cons_succ]
                          refine wpAnyH_take (i := 17) (oi := ?ozz81) (v := ?vzz81) ?hzz81 ?azz81 ?bzz81 ?czz81 ?qzz81 ?yzz81 ?szz81 ?rzz81
                          case hzz81 => simp only [List.getElem?_toArray, List.getElem?_cons_zero, List.getElem?_cons_succ]; rfl
                          case azz81 => kernel_rfl
                          case bzz81 => kernel_rfl
                          case czz81 => kernel_rfl
                          case yzz81 =>
                            refine Or.inl ⟨by rfl, ?_⟩
                            intro w hSw
                            skip
                            go_simp
                            try with_reducible rfl
                          case qzz81 => exact fun _ _ _ h => h
                          case szz81 => first | assumption | trivial
                          case' rzz81 => simp only [Act.put, List.setIfInBounds_toArray, List.set_cons_zero, List.set_cons_succ]
                          refine wpAnyH_take (i := 18) (oi := ?ozz82) (v := ?vzz82) ?hzz82 ?azz82 ?bzz82 ?czz82 ?qzz82 ?yzz82 ?szz82 ?rzz82
                          case hzz82 => simp only [List.getElem?_toArray, List.getElem?_cons_zero, List.getElem?_cons_succ]; rfl
                          case azz82 => kernel_rfl
                          case bzz82 => kernel_rfl
                          case czz82 => kernel_rfl
                          case yzz82 =>
                            refine Or.inl ⟨by rfl, ?_⟩
                            intro w hSw
                            skip
                            go_simp
                            try with_reducible rfl
                          case qzz82 => exact fun _ _ _ h => h
                          case szz82 => first | assumption | trivial
                          case' rzz82 => simp only [Act.put, List.setIfInBounds_toArray, List.set_cons_zero, List.set_cons_succ]
                          refine wpAnyH_done (by kernel_rfl) ?_ _
                          have HT9 : Hid (Lst textK ((v2.setCell ⟨nb, 0, none⟩ (.string Y)).setCell ⟨nb, 1, none⟩ (.bool yb)) A3 m.length m ∧ (∀ ad, A3 = some ad → ad.block ≠ n9) ∧ (A3 = none → m.length = 0 ∧ c3 = 0)) := Lib.hid (by
                            have hxl := XB.out.lt
                            have hnil := (o3.in_ (by show m.length * 16 ≤ _; omega)).nil
                            first
                            | exact ⟨lst_far (o3.q qa).lst (own_ne o3 (.inr hnw.out)) _ _, own_ne o3 (.inl (Nat.lt_of_lt_of_le hxl hcl)), hnil⟩
                            | exact ⟨lst_far o3.lst (own_ne o3 (.inl hlt2)) _ _, own_ne o3 (.inl (Nat.lt_of_lt_of_le hxl hcl)), hnil⟩)
                          go_wp2_with fail
                          go_meet
                          exact ⟨nb, A3, c3, rfl, rfl, rfl, hnb, BX.out.set2 _ _, HZ.out.set2 hnb _ _, HT9.out.1, HT9.out.2.1, HT9.out.2.2⟩
                      case' mzz85 => skip
                      refine AllReadyH.cons (o := ?ozz86) ?hzz86 (fun K hK => ?kzz86) ?mzz86
                      case hzz86 => simp only [List.getElem?_toArray, List.getElem?_cons_zero, List.getElem?_cons_succ]; rfl
                      case kzz86 =>
                        go_simp
                        refine hK.out _ _ ?Szz86 (fun hHeld => ?Rzz86)
                        case Szz86 =>
                          first | exact hHeld | trivial
                        case Rzz86 =>
                          clear hK K
                          try simp only [Act.put, List.setIfInBounds_toArray, List.set_cons_zero, List.set_cons_succ]
                          refine wpAnyH_take (i := 14) (oi := ?ozz83) (v := ?vzz83) ?hzz83 ?azz83 ?bzz83 ?czz83 ?qzz83 ?yzz83 ?szz83 ?rzz83
                          case hzz83 => simp only [List.getElem?_toArray, List.getElem?_cons_zero, List.getElem?_cons_succ]; rfl
                          case azz83 => kernel_rfl
                          case bzz83 => kernel_rfl
                          case czz83 => kernel_rfl
                          case yzz83 =>
                            refine Or.inl ⟨by rfl, ?_⟩
                            intro w hSw
                            skip
                            go_simp
                            try with_reducible rfl
                          case qzz83 => exact fun _ _ _ h => h
                          case szz83 => first | assumption | trivial
                          case' rzz83 => simp only [Act.put, List.setIfInBounds_toArray, List.set_cons_zero, List.set_cons_succ]
                          refine wpAnyH_take (i := 18) (oi := ?ozz84) (v := ?vzz84) ?hzz84 ?azz84 ?bzz84 ?czz84 ?qzz84 ?yzz84 ?szz84 ?rzz84
                          case hzz84 => simp only [List.getElem?_toArray, List.getElem?_cons_zero, List.getElem?_cons_succ]; rfl
                          case azz84 => kernel_rfl
                          case bzz84 => kernel_rfl
                          case czz84 => kernel_rfl
                          case yzz84 =>
                            refine Or.inl ⟨by rfl, ?_⟩
                            intro w hSw
                            skip
                            go_simp
                            try with_reducible rfl
                          case qzz84 => exact fun _ _ _ h => h
                          case szz84 => first | assumption | trivial
                          case' rzz84 => simp only [Act.put, List.setIfInBounds_toArray, List.set_cons_zero, List.set_cons_succ]
                          refine wpAnyH_done (by kernel_rfl) ?_ _
                          have HT9 : Hid (Lst textK ((v2.setCell ⟨nb, 0, none⟩ (.string Y)).setCell ⟨nb, 1, none⟩ (.bool yb)) A3 m.length m ∧ (∀ ad, A3 = some ad → ad.block ≠ n9) ∧ (A3 = none → m.length = 0 ∧ c3 = 0)) := Lib.hid (by
                            have hxl := XB.out.lt
                            have hnil := (o3.in_ (by show m.length * 16 ≤ _; omega)).nil
                            first
                            | exact ⟨lst_far (o3.q qa).lst (own_ne o3 (.inr hnw.out)) _ _, own_ne o3 (.inl (Nat.lt_of_lt_of_le hxl hcl)), hnil⟩
                            | exact ⟨lst_far o3.lst (own_ne o3 (.inl hlt2)) _ _, own_ne o3 (.inl (Nat.lt_of_lt_of_le hxl hcl)), hnil⟩)
                          go_wp2_with fail
                          go_meet
                          exact ⟨nb, A3, c3, rfl, rfl, rfl, hnb, BX.out.set2 _ _, HZ.out.set2 hnb _ _, HT9.out.1, HT9.out.2.1, HT9.out.2.2⟩
                      case' mzz86 => skip
                      exact AllReadyH.nil
                  case' mzz88 => skip
                  exact AllReadyL.nil
              case' mzz104 => skip
              refine AllReadyL.cons (o := ?ozz105) ?hzz105 (fun K hK => ?kzz105) ?mzz105
              case hzz105 => simp only [List.getElem?_toArray, List.getElem?_cons_zero, List.getElem?_cons_succ]; rfl
              case kzz105 =>
                go_simp
                refine hK.out _ _ ?Szz105 (fun hHeld => ?Rzz105)
                case Szz105 =>
                  first | exact hHeld | trivial
                case Rzz105 =>
                  clear hK K
                  try simp only [Act.put, List.setIfInBounds_toArray, List.set_cons_zero, List.set_cons_succ]
                  refine wpAnyL_ready (rs := [13, 16]) (by kernel_rfl) (by simp) ?_
                  refine AllReadyL.cons (o := ?ozz95) ?hzz95 (fun K hK => ?kzz95) ?mzz95
                  case hzz95 => simp only [List.getElem?_toArray, List.getElem?_cons_zero, List.getElem?_cons_succ]; rfl
                  case kzz95 =>
                    go_simp
                    refine hK.out _ _ ?Szz95 (fun hHeld => ?Rzz95)
                    case Szz95 =>
                      first | exact hHeld | trivial
                    case Rzz95 =>
                      clear hK K
                      try simp only [Act.put, List.setIfInBounds_toArray, List.set_cons_zero, List.set_cons_succ]
                      refine wpAnyL_ready (rs := [16]) (by kernel_rfl) (by simp) ?_
                      refine AllReadyL.consK (o := ?ozz91) ?hzz91 ?lzz91 (fun K hK => ?kzz91) ?mzz91
                      case hzz91 => simp only [List.getElem?_toArray, List.getElem?_cons_zero, List.getElem?_cons_succ]; rfl
                      case lzz91 => kernel_rfl
                      case kzz91 =>
                        have HZ := Lib.hid hHeld
                        obtain ⟨⟨st0, st1⟩, st2, st3⟩ := BX.out.get2
                        go_simp
                        clear st0 st1 st2 st3
                        refine hK.out _ _ ?Rzz91
                        case Rzz91 =>
                          clear hK K
                          try simp only [Act.put, List.setIfInBounds_toArray, List.set_cons_zero, List.set_cons_succ]
                          refine wpAnyH_take (i := 17) (oi := ?ozz89) (v := ?vzz89) ?hzz89 ?azz89 ?bzz89 ?czz89 ?qzz89 ?yzz89 ?szz89 ?rzz89
                          case hzz89 => simp only [List.getElem?_toArray, List.getElem?_cons_zero, List.getElem?_cons_succ]; rfl
                          case azz89 => kernel_rfl
                          case bzz89 => kernel_rfl
                          case czz89 => kernel_rfl
                          case yzz89 =>
                            refine Or.inl ⟨by rfl, ?_⟩
                            intro w hSw
                            skip
                            go_simp
                            try with_reducible rfl
                          case qzz89 => exact fun _ _ _ h => h
                          case szz89 => first | assumption | trivial
                          case' rzz89 => simp only [Act.put, List.setIfInBounds_toArray, List.set_cons_zero, List.set_cons_succ]
                          refine wpAnyH_take (i := 18) (oi := ?ozz90) (v := ?vzz90) ?hzz90 ?azz90 ?bzz90 ?czz90 ?qzz90 ?yzz90 ?szz90 ?rzz90
                          case hzz90 => simp only [List.getElem?_toArray, List.getElem?_cons_zero, List.getElem?_cons_succ]; rfl
                          case azz90 => kernel_rfl
                          case bzz90 => kernel_rfl
                          case czz90 => kernel_rfl
                          case yzz90 =>
                            refine Or.inl ⟨by rfl, ?_⟩
                            intro w hSw
                            skip
                            go_simp
                            try with_reducible rfl
                          case qzz90 => exact fun _ _ _ h => h
                          case szz90 => first | assumption | trivial
                          case' rzz90 => simp only [Act.put, List.setIfInBounds_toArray, List.set_cons_zero, List.set_cons_succ]
                          refine wpAnyH_done (by kernel_rfl) ?_ _
                          have HT9 : Hid (Lst textK ((v2.setCell ⟨nb, 0, none⟩ (.string Y)).setCell ⟨nb, 1, none⟩ (.bool yb)) A3 m.length m ∧ (∀ ad, A3 = some ad → ad.block ≠ n9) ∧ (A3 = none → m.length = 0 ∧ c3 = 0)) := Lib.hid (by
                            have hxl := XB.out.lt
                            have hnil := (o3.in_ (by show m.length * 16 ≤ _; omega)).nil
                            first
                            | exact ⟨lst_far (o3.q qa).lst (own_ne o3 (.inr hnw.out)) _ _, own_ne o3 (.inl (Nat.lt_of_lt_of_le hxl hcl)), hnil⟩
                            | exact ⟨lst_far o3.lst (own_ne o3 (.inl hlt2)) _ _, own_ne o3 (.inl (Nat.lt_of_lt_of_le hxl hcl)), hnil⟩)
                          go_wp2_with fail
                          go_meet
                          exact ⟨nb, A3, c3, rfl, rfl, rfl, hnb, BX.out.set2 _ _, HZ.out.set2 hnb _ _, HT9.out.1, HT9.out.2.1, HT9.out.2.2⟩
                      case' mzz91 => skip
                      exact AllReadyL.nil
                  case' mzz95 => skip
                  refine AllReadyL.consK (o := ?ozz96) ?hzz96 ?lzz96 (fun K hK => ?kzz96) ?mzz96
                  case hzz96 => simp only [List.getElem?_toArray, List.getElem?_cons_zero, List.getElem?_cons_succ]; rfl
                  case lzz96 => kernel_rfl
                  case kzz96 =>
                    have HZ := Lib.hid hHeld
                    obtain ⟨⟨st0, st1⟩, st2, st3⟩ := BX.out.get2
                    go_simp
                    clear st0 st1 st2 st3
                    refine hK.out _ _ ?Rzz96
                    case Rzz96 =>
                      clear hK K
                      try simp only [Act.put, List.setIfInBounds_toArray, List.set_cons_zero, List.set_cons_succ]
                      refine wpAnyH_take (i := 13) (oi := ?ozz92) (v := ?vzz92) ?hzz92 ?azz92 ?bzz92 ?czz92 ?qzz92 ?yzz92 ?szz92 ?rzz92
                      case hzz92 => simp only [List.getElem?_toArray, List.getElem?_cons_zero, List.getElem?_cons_succ]; rfl
                      case azz92 => kernel_rfl
                      case bzz92 => kernel_rfl
                      case czz92 => kernel_rfl
                      case yzz92 =>
                        refine Or.inl ⟨by rfl, ?_⟩
                        intro w hSw
                        skip
                        go_simp
                        try with_reducible rfl
                      case qzz92 => exact fun _ _ _ h => h
                      case szz92 => first | assumption | trivial
                      case' rzz92 => simp only [Act.put, List.setIfInBounds_toArray, List.set_cons_zero, List.set_cons_succ]
                      refine wpAnyH_take (i := 17) (oi := ?ozz93) (v := ?vzz93) ?hzz93 ?azz93 ?bzz93 ?czz93 ?qzz93 ?yzz93 ?szz93 ?rzz93
                      case hzz93 => simp only [List.getElem?_toArray, List.getElem?_cons_zero, List.getElem?_cons_succ]; rfl
                      case azz93 => kernel_rfl
                      case bzz93 => kernel_rfl
                      case czz93 => kernel_rfl
                      case yzz93 =>
                        refine Or.inl ⟨by rfl, ?_⟩
                        intro w hSw
                        skip
                        go_simp
                        try with_reducible rfl
                      case qzz93 => exact fun _ _ _ h => h
                      case szz93 => first | assumption | trivial
                      case' rzz93 => simp only [Act.put, List.setIfInBounds_toArray, List.set_cons_zero, List.set_cons_succ]
                      refine wpAnyH_take (i := 18) (oi := ?ozz94) (v := ?vzz94) ?hzz94 ?azz94 ?bzz94 ?czz94 ?qzz94 ?yzz94 ?szz94 ?rzz94
                      case hzz94 => simp only [List.getElem?_toArray, List.getElem?_cons_zero, List.getElem?_cons_succ]; rfl
                      case azz94 => kernel_rfl
                      case bzz94 => kernel_rfl
                      case czz94 => kernel_rfl
                      case yzz94 =>
                        refine Or.inl ⟨by rfl, ?_⟩
                        intro w hSw
                        skip
                        go_simp
                        try with_reducible rfl
                      case qzz94 => exact fun _ _ _ h => h
                      case szz94 => first | assumption | trivial
                      case' rzz94 => simp only [Act.put, List.setIfInBounds_toArray, List.set_cons_zero, List.set_cons_succ]
                      refine wpAnyH_done (by kernel_rfl) ?_ _
                      have HT9 : Hid (Lst textK ((v2.setCell ⟨nb, 0, none⟩ (.string Y)).setCell ⟨nb, 1, none⟩ (.bool yb)) A3 m.length m ∧ (∀ ad, A3 = some ad → ad.block ≠ n9) ∧ (A3 = none → m.length = 0 ∧ c3 = 0)) := Lib.hid (by
                        have hxl := XB.out.lt
                        have hnil := (o3.in_ (by show m.length * 16 ≤ _; omega)).nil
                        first
                        | exact ⟨lst_far (o3.q qa).lst (own_ne o3 (.inr hnw.out)) _ _, own_ne o3 (.inl (Nat.lt_of_lt_of_le hxl hcl)), hnil⟩
                        | exact ⟨lst_far o3.lst (own_ne o3 (.inl hlt2)) _ _, own_ne o3 (.inl (Nat.lt_of_lt_of_le hxl hcl)), hnil⟩)
                      go_wp2_with fail
                      go_meet
                      exact ⟨nb, A3, c3, rfl, rfl, rfl, hnb, BX.out.set2 _ _, HZ.out.set2 hnb _ _, HT9.out.1, HT9.out.2.1, HT9.out.2.2⟩
                  case' mzz96 => skip
                  exact AllReadyL.nil
              case' mzz105 => skip
              refine AllReadyL.consK (o := ?ozz106) ?hzz106 ?lzz106 (fun K hK => ?kzz106) ?mzz106
              case hzz106 => simp only [List.getElem?_toArray, List.getElem?_cons_zero, List.getElem?_cons_succ]; rfl
              case lzz106 => kernel_rfl
              case kzz106 =>
                have HZ := Lib.hid hHeld
                obtain ⟨⟨st0, st1⟩, st2, st3⟩ := BX.out.get2
                go_simp
                clear st0 st1 st2 st3
                refine hK.out _ _ ?Rzz106
                case Rzz106 =>
                  clear hK K
                  try simp only [Act.put, List.setIfInBounds_toArray, List.set_cons_zero, List.set_cons_succ]
                  refine wpAnyH_take (i := 13) (oi := ?ozz97) (v := ?vzz97) ?hzz97 ?azz97 ?bzz97 ?czz97 ?qzz97 ?yzz97 ?szz97 ?rzz97
                  case hzz97 => simp only [List.getElem?_toArray, List.getElem?_cons_zero, List.getElem?_cons_succ]; rfl
                  case azz97 => kernel_rfl
                  case bzz97 => kernel_rfl
                  case czz97 => kernel_rfl
                  case yzz97 =>
                    refine Or.inl ⟨by rfl, ?_⟩
                    intro w hSw
                    skip
                    go_simp
                    try with_reducible rfl
                  case qzz97 => exact fun _ _ _ h => h
                  case szz97 => first | assumption | trivial
                  case' rzz97 => simp only [Act.put, List.setIfInBounds_toArray, List.set_cons_zero, List.set_cons_succ]
                  refine wpAnyH_ready (rs := [14, 17]) (by kernel_rfl) (by simp) ?_
                  refine AllReadyH.cons (o := ?ozz102) ?hzz102 (fun K hK => ?kzz102) ?mzz102
                  case hzz102 => simp only [List.getElem?_toArray, List.getElem?_cons_zero, List.getElem?_cons_succ]; rfl
                  case kzz102 =>
                    go_simp
                    refine hK.out _ _ ?Szz102 (fun hHeld => ?Rzz102)
                    case Szz102 =>
                      first | exact hHeld | trivial
                    case Rzz102 =>
                      clear hK K
                      try simp only [Act.put, List.setIfInBounds_toArray, List.set_cons_zero, List.set_cons_succ]
                      refine wpAnyH_take (i := 17) (oi := ?ozz98) (v := ?vzz98) ?hzz98 ?azz98 ?bzz98 ?czz98 ?qzz98 ?yzz98 ?szz98 ?rzz98
                      case hzz98 => simp only [List.getElem?_toArray, List.getElem?_cons_zero, List.getElem?_cons_succ]; rfl
                      case azz98 => kernel_rfl
                      case bzz98 => kernel_rfl
                      case czz98 => kernel_rfl
                      case yzz98 =>
                        refine Or.inl ⟨by rfl, ?_⟩
                        intro w hSw
                        skip
                        go_simp
                        try with_reducible rfl
                      case qzz98 => exact fun _ _ _ h => h
                      case szz98 => first | assumption | trivial
                      case' rzz98 => simp only [Act.put, List.setIfInBounds_toArray, List.set_cons_zero, List.set_cons_succ]
                      refine wpAnyH_take (i := 18) (oi := ?ozz99) (v := ?vzz99) ?hzz99 ?azz99 ?bzz99 ?czz99 ?qzz99 ?yzz99 ?szz99 ?rzz99
                      case hzz99 => simp only [List.getElem?_toArray, List.getElem?_cons_zero, List.getElem?_cons_succ]; rfl
                      case azz99 => kernel_rfl
                      case bzz99 => kernel_rfl
                      case czz99 => kernel_rfl
                      case yzz99 =>
                        refine Or.inl ⟨by rfl, ?_⟩
                        intro w hSw
                        skip
                        go_simp
                        try with_reducible rfl
                      case qzz99 => exact fun _ _ _ h => h
                      case szz99 => first | assumption | trivial
                      case' rzz99 => simp only [Act.put, List.setIfInBounds_toArray, List.set_cons_zero, List.set_cons_succ]
                      refine wpAnyH_done (by kernel_rfl) ?_ _
                      have HT9 : Hid (Lst textK ((v2.setCell ⟨nb, 0, none⟩ (.string Y)).setCell ⟨nb, 1, none⟩ (.bool yb)) A3 m.length m ∧ (∀ ad, A3 = some ad → ad.block ≠ n9) ∧ (A3 = none → m.length = 0 ∧ c3 = 0)) := Lib.hid (by
                        have hxl := XB.out.lt
                        have hnil := (o3.in_ (by show m.length * 16 ≤ _; omega)).nil
                        first
                        | exact ⟨lst_far (o3.q qa).lst (own_ne o3 (.inr hnw.out)) _ _, own_ne o3 (.inl (Nat.lt_of_lt_of_le hxl hcl)), hnil⟩
                        | exact ⟨lst_far o3.lst (own_ne o3 (.inl hlt2)) _ _, own_ne o3 (.inl (Nat.lt_of_lt_of_le hxl hcl)), hnil⟩)
                      go_wp2_with fail
                      go_meet
                      exact ⟨nb, A3, c3, rfl, rfl, rfl, hnb, BX.out.set2 _ _, HZ.out.set2 hnb _ _, HT9.out.1, HT9.out.2.1, HT9.out.2.2⟩
                  case' mzz102 => skip
                  refine AllReadyH.cons (o := ?ozz103) ?hzz103 (fun K hK => ?kzz103) ?mzz103
                  case hzz103 => simp only [List.getElem?_toArray, List.getElem?_cons_zero, List.getElem?_cons_succ]; rfl
                  case kzz103 =>
                    go_simp
                    refine hK.out _ _ ?Szz103 (fun hHeld => ?Rzz103)
                    case Szz103 =>
                      first | exact hHeld | trivial
                    case Rzz103 =>
                      clear hK K
                      try simp only [Act.put, List.setIfInBounds_toArray, List.set_cons_zero, List.set_cons_succ]
                      refine wpAnyH_take (i := 14) (oi := ?ozz100) (v := ?vzz100) ?hzz100 ?azz100 ?bzz100 ?czz100 ?qzz100 ?yzz100 ?szz100 ?rzz100
                      case hzz100 => simp only [List.getElem?_toArray, List.getElem?_cons_zero, List.getElem?_cons_succ]; rfl
                      case azz100 => kernel_rfl
                      case bzz100 => kernel_rfl
                      case czz100 => kernel_rfl
                      case yzz100 =>
                        refine Or.inl ⟨by rfl, ?_⟩
                        intro w hSw
                        skip
                        go_simp
                        try with_reducible rfl
                      case qzz100 => exact fun _ _ _ h => h
                      case szz100 => first | assumption | trivial
                      case' rzz100 => simp only [Act.put, List.setIfInBounds_toArray, List.set_cons_zero, List.set_cons_succ]
                      refine wpAnyH_take (i := 18) (oi := ?ozz101) (v := ?vzz101) ?hzz101 ?azz101 ?bzz101 ?czz101 ?qzz101 ?yzz101 ?szz101 ?rzz101
                      case hzz101 => simp only [List.getElem?_toArray, List.getElem?_cons_zero, List.getElem?_cons_succ]; rfl
                      case azz101 => kernel_rfl
                      case bzz101 => kernel_rfl
                      case czz101 => kernel_rfl
                      case yzz101 =>
                        refine Or.inl ⟨by rfl, ?_⟩
                        intro w hSw
                        skip
                        go_simp
                        try with_reducible rfl
                      case qzz101 => exact fun _ _ _ h => h
                      case szz101 => first | assumption | trivial
                      case' rzz101 => simp only [Act.put, List.setIfInBounds_toArray, List.set_cons_zero, List.set_cons_succ]
                      refine wpAnyH_done (by kernel_rfl) ?_ _
                      have HT9 : Hid (Lst textK ((v2.setCell ⟨nb, 0, none⟩ (.string Y)).setCell ⟨nb, 1, none⟩ (.bool yb)) A3 m.length m ∧ (∀ ad, A3 = some ad → ad.block ≠ n9) ∧ (A3 = none → m.length = 0 ∧ c3 = 0)) := Lib.hid (by
                        have hxl := XB.out.lt
                        have hnil := (o3.in_ (by show m.length * 16 ≤ _; omega)).nil
                        first
                        | exact ⟨lst_far (o3.q qa).lst (own_ne o3 (.inr hnw.out)) _ _, own_ne o3 (.inl (Nat.lt_of_lt_of_le hxl hcl)), hnil⟩
                        | exact ⟨lst_far o3.lst (own_ne o3 (.inl hlt2)) _ _, own_ne o3 (.inl (Nat.lt_of_lt_of_le hxl hcl)), hnil⟩)
                      go_wp2_with fail
                      go_meet
                      exact ⟨nb, A3, c3, rfl, rfl, rfl, hnb, BX.out.set2 _ _, HZ.out.set2 hnb _ _, HT9.out.1, HT9.out.2.1, HT9.out.2.2⟩
                  case' mzz103 => skip
                  exact AllReadyH.nil
              case' mzz106 => skip
              exact AllReadyL.nil
          case' mzz107 => skip
          exact AllReadyL.nil
      case' mzz109 => skip
      exact AllReadyL.nil
    case rest =>
      obtain ⟨nb, A3, c3, rfl, rfl, rfl, hnb, z1, z4, ht1, ht2, ht3⟩ := hcut
      clear e0 e1 e2 e3
      have Z1 := Lib.hid z1
      have Z2 := Lib.hid (XB.out.q z4)
      have Z4 := Lib.hid z4
      have HT9 := Lib.hid (And.intro ht1 (And.intro ht2 ht3))
      clear z1 z4 ht1 ht2 ht3
      obtain ⟨⟨a0, a1⟩, a2, a3⟩ := Z1.out.get2
      obtain ⟨⟨b0, b1⟩, b2, b3⟩ := Z2.out.get2
      have OL := Lib.hid ((HO2.out.q Z4.out).set2 (b := n9) (Nat.lt_succ_self _) (.string Y) (.bool yb))
      have XB10 := Lib.hid (Z2.out.set2 (.string Y) (.bool yb))
      have BL10 := Lib.hid (((HBL.out.trans (Z4.out.below.mono (Nat.le_of_lt XB.out.lt))).setCell (p := ⟨n9, 0, none⟩) (Nat.le_refl _) (.string Y)).setCell (p := ⟨n9, 1, none⟩) (Nat.le_refl _) (.bool yb))
      have HT10 := Lib.hid (And.intro (lst_far HT9.out.1 HT9.out.2.1 (.string Y) (.bool yb)) HT9.out.2.2)
      go_upto_region 12 with (fail)
      generalize ((wc.setCell ⟨n9, 0, none⟩ (.string Y)).setCell ⟨n9, 1, none⟩ (.bool yb)) = W10 at OL XB10 BL10 HT10 ⊢
      have hsz : n9 + 1 ≤ W10.heap.size := by have := BL10.out.size; omega
      clear a0 a1 a2 a3 b0 b1 b2 b3 x0
      go_wp2_with (at_builtin
                   refine wpl_appKG textK rfl (.tmp 71) (.tmp 72) 30 rfl rfl (n9 + 1) A2 l0.length c2 l0 rfl OL.out A3 m.length c3 m rfl HT10.out.1 HT10.out.2 hll hsz ?_
                   intro A5 c5 w5 o5 g5 t5
                   have L5 := Lib.hid (And.intro o5 (grown_below OL.out g5 hsz))
                   clear o5 g5 t5
                   have x5 := box_ (B3.out.1.below.trans ((BL10.out.trans (L5.out.2.mono (Nat.le_succ n9))).mono hw39)) X00.out)
      go_roundw
      case rel =>
        refine ⟨k + 1, g, A5, c5, by omega, by omega, by go_num, by first | rfl | rw [hwr] | go_num, hfd, by rw [HNX.out.2], by rw [HNX.out.2, HNX.out.1]; exact L5.out.1, ?_, BL10.out.trans (L5.out.2.mono (Nat.le_succ n9))⟩
        rw [HY1.out]
        show Bx w5 n9 [.string (tx yr), .bool yb]
        rw [HYR.out]
        exact XB10.out.below L5.out.2 (Nat.lt_succ_self _)
      case measure => simp [intOf]; omega

theorem opened (W : World) (args : Array Value) (hn : args.size = 2) (h : ∀ (j : Nat) t v, Try.f4.params[j]? = some t → args[j]? = some v → RdV W t v ∧ (true = true → RdU W t v.cells.toList)) :
    Calls Try.prog 4 args W fun e W' => e = .returned (.bool true) ∧ Q W W' := by
  obtain ⟨v0, v1, rfl⟩ := args2 hn
  rw [Try.params4] at h
  obtain ⟨s, e0, s0⟩ := (h 0 9 v0 rfl rfl).1.string Try.underlying9
  obtain ⟨A1, n1, c1, e1, r1⟩ := (h 1 39 v1 rfl rfl).1.slice Try.underlying39
  obtain ⟨B1, m1, d1, cuts, f1, hd1, hb1, hp1⟩ := open_nums r1
  simp only [List.cons.injEq, Value.slice.injEq, and_true] at f1
  obtain ⟨rfl, rfl, rfl⟩ := f1
  subst e0 e1
  have u0 := RdU.string (w := W) (t := 9) (s := s) (by exact ((h 0 9 _ rfl rfl).2 rfl)) Try.underlying9
  have u1 := small_list hd1 (fun a ha => RdU.cap (w := W) (t := 39) (a := a) (len := n1) (cap := c1) (by subst ha; exact ((h 1 39 _ rfl rfl).2 rfl)) Try.underlying39)
  exact walk s A1 n1 c1 cuts W s0 hd1 hb1 hp1 u0 u1

set_option maxRecDepth 100000 in
theorem lifted (os : Os) (started : os.Started) (H : Type) (enc : TypeId × Value → H) (F : Stop.Interp) :
    ReturnsInHanded {} Try.checked os 4 .any ((Rows.OpenSpec.upto Rows.framePiecesSpec).pre6 enc Try.prog Try.f4 Rows.framePiecesUptoRow.domain false) (((Rows.OpenSpec.upto Rows.framePiecesSpec).at F).post enc Try.prog Try.f4 false true false false) :=
  framedU (s := Rows.framePiecesSpec) 2 Try.func4 (by rw [Try.params4]; rfl) rfl (by kernel_rfl) (by kernel_rfl) (by kernel_rfl)
    (fun H ds h => by match ds, h with | [d0, d1], _ => exact ⟨rfl, rfl, rfl⟩)
    opened os started H enc F
    (OpenSpec.witness (enc := enc) (C := Try.checked) (s := Rows.OpenSpec.upto Rows.framePiecesSpec) (k := Rows.uptoSmall) rfl false ⟨#[], #[.string ⟨#[]⟩, .slice none 0 0], []⟩ 8 (by kernel_rfl) (by kernel_rfl) (by kernel_rfl)
      (x := ([.lit (.string []), .nil], [], [])) (by kernel_rfl) (by kernel_rfl) (by kernel_rfl))

theorem proved : Rows.FramePiecesUptoSaid :=
  OpenClaim.holds_of_cond 4 Try.f4 rfl rfl rfl rfl rfl rfl rfl ⟨rfl, rfl, rfl, rfl, rfl⟩ rfl rfl rfl rfl rfl (by kernel_rfl) Try.func4 (by kernel_rfl)
    (of_decide_eq_true (by kernel_rfl)) (by unfold Func.isWrapper; first | (rw [if_pos (by decide +kernel)]; kernel_rfl) | (rw [if_neg (by decide +kernel)]; exact ⟨rfl, rfl⟩))
    (fun os started H enc _ F => lifted os started H enc F)
end Go.Proofs.Ythcdcjidoacalaa.framePiecesUpto
